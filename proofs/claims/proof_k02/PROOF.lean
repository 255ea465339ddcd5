import PyProof.Rows.All
import Wide.All
import OpenK.AllK
import Wide.FinOn
import HandS.ForMost
import HandS.ForExc
import HandS.ExcInit
import HandS.ExcValue
import HandS.Walk
import HandS.Wide
import HandS.Deep
import HandS.TupAny
import HandS.IsInst
import HandS.ExcIs
import HandS.ExcField
import KE.KExcSuper
import HandS.Defaults
import HandS.DictComp
import HandS.Dict
import HandS.Iter
import HandS.EndBits
import KE.SortData
import HandS.FStr
import HandS.Text
import HandS.Small
import HandS.Zip
import HandS.Sort
import HandS.Style
import KE.LtData
import KE.LtSeq
import HandS.SlotsOwn
import HandS.OwnEq
import HandS.MakeKw
import HandS.MakeKwOnly
import HandS.Gcd
import HandS.RaiseMore
import KE.KFmtOwn
import KE.KCallOwn
import KE.GoesMore
import PyProof.EnumMake
import HandS.Conv
import HandS.Star
import KE.KRevSl
import HandS.CallSlots
import HandS.StrMore
import HandS.Comp
import HandS.FStrTup
import PySem.Challenge.RW_lotgivers_k02_circles_asked
set_option Elab.async false
set_option linter.all false
set_option maxRecDepth 100000
set_option maxHeartbeats 4000000

namespace Lg
open PySem L2

/-- data: by value, or (loc) an object of the store that may change -/
inductive D where
  | non | bl (b : Bool) | int (i : Int) | str (s : PySem.Str) | tup (ds : List D) | lst (ds : List D) | scr (ns : List Int) | loc (n : Nat)
  | emp (fr : Bool)
  | tupX (ds : List D)

inductive Ob where
  | lst (ds : List D) | dK (kvs : List (Key × D)) | dT (kvs : List (List Key × D)) | ins (c : Nat) (fs : List (PySem.Str × D))
  | exc (c : Nat) (d : Option Nat) | xd (fs : List (PySem.Str × D)) | ex0 (c : Nat) | cxc (c : Nat) (fs : Option (List (PySem.Str × D)))
abbrev Store := List Ob

/-- what the text's classes are: the place of each -/
structure G where
  K : PySem.W.Frag
  cls : Nat → Addr
  hid : List Addr := []
/-- the same, other places hidden: nothing that is known speaks of them -/
def G.hide (g : G) (l : List Addr) : G := { g with hid := l }
def Out (g : G) (ρ : List Addr) (a : Addr) : Prop := a ∉ ρ ∧ a ∉ g.hid

mutual
inductive RD (g : G) (ρ : List Addr) (H : Hp) : V → D → Prop
  | non : RD g ρ H .non .non
  | bl (b : Bool) : RD g ρ H (.bl b) (.bl b)
  | int (i : Int) : RD g ρ H (.int i) (.int i)
  | str (s : PySem.Str) : RD g ρ H (.str s) (.str s)
  | tup {a : Addr} {vs : List V} {ds : List D} (h : H a = some (.tup vs)) (n : Out g ρ a) (r : RDs g ρ H vs ds) : RD g ρ H (.ref a) (.tup ds)
  | lst {a : Addr} {vs : List V} {ds : List D} (h : H a = some (.lst vs)) (n : Out g ρ a) (r : RDs g ρ H vs ds) : RD g ρ H (.ref a) (.lst ds)
  | scr {a : Addr} {ns : List Int} (n : (∃ o, H a = some (.frz o (.lst (ns.map V.int))) ∧ Out g ρ a) ∨ ∀ H', SqL g.K H' a (ns.map V.int)) : RD g ρ H (.ref a) (.scr ns)
  | loc {n : Nat} {a : Addr} (h : ρ[n]? = some a) : RD g ρ H (.ref a) (.loc n)
  | empF {a : Addr} {o : Obj} (h : H a = some (.frz o (.dK []))) (n : Out g ρ a) : RD g ρ H (.ref a) (.emp true)
  | empU {a : Addr} (h : H a = some (.dK [])) (n : Out g ρ a) : RD g ρ H (.ref a) (.emp false)
  | tupX {a : Addr} {o : Obj} {vs : List V} {ds : List D} (h : H a = some (.frz o (.tup vs))) (hd : o.dict = none) (n : Out g ρ a) (r : RDs g ρ H vs ds) : RD g ρ H (.ref a) (.tupX ds)
inductive RDs (g : G) (ρ : List Addr) (H : Hp) : List V → List D → Prop
  | nil : RDs g ρ H [] []
  | cons {v : V} {d : D} {vs : List V} {ds : List D} (h : RD g ρ H v d) (t : RDs g ρ H vs ds) : RDs g ρ H (v :: vs) (d :: ds)
end

def RKV {κ : Type} (g : G) (ρ : List Addr) (H : Hp) : List (κ × V) → List (κ × D) → Prop := Paired fun p q => p.1 = q.1 ∧ RD g ρ H p.2 q.2

/-- an exception that was raised and caught -/
def Cxo (a C : Addr) (d : Option Addr) : HO := .ext fun h => ∃ (oe : Obj) (vs : Array Value), h.get? a = some oe ∧ Zc (.ref C) d oe ∧ oe.data = .fields vs
def RO (g : G) (ρ : List Addr) (H : Hp) (a : Addr) : Ob → Prop
  | .lst ds => ∃ vs, H a = some (.lst vs) ∧ RDs g ρ H vs ds
  | .dK kvs => ∃ kv, H a = some (.dK kv) ∧ RKV g ρ H kv kvs
  | .dT kvs => ∃ kv, H a = some (.dT kv) ∧ RKV g ρ H kv kvs
  | .ins c fs => ∃ dx fv, H a = some (.ins (g.cls c) dx fv) ∧ RKV g ρ H fv fs
  | .exc c none => H a = some (exo a (g.cls c) none)
  | .exc c (some n) => ∃ dx, ρ[n]? = some dx ∧ H a = some (exo a (g.cls c) (some dx))
  | .xd fs => ∃ fv, H a = some (exd a fv) ∧ RKV g ρ H fv fs
  | .ex0 c => H a = some (ExO (.ref (g.cls c)) a)
  | .cxc c none => H a = some (Cxo a (g.cls c) none)
  | .cxc c (some fs) => ∃ dx fv, Out g ρ dx ∧ H a = some (Cxo a (g.cls c) (some dx)) ∧ H dx = some (.xd fv) ∧ RKV g ρ H fv fs

/-- no tuple -/
def NoT (o : HO) : Prop := ∀ vs, o ≠ .tup vs
structure RS (g : G) (ρ : List Addr) (S : Store) (H : Hp) : Prop where
  len : ρ.length = S.length
  nd : ρ.Nodup
  ob : ∀ (n : Nat) (a : Addr) (o : Ob), ρ[n]? = some a → S[n]? = some o → RO g ρ H a o
  hd : ∀ a, a ∈ g.hid → (∃ o, H a = some o ∧ NoT o) ∧ a ∉ ρ

/-- what is known goes on: all that is no object of the store stays -/
structure Ex (ρ : List Addr) (H : Hp) (ρ' : List Addr) (H' : Hp) : Prop where
  new : ∃ l, ρ' = ρ ++ l ∧ ∀ a ∈ l, H a = none ∧ a ∉ ρ
  keep : ∀ a o, a ∉ ρ → H a = some o → H' a = some o

theorem Ex.refl {ρ : List Addr} {H : Hp} : Ex ρ H ρ H := ⟨⟨[], by simp, by simp⟩, fun _ _ _ h => h⟩
theorem Ex.out {ρ ρ' : List Addr} {H H' : Hp} (e : Ex ρ H ρ' H') {a : Addr} {o : HO} (h : H a = some o) (n : a ∉ ρ) : a ∉ ρ' := by
  obtain ⟨l, rfl, hl⟩ := e.new
  intro m
  rcases List.mem_append.mp m with m | m
  · exact n m
  · rw [(hl a m).1] at h; cases h
theorem Ex.trans {ρ ρ1 ρ2 : List Addr} {H H1 H2 : Hp} (a : Ex ρ H ρ1 H1) (b : Ex ρ1 H1 ρ2 H2) : Ex ρ H ρ2 H2 := by
  obtain ⟨l, rfl, hl⟩ := a.new
  obtain ⟨m, rfl, hm⟩ := b.new
  refine ⟨⟨l ++ m, by simp, fun x hx => ?_⟩, fun x o n h => b.keep x o (a.out h n) (a.keep x o n h)⟩
  rcases List.mem_append.mp hx with hx | hx
  · exact hl x hx
  · obtain ⟨h1, h2⟩ := hm x hx
    have h3 : x ∉ ρ := fun q => h2 (List.mem_append_left _ q)
    refine ⟨?_, h3⟩
    cases q : H x with
    | none => rfl
    | some o => rw [a.keep x o h3 q] at h1; cases h1
theorem Ex.at {ρ ρ' : List Addr} {H H' : Hp} (e : Ex ρ H ρ' H') {n : Nat} {a : Addr} (h : ρ[n]? = some a) : ρ'[n]? = some a := by
  obtain ⟨l, rfl, _⟩ := e.new
  rw [List.getElem?_append_left (List.getElem?_eq_some_iff.mp h).1]
  exact h
/-- a new object that is no object of the store -/
theorem Ex.new1 {ρ : List Addr} {H : Hp} {p : Addr} {o : HO} (h : H p = none) : Ex ρ H ρ (upd H p o) :=
  ⟨⟨[], by simp, by simp⟩, fun a u _ e => by rw [upd_ne (ne_of_none e h)]; exact e⟩

section
variable {g : G} {ρ ρ' : List Addr} {H H' : Hp} {S : Store}
theorem RD.mono (e : Ex ρ H ρ' H') {v : V} {d : D} (r : RD g ρ H v d) : RD g ρ' H' v d := by
  refine RD.rec (motive_1 := fun v d _ => RD g ρ' H' v d) (motive_2 := fun vs ds _ => RDs g ρ' H' vs ds) .non .bl .int .str ?_ ?_ ?_ ?_ ?_ ?_ ?_ .nil ?_ r
  · intro a vs ds h n _ ih; exact .tup (e.keep a _ n.1 h) ⟨e.out h n.1, n.2⟩ ih
  · intro a vs ds h n _ ih; exact .lst (e.keep a _ n.1 h) ⟨e.out h n.1, n.2⟩ ih
  · intro a ns n
    refine .scr ?_
    rcases n with ⟨o, h, n⟩ | n
    · exact .inl ⟨o, e.keep a _ n.1 h, e.out h n.1, n.2⟩
    · exact .inr n
  · intro n a h; exact .loc (e.at h)
  · intro a o h n; exact .empF (e.keep a _ n.1 h) ⟨e.out h n.1, n.2⟩
  · intro a h n; exact .empU (e.keep a _ n.1 h) ⟨e.out h n.1, n.2⟩
  · intro a o vs ds h hd n _ ih; exact .tupX (e.keep a _ n.1 h) hd ⟨e.out h n.1, n.2⟩ ih
  · intro v d vs ds _ _ h t; exact .cons h t
theorem RDs.mono (e : Ex ρ H ρ' H') : ∀ {vs : List V} {ds : List D}, RDs g ρ H vs ds → RDs g ρ' H' vs ds
  | _, _, .nil => .nil
  | _, _, .cons h t => .cons (h.mono e) (RDs.mono e t)
theorem RDs.length : ∀ {vs : List V} {ds : List D}, RDs g ρ H vs ds → vs.length = ds.length
  | _, _, .nil => rfl
  | _, _, .cons _ t => by simp [RDs.length t]
theorem RDs.get : ∀ {vs : List V} {ds : List D} {i : Nat} {d : D}, RDs g ρ H vs ds → ds[i]? = some d → ∃ v, vs[i]? = some v ∧ RD g ρ H v d
  | _, _, _, _, .nil, e => by simp at e
  | _, _, 0, _, .cons h _, e => by simp at e; subst e; exact ⟨_, rfl, h⟩
  | _, _, i + 1, d, .cons _ t, e => by
    obtain ⟨v, h1, h2⟩ := RDs.get (i := i) (d := d) t (by simpa using e)
    exact ⟨v, by simpa using h1, h2⟩
theorem RDs.append : ∀ {vs ws : List V} {ds es : List D}, RDs g ρ H vs ds → RDs g ρ H ws es → RDs g ρ H (vs ++ ws) (ds ++ es)
  | _, _, _, _, .nil, s => s
  | _, _, _, _, .cons h t, s => .cons h (RDs.append t s)
theorem RDs.take : ∀ {vs : List V} {ds : List D} (n : Nat), RDs g ρ H vs ds → RDs g ρ H (vs.take n) (ds.take n)
  | _, _, 0, _ => .nil
  | _, _, _ + 1, .nil => .nil
  | _, _, n + 1, .cons h t => .cons h (RDs.take n t)
theorem RDs.drop : ∀ {vs : List V} {ds : List D} (n : Nat), RDs g ρ H vs ds → RDs g ρ H (vs.drop n) (ds.drop n)
  | _, _, 0, r => r
  | _, _, _ + 1, .nil => .nil
  | _, _, n + 1, .cons _ t => RDs.drop n t
theorem RDs.set {v : V} {d : D} (r : RD g ρ H v d) : ∀ {vs : List V} {ds : List D} (i : Nat), RDs g ρ H vs ds → RDs g ρ H (vs.set i v) (ds.set i d)
  | _, _, _, .nil => .nil
  | _, _, 0, .cons _ t => .cons r t
  | _, _, i + 1, .cons q t => .cons q (RDs.set r i t)
theorem RDs.eraseIdx : ∀ {vs : List V} {ds : List D} (i : Nat), RDs g ρ H vs ds → RDs g ρ H (vs.eraseIdx i) (ds.eraseIdx i)
  | _, _, _, .nil => .nil
  | _, _, 0, .cons _ t => t
  | _, _, i + 1, .cons q t => .cons q (RDs.eraseIdx i t)
theorem RDs.snoc {vs : List V} {ds : List D} {v : V} {d : D} (h : RDs g ρ H vs ds) (r : RD g ρ H v d) : RDs g ρ H (vs ++ [v]) (ds ++ [d]) := h.append (.cons r .nil)
theorem RKV.mono {κ : Type} (e : Ex ρ H ρ' H') {xs : List (κ × V)} {ys : List (κ × D)} (r : RKV g ρ H xs ys) : RKV g ρ' H' xs ys := Paired.mapP r fun _ _ h => ⟨h.1, h.2.mono e⟩

/-- the same facts elsewhere -/
theorem RD.tr {g' : G} (hK : g.K = g'.K) (hρ : ∀ (n : Nat) a, ρ[n]? = some a → ρ'[n]? = some a) (k : ∀ a o, Out g ρ a → H a = some o → Out g' ρ' a ∧ H' a = some o) {v : V} {d : D} (r : RD g ρ H v d) : RD g' ρ' H' v d := by
  refine RD.rec (motive_1 := fun v d _ => RD g' ρ' H' v d) (motive_2 := fun vs ds _ => RDs g' ρ' H' vs ds) .non .bl .int .str ?_ ?_ ?_ ?_ ?_ ?_ ?_ .nil ?_ r
  · intro a vs ds h n _ ih; exact .tup (k a _ n h).2 (k a _ n h).1 ih
  · intro a vs ds h n _ ih; exact .lst (k a _ n h).2 (k a _ n h).1 ih
  · intro a ns n
    refine .scr ?_
    rcases n with ⟨o, h, n⟩ | n
    · exact .inl ⟨o, (k a _ n h).2, (k a _ n h).1⟩
    · exact .inr (hK ▸ n)
  · intro n a h; exact .loc (hρ n a h)
  · intro a o h n; exact .empF (k a _ n h).2 (k a _ n h).1
  · intro a h n; exact .empU (k a _ n h).2 (k a _ n h).1
  · intro a o vs ds h hd n _ ih; exact .tupX (k a _ n h).2 hd (k a _ n h).1 ih
  · intro v d vs ds _ _ h t; exact .cons h t
theorem RDs.tr {g' : G} (hK : g.K = g'.K) (hρ : ∀ (n : Nat) a, ρ[n]? = some a → ρ'[n]? = some a) (k : ∀ a o, Out g ρ a → H a = some o → Out g' ρ' a ∧ H' a = some o) : ∀ {vs : List V} {ds : List D}, RDs g ρ H vs ds → RDs g' ρ' H' vs ds
  | _, _, .nil => .nil
  | _, _, .cons h t => .cons (h.tr hK hρ k) (RDs.tr hK hρ k t)
theorem RKV.tr {κ : Type} {g' : G} (hK : g.K = g'.K) (hρ : ∀ (n : Nat) a, ρ[n]? = some a → ρ'[n]? = some a) (k : ∀ a o, Out g ρ a → H a = some o → Out g' ρ' a ∧ H' a = some o) {xs : List (κ × V)} {ys : List (κ × D)} (r : RKV g ρ H xs ys) : RKV g' ρ' H' xs ys := Paired.mapP r fun _ _ h => ⟨h.1, h.2.tr hK hρ k⟩
theorem RO.tr {g' : G} (hK : g.K = g'.K) (hc : g.cls = g'.cls) (hρ : ∀ (n : Nat) a, ρ[n]? = some a → ρ'[n]? = some a) (k : ∀ a o, Out g ρ a → H a = some o → Out g' ρ' a ∧ H' a = some o) {a : Addr} (ha : ∀ o, H a = some o → H' a = some o) {ob : Ob} (r : RO g ρ H a ob) : RO g' ρ' H' a ob := by
  cases ob with
  | lst ds => obtain ⟨vs, q1, q2⟩ := r; exact ⟨vs, ha _ q1, q2.tr hK hρ k⟩
  | dK ds => obtain ⟨vs, q1, q2⟩ := r; exact ⟨vs, ha _ q1, q2.tr hK hρ k⟩
  | dT ds => obtain ⟨vs, q1, q2⟩ := r; exact ⟨vs, ha _ q1, q2.tr hK hρ k⟩
  | ins c fs => obtain ⟨dx, fv, q1, q2⟩ := r; exact ⟨dx, fv, hc ▸ ha _ q1, q2.tr hK hρ k⟩
  | exc c d => cases d with
    | none => exact (hc ▸ ha _ r : H' a = some (exo a (g'.cls c) none))
    | some n => obtain ⟨dx, q1, q2⟩ := r; exact ⟨dx, hρ n dx q1, hc ▸ ha _ q2⟩
  | xd fs => obtain ⟨fv, q1, q2⟩ := r; exact ⟨fv, ha _ q1, q2.tr hK hρ k⟩
  | ex0 c => exact (hc ▸ ha _ r : H' a = some (ExO (.ref (g'.cls c)) a))
  | cxc c d => cases d with
    | none => exact (hc ▸ ha _ r : H' a = some (Cxo a (g'.cls c) none))
    | some fs =>
      obtain ⟨dx, fv, q0, q1, q2, q3⟩ := r
      exact ⟨dx, fv, (k _ _ q0 q2).1, hc ▸ ha _ q1, (k _ _ q0 q2).2, q3.tr hK hρ k⟩
theorem RS.there (rs : RS g ρ S H) {a : Addr} (h : a ∈ ρ) : ∃ o, H a = some o := by
  obtain ⟨n, hn, e⟩ := List.getElem_of_mem h
  have hS : n < S.length := by rw [← rs.len]; exact hn
  have r := rs.ob n a S[n] (by rw [List.getElem?_eq_getElem hn, e]) (List.getElem?_eq_getElem hS)
  cases hh : S[n] with
  | lst ds => rw [hh] at r; obtain ⟨vs, q1, _⟩ := r; exact ⟨_, q1⟩
  | dK ds => rw [hh] at r; obtain ⟨vs, q1, _⟩ := r; exact ⟨_, q1⟩
  | dT ds => rw [hh] at r; obtain ⟨vs, q1, _⟩ := r; exact ⟨_, q1⟩
  | ins c fs => rw [hh] at r; obtain ⟨dx, fv, q1, _⟩ := r; exact ⟨_, q1⟩
  | exc c d => cases d with
    | none => rw [hh] at r; exact ⟨_, r⟩
    | some n => rw [hh] at r; obtain ⟨dx, _, q⟩ := r; exact ⟨_, q⟩
  | xd fs => rw [hh] at r; obtain ⟨fv, q1, _⟩ := r; exact ⟨_, q1⟩
  | ex0 c => rw [hh] at r; exact ⟨_, r⟩
  | cxc c d => cases d with
    | none => rw [hh] at r; exact ⟨_, r⟩
    | some fs => rw [hh] at r; obtain ⟨dx, fv, _, q, _⟩ := r; exact ⟨_, q⟩
theorem RS.fresh (rs : RS g ρ S H) {a : Addr} (h : H a = none) : Out g ρ a := by
  refine ⟨fun m => ?_, fun m => ?_⟩
  · obtain ⟨o, e⟩ := rs.there m
    rw [h] at e; cases e
  · obtain ⟨⟨o, e, _⟩, _⟩ := rs.hd a m
    rw [h] at e; cases e
/-- a tuple is no object of the store, and not hidden -/
theorem RS.tup (rs : RS g ρ S H) {a : Addr} {vs : List V} (h : H a = some (.tup vs)) : Out g ρ a := by
  refine ⟨fun m => ?_, fun m => ?_⟩
  · obtain ⟨n, hn, e⟩ := List.getElem_of_mem m
    have hS : n < S.length := by rw [← rs.len]; exact hn
    have r := rs.ob n a S[n] (by rw [List.getElem?_eq_getElem hn, e]) (List.getElem?_eq_getElem hS)
    cases hh : S[n] with
    | exc c d => cases d with
      | none => rw [hh] at r; have r' := h.symm.trans (show H a = _ from r); cases r'
      | some n => rw [hh] at r; obtain ⟨dx, _, q⟩ := r; rw [h] at q; cases q
    | ex0 c => rw [hh] at r; have r' := h.symm.trans (show H a = _ from r); cases r'
    | cxc c d => cases d with
      | none => rw [hh] at r; have r' := h.symm.trans (show H a = _ from r); cases r'
      | some fs => rw [hh] at r; obtain ⟨dx, fv, _, q, _⟩ := r; have r' := h.symm.trans q; cases r'
    | lst ds => rw [hh] at r; obtain ⟨_, q, _⟩ := r; rw [h] at q; cases q
    | dK ds => rw [hh] at r; obtain ⟨_, q, _⟩ := r; rw [h] at q; cases q
    | dT ds => rw [hh] at r; obtain ⟨_, q, _⟩ := r; rw [h] at q; cases q
    | ins c fs => rw [hh] at r; obtain ⟨_, _, q, _⟩ := r; rw [h] at q; cases q
    | xd fs => rw [hh] at r; obtain ⟨_, q, _⟩ := r; rw [h] at q; cases q
  · obtain ⟨⟨o, e, nt⟩, _⟩ := rs.hd a m
    rw [h] at e
    cases e
    exact nt _ rfl
/-- a new place is hidden | it is let go, whatever stands there -/
theorem hide_k {l : List Addr} {p : Addr} {o : HO} (hp : H p = none) : ∀ a u, Out (g.hide l) ρ a → H a = some u → Out (g.hide (p :: l)) ρ a ∧ upd H p o a = some u := fun a u n h => by
  have ne := ne_of_none h hp
  exact ⟨⟨n.1, fun m => (List.mem_cons.mp m).elim ne n.2⟩, by rw [upd_ne ne]; exact h⟩
theorem show_k {l : List Addr} {p : Addr} (k : ∀ a, a ≠ p → H' a = H a) : ∀ a u, Out (g.hide (p :: l)) ρ a → H a = some u → Out (g.hide l) ρ a ∧ H' a = some u := fun a u n h =>
  ⟨⟨n.1, fun m => n.2 (List.mem_cons_of_mem _ m)⟩, by rw [k a fun e => n.2 (by rw [e]; exact List.mem_cons_self)]; exact h⟩
theorem RS.hide {l : List Addr} {p : Addr} {o : HO} (rs : RS (g.hide l) ρ S H) (hp : H p = none) (nt : NoT o := by intro _ h; cases h) : RS (g.hide (p :: l)) ρ S (upd H p o) := by
  refine ⟨rs.len, rs.nd, fun n a ob h1 h2 => RO.tr (g := g.hide l) (g' := g.hide (p :: l)) (H' := upd H p o) rfl rfl (fun _ _ h => h) (hide_k hp) (r := rs.ob n a ob h1 h2) (ha :=  fun u q => by rw [upd_ne (ne_of_none q hp)]; exact q), fun a m => ?_⟩
  rcases List.mem_cons.mp m with e | m
  · rw [e]; exact ⟨⟨o, upd_same, nt⟩, (rs.fresh hp).1⟩
  · obtain ⟨⟨u, h, hu⟩, n⟩ := rs.hd a m
    exact ⟨⟨u, by rw [upd_ne (ne_of_none h hp)]; exact h, hu⟩, n⟩
theorem RS.unhide {l : List Addr} {p : Addr} (hl : p ∉ l) (rs : RS (g.hide (p :: l)) ρ S H) (k : ∀ a, a ≠ p → H' a = H a) : RS (g.hide l) ρ S H' := by
  have np : p ∉ ρ := (rs.hd p List.mem_cons_self).2
  refine ⟨rs.len, rs.nd, fun n a ob h1 h2 => RO.tr (g := g.hide (p :: l)) (g' := g.hide l) (H' := H') rfl rfl (fun _ _ h => h) (show_k k) (r := rs.ob n a ob h1 h2) (ha := fun u q => ?_), fun a m => ?_⟩
  · rw [k a fun e => np (by rw [← e]; exact List.mem_of_getElem? h1)]; exact q
  · obtain ⟨⟨u, h, hu⟩, n⟩ := rs.hd a (List.mem_cons_of_mem _ m)
    exact ⟨⟨u, by rw [k a fun e => hl (by rw [← e]; exact m)]; exact h, hu⟩, n⟩
/-- a hidden place is written -/
theorem RS.hidden {l : List Addr} {p : Addr} {o : HO} (rs : RS (g.hide (p :: l)) ρ S H) (nt : NoT o := by intro _ h; cases h) : RS (g.hide (p :: l)) ρ S (upd H p o) := by
  have np : p ∉ ρ := (rs.hd p List.mem_cons_self).2
  have kk : ∀ a u, Out (g.hide (p :: l)) ρ a → H a = some u → Out (g.hide (p :: l)) ρ a ∧ upd H p o a = some u := fun a u n h => ⟨n, by rw [upd_ne fun e => n.2 (by rw [e]; exact List.mem_cons_self)]; exact h⟩
  refine ⟨rs.len, rs.nd, fun n a ob h1 h2 => (rs.ob n a ob h1 h2).tr (g' := g.hide (p :: l)) (H' := upd H p o) rfl rfl (fun _ _ h => h) kk fun u q => ?_, fun a m => ?_⟩
  · rw [upd_ne fun e => np (by rw [← e]; exact List.mem_of_getElem? h1)]; exact q
  · obtain ⟨⟨u, h, hu⟩, n⟩ := rs.hd a m
    by_cases e : a = p
    · rw [e]; exact ⟨⟨o, upd_same, nt⟩, np⟩
    · exact ⟨⟨u, by rw [upd_ne e]; exact h, hu⟩, n⟩
theorem hidden_k {l : List Addr} {p : Addr} {o : HO} : ∀ a u, Out (g.hide (p :: l)) ρ a → H a = some u → Out (g.hide (p :: l)) ρ a ∧ upd H p o a = some u := fun a u n h =>
  ⟨n, by rw [upd_ne fun e => n.2 (by rw [e]; exact List.mem_cons_self)]; exact h⟩
/-- what H didn't know may change -/
theorem Ex.mut {ρ' : List Addr} {p : Addr} {o : HO} (e : Ex ρ H ρ' H') (hp : H p = none) : Ex ρ H ρ' (upd H' p o) :=
  ⟨e.new, fun a u n h => by rw [upd_ne (ne_of_none h hp)]; exact e.keep a u n h⟩

/-- as Ex, but hidden places may change -/
structure ExH (g : G) (ρ : List Addr) (H : Hp) (ρ' : List Addr) (H' : Hp) : Prop where
  new : ∃ l, ρ' = ρ ++ l ∧ ∀ a ∈ l, H a = none ∧ a ∉ ρ
  keep : ∀ a o, Out g ρ a → H a = some o → H' a = some o
theorem Ex.toH {ρ' : List Addr} (e : Ex ρ H ρ' H') : ExH g ρ H ρ' H' := ⟨e.new, fun a o n h => e.keep a o n.1 h⟩
theorem ExH.out {ρ' : List Addr} (e : ExH g ρ H ρ' H') {a : Addr} {o : HO} (h : H a = some o) (n : Out g ρ a) : Out g ρ' a := by
  obtain ⟨l, rfl, hl⟩ := e.new
  refine ⟨fun m => ?_, n.2⟩
  rcases List.mem_append.mp m with m | m
  · exact n.1 m
  · rw [(hl a m).1] at h; cases h
theorem ExH.at {ρ' : List Addr} (e : ExH g ρ H ρ' H') {n : Nat} {a : Addr} (h : ρ[n]? = some a) : ρ'[n]? = some a := by
  obtain ⟨l, rfl, _⟩ := e.new
  rw [List.getElem?_append_left (List.getElem?_eq_some_iff.mp h).1]
  exact h
theorem RD.monoH {ρ' : List Addr} (e : ExH g ρ H ρ' H') {v : V} {d : D} (r : RD g ρ H v d) : RD g ρ' H' v d :=
  RD.tr rfl (fun _ _ h => e.at h) (fun a o n h => ⟨e.out h n, e.keep a o n h⟩) r
theorem out_hide {l l' : List Addr} {ρ : List Addr} {H : Hp} (hl : ∀ a, a ∈ l' → a ∈ l ∨ H a = none) {a : Addr} {o : HO} (h : H a = some o) (n : Out (g.hide l) ρ a) : Out (g.hide l') ρ a :=
  ⟨n.1, fun m => (hl a m).elim n.2 fun z => by rw [z] at h; cases h⟩

/-! ### slots -/
abbrev En := List (Option D)
def RE (g : G) (ρ : List Addr) (H : Hp) : L2.St → En → Prop := Paired fun v d => ∀ x, d = some x → ∃ y, v = some y ∧ RD g ρ H y x
theorem RE.mono (e : Ex ρ H ρ' H') {σ : L2.St} {env : En} (r : RE g ρ H σ env) : RE g ρ' H' σ env := Paired.mapP r fun _ _ h x q => by
  obtain ⟨y, h1, h2⟩ := h x q
  exact ⟨y, h1, h2.mono e⟩
theorem RE.get : ∀ {σ : L2.St} {env : En} {i : Nat} {d : D}, RE g ρ H σ env → env[i]? = some (some d) → ∃ v, σ[i]? = some (some v) ∧ RD g ρ H v d
  | _, _, _, _, .nil, e => by simp at e
  | _, _, 0, _, .cons h _, e => by
    simp at e
    obtain ⟨y, h1, h2⟩ := h _ e
    exact ⟨y, by simp [h1], h2⟩
  | _, _, i + 1, d, .cons _ t, e => by
    obtain ⟨v, h1, h2⟩ := RE.get (i := i) (d := d) t (by simpa using e)
    exact ⟨v, by simpa using h1, h2⟩
theorem RE.set {v : V} {d : D} (r : RD g ρ H v d) : ∀ {σ : L2.St} {env : En} (i : Nat), RE g ρ H σ env → RE g ρ H (σ.set i (some v)) (env.set i (some d))
  | _, _, _, .nil => .nil
  | _, _, 0, .cons _ t => .cons (fun x q => by cases q; exact ⟨v, rfl, r⟩) t
  | _, _, i + 1, .cons q t => .cons q (RE.set r i t)
theorem RE.tr {g' : G} (hK : g.K = g'.K) (hρ : ∀ (n : Nat) a, ρ[n]? = some a → ρ'[n]? = some a) (k : ∀ a o, Out g ρ a → H a = some o → Out g' ρ' a ∧ H' a = some o) {σ : L2.St} {env : En} (r : RE g ρ H σ env) : RE g' ρ' H' σ env := Paired.mapP r fun _ _ h x q => by
  obtain ⟨y, h1, h2⟩ := h x q
  exact ⟨y, h1, h2.tr hK hρ k⟩
/-- what was known ahead of a new place is known behind, the place hidden -/
theorem ahead_k {l : List Addr} {p : Addr} (hp : H p = none) (e : Ex ρ H ρ' H') : ∀ a u, Out (g.hide l) ρ a → H a = some u → Out (g.hide (p :: l)) ρ' a ∧ H' a = some u := fun a u n h =>
  ⟨⟨e.out h n.1, fun m => (List.mem_cons.mp m).elim (ne_of_none h hp) n.2⟩, e.keep a u n.1 h⟩
theorem RE.clear : ∀ {σ : L2.St} {env : En} (i : Nat), RE g ρ H σ env → RE g ρ H (σ.set i none) (env.set i none)
  | _, _, _, .nil => .nil
  | _, _, 0, .cons _ t => .cons (fun x q => by cases q) t
  | _, _, i + 1, .cons q t => .cons q (RE.clear i t)
def wipeE (env : En) : List Nat → En
  | [] => env
  | i :: r => (wipeE env r).set i none
theorem RE.wipe {σ : L2.St} {env : En} (re : RE g ρ H σ env) : ∀ vs : List Nat, RE g ρ H (L2.wipe σ vs) (wipeE env vs)
  | [] => re
  | i :: r => by
    unfold L2.wipe wipeE
    exact (RE.wipe re r).clear i
end

/-! ### answers -/
structure Exc where
  c : Nat
  fs : Option (List (PySem.Str × D))
inductive Res (α : Type) where
  | ok (a : α) (S : Store) | err (x : Exc) (S : Store) | stuck
inductive FRes where
  | next (env : En) (S : Store) | ret (d : D) (S : Store) | brk (env : En) (S : Store) | cont (env : En) (S : Store) | err (x : Exc) (S : Store) | stuck
abbrev EM := En → Store → Res D
abbrev BM := En → Store → Res Bool
abbrev AM := En → Store → Res (List D)
abbrev SM := En → Store → FRes

def RX (g : G) (ρ : List Addr) (H : Hp) (x : Exc) (c : Value) (od : Option Addr) : Prop :=
  c = .ref (g.cls x.c) ∧ match x.fs with
    | none => od = none
    | some fs => ∃ d fv, od = some d ∧ Out g ρ d ∧ H d = some (.xd fv) ∧ RKV g ρ H fv fs

section
variable (g : G) (E : XK) (ρ : List Addr) (H : Hp)
def PX (x : Exc) (S' : Store) : Prop := ∀ ρ' H' c od, Ex ρ H ρ' H' → RS g ρ' S' H' → RX g ρ' H' x c od → E c od H'
def PostE (Q : VK) : Res D → Prop
  | .ok d S' => ∀ ρ' H' v, Ex ρ H ρ' H' → RS g ρ' S' H' → RD g ρ' H' v d → Q v H'
  | .err x S' => PX g E ρ H x S'
  | .stuck => False
def PostT (Q : Bool → Hp → Prop) : Res Bool → Prop
  | .ok b S' => ∀ ρ' H', Ex ρ H ρ' H' → RS g ρ' S' H' → Q b H'
  | .err x S' => PX g E ρ H x S'
  | .stuck => False
def PostA (Q : List V → Hp → Prop) : Res (List D) → Prop
  | .ok ds S' => ∀ ρ' H' vs, Ex ρ H ρ' H' → RS g ρ' S' H' → RDs g ρ' H' vs ds → Q vs H'
  | .err x S' => PX g E ρ H x S'
  | .stuck => False
def PN (P : L2.St → Hp → Prop) (env' : En) (S' : Store) : Prop := ∀ ρ' H' σ', Ex ρ H ρ' H' → RS g ρ' S' H' → RE g ρ' H' σ' env' → P σ' H'
def PostS (D' : Ends) : FRes → Prop
  | .next env' S' => PN g ρ H D'.nx env' S'
  | .brk env' S' => PN g ρ H D'.bk env' S'
  | .cont env' S' => PN g ρ H D'.ct env' S'
  | .ret d S' => ∀ ρ' H' v, Ex ρ H ρ' H' → RS g ρ' S' H' → RD g ρ' H' v d → D'.rt v H'
  | .err x S' => PX g E ρ H x S'
  | .stuck => False
end
section
variable {g : G} {E : XK} {ρ ρ1 : List Addr} {H H1 : Hp}
theorem PX.ex {x : Exc} {S' : Store} (p : PX g E ρ H x S') (e : Ex ρ H ρ1 H1) : PX g E ρ1 H1 x S' := fun ρ' H' c od a b r => p ρ' H' c od (e.trans a) b r
theorem PostE.ex {Q : VK} {r : Res D} (p : PostE g E ρ H Q r) (e : Ex ρ H ρ1 H1) : PostE g E ρ1 H1 Q r := by
  cases r with
  | ok d S' => exact fun ρ' H' v a b c => p ρ' H' v (e.trans a) b c
  | err x S' => exact PX.ex p e
  | stuck => exact p
theorem PostT.ex {Q : Bool → Hp → Prop} {r : Res Bool} (p : PostT g E ρ H Q r) (e : Ex ρ H ρ1 H1) : PostT g E ρ1 H1 Q r := by
  cases r with
  | ok d S' => exact fun ρ' H' a b => p ρ' H' (e.trans a) b
  | err x S' => exact PX.ex p e
  | stuck => exact p
theorem PostA.ex {Q : List V → Hp → Prop} {r : Res (List D)} (p : PostA g E ρ H Q r) (e : Ex ρ H ρ1 H1) : PostA g E ρ1 H1 Q r := by
  cases r with
  | ok d S' => exact fun ρ' H' v a b c => p ρ' H' v (e.trans a) b c
  | err x S' => exact PX.ex p e
  | stuck => exact p
theorem PN.ex {P : L2.St → Hp → Prop} {env' : En} {S' : Store} (p : PN g ρ H P env' S') (e : Ex ρ H ρ1 H1) : PN g ρ1 H1 P env' S' := fun ρ' H' σ' a b c => p ρ' H' σ' (e.trans a) b c
theorem PostS.ex {D' : Ends} {r : FRes} (p : PostS g E ρ H D' r) (e : Ex ρ H ρ1 H1) : PostS g E ρ1 H1 D' r := by
  cases r with
  | next env' S' => exact PN.ex p e
  | brk env' S' => exact PN.ex p e
  | cont env' S' => exact PN.ex p e
  | ret d S' => exact fun ρ' H' v a b c => p ρ' H' v (e.trans a) b c
  | err x S' => exact PX.ex p e
  | stuck => exact p
end

/-! ### what goes as a plain function -/
section
variable (g : G) (E : XK)
def SimE (t : TE) (m : EM) : Prop := ∀ l σ H Q ρ S env, RE (g.hide l) ρ H σ env → RS (g.hide l) ρ S H → PostE (g.hide l) E ρ H Q (m env S) → t σ H Q
def SimT (t : TT) (m : BM) : Prop := ∀ l σ H Q ρ S env, RE (g.hide l) ρ H σ env → RS (g.hide l) ρ S H → PostT (g.hide l) E ρ H Q (m env S) → t σ H Q
def SimA (t : TA) (m : AM) : Prop := ∀ l σ H Q ρ S env, RE (g.hide l) ρ H σ env → RS (g.hide l) ρ S H → PostA (g.hide l) E ρ H Q (m env S) → t σ H Q
def SimS (t : TS) (m : SM) : Prop := ∀ l D' σ H ρ S env, RE (g.hide l) ρ H σ env → RS (g.hide l) ρ S H → PostS (g.hide l) E ρ H D' (m env S) → t D' σ H
def Res.bind {α β : Type} (r : Res α) (f : α → Store → Res β) : Res β := match r with
  | .ok a S => f a S
  | .err x S => .err x S
  | .stuck => .stuck
def Res.bindS {α : Type} (r : Res α) (f : α → Store → FRes) : FRes := match r with
  | .ok a S => f a S
  | .err x S => .err x S
  | .stuck => .stuck
end
section
variable {g : G} {E : XK}
/-- the shape of most proofs: an answer behind an answer -/
theorem SimE.bind {t : TE} {m : EM} (h : SimE g E t m) {l : List Addr} {σ : L2.St} {H : Hp} {Q Q' : VK} {ρ : List Addr} {S : Store} {env : En} {f : D → Store → Res D} (re : RE (g.hide l) ρ H σ env) (rs : RS (g.hide l) ρ S H) (p : PostE (g.hide l) E ρ H Q' ((m env S).bind f))
    (k : ∀ d S' ρ' H' v, Ex ρ H ρ' H' → RS (g.hide l) ρ' S' H' → RD (g.hide l) ρ' H' v d → RE (g.hide l) ρ' H' σ env → PostE (g.hide l) E ρ' H' Q' (f d S') → Q v H') : t σ H Q := by
  refine h l σ H Q ρ S env re rs ?_
  cases e : m env S with
  | ok d S' => rw [e] at p; exact fun ρ' H' v a b c => k d S' ρ' H' v a b c (re.mono a) (PostE.ex p a)
  | err x S' => rw [e] at p; exact p
  | stuck => rw [e] at p; exact p
theorem SimE.bindT {t : TE} {m : EM} (h : SimE g E t m) {l : List Addr} {σ : L2.St} {H : Hp} {Q : VK} {Q' : Bool → Hp → Prop} {ρ : List Addr} {S : Store} {env : En} {f : D → Store → Res Bool} (re : RE (g.hide l) ρ H σ env) (rs : RS (g.hide l) ρ S H) (p : PostT (g.hide l) E ρ H Q' ((m env S).bind f))
    (k : ∀ d S' ρ' H' v, Ex ρ H ρ' H' → RS (g.hide l) ρ' S' H' → RD (g.hide l) ρ' H' v d → RE (g.hide l) ρ' H' σ env → PostT (g.hide l) E ρ' H' Q' (f d S') → Q v H') : t σ H Q := by
  refine h l σ H Q ρ S env re rs ?_
  cases e : m env S with
  | ok d S' => rw [e] at p; exact fun ρ' H' v a b c => k d S' ρ' H' v a b c (re.mono a) (PostT.ex p a)
  | err x S' => rw [e] at p; exact p
  | stuck => rw [e] at p; exact p
theorem SimE.bindA {t : TE} {m : EM} (h : SimE g E t m) {l : List Addr} {σ : L2.St} {H : Hp} {Q : VK} {Q' : List V → Hp → Prop} {ρ : List Addr} {S : Store} {env : En} {f : D → Store → Res (List D)} (re : RE (g.hide l) ρ H σ env) (rs : RS (g.hide l) ρ S H) (p : PostA (g.hide l) E ρ H Q' ((m env S).bind f))
    (k : ∀ d S' ρ' H' v, Ex ρ H ρ' H' → RS (g.hide l) ρ' S' H' → RD (g.hide l) ρ' H' v d → RE (g.hide l) ρ' H' σ env → PostA (g.hide l) E ρ' H' Q' (f d S') → Q v H') : t σ H Q := by
  refine h l σ H Q ρ S env re rs ?_
  cases e : m env S with
  | ok d S' => rw [e] at p; exact fun ρ' H' v a b c => k d S' ρ' H' v a b c (re.mono a) (PostA.ex p a)
  | err x S' => rw [e] at p; exact p
  | stuck => rw [e] at p; exact p
theorem SimE.bindS {t : TE} {m : EM} (h : SimE g E t m) {l : List Addr} {σ : L2.St} {H : Hp} {Q : VK} {D' : Ends} {ρ : List Addr} {S : Store} {env : En} {f : D → Store → FRes} (re : RE (g.hide l) ρ H σ env) (rs : RS (g.hide l) ρ S H) (p : PostS (g.hide l) E ρ H D' ((m env S).bindS f))
    (k : ∀ d S' ρ' H' v, Ex ρ H ρ' H' → RS (g.hide l) ρ' S' H' → RD (g.hide l) ρ' H' v d → RE (g.hide l) ρ' H' σ env → PostS (g.hide l) E ρ' H' D' (f d S') → Q v H') : t σ H Q := by
  refine h l σ H Q ρ S env re rs ?_
  cases e : m env S with
  | ok d S' => rw [e] at p; exact fun ρ' H' v a b c => k d S' ρ' H' v a b c (re.mono a) (PostS.ex p a)
  | err x S' => rw [e] at p; exact p
  | stuck => rw [e] at p; exact p
theorem SimT.bind {t : TT} {m : BM} (h : SimT g E t m) {l : List Addr} {σ : L2.St} {H : Hp} {Q Q' : Bool → Hp → Prop} {ρ : List Addr} {S : Store} {env : En} {f : Bool → Store → Res Bool} (re : RE (g.hide l) ρ H σ env) (rs : RS (g.hide l) ρ S H) (p : PostT (g.hide l) E ρ H Q' ((m env S).bind f))
    (k : ∀ d S' ρ' H', Ex ρ H ρ' H' → RS (g.hide l) ρ' S' H' → RE (g.hide l) ρ' H' σ env → PostT (g.hide l) E ρ' H' Q' (f d S') → Q d H') : t σ H Q := by
  refine h l σ H Q ρ S env re rs ?_
  cases e : m env S with
  | ok d S' => rw [e] at p; exact fun ρ' H' a b => k d S' ρ' H' a b (re.mono a) (PostT.ex p a)
  | err x S' => rw [e] at p; exact p
  | stuck => rw [e] at p; exact p
theorem SimT.bindE {t : TT} {m : BM} (h : SimT g E t m) {l : List Addr} {σ : L2.St} {H : Hp} {Q : Bool → Hp → Prop} {Q' : VK} {ρ : List Addr} {S : Store} {env : En} {f : Bool → Store → Res D} (re : RE (g.hide l) ρ H σ env) (rs : RS (g.hide l) ρ S H) (p : PostE (g.hide l) E ρ H Q' ((m env S).bind f))
    (k : ∀ d S' ρ' H', Ex ρ H ρ' H' → RS (g.hide l) ρ' S' H' → RE (g.hide l) ρ' H' σ env → PostE (g.hide l) E ρ' H' Q' (f d S') → Q d H') : t σ H Q := by
  refine h l σ H Q ρ S env re rs ?_
  cases e : m env S with
  | ok d S' => rw [e] at p; exact fun ρ' H' a b => k d S' ρ' H' a b (re.mono a) (PostE.ex p a)
  | err x S' => rw [e] at p; exact p
  | stuck => rw [e] at p; exact p
theorem SimT.bindS {t : TT} {m : BM} (h : SimT g E t m) {l : List Addr} {σ : L2.St} {H : Hp} {Q : Bool → Hp → Prop} {D' : Ends} {ρ : List Addr} {S : Store} {env : En} {f : Bool → Store → FRes} (re : RE (g.hide l) ρ H σ env) (rs : RS (g.hide l) ρ S H) (p : PostS (g.hide l) E ρ H D' ((m env S).bindS f))
    (k : ∀ d S' ρ' H', Ex ρ H ρ' H' → RS (g.hide l) ρ' S' H' → RE (g.hide l) ρ' H' σ env → PostS (g.hide l) E ρ' H' D' (f d S') → Q d H') : t σ H Q := by
  refine h l σ H Q ρ S env re rs ?_
  cases e : m env S with
  | ok d S' => rw [e] at p; exact fun ρ' H' a b => k d S' ρ' H' a b (re.mono a) (PostS.ex p a)
  | err x S' => rw [e] at p; exact p
  | stuck => rw [e] at p; exact p
theorem SimA.bind {t : TA} {m : AM} (h : SimA g E t m) {l : List Addr} {σ : L2.St} {H : Hp} {Q : List V → Hp → Prop} {Q' : VK} {ρ : List Addr} {S : Store} {env : En} {f : List D → Store → Res D} (re : RE (g.hide l) ρ H σ env) (rs : RS (g.hide l) ρ S H) (p : PostE (g.hide l) E ρ H Q' ((m env S).bind f))
    (k : ∀ d S' ρ' H' v, Ex ρ H ρ' H' → RS (g.hide l) ρ' S' H' → RDs (g.hide l) ρ' H' v d → RE (g.hide l) ρ' H' σ env → PostE (g.hide l) E ρ' H' Q' (f d S') → Q v H') : t σ H Q := by
  refine h l σ H Q ρ S env re rs ?_
  cases e : m env S with
  | ok d S' => rw [e] at p; exact fun ρ' H' v a b c => k d S' ρ' H' v a b c (re.mono a) (PostE.ex p a)
  | err x S' => rw [e] at p; exact p
  | stuck => rw [e] at p; exact p
theorem SimA.bindA {t : TA} {m : AM} (h : SimA g E t m) {l : List Addr} {σ : L2.St} {H : Hp} {Q : List V → Hp → Prop} {Q' : List V → Hp → Prop} {ρ : List Addr} {S : Store} {env : En} {f : List D → Store → Res (List D)} (re : RE (g.hide l) ρ H σ env) (rs : RS (g.hide l) ρ S H) (p : PostA (g.hide l) E ρ H Q' ((m env S).bind f))
    (k : ∀ d S' ρ' H' v, Ex ρ H ρ' H' → RS (g.hide l) ρ' S' H' → RDs (g.hide l) ρ' H' v d → RE (g.hide l) ρ' H' σ env → PostA (g.hide l) E ρ' H' Q' (f d S') → Q v H') : t σ H Q := by
  refine h l σ H Q ρ S env re rs ?_
  cases e : m env S with
  | ok d S' => rw [e] at p; exact fun ρ' H' v a b c => k d S' ρ' H' v a b c (re.mono a) (PostA.ex p a)
  | err x S' => rw [e] at p; exact p
  | stuck => rw [e] at p; exact p
end
end Lg

namespace Lg
open PySem L2

/-! ### the plain functions -/
def mVar (i : Nat) : EM := fun env S => match env[i]? with
  | some (some d) => .ok d S
  | _ => .stuck
def mC (d : D) : EM := fun _ S => .ok d S
def mOp (f : D → D → Store → Res D) (a b : EM) : EM := fun env S => (a env S).bind fun x S1 => (b env S1).bind fun y S2 => f x y S2
def mUn (f : D → Store → Res D) (a : EM) : EM := fun env S => (a env S).bind f
def mNil : AM := fun _ S => .ok [] S
def mCons (a : EM) (b : AM) : AM := fun env S => (a env S).bind fun x S1 => (b env S1).bind fun y S2 => .ok (x :: y) S2
def mTup (a : AM) : EM := fun env S => (a env S).bind fun ds S1 => if ds.length ≤ sizeLine then .ok (.tup ds) S1 else .stuck
/-- a list that nobody changes | one that stands in the store -/
def mLst (a : AM) : EM := fun env S => (a env S).bind fun ds S1 => if ds.length ≤ sizeLine then .ok (.lst ds) S1 else .stuck
def mLstL (a : AM) : EM := fun env S => (a env S).bind fun ds S1 => if ds.length ≤ sizeLine then .ok (.loc S1.length) (S1 ++ [.lst ds]) else .stuck
def mCall (f : List D → Store → Res D) (a : AM) : EM := fun env S => (a env S).bind f
def mIf (c : BM) (a b : EM) : EM := fun env S => (c env S).bind fun k S1 => if k = true then a env S1 else b env S1
def bVal (a : EM) : BM := fun env S => (a env S).bind fun x S1 => match x with
  | .bl k => .ok k S1
  | _ => .stuck
def bAnd (a b : BM) : BM := fun env S => (a env S).bind fun k S1 => if k = true then b env S1 else .ok false S1
def bOr (a b : BM) : BM := fun env S => (a env S).bind fun k S1 => if k = true then .ok true S1 else b env S1
def bNot (a : BM) : BM := fun env S => (a env S).bind fun k S1 => .ok (!k) S1
def mAndV (a b : EM) : EM := fun env S => (a env S).bind fun x S1 => match x with
  | .bl k => if k = true then b env S1 else .ok (.bl false) S1
  | _ => .stuck
def mOrV (a b : EM) : EM := fun env S => (a env S).bind fun x S1 => match x with
  | .bl k => if k = true then .ok (.bl true) S1 else b env S1
  | _ => .stuck
def mNotV (a : EM) : EM := fun env S => (a env S).bind fun x S1 => match x with
  | .bl k => .ok (.bl (!k)) S1
  | _ => .stuck
/-- statements -/
def sNext : SM := fun env S => .next env S
def FRes.seq (r : FRes) (f : En → Store → FRes) : FRes := match r with
  | .next env S => f env S
  | r => r
def sSeq (a b : SM) : SM := fun env S => (a env S).seq b
def sRet (a : EM) : SM := fun env S => (a env S).bindS fun d S1 => .ret d S1
def sRetN : SM := fun _ S => .ret .non S
def sDrop (a : EM) : SM := fun env S => (a env S).bindS fun _ S1 => .next env S1
def sIf (c : BM) (a b : SM) : SM := fun env S => (c env S).bindS fun k S1 => if k = true then a env S1 else b env S1
def sNever : SM := fun _ _ => .stuck
def sBrk : SM := fun env S => .brk env S
def sCont : SM := fun env S => .cont env S
/-- targets: what is assigned, the slots, the store -/
abbrev GM := D → En → Store → Res En
def gmName (i : Nat) : GM := fun d env S => .ok (env.set i (some d)) S
def gmNil : List D → En → Store → Res En := fun ds env S => match ds with
  | [] => .ok env S
  | _ => .stuck
def gmCons (t : GM) (u : List D → En → Store → Res En) : List D → En → Store → Res En := fun ds env S => match ds with
  | d :: r => (t d env S).bind fun env' S' => u r env' S'
  | [] => .stuck
def gmTup (n : Nat) (t : List D → En → Store → Res En) : GM := fun d env S => match d with
  | .tup ds => if ds.length = n then t ds env S else .stuck
  | .tupX ds => if ds.length = n then t ds env S else .stuck
  | _ => .stuck
def gmSub (o i : EM) (f : D → D → D → Store → Option Store) : GM := fun d env S => (o env S).bind fun x S1 => (i env S1).bind fun y S2 => match f x y d S2 with
  | some S3 => .ok env S3
  | none => .stuck
def sAsg (a : EM) (g : GM) : SM := fun env S => (a env S).bindS fun d S1 => (g d env S1).bindS fun env' S2 => .next env' S2
/-- a loop over items that stand there -/
def sFor (g : GM) (b : SM) : List D → SM
  | [], env, S => .next env S
  | d :: r, env, S => (g d env S).bindS fun env1 S1 => match b env1 S1 with
    | .next env2 S2 => sFor g b r env2 S2
    | .cont env2 S2 => sFor g b r env2 S2
    | .brk env2 S2 => .next env2 S2
    | q => q
abbrev IM := En → Store → Res (List D)
def sForI (it : IM) (g : GM) (b : SM) : SM := fun env S => (it env S).bindS fun ds S1 => sFor g b ds env S1
def sWhile (c : BM) (b : SM) : Nat → SM
  | 0, _, _ => .stuck
  | n + 1, env, S => (c env S).bindS fun k S1 => if k = true then
      match b env S1 with
      | .next env2 S2 => sWhile c b n env2 S2
      | .cont env2 S2 => sWhile c b n env2 S2
      | .brk env2 S2 => .next env2 S2
      | q => q
    else .next env S1
/-- a comprehension: no error leaves it -/
def mLcGo (g : GM) (t : BM) (e : EM) (env : En) : List D → List D → Store → Res (List D)
  | [], acc, S => .ok acc S
  | d :: r, acc, S => match g d env S with
    | .ok env1 S1 => match t env1 S1 with
      | .ok true S2 => match e env1 S2 with
        | .ok x S3 => if acc.length < sizeLine then mLcGo g t e env r (acc ++ [x]) S3 else .stuck
        | _ => .stuck
      | .ok false S2 => mLcGo g t e env r acc S2
      | _ => .stuck
    | _ => .stuck
def mLc (it : IM) (g : GM) (t : BM) (e : EM) (vs : List Nat) : EM := fun env S => (it env S).bind fun ds S1 => (mLcGo g t e (wipeE env vs) ds [] S1).bind fun xs S2 => .ok (.lst xs) S2
/-- the same, the new list an object of the store -/
def mLcL (it : IM) (g : GM) (t : BM) (e : EM) (vs : List Nat) : EM := fun env S => (it env S).bind fun ds S1 => (mLcGo g t e (wipeE env vs) ds [] S1).bind fun xs S2 => .ok (.loc S2.length) (S2 ++ [.lst xs])
def bYes : BM := fun _ S => .ok true S

/-! ### objects of the store -/
section
variable {g : G} {ρ : List Addr} {S : Store} {H : Hp}
theorem RKV.mt {κ : Type} : RKV (κ := κ) g ρ H [] [] := Paired.nil
theorem RO.mono {H' : Hp} {ρ' : List Addr} {a : Addr} {ob : Ob} (r : RO g ρ H a ob) (e : Ex ρ H ρ' H') (k : ∀ o, H a = some o → H' a = some o) : RO g ρ' H' a ob := by
  cases ob with
  | lst ds => obtain ⟨vs, q1, q2⟩ := r; exact ⟨vs, k _ q1, q2.mono e⟩
  | dK ds => obtain ⟨vs, q1, q2⟩ := r; exact ⟨vs, k _ q1, q2.mono e⟩
  | dT ds => obtain ⟨vs, q1, q2⟩ := r; exact ⟨vs, k _ q1, q2.mono e⟩
  | ins c fs => obtain ⟨dx, fv, q1, q2⟩ := r; exact ⟨dx, fv, k _ q1, q2.mono e⟩
  | exc c d => cases d with
    | none => exact k _ r
    | some n => obtain ⟨dx, q1, q2⟩ := r; exact ⟨dx, e.at q1, k _ q2⟩
  | xd fs => obtain ⟨fv, q1, q2⟩ := r; exact ⟨fv, k _ q1, q2.mono e⟩
  | ex0 c => exact k _ r
  | cxc c d => cases d with
    | none => exact k _ r
    | some fs => obtain ⟨dx, fv, q0, q1, q2, q3⟩ := r; exact ⟨dx, fv, ⟨e.out q2 q0.1, q0.2⟩, k _ q1, e.keep _ _ q0.1 q2, q3.mono e⟩
/-- a new object of the store -/
theorem RS.push (rs : RS g ρ S H) {p : Addr} {o : HO} {ob : Ob} (hp : H p = none) (ho : ∀ ρ' H', Ex ρ H ρ' H' → H' p = some o → RO g ρ' H' p ob) : Ex ρ H (ρ ++ [p]) (upd H p o) ∧ RS g (ρ ++ [p]) (S ++ [ob]) (upd H p o) := by
  have hρ : p ∉ ρ := (rs.fresh hp).1
  have e : Ex ρ H (ρ ++ [p]) (upd H p o) := ⟨⟨[p], rfl, fun a ha => by rw [List.mem_singleton.mp ha]; exact ⟨hp, hρ⟩⟩, fun a u _ q => by rw [upd_ne (ne_of_none q hp)]; exact q⟩
  refine ⟨e, by simp [rs.len], ?_, fun n a o' h1 h2 => ?_, fun a m => ?_⟩
  · rw [List.nodup_append]
    exact ⟨rs.nd, by simp, fun x hx y hy => by rw [List.mem_singleton.mp hy]; exact fun q => hρ (q ▸ hx)⟩
  · by_cases hn : n < ρ.length
    · rw [List.getElem?_append_left hn] at h1
      rw [List.getElem?_append_left (by rw [← rs.len]; exact hn)] at h2
      have r := rs.ob n a o' h1 h2
      have ne : a ≠ p := fun q => hρ (q ▸ List.mem_of_getElem? h1)
      exact r.mono e fun u q => by rw [upd_ne ne]; exact q
    · have hn' : n = ρ.length := by
        have := (List.getElem?_eq_some_iff.mp h1).1
        simp at this
        omega
      subst hn'
      simp at h1
      rw [rs.len] at h2
      simp at h2
      subst h1 h2
      exact ho _ _ e upd_same
  · obtain ⟨⟨u, h, hu⟩, n⟩ := rs.hd a m
    have ne : a ≠ p := ne_of_none h hp
    exact ⟨⟨u, by rw [upd_ne ne]; exact h, hu⟩, fun q => (List.mem_append.mp q).elim n fun q => ne (List.mem_singleton.mp q)⟩
/-- an object of the store is written -/
theorem RS.put (rs : RS g ρ S H) {n : Nat} {a : Addr} {o : HO} {ob : Ob} (ha : ρ[n]? = some a) (ho : ∀ H', Ex ρ H ρ H' → H' a = some o → RO g ρ H' a ob) : Ex ρ H ρ (upd H a o) ∧ RS g ρ (S.set n ob) (upd H a o) := by
  have e : Ex ρ H ρ (upd H a o) := ⟨⟨[], by simp, by simp⟩, fun b u hb q => by rw [upd_ne (fun z => hb (by rw [z]; exact List.mem_of_getElem? ha))]; exact q⟩
  refine ⟨e, by simp [rs.len], rs.nd, fun m b o' h1 h2 => ?_, fun b m => ?_⟩
  have hnS : n < S.length := by rw [← rs.len]; exact (List.getElem?_eq_some_iff.mp ha).1
  by_cases hm : m = n
  · subst hm
    rw [ha] at h1; cases h1
    rw [List.getElem?_set_self hnS] at h2; cases h2
    exact ho _ e upd_same
  · rw [List.getElem?_set_ne (Ne.symm hm)] at h2
    have r := rs.ob m b o' h1 h2
    have ne : b ≠ a := fun q => by
      subst q
      obtain ⟨h3, e1⟩ := List.getElem?_eq_some_iff.mp h1
      obtain ⟨h4, e2⟩ := List.getElem?_eq_some_iff.mp ha
      exact hm ((List.getElem_inj rs.nd).mp (e1.trans e2.symm))
    exact r.mono e fun u q => by rw [upd_ne ne]; exact q
  · obtain ⟨⟨u, h, hu⟩, n⟩ := rs.hd b m
    exact ⟨⟨u, by rw [upd_ne fun q => n (by rw [q]; exact List.mem_of_getElem? ha)]; exact h, hu⟩, n⟩
/-- nothing of the store changes: a new thing beside it -/
theorem RS.aside (rs : RS g ρ S H) {p : Addr} {o : HO} (hp : H p = none) : RS g ρ S (upd H p o) := by
  refine ⟨rs.len, rs.nd, fun n a ob h1 h2 => ?_, fun a m => ?_⟩
  · have r := rs.ob n a ob h1 h2
    exact r.mono (Ex.new1 hp) fun u q => by rw [upd_ne (ne_of_none q hp)]; exact q
  · obtain ⟨⟨u, h, hu⟩, n⟩ := rs.hd a m
    exact ⟨⟨u, by rw [upd_ne (ne_of_none h hp)]; exact h, hu⟩, n⟩
end

/-! ### the proofs -/
section
variable {g : G} {E : XK}
theorem sim_var (i : Nat) : SimE g E (tVar i) (mVar i) := by
  intro l σ H Q ρ S env re rs p
  unfold mVar at p
  cases e : env[i]? with
  | none => rw [e] at p; exact p.elim
  | some o =>
    cases o with
    | none => rw [e] at p; exact p.elim
    | some d =>
      rw [e] at p
      obtain ⟨v, h1, h2⟩ := re.get e
      exact ⟨v, h1, p ρ H v Ex.refl rs h2⟩
theorem sim_c {v : V} {d : D} (r : ∀ l ρ H, RD (g.hide l) ρ H v d) : SimE g E (tC v) (mC d) := fun l σ H Q ρ S env re rs p => p ρ H v Ex.refl rs (r l ρ H)
def OpSim (g₀ : G) (E : XK) (r : R2) (f : D → D → Store → Res D) : Prop := ∀ l x y H Q ρ S dx dy, RD (g₀.hide l) ρ H x dx → RD (g₀.hide l) ρ H y dy → RS (g₀.hide l) ρ S H → PostE (g₀.hide l) E ρ H Q (f dx dy S) → r x y H Q
def UnSim (g₀ : G) (E : XK) (r : V → Hp → VK → Prop) (f : D → Store → Res D) : Prop := ∀ l x H Q ρ S dx, RD (g₀.hide l) ρ H x dx → RS (g₀.hide l) ρ S H → PostE (g₀.hide l) E ρ H Q (f dx S) → r x H Q
def CallSim (g₀ : G) (E : XK) (r : List V → Hp → VK → Prop) (f : List D → Store → Res D) : Prop := ∀ l xs H Q ρ S ds, RDs (g₀.hide l) ρ H xs ds → RS (g₀.hide l) ρ S H → PostE (g₀.hide l) E ρ H Q (f ds S) → r xs H Q
theorem sim_op {r : R2} {f : D → D → Store → Res D} {ta tb : TE} {a b : EM} (h : OpSim g E r f) (ha : SimE g E ta a) (hb : SimE g E tb b) : SimE g E (tOp r ta tb) (mOp f a b) := by
  intro l σ H Q ρ S env re rs p
  exact ha.bind re rs p fun x S1 ρ1 H1 v e1 rs1 rx re1 p1 => hb.bind re1 rs1 p1 fun y S2 ρ2 H2 u e2 rs2 ry re2 p2 => h l v u H2 Q ρ2 S2 x y (rx.mono e2) ry rs2 p2
theorem sim_un {r : V → Hp → VK → Prop} {f : D → Store → Res D} {ta : TE} {a : EM} (h : UnSim g E r f) (ha : SimE g E ta a) : SimE g E (tUn r ta) (mUn f a) := by
  intro l σ H Q ρ S env re rs p
  exact ha.bind re rs p fun x S1 ρ1 H1 v e1 rs1 rx re1 p1 => h l v H1 Q ρ1 S1 x rx rs1 p1
theorem sim_nil : SimA g E tNil mNil := fun l σ H Q ρ S env re rs p => p ρ H [] Ex.refl rs .nil
theorem sim_cons {ta : TE} {tb : TA} {a : EM} {b : AM} (ha : SimE g E ta a) (hb : SimA g E tb b) : SimA g E (tCons ta tb) (mCons a b) := by
  intro l σ H Q ρ S env re rs p
  exact ha.bindA re rs p fun x S1 ρ1 H1 v e1 rs1 rx re1 p1 => hb.bindA re1 rs1 p1 fun y S2 ρ2 H2 u e2 rs2 ry re2 p2 => p2 ρ2 H2 (v :: u) Ex.refl rs2 (.cons (rx.mono e2) ry)
theorem sim_tup {ta : TA} {a : AM} (ha : SimA g E ta a) : SimE g E (tTup ta) (mTup a) := by
  intro l σ H Q ρ S env re rs p
  refine ha.bind re rs p fun ds S1 ρ1 H1 vs e1 rs1 rx re1 p1 => ?_
  by_cases hz : ds.length ≤ sizeLine
  · rw [if_pos hz] at p1
    refine ⟨by rw [rx.length]; exact hz, fun q hq => ?_⟩
    exact p1 ρ1 _ _ (Ex.new1 hq) (rs1.aside hq) (.tup upd_same (rs1.fresh hq) (rx.mono (Ex.new1 hq)))
  · rw [if_neg hz] at p1; exact p1.elim
theorem sim_lst {ta : TA} {a : AM} (ha : SimA g E ta a) : SimE g E (tLst ta) (mLst a) := by
  intro l σ H Q ρ S env re rs p
  refine ha.bind re rs p fun ds S1 ρ1 H1 vs e1 rs1 rx re1 p1 => ?_
  by_cases hz : ds.length ≤ sizeLine
  · rw [if_pos hz] at p1
    refine ⟨by rw [rx.length]; exact hz, fun q hq => ?_⟩
    exact p1 ρ1 _ _ (Ex.new1 hq) (rs1.aside hq) (.lst upd_same (rs1.fresh hq) (rx.mono (Ex.new1 hq)))
  · rw [if_neg hz] at p1; exact p1.elim
theorem sim_lstL {ta : TA} {a : AM} (ha : SimA g E ta a) : SimE g E (tLst ta) (mLstL a) := by
  intro l σ H Q ρ S env re rs p
  refine ha.bind re rs p fun ds S1 ρ1 H1 vs e1 rs1 rx re1 p1 => ?_
  by_cases hz : ds.length ≤ sizeLine
  · rw [if_pos hz] at p1
    refine ⟨by rw [rx.length]; exact hz, fun q hq => ?_⟩
    obtain ⟨e, rs2⟩ := rs1.push (o := .lst vs) (ob := .lst ds) hq fun ρ' H' e q => ⟨vs, q, rx.mono e⟩
    exact p1 _ _ _ e rs2 (.loc (by rw [← rs1.len]; simp))
  · rw [if_neg hz] at p1; exact p1.elim
/-- a call by its promise -/
theorem sim_cb {r : List V → Hp → VK → Prop} {f : List D → Store → Res D} {ta : TA} {a : AM} (h : CallSim g E r f) (ha : SimA g E ta a) : SimE g E (tCB r ta) (mCall f a) := by
  intro l σ H Q ρ S env re rs p
  exact ha.bind re rs p fun ds S1 ρ1 H1 vs e1 rs1 rx re1 p1 => h l vs H1 Q ρ1 S1 ds rx rs1 p1
theorem sim_if {tc : TT} {ta tb : TE} {c : BM} {a b : EM} (hc : SimT g E tc c) (ha : SimE g E ta a) (hb : SimE g E tb b) : SimE g E (tIf tc ta tb) (mIf c a b) := by
  intro l σ H Q ρ S env re rs p
  refine hc.bindE re rs p fun k S1 ρ1 H1 e1 rs1 re1 p1 => ?_
  cases k with
  | true => exact ha l σ H1 Q ρ1 S1 env re1 rs1 p1
  | false => exact hb l σ H1 Q ρ1 S1 env re1 rs1 p1
theorem simt_test {ta : TE} {a : EM} (ha : SimE g E ta a) : SimT g E (tTest ta) (bVal a) := by
  intro l σ H Q ρ S env re rs p
  refine ha.bindT re rs p fun x S1 ρ1 H1 v e1 rs1 rx re1 p1 => ?_
  cases rx with
  | bl b => exact ⟨b, rfl, p1 ρ1 H1 Ex.refl rs1⟩
  | _ => exact p1.elim
theorem simt_tB {ta : TE} {a : EM} (ha : SimE g E ta a) : SimT g E (tB ta) (bVal a) := by
  intro l σ H Q ρ S env re rs p
  refine ha.bindT re rs p fun x S1 ρ1 H1 v e1 rs1 rx re1 p1 => ?_
  cases rx with
  | bl b => exact ⟨b, rfl, p1 ρ1 H1 Ex.refl rs1⟩
  | _ => exact p1.elim
theorem simt_and {ta tb : TT} {a b : BM} (ha : SimT g E ta a) (hb : SimT g E tb b) : SimT g E (tAnd ta tb) (bAnd a b) := by
  intro l σ H Q ρ S env re rs p
  refine ha.bind re rs p fun k S1 ρ1 H1 e1 rs1 re1 p1 => ?_
  cases k with
  | true => exact hb l σ H1 Q ρ1 S1 env re1 rs1 p1
  | false => exact p1 ρ1 H1 Ex.refl rs1
theorem simt_or {ta tb : TT} {a b : BM} (ha : SimT g E ta a) (hb : SimT g E tb b) : SimT g E (tOr ta tb) (bOr a b) := by
  intro l σ H Q ρ S env re rs p
  refine ha.bind re rs p fun k S1 ρ1 H1 e1 rs1 re1 p1 => ?_
  cases k with
  | false => exact hb l σ H1 Q ρ1 S1 env re1 rs1 p1
  | true => exact p1 ρ1 H1 Ex.refl rs1
theorem simt_not {ta : TT} {a : BM} (ha : SimT g E ta a) : SimT g E (tNot ta) (bNot a) := by
  intro l σ H Q ρ S env re rs p
  refine ha.bind re rs p fun k S1 ρ1 H1 e1 rs1 re1 p1 => ?_
  exact p1 ρ1 H1 Ex.refl rs1
theorem simt_yes : SimT g E tYes bYes := fun l σ H Q ρ S env re rs p => p ρ H Ex.refl rs
theorem sim_and {ta tb : TE} {a b : EM} (ha : SimE g E ta a) (hb : SimE g E tb b) : SimE g E (tAndV ta tb) (mAndV a b) := by
  intro l σ H Q ρ S env re rs p
  refine ha.bind re rs p fun x S1 ρ1 H1 v e1 rs1 rx re1 p1 => ?_
  cases rx with
  | bl k =>
    refine ⟨k, rfl, ?_⟩
    cases k with
    | true => exact hb l σ H1 Q ρ1 S1 env re1 rs1 p1
    | false => exact p1 ρ1 H1 _ Ex.refl rs1 (.bl false)
  | _ => exact p1.elim
theorem sim_or {ta tb : TE} {a b : EM} (ha : SimE g E ta a) (hb : SimE g E tb b) : SimE g E (tOrV ta tb) (mOrV a b) := by
  intro l σ H Q ρ S env re rs p
  refine ha.bind re rs p fun x S1 ρ1 H1 v e1 rs1 rx re1 p1 => ?_
  cases rx with
  | bl k =>
    refine ⟨k, rfl, ?_⟩
    cases k with
    | false => exact hb l σ H1 Q ρ1 S1 env re1 rs1 p1
    | true => exact p1 ρ1 H1 _ Ex.refl rs1 (.bl true)
  | _ => exact p1.elim
theorem sim_not {ta : TE} {a : EM} (ha : SimE g E ta a) : SimE g E (tNotV ta) (mNotV a) := by
  intro l σ H Q ρ S env re rs p
  refine ha.bind re rs p fun x S1 ρ1 H1 v e1 rs1 rx re1 p1 => ?_
  cases rx with
  | bl k => exact ⟨k, rfl, p1 ρ1 H1 _ Ex.refl rs1 (.bl _)⟩
  | _ => exact p1.elim
/-! statements -/
theorem sims_next : SimS g E tNext sNext := fun l D' σ H ρ S env re rs p => p ρ H σ Ex.refl rs re
theorem sims_brk : SimS g E tBreak sBrk := fun l D' σ H ρ S env re rs p => p ρ H σ Ex.refl rs re
theorem sims_cont : SimS g E tCont sCont := fun l D' σ H ρ S env re rs p => p ρ H σ Ex.refl rs re
theorem sims_never {t : TS} : SimS g E t sNever := fun l D' σ H ρ S env re rs p => p.elim
theorem PN.of {ρ : List Addr} {H : Hp} {env' : En} {S' : Store} {P : L2.St → Hp → Prop} (h : ∀ ρ' H' σ', Ex ρ H ρ' H' → RS g ρ' S' H' → RE g ρ' H' σ' env' → P σ' H') : PN g ρ H P env' S' := h
theorem sims_seq {t u : TS} {a b : SM} (ha : SimS g E t a) (hb : SimS g E u b) : SimS g E (tSeq t u) (sSeq a b) := by
  intro l D' σ H ρ S env re rs p
  refine ha l { D' with nx := u D' } σ H ρ S env re rs ?_
  unfold sSeq at p
  cases e : a env S with
  | next env1 S1 =>
    rw [e] at p
    exact fun ρ1 H1 σ1 e1 rs1 re1 => hb l D' σ1 H1 ρ1 S1 env1 re1 rs1 (PostS.ex p e1)
  | ret d S1 => rw [e] at p; exact p
  | brk env1 S1 => rw [e] at p; exact p
  | cont env1 S1 => rw [e] at p; exact p
  | err x S1 => rw [e] at p; exact p
  | stuck => rw [e] at p; exact p
theorem sims_ret {ta : TE} {a : EM} (ha : SimE g E ta a) : SimS g E (tRet ta) (sRet a) := by
  intro l D' σ H ρ S env re rs p
  exact ha.bindS re rs p fun d S1 ρ1 H1 v e1 rs1 rx re1 p1 => p1 ρ1 H1 v Ex.refl rs1 rx
theorem sims_retN : SimS g E tRetN sRetN := fun l D' σ H ρ S env re rs p => p ρ H _ Ex.refl rs .non
theorem sims_drop {ta : TE} {a : EM} (ha : SimE g E ta a) : SimS g E (tDrop ta) (sDrop a) := by
  intro l D' σ H ρ S env re rs p
  exact ha.bindS re rs p fun d S1 ρ1 H1 v e1 rs1 rx re1 p1 => p1 ρ1 H1 σ Ex.refl rs1 re1
theorem sims_if {tc : TT} {t u : TS} {c : BM} {a b : SM} (hc : SimT g E tc c) (ha : SimS g E t a) (hb : SimS g E u b) : SimS g E (tIfS tc t u) (sIf c a b) := by
  intro l D' σ H ρ S env re rs p
  refine hc.bindS re rs p fun k S1 ρ1 H1 e1 rs1 re1 p1 => ?_
  cases k with
  | true => exact ha l D' σ H1 ρ1 S1 env re1 rs1 p1
  | false => exact hb l D' σ H1 ρ1 S1 env re1 rs1 p1
/-! targets -/
def PostG (g : G) (E : XK) (ρ : List Addr) (H : Hp) (Q : L2.St → Hp → Prop) : Res En → Prop
  | .ok env' S' => PN g ρ H Q env' S'
  | .err x S' => PX g E ρ H x S'
  | .stuck => False
def SimG (g : G) (E : XK) (t : TG) (m : GM) : Prop := ∀ l v σ H Q ρ S env d, RD (g.hide l) ρ H v d → RE (g.hide l) ρ H σ env → RS (g.hide l) ρ S H → PostG (g.hide l) E ρ H Q (m d env S) → t v σ H Q
def SimGs (g : G) (E : XK) (t : TGs) (m : List D → En → Store → Res En) : Prop := ∀ l vs σ H Q ρ S env ds, RDs (g.hide l) ρ H vs ds → RE (g.hide l) ρ H σ env → RS (g.hide l) ρ S H → PostG (g.hide l) E ρ H Q (m ds env S) → t vs σ H Q
theorem simg_name (i : Nat) : SimG g E (gName i) (gmName i) := fun l v σ H Q ρ S env d rv re rs p => p ρ H _ Ex.refl rs (re.set rv i)
theorem simg_nil : SimGs g E gNil gmNil := by
  intro l vs σ H Q ρ S env ds rv re rs p
  cases rv with
  | nil => exact ⟨rfl, p ρ H σ Ex.refl rs re⟩
  | cons h t => exact p.elim
theorem PostG.ex {ρ ρ1 : List Addr} {H H1 : Hp} {Q : L2.St → Hp → Prop} {r : Res En} (p : PostG g E ρ H Q r) (e : Ex ρ H ρ1 H1) : PostG g E ρ1 H1 Q r := by
  cases r with
  | ok d S' => exact PN.ex p e
  | err x S' => exact PX.ex p e
  | stuck => exact p
theorem simg_cons {t : TG} {u : TGs} {a : GM} {b : List D → En → Store → Res En} (ha : SimG g E t a) (hb : SimGs g E u b) : SimGs g E (gCons t u) (gmCons a b) := by
  intro l vs σ H Q ρ S env ds rv re rs p
  cases rv with
  | nil => exact p.elim
  | @cons v d vs' ds' h r =>
    refine ⟨v, vs', rfl, ?_⟩
    refine ha l v σ H _ ρ S env d h re rs ?_
    have p' : PostG (g.hide l) E ρ H Q ((a d env S).bind fun env' S' => b ds' env' S') := p
    cases e : a d env S with
    | ok env1 S1 => rw [e] at p'; exact fun ρ1 H1 σ1 e1 rs1 re1 => hb l vs' σ1 H1 Q ρ1 S1 env1 ds' (r.mono e1) re1 rs1 (PostG.ex p' e1)
    | err x S1 => rw [e] at p'; exact p'
    | stuck => rw [e] at p'; exact p'
theorem simg_tup {K : PySem.W.Frag} {n : Nat} {t : TGs} {a : List D → En → Store → Res En} (ha : SimGs g E t a) : SimG g E (gTup K n t) (gmTup n a) := by
  intro l v σ H Q ρ S env d rv re rs p
  cases rv with
  | @tup ad vs ds h hn r =>
    unfold gmTup at p
    by_cases hl : ds.length = n
    · simp only [if_pos hl] at p
      exact ⟨ad, vs, rfl, SqT.of h, by rw [r.length]; exact hl, ha l vs σ H Q ρ S env ds r re rs p⟩
    · simp only [if_neg hl] at p; exact p.elim
  | @tupX ad o vs ds h hd hn r =>
    unfold gmTup at p
    by_cases hl : ds.length = n
    · simp only [if_pos hl] at p
      exact ⟨ad, vs, rfl, .inl (.inr ⟨o, h⟩), by rw [r.length]; exact hl, ha l vs σ H Q ρ S env ds r re rs p⟩
    · simp only [if_neg hl] at p; exact p.elim
  | _ => exact p.elim
def SetSim (g₀ : G) (t : TSet) (f : D → D → D → Store → Option Store) : Prop := ∀ l o i v H Q ρ S d1 d2 d3 S', RD (g₀.hide l) ρ H o d1 → RD (g₀.hide l) ρ H i d2 → RD (g₀.hide l) ρ H v d3 → RS (g₀.hide l) ρ S H → f d1 d2 d3 S = some S' →
  (∀ ρ' H', Ex ρ H ρ' H' → RS (g₀.hide l) ρ' S' H' → Q H') → t o i v H Q
theorem simg_sub {to ti : TE} {t : TSet} {o i : EM} {f : D → D → D → Store → Option Store} (ho : SimE g E to o) (hi : SimE g E ti i) (hf : SetSim g t f) : SimG g E (gSub to ti t) (gmSub o i f) := by
  intro l v σ H Q ρ S env d rv re rs p
  unfold gmSub at p
  refine ho l σ H _ ρ S env re rs ?_
  cases e : o env S with
  | ok d1 S1 =>
    rw [e] at p
    refine fun ρ1 H1 v1 e1 rs1 r1 => ?_
    have p1 := PostG.ex p e1
    simp only [Res.bind] at p1
    refine hi l σ H1 _ ρ1 S1 env (re.mono e1) rs1 ?_
    cases e' : i env S1 with
    | ok d2 S2 =>
      rw [e'] at p1
      refine fun ρ2 H2 v2 e2 rs2 r2 => ?_
      have p2 := PostG.ex p1 e2
      simp only [Res.bind] at p2
      cases e3 : f d1 d2 d S2 with
      | some S3 =>
        rw [e3] at p2
        exact hf l v1 v2 v H2 _ ρ2 S2 d1 d2 d S3 (r1.mono e2) r2 (rv.mono (e1.trans e2)) rs2 e3 fun ρ3 H3 e4 rs3 => p2 ρ3 H3 σ e4 rs3 (re.mono ((e1.trans e2).trans e4))
      | none => rw [e3] at p2; exact p2.elim
    | err x S2 => rw [e'] at p1; exact p1
    | stuck => rw [e'] at p1; exact p1
  | err x S1 => rw [e] at p; exact p
  | stuck => rw [e] at p; exact p
theorem sims_asg {te : TE} {t : TG} {a : EM} {m : GM} (ha : SimE g E te a) (hg : SimG g E t m) : SimS g E (tAsg te t) (sAsg a m) := by
  intro l D' σ H ρ S env re rs p
  refine ha.bindS re rs p fun d S1 ρ1 H1 v e1 rs1 rx re1 p1 => ?_
  refine hg l v σ H1 _ ρ1 S1 env d rx re1 rs1 ?_
  cases e : m d env S1 with
  | ok env' S2 => rw [e] at p1; exact p1
  | err x S2 => rw [e] at p1; exact p1
  | stuck => rw [e] at p1; exact p1
end
end Lg

namespace Lg
open PySem L2

/-- an iterator that gives these things, whatever is done beside it -/
def WalkD (g : G) (ρ : List Addr) (H : Hp) (J : It) (ds : List D) : Prop := ∃ (G' : Hp → Prop) (Y : Nat → Hp → V → Hp → Prop), Walk J ds.length G' Y ∧ (∀ ρ' H', ExH g ρ H ρ' H' → G' H') ∧
  ∀ i ρ' H' x H'' S, i < ds.length → ExH g ρ H ρ' H' → RS g ρ' S H' → Y i H' x H'' → ∃ d, ds[i]? = some d ∧ Ex ρ' H' ρ' H'' ∧ RS g ρ' S H'' ∧ RD g ρ' H'' x d ∧ ∀ p o, H' p = some o → H'' p = some o
def SimI (g : G) (E : XK) (wi : TI) (m : IM) : Prop := ∀ l σ H R ρ S env, RE (g.hide l) ρ H σ env → RS (g.hide l) ρ S H →
  (match m env S with
   | .ok ds S' => ∀ ρ' H' J, Ex ρ H ρ' H' → RS (g.hide l) ρ' S' H' → (∀ l', (∀ a, a ∈ l' → a ∈ l ∨ H' a = none) → WalkD (g.hide l') ρ' H' J ds) → R J H'
   | .err x S' => PX (g.hide l) E ρ H x S'
   | .stuck => False) → wi σ H R

theorem drop_at {α : Type} {ds : List α} {i : Nat} {d : α} (h : ds[i]? = some d) : ds.drop i = d :: ds.drop (i + 1) := by
  obtain ⟨hi, e⟩ := List.getElem?_eq_some_iff.mp h
  rw [List.drop_eq_getElem_cons hi, e]

section
variable {g : G} {E : XK}
theorem sims_for {wi : TI} {gt : TG} {tb : TS} {it : IM} {gm : GM} {bm : SM} (hi : SimI g E wi it) (hg : SimG g E gt gm) (hb : SimS g E tb bm) : SimS g E (tFor wi gt tb) (sForI it gm bm) := by
  intro l D' σ H ρ S env re rs p
  refine hi l σ H _ ρ S env re rs ?_
  unfold sForI at p
  cases e : it env S with
  | err x S' => rw [e] at p; exact p
  | stuck => rw [e] at p; exact p
  | ok ds S1 =>
    rw [e] at p
    simp only [Res.bindS] at p
    intro ρ1 H1 J e1 rs1 wd0
    obtain ⟨G', Y, w, wg, wy⟩ := wd0 l fun a h => .inl h
    refine for_it w (fun i σ' H' => ∃ ρ' S' env', Ex ρ1 H1 ρ' H' ∧ RS (g.hide l) ρ' S' H' ∧ RE (g.hide l) ρ' H' σ' env' ∧ PostS (g.hide l) E ρ' H' D' (sFor gm bm (ds.drop i) env' S')) ?_ ?_ ?_ ?_
    · exact ⟨ρ1, S1, env, Ex.refl, rs1, re.mono e1, by simpa using PostS.ex p e1⟩
    · rintro i σ' H' _ ⟨ρ', S', env', e2, _⟩
      exact wg ρ' H' e2.toH
    · rintro i x σ' H' H'' hi' ⟨ρ', S', env', e2, rs2, re2, p2⟩ y
      obtain ⟨d, hd, e3, rs3, rx, _⟩ := wy i ρ' H' x H'' S' hi' e2.toH rs2 y
      rw [drop_at hd] at p2
      refine hg l x σ' H'' _ ρ' S' env' d rx (re2.mono e3) rs3 ?_
      have p3 := PostS.ex p2 e3
      have p3' : PostS (g.hide l) E ρ' H'' D' ((gm d env' S').bindS fun env1 S1 => match bm env1 S1 with
        | .next env2 S2 => sFor gm bm (ds.drop (i + 1)) env2 S2
        | .cont env2 S2 => sFor gm bm (ds.drop (i + 1)) env2 S2
        | .brk env2 S2 => .next env2 S2
        | q => q) := p3
      cases eg : gm d env' S' with
      | err x S' => rw [eg] at p3'; exact p3'
      | stuck => rw [eg] at p3'; exact p3'
      | ok env1 S2 =>
        rw [eg] at p3'
        simp only [Res.bindS] at p3'
        intro ρ4 H4 σ4 e4 rs4 re4
        refine hb l _ σ4 H4 ρ4 S2 env1 re4 rs4 ?_
        have p4 := PostS.ex p3' e4
        have e14 := (e2.trans e3).trans e4
        cases eb : bm env1 S2 with
        | next env2 S3 => rw [eb] at p4; exact fun ρ5 H5 σ5 e5 rs5 re5 => ⟨ρ5, S3, env2, e14.trans e5, rs5, re5, PostS.ex p4 e5⟩
        | cont env2 S3 => rw [eb] at p4; exact fun ρ5 H5 σ5 e5 rs5 re5 => ⟨ρ5, S3, env2, e14.trans e5, rs5, re5, PostS.ex p4 e5⟩
        | brk env2 S3 => rw [eb] at p4; exact p4
        | ret d S3 => rw [eb] at p4; exact p4
        | err x S3 => rw [eb] at p4; exact p4
        | stuck => rw [eb] at p4; exact p4
    · rintro σ' H' ⟨ρ', S', env', e2, rs2, re2, p2⟩
      rw [List.drop_length] at p2
      exact p2 ρ' H' σ' Ex.refl rs2 re2
theorem sims_while {tc : TT} {tb : TS} {cm : BM} {bm : SM} (n : Nat) (hc : SimT g E tc cm) (hb : SimS g E tb bm) : SimS g E (tWhile tc tb) (sWhile cm bm n) := by
  intro l D' σ H ρ S env re rs p
  refine ⟨fun m σ' H' => ∃ ρ' S' env', RS (g.hide l) ρ' S' H' ∧ RE (g.hide l) ρ' H' σ' env' ∧ PostS (g.hide l) E ρ' H' D' (sWhile cm bm m env' S'), ⟨n, ρ, S, env, rs, re, p⟩, ?_⟩
  rintro m σ1 H1 ⟨ρ1, S1, env1, rs1, re1, p1⟩
  cases m with
  | zero => exact p1.elim
  | succ m =>
    have p1' : PostS (g.hide l) E ρ1 H1 D' ((cm env1 S1).bindS fun k S1 => if k = true then
      match bm env1 S1 with
      | .next env2 S2 => sWhile cm bm m env2 S2
      | .cont env2 S2 => sWhile cm bm m env2 S2
      | .brk env2 S2 => .next env2 S2
      | q => q
    else .next env1 S1) := p1
    refine hc.bindS re1 rs1 p1' fun k S2 ρ2 H2 e2 rs2 re2 p2 => ?_
    cases k with
    | false => exact p2 ρ2 H2 σ1 Ex.refl rs2 re2
    | true =>
      simp only [if_true] at p2 ⊢
      refine ⟨fun σ' H' => ∃ ρ' S' env', RS (g.hide l) ρ' S' H' ∧ RE (g.hide l) ρ' H' σ' env' ∧ PostS (g.hide l) E ρ' H' D' (sWhile cm bm m env' S'), fun σ' H' q => ⟨m, Nat.lt_succ_self m, q⟩, ?_⟩
      refine hb l _ σ1 H2 ρ2 S2 env1 re2 rs2 ?_
      cases eb : bm env1 S2 with
      | next env2 S3 => rw [eb] at p2; exact fun ρ5 H5 σ5 e5 rs5 re5 => ⟨ρ5, S3, env2, rs5, re5, PostS.ex p2 e5⟩
      | cont env2 S3 => rw [eb] at p2; exact fun ρ5 H5 σ5 e5 rs5 re5 => ⟨ρ5, S3, env2, rs5, re5, PostS.ex p2 e5⟩
      | brk env2 S3 => rw [eb] at p2; exact p2
      | ret d S3 => rw [eb] at p2; exact p2
      | err x S3 => rw [eb] at p2; exact p2
      | stuck => rw [eb] at p2; exact p2
/-- no error leaves -/
theorem px0 {ρ : List Addr} {H : Hp} {x : Exc} {S' : Store} {l : List Addr} (h : False) : PX (g.hide l) E0 ρ H x S' := h.elim

/-- the comprehension's turns: Dl is the new list, hidden meanwhile -/
theorem lc_turns {wi : TI} {gt : TG} {tt : TT} {te : TE} {it : IM} {gm : GM} {tm : BM} {em : EM} {vs : List Nat} (hi : SimI g E wi it) (hg : SimG g E0 gt gm) (ht : SimT g E0 tt tm) (he : SimE g E0 te em)
    (hws : ∀ v σ H Q, gt v σ H Q → gt v σ H fun σ2 H2 => L2.wipe σ2 vs = L2.wipe σ vs ∧ Q σ2 H2)
    {l : List Addr} {σ : L2.St} {H : Hp} {Q : VK} {ρ : List Addr} {S : Store} {env : En} {f : List D → Store → Res D} (hwi : L2.wipe (L2.wipe σ vs) vs = L2.wipe σ vs) (re : RE (g.hide l) ρ H σ env) (rs : RS (g.hide l) ρ S H)
    (p : PostE (g.hide l) E ρ H Q ((it env S).bind fun ds S1 => (mLcGo gm tm em (wipeE env vs) ds [] S1).bind f))
    (k : ∀ Dl xs ws S2 ρ2 H2, Ex ρ H ρ2 H2 → RS (g.hide (Dl :: l)) ρ2 S2 H2 → Dl ∉ l → H2 Dl = some (.lst ws) → RDs (g.hide (Dl :: l)) ρ2 H2 ws xs → PostE (g.hide l) E ρ H Q (f xs S2) → H Dl = none → Dl ∉ ρ → Q (.ref Dl) H2) :
    tLc wi gt tt te vs σ H Q := by
  refine hi l σ H _ ρ S env re rs ?_
  cases e : it env S with
  | err x S' => rw [e] at p; exact p
  | stuck => rw [e] at p; exact p
  | ok ds S1 =>
    rw [e] at p
    have p : PostE (g.hide l) E ρ H Q ((mLcGo gm tm em (wipeE env vs) ds [] S1).bind f) := p
    intro ρ1 H1 J e1 rs1 wd0 Dl hD
    have nDl : Dl ∉ l := (rs1.fresh hD).2
    have nDρ1 : Dl ∉ ρ1 := (rs1.fresh hD).1
    have nDρ : Dl ∉ ρ := fun m => by
      obtain ⟨n, hn, en⟩ := List.getElem_of_mem m
      exact nDρ1 (List.mem_of_getElem? (e1.at (show ρ[n]? = some Dl by rw [List.getElem?_eq_getElem hn, en])))
    have hDn : H Dl = none := by
      cases q : H Dl with
      | none => rfl
      | some o => rw [e1.keep Dl o nDρ q] at hD; cases hD
    obtain ⟨G', Y, w, wg, wy⟩ := wd0 (Dl :: l) fun a m => (List.mem_cons.mp m).elim (fun z => .inr (z ▸ hD)) .inl
    refine lc_it w (fun i H' => ∃ ρ' S' acc ws, Ex ρ1 H1 ρ' H' ∧ RS (g.hide (Dl :: l)) ρ' S' H' ∧ H' Dl = some (.lst ws) ∧ RDs (g.hide (Dl :: l)) ρ' H' ws acc ∧
      PostE (g.hide l) E ρ H Q ((mLcGo gm tm em (wipeE env vs) (ds.drop i) acc S').bind f)) ?_ ?_ ?_ ?_
    · exact ⟨ρ1, S1, [], [], Ex.new1 hD, rs1.hide hD, upd_same, .nil, p⟩
    · rintro i H' _ ⟨ρ', S', acc, ws, e2, _⟩
      exact wg ρ' H' e2.toH
    · rintro i x H' H'' hi' ⟨ρ', S', acc, ws, e2, rs2, hDw, racc, p2⟩ y
      obtain ⟨d, hd, e3, rs3, rx, kp⟩ := wy i ρ' H' x H'' S' hi' e2.toH rs2 y
      rw [drop_at hd] at p2
      have e23 := e2.trans e3
      have re3 : RE (g.hide (Dl :: l)) ρ' H'' (L2.wipe σ vs) (wipeE env vs) := RE.tr (g := g.hide l) (g' := g.hide (Dl :: l)) rfl (fun _ _ h => e23.at h) (ahead_k hD e23) ((re.mono e1).wipe vs)
      have nD' : Dl ∉ ρ' := (rs3.hd Dl List.mem_cons_self).2
      have hDw3 := kp _ _ hDw
      have racc3 := racc.mono e3
      refine hws x _ H'' _ ?_ |> fun z => by rw [hwi] at z; exact z
      refine hg (Dl :: l) x (L2.wipe σ vs) H'' _ ρ' S' (wipeE env vs) d rx re3 rs3 ?_
      have p3 : PostE (g.hide l) E ρ H Q ((match gm d (wipeE env vs) S' with
        | .ok env1 S1 => match tm env1 S1 with
          | .ok true S2 => match em env1 S2 with
            | .ok x S3 => if acc.length < sizeLine then mLcGo gm tm em (wipeE env vs) (ds.drop (i + 1)) (acc ++ [x]) S3 else .stuck
            | _ => .stuck
          | .ok false S2 => mLcGo gm tm em (wipeE env vs) (ds.drop (i + 1)) acc S2
          | _ => .stuck
        | _ => .stuck : Res (List D)).bind f) := p2
      cases eg : gm d (wipeE env vs) S' with
      | err x S' => rw [eg] at p3; exact p3.elim
      | stuck => rw [eg] at p3; exact p3.elim
      | ok env1 S2 =>
        rw [eg] at p3
        dsimp only at p3
        intro ρ4 H4 σ4 e4 rs4 re4
        refine ht (Dl :: l) σ4 H4 _ ρ4 S2 env1 re4 rs4 ?_
        cases et : tm env1 S2 with
        | err x S' => rw [et] at p3; exact p3.elim
        | stuck => rw [et] at p3; exact p3.elim
        | ok b S3 =>
          rw [et] at p3
          intro ρ5 H5 e5 rs5
          have hDw5 := e5.keep _ _ (rs4.hd Dl List.mem_cons_self).2 (e4.keep _ _ nD' hDw3)
          cases b with
          | false =>
            exact ⟨ρ5, S3, acc, ws, (e23.trans e4).trans e5, rs5, hDw5, (racc3.mono e4).mono e5, p3⟩
          | true =>
            dsimp only at p3
            refine he (Dl :: l) σ4 H5 _ ρ5 S3 env1 (re4.mono e5) rs5 ?_
            cases ee : em env1 S3 with
            | err x S' => rw [ee] at p3; exact p3.elim
            | stuck => rw [ee] at p3; exact p3.elim
            | ok z S4 =>
              rw [ee] at p3
              dsimp only at p3
              intro ρ6 H6 v6 e6 rs6 rz
              have hDw6 := e6.keep _ _ (rs5.hd Dl List.mem_cons_self).2 hDw5
              have racc6 := ((racc3.mono e4).mono e5).mono e6
              by_cases hz : acc.length < sizeLine
              · rw [if_pos hz] at p3
                have e16 := ((e23.trans e4).trans e5).trans e6
                refine ⟨ws, hDw6, by rw [racc6.length]; exact hz, ρ6, S4, acc ++ [z], ws ++ [v6], Ex.mut e16 hD, rs6.hidden, upd_same, ?_, p3⟩
                exact (RDs.tr (g := g.hide (Dl :: l)) (g' := g.hide (Dl :: l)) rfl (fun _ _ h => h) hidden_k (racc6.snoc rz))
              · rw [if_neg hz] at p3; exact p3.elim
    · rintro H' ⟨ρ', S', acc, ws, e2, rs2, hDw, racc, p2⟩
      rw [List.drop_length] at p2
      exact k Dl acc ws S' ρ' H' (e1.trans e2) rs2 nDl hDw racc p2 hDn nDρ
end
end Lg

namespace Lg
open PySem L2

/-! ### comprehensions -/
theorem wipe_set (σ : L2.St) (i : Nat) (x : Option V) : ∀ vs : List Nat, L2.wipe (σ.set i x) vs = if i ∈ vs then L2.wipe σ vs else (L2.wipe σ vs).set i x
  | [] => by simp [L2.wipe]
  | v :: vs => by
    show (L2.wipe (σ.set i x) vs).set v none = if i ∈ v :: vs then (L2.wipe σ vs).set v none else ((L2.wipe σ vs).set v none).set i x
    rw [wipe_set σ i x vs]
    by_cases h : i ∈ vs
    · rw [if_pos h, if_pos (List.mem_cons_of_mem _ h)]
    · rw [if_neg h]
      by_cases e : i = v
      · subst e
        rw [if_pos List.mem_cons_self, List.set_set]
      · rw [if_neg (by simp [e, h]), List.set_comm _ _ e]
theorem wipe_wipe (σ : L2.St) : ∀ vs : List Nat, L2.wipe (L2.wipe σ vs) vs = L2.wipe σ vs
  | [] => rfl
  | v :: vs => by
    show (L2.wipe ((L2.wipe σ vs).set v none) vs).set v none = (L2.wipe σ vs).set v none
    rw [wipe_set, wipe_wipe σ vs]
    by_cases h : v ∈ vs
    · rw [if_pos h]
    · rw [if_neg h, List.set_set]
/-- a target whose names are the comprehension's own -/
def Own (vs : List Nat) (t : TG) : Prop := ∀ v σ H Q, t v σ H Q → t v σ H fun σ2 H2 => L2.wipe σ2 vs = L2.wipe σ vs ∧ Q σ2 H2
def Owns (vs : List Nat) (t : TGs) : Prop := ∀ v σ H Q, t v σ H Q → t v σ H fun σ2 H2 => L2.wipe σ2 vs = L2.wipe σ vs ∧ Q σ2 H2
theorem own_name {vs : List Nat} {i : Nat} (h : i ∈ vs) : Own vs (gName i) := fun v σ H Q q => ⟨by rw [wipe_set, if_pos h], q⟩
theorem owns_nil {vs : List Nat} : Owns vs gNil := fun v σ H Q q => ⟨q.1, rfl, q.2⟩
theorem owns_cons {vs : List Nat} {t : TG} {u : TGs} (ht : Own vs t) (mt : ∀ v σ H Q Q', (∀ σ' H', Q σ' H' → Q' σ' H') → t v σ H Q → t v σ H Q') (hu : Owns vs u) (mu : ∀ v σ H Q Q', (∀ σ' H', Q σ' H' → Q' σ' H') → u v σ H Q → u v σ H Q') : Owns vs (gCons t u) := by
  intro v σ H Q q
  obtain ⟨x, r, e, h⟩ := q
  refine ⟨x, r, e, mt _ _ _ _ _ (fun σ' H' z => ?_) (ht _ _ _ _ h)⟩
  obtain ⟨z1, z2⟩ := z
  exact mu _ _ _ _ _ (fun σ2 H2 y => ⟨y.1.trans z1, y.2⟩) (hu _ _ _ _ z2)
theorem own_tup {vs : List Nat} {K : PySem.W.Frag} {n : Nat} {t : TGs} (h : Owns vs t) : Own vs (gTup K n t) := by
  intro v σ H Q q
  obtain ⟨a, xs, e, h1, h2, h3⟩ := q
  exact ⟨a, xs, e, h1, h2, h _ _ _ _ h3⟩
theorem mono_name {i : Nat} : ∀ v σ H (Q Q' : L2.St → Hp → Prop), (∀ σ' H', Q σ' H' → Q' σ' H') → gName i v σ H Q → gName i v σ H Q' := fun _ _ _ _ _ f q => f _ _ q
theorem monos_nil : ∀ v σ H (Q Q' : L2.St → Hp → Prop), (∀ σ' H', Q σ' H' → Q' σ' H') → gNil v σ H Q → gNil v σ H Q' := fun _ _ _ _ _ f q => ⟨q.1, f _ _ q.2⟩
theorem monos_cons {t : TG} {u : TGs} (mt : ∀ v σ H Q Q', (∀ σ' H', Q σ' H' → Q' σ' H') → t v σ H Q → t v σ H Q') (mu : ∀ v σ H Q Q', (∀ σ' H', Q σ' H' → Q' σ' H') → u v σ H Q → u v σ H Q') :
    ∀ v σ H (Q Q' : L2.St → Hp → Prop), (∀ σ' H', Q σ' H' → Q' σ' H') → gCons t u v σ H Q → gCons t u v σ H Q' := by
  intro v σ H Q Q' f q
  obtain ⟨x, r, e, h⟩ := q
  exact ⟨x, r, e, mt _ _ _ _ _ (fun σ' H' z => mu _ _ _ _ _ f z) h⟩
theorem mono_tup {K : PySem.W.Frag} {n : Nat} {t : TGs} (mt : ∀ v σ H Q Q', (∀ σ' H', Q σ' H' → Q' σ' H') → t v σ H Q → t v σ H Q') :
    ∀ v σ H (Q Q' : L2.St → Hp → Prop), (∀ σ' H', Q σ' H' → Q' σ' H') → gTup K n t v σ H Q → gTup K n t v σ H Q' := by
  intro v σ H Q Q' f q
  obtain ⟨a, xs, e, h1, h2, h3⟩ := q
  exact ⟨a, xs, e, h1, h2, mt _ _ _ _ _ f h3⟩
section
variable {g : G} {E : XK}
/-- the new list is nobody's to change -/
theorem sim_lc {wi : TI} {gt : TG} {tt : TT} {te : TE} {it : IM} {gm : GM} {tm : BM} {em : EM} {vs : List Nat} (hi : SimI g E wi it) (hg : SimG g E0 gt gm) (ho : Own vs gt) (ht : SimT g E0 tt tm) (he : SimE g E0 te em) :
    SimE g E (tLc wi gt tt te vs) (mLc it gm tm em vs) := by
  intro l σ H Q ρ S env re rs p
  refine lc_turns hi hg ht he ho (wipe_wipe σ vs) re rs (f := fun xs S2 => .ok (.lst xs) S2) p fun Dl xs ws S2 ρ2 H2 e rs2 hl hD rx p2 hn nρ => ?_
  have nD : Dl ∉ ρ2 := (rs2.hd Dl List.mem_cons_self).2
  refine p2 ρ2 H2 _ e (rs2.unhide hl fun _ _ => rfl) (.lst hD ⟨nD, hl⟩ ?_)
  exact RDs.tr (g := g.hide (Dl :: l)) (g' := g.hide l) rfl (fun _ _ h => h) (show_k fun _ _ => rfl) rx
theorem sim_lcL {wi : TI} {gt : TG} {tt : TT} {te : TE} {it : IM} {gm : GM} {tm : BM} {em : EM} {vs : List Nat} (hi : SimI g E wi it) (hg : SimG g E0 gt gm) (ho : Own vs gt) (ht : SimT g E0 tt tm) (he : SimE g E0 te em) :
    SimE g E (tLc wi gt tt te vs) (mLcL it gm tm em vs) := by
  intro l σ H Q ρ S env re rs p
  refine lc_turns hi hg ht he ho (wipe_wipe σ vs) re rs (f := fun xs S2 => .ok (.loc S2.length) (S2 ++ [Ob.lst xs])) p fun Dl xs ws S2 ρ2 H2 e rs2 hl hD rx p2 hn nρ => ?_
  have nD : Dl ∉ ρ2 := (rs2.hd Dl List.mem_cons_self).2
  let H3 : Hp := fun a => if a = Dl then none else H2 a
  have k3 : ∀ a, a ≠ Dl → H3 a = H2 a := fun a h => if_neg h
  have rs3 : RS (g.hide l) ρ2 S2 H3 := rs2.unhide hl k3
  have hD3 : H3 Dl = none := if_pos rfl
  have e3 : Ex ρ H ρ2 H3 := ⟨e.new, fun a o n h => by rw [k3 a (ne_of_none h hn)]; exact e.keep a o n h⟩
  have u3 : upd H3 Dl (.lst ws) = H2 := by
    funext a
    by_cases h : a = Dl
    · rw [h, upd_same, hD]
    · rw [upd_ne h, k3 a h]
  have rx3 : RDs (g.hide l) ρ2 H3 ws xs := RDs.tr (g := g.hide (Dl :: l)) (g' := g.hide l) rfl (fun _ _ h => h) (show_k k3) rx
  obtain ⟨e4, rs4⟩ := rs3.push (o := .lst ws) (ob := .lst xs) hD3 fun ρ' H' e' q => ⟨ws, q, rx3.mono e'⟩
  rw [u3] at e4 rs4
  exact p2 _ H2 _ (e3.trans e4) rs4 (.loc (by rw [← rs2.len]; simp))
end

/-! ### defs -/
def startE (n : Nat) (ds : List D) : En := ds.map some ++ List.replicate (n - ds.length) none
def mDef (n np : Nat) (m : SM) (ds : List D) (S : Store) : Res D := if ds.length = np then
    match m (startE n ds) S with
    | .ret d S' => .ok d S'
    | .next _ S' => .ok .non S'
    | .err x S' => .err x S'
    | _ => .stuck
  else .stuck
/-- the promise of a def that goes as f -/
def spOf (g : G) (n : Nat) (f : List D → Store → Res D) : Sp := fun vs H Q E => ∃ l ρ S ds, vs.length = n ∧ RDs (g.hide l) ρ H vs ds ∧ RS (g.hide l) ρ S H ∧ PostE (g.hide l) E ρ H Q (f ds S)
section
variable {g : G} {ρ : List Addr} {H : Hp}
theorem re_none (k : Nat) : RE g ρ H (List.replicate k none) (List.replicate k none) := by
  induction k with
  | zero => exact .nil
  | succ k ih => exact .cons (fun x q => by cases q) ih
theorem re_app : ∀ {σ σ' : L2.St} {e e' : En}, RE g ρ H σ e → RE g ρ H σ' e' → RE g ρ H (σ ++ σ') (e ++ e')
  | _, _, _, _, .nil, s => s
  | _, _, _, _, .cons h t, s => .cons h (re_app t s)
theorem re_some : ∀ {vs : List V} {ds : List D}, RDs g ρ H vs ds → RE g ρ H (vs.map some) (ds.map some)
  | _, _, .nil => .nil
  | _, _, .cons h t => .cons (fun x q => by cases q; exact ⟨_, rfl, h⟩) (re_some t)
theorem re_start {N : List PySem.Str} {vs : List V} {ds : List D} (r : RDs g ρ H vs ds) : RE g ρ H (L2.start N vs) (startE N.length ds) := by
  unfold L2.start startE
  rw [r.length]
  exact re_app (re_some r) (re_none _)
end
section
variable {P : Program} {w : World} {K : PySem.W.Frag} {mg : PySem.Str → Option Value} {base : Heap} {g : G}
/-- THE RULE for a def -/
theorem fn_sim {x qual : PySem.Str} {st : Stmt} {f : Addr} {fd : FuncData} {N ps : List PySem.Str} {k : Nat} {m : SM} (F : Fun K x qual st f fd) (Sc : FnScope N ps (defScope st))
    (hb : ∀ (cdv : Value) (A : Around) (outer : List Env) (s : Shared) (H : Hp) (E : XK), Room k (A.deeper (PyProof.Rows.envOfC qual (defScope st) s.heap.objs.size f cdv)) →
      ∃ t, PSs (cxOf (L2.CX P w) P w K mg base N qual (defScope st) f cdv A outer s H E) (defBody st) t ∧ SimS g E t m) :
    FnOk P w K mg base (L2.CX P w) (k + 1) f fd ps (spOf g ps.length (mDef N.length ps.length m)) := by
  refine F.okX Sc (fun vs H Q E h => ?_) (fun cdv A outer s H vs Q E hr h => ?_)
  · obtain ⟨l, ρ, S, ds, hl, _⟩ := h
    exact hl
  · obtain ⟨l, ρ, S, ds, hl, rd, rs, p⟩ := h
    obtain ⟨t, ht, hs⟩ := hb cdv A outer s H E hr
    refine ⟨t, ht, hs l _ _ H ρ S (startE N.length ds) (re_start rd) rs ?_⟩
    unfold mDef at p
    rw [if_pos (by rw [← rd.length]; exact hl)] at p
    cases e : m (startE N.length ds) S with
    | ret d S' => rw [e] at p; exact p
    | next env' S' => rw [e] at p; exact fun ρ' H' σ' e1 rs1 re1 => p ρ' H' .non e1 rs1 .non
    | err x S' => rw [e] at p; exact p
    | brk env' S' => rw [e] at p; exact p.elim
    | cont env' S' => rw [e] at p; exact p.elim
    | stuck => rw [e] at p; exact p.elim
end
theorem mDef_len {n np : Nat} {m : SM} {ds : List D} {S : Store} (h : ds.length ≠ np) : mDef n np m ds S = .stuck := by
  unfold mDef; rw [if_neg h]
/-- what goes only with n things -/
def Ar (n : Nat) (f : List D → Store → Res D) : Prop := ∀ ds S, ds.length ≠ n → f ds S = .stuck
theorem ar_def {n np : Nat} {m : SM} : Ar np (mDef n np m) := fun _ _ h => mDef_len h
section
variable {g : G} {E : XK}
theorem sp_go {n : Nat} {f : List D → Store → Res D} (ha : Ar n f) {l : List Addr} {ρ : List Addr} {S : Store} {H : Hp} {Q : VK} {vs : List V} {ds : List D} (r : RDs (g.hide l) ρ H vs ds) (rs : RS (g.hide l) ρ S H) (p : PostE (g.hide l) E ρ H Q (f ds S)) : spOf g n f vs H Q E := by
  refine ⟨l, ρ, S, ds, ?_, r, rs, p⟩
  by_cases h : ds.length = n
  · rw [r.length]; exact h
  · rw [ha ds S h] at p; exact p.elim
theorem sim_call {n : Nat} {f : List D → Store → Res D} {ta : TA} {a : AM} (hf : Ar n f) (ha : SimA g E ta a) : SimE g E (tCall (spOf g n f) [] E ta) (mCall f a) := by
  intro l σ H Q ρ S env re rs p
  refine ha.bind re rs p fun ds S1 ρ1 H1 vs e1 rs1 rx re1 p1 => ?_
  show spOf g n f (vs ++ []) H1 Q E
  rw [List.append_nil]
  exact sp_go hf rx rs1 p1
/-- with defaults -/
def mCallD (f : List D → Store → Res D) (dd : List D) (a : AM) : EM := fun env S => (a env S).bind fun ds S1 => f (ds ++ dd) S1
theorem sim_callD {n : Nat} {f : List D → Store → Res D} {ta : TA} {a : AM} {dvs : List V} {dd : List D} (hf : Ar n f) (hd : ∀ l ρ H, RDs (g.hide l) ρ H dvs dd) (ha : SimA g E ta a) : SimE g E (tCall (spOf g n f) dvs E ta) (mCallD f dd a) := by
  intro l σ H Q ρ S env re rs p
  exact ha.bind re rs p fun ds S1 ρ1 H1 vs e1 rs1 rx re1 p1 => sp_go hf (rx.append (hd l ρ1 H1)) rs1 p1

/-! ### objects -/
def lookF (f : PySem.Str) (fs : List (PySem.Str × D)) : Option D := fs.lookup f
/-- the object of the class c at d: its fields -/
def insAt (c : Nat) (d : D) (S : Store) : Option (List (PySem.Str × D)) := match d with
  | .loc n => match S[n]? with
    | some (.ins c' fs) => if c' = c then some fs else none
    | _ => none
  | _ => none
def mFld (c : Nat) (f : PySem.Str) (a : EM) : EM := fun env S => (a env S).bind fun d S1 => match insAt c d S1 with
  | some fs => match fs.lookup f with
    | some x => .ok x S1
    | none => .stuck
  | none => .stuck
def mMeth (c : Nat) (m : PySem.Str) (f : List D → Store → Res D) (dd : List D) (a : EM) (as : AM) : EM := fun env S => (a env S).bind fun d S1 => match insAt c d S1 with
  | some fs => match fs.lookup m with
    | none => (as env S1).bind fun ds S2 => f (d :: (ds ++ dd)) S2
    | some _ => .stuck
  | none => .stuck
def mMake (c : Nat) (f : List D → Store → Res D) (dd : List D) (as : AM) : EM := fun env S => (as env S).bind fun ds S1 => (f (.loc S1.length :: (ds ++ dd)) (S1 ++ [.ins c []])).bind fun v S2 => match v with
  | .non => .ok (.loc S1.length) S2
  | _ => .stuck
def putD (f : PySem.Str) (v : D) : List (PySem.Str × D) → List (PySem.Str × D)
  | [] => [(f, v)]
  | (h, x) :: r => if h = f then (h, v) :: r else (h, x) :: putD f v r
def sFldM (c : Nat) (f : PySem.Str) (o a : EM) : SM := fun env S => (a env S).bindS fun y S1 => (o env S1).bindS fun d S2 => match d with
  | .loc n => match S2[n]? with
    | some (.ins c' fs) => if c' = c ∧ fs.length < 1000 then .next env (S2.set n (.ins c (putD f y fs))) else .stuck
    | _ => .stuck
  | _ => .stuck
theorem RKV.lookup {ρ : List Addr} {H : Hp} {f : PySem.Str} : ∀ {xs : List (PySem.Str × V)} {ys : List (PySem.Str × D)}, RKV g ρ H xs ys → (∀ d, ys.lookup f = some d → ∃ v, xs.lookup f = some v ∧ RD g ρ H v d) ∧ (ys.lookup f = none → xs.lookup f = none)
  | _, _, .nil => ⟨fun d h => (nomatch h), fun _ => rfl⟩
  | (k1, v1) :: xs, (k2, d2) :: ys, .cons h t => by
    obtain ⟨e, r⟩ := h
    have e : k1 = k2 := e
    subst e
    have ih := RKV.lookup (f := f) t
    by_cases q : f = k1
    · subst q
      refine ⟨fun d h => ?_, fun h => ?_⟩
      · simp [List.lookup_cons_self] at h ⊢
        subst h; exact r
      · simp [List.lookup_cons_self] at h
    · have q' : (f == k1) = false := by simpa using q
      simp only [List.lookup_cons, q']
      exact ih
theorem RKV.length {κ : Type} {ρ : List Addr} {H : Hp} {xs : List (κ × V)} {ys : List (κ × D)} (r : RKV g ρ H xs ys) : xs.length = ys.length := Paired.length r
theorem RKV.putF {ρ : List Addr} {H : Hp} {f : PySem.Str} {v : V} {d : D} (rv : RD g ρ H v d) : ∀ {xs : List (PySem.Str × V)} {ys : List (PySem.Str × D)}, RKV g ρ H xs ys → RKV g ρ H (L2.putF f v xs) (putD f d ys)
  | _, _, .nil => .cons ⟨rfl, rv⟩ .nil
  | (k1, v1) :: xs, (k2, d2) :: ys, .cons h t => by
    obtain ⟨e, r⟩ := h
    have e : k1 = k2 := e
    subst e
    show RKV g ρ H (if k1 = f then (k1, v) :: xs else (k1, v1) :: L2.putF f v xs) (if k1 = f then (k1, d) :: ys else (k1, d2) :: putD f d ys)
    by_cases q : k1 = f
    · rw [if_pos q, if_pos q]; exact .cons ⟨rfl, rv⟩ t
    · rw [if_neg q, if_neg q]; exact .cons ⟨rfl, r⟩ (RKV.putF rv t)
theorem ins_at {l : List Addr} {ρ : List Addr} {S : Store} {H : Hp} {c : Nat} {v : V} {d : D} {fs : List (PySem.Str × D)} (rs : RS (g.hide l) ρ S H) (r : RD (g.hide l) ρ H v d) (h : insAt c d S = some fs) : ∃ n a dx fv, d = .loc n ∧ ρ[n]? = some a ∧ v = .ref a ∧ S[n]? = some (.ins c fs) ∧ H a = some (.ins (g.cls c) dx fv) ∧ RKV (g.hide l) ρ H fv fs := by
  cases r with
  | @loc n a hn =>
    unfold insAt at h
    dsimp only at h
    cases e : S[n]? with
    | none => rw [e] at h; cases h
    | some ob =>
      rw [e] at h
      cases ob with
      | ins c' fs' =>
        dsimp only at h
        by_cases q : c' = c
        · subst q
          rw [if_pos rfl] at h; cases h
          obtain ⟨dx, fv, h1, h2⟩ := rs.ob n a _ hn e
          exact ⟨n, a, dx, fv, rfl, hn, rfl, e, h1, h2⟩
        · rw [if_neg q] at h; cases h
      | _ => cases h
  | _ => cases h
theorem sim_fld {c : Nat} {f : PySem.Str} {K : PySem.W.Frag} {ta : TE} {a : EM} (cl : Cls K (g.cls c)) (na : NoAttr K (g.cls c) f) (ha : SimE g E ta a) : SimE g E (tFld K ta f) (mFld c f a) := by
  intro l σ H Q ρ S env re rs p
  refine ha.bind re rs p fun d S1 ρ1 H1 v e1 rs1 rx re1 p1 => ?_
  cases hI : insAt c d S1 with
  | none => rw [hI] at p1; exact p1.elim
  | some fs =>
    rw [hI] at p1
    dsimp only at p1
    obtain ⟨n, ad, dx, fv, e2, hn, e3, hS, hH, rk⟩ := ins_at rs1 rx hI
    cases hF : fs.lookup f with
    | none => rw [hF] at p1; exact p1.elim
    | some x =>
      rw [hF] at p1
      obtain ⟨y, h1, h2⟩ := (rk.lookup (f := f)).1 x hF
      exact ⟨ad, _, dx, fv, y, e3, hH, cl, na, h1, p1 ρ1 H1 y Ex.refl rs1 h2⟩
theorem sim_meth {n : Nat} {c : Nat} {m : PySem.Str} {f : List D → Store → Res D} {ta : TE} {a : EM} {tas : TA} {as : AM} {dvs : List V} {dd : List D} (hf : Ar n f) (hd : ∀ l ρ H, RDs (g.hide l) ρ H dvs dd) (ha : SimE g E ta a) (has : SimA g E tas as) :
    SimE g E (tMeth (g.cls c) m (spOf g n f) dvs E ta tas) (mMeth c m f dd a as) := by
  intro l σ H Q ρ S env re rs p
  refine ha.bind re rs p fun d S1 ρ1 H1 v e1 rs1 rx re1 p1 => ?_
  cases hI : insAt c d S1 with
  | none => rw [hI] at p1; exact p1.elim
  | some fs =>
    rw [hI] at p1
    dsimp only at p1
    obtain ⟨n, ad, dx, fv, e2, hn, e3, hS, hH, rk⟩ := ins_at rs1 rx hI
    cases hF : fs.lookup m with
    | some x => rw [hF] at p1; exact p1.elim
    | none =>
      rw [hF] at p1
      dsimp only at p1
      refine ⟨ad, dx, fv, e3, hH, (rk.lookup (f := m)).2 hF, ?_⟩
      exact has.bind re1 rs1 p1 fun ds S2 ρ2 H2 vs e4 rs2 ry re2 p2 => sp_go hf (.cons (rx.mono e4) (ry.append (hd l ρ2 H2))) rs2 p2
theorem sim_make {n : Nat} {c : Nat} {f : List D → Store → Res D} {tas : TA} {as : AM} {dvs : List V} {dd : List D} (hf : Ar n f) (hd : ∀ l ρ H, RDs (g.hide l) ρ H dvs dd) (has : SimA g E tas as) : SimE g E (tMake (g.cls c) (spOf g n f) dvs E tas) (mMake c f dd as) := by
  intro l σ H Q ρ S env re rs p
  refine has.bind re rs p fun ds S1 ρ1 H1 vs e1 rs1 rx re1 p1 => ?_
  intro x dx hx hdx ne
  have e2 : Ex ρ1 H1 ρ1 (upd H1 dx (.own x)) := Ex.new1 hdx
  have rs2 := rs1.aside (o := .own x) hdx
  have hx2 : upd H1 dx (.own x) x = none := by rw [upd_ne (Ne.symm ne)]; exact hx
  obtain ⟨e3, rs3⟩ := rs2.push (o := .ins (g.cls c) dx []) (ob := .ins c []) hx2 fun ρ' H' e' q => ⟨dx, [], q, RKV.mt⟩
  have e13 := e2.trans e3
  have rself : RD (g.hide l) (ρ1 ++ [x]) (upd (upd H1 dx (.own x)) x (.ins (g.cls c) dx [])) (.ref x) (.loc S1.length) := .loc (by rw [← rs1.len]; simp)
  refine sp_go hf (.cons rself ((rx.mono e13).append (hd l _ _))) rs3 ?_
  have p2 := PostE.ex p1 e13
  cases ef : f (.loc S1.length :: (ds ++ dd)) (S1 ++ [.ins c []]) with
  | err x' S' => rw [ef] at p2; exact p2
  | stuck => rw [ef] at p2; exact p2.elim
  | ok v S2 =>
    rw [ef] at p2
    simp only [Res.bind] at p2
    intro ρ' H' u e4 rs4 ru
    cases ru with
    | non => exact ⟨rfl, p2 ρ' H' _ e4 rs4 (.loc (e4.at (by rw [← rs1.len]; simp)))⟩
    | _ => exact p2.elim
theorem sims_fld {c : Nat} {f : PySem.Str} {K : PySem.W.Frag} {to ta : TE} {o a : EM} (cl : Cls K (g.cls c)) (na : NoAttr K (g.cls c) f) (ho : SimE g E to o) (ha : SimE g E ta a) : SimS g E (sFld K to ta f) (sFldM c f o a) := by
  intro l D' σ H ρ S env re rs p
  refine ha.bindS re rs p fun y S1 ρ1 H1 v e1 rs1 ry re1 p1 => ?_
  refine ho.bindS re1 rs1 p1 fun d S2 ρ2 H2 u e2 rs2 rd re2 p2 => ?_
  cases rd with
  | @loc n ad hn =>
    dsimp only at p2
    cases e : S2[n]? with
    | none => rw [e] at p2; exact p2.elim
    | some ob =>
      rw [e] at p2
      cases ob with
      | ins c' fs =>
        dsimp only at p2
        by_cases q : c' = c ∧ fs.length < 1000
        · rw [if_pos q] at p2
          obtain ⟨rfl, hl⟩ := q
          obtain ⟨dx, fv, h1, h2⟩ := rs2.ob n ad _ hn e
          obtain ⟨e3, rs3⟩ := rs2.put (o := .ins (g.cls c') dx (putF f v fv)) (ob := .ins c' (putD f y fs)) hn fun H' e' q' => ⟨dx, _, q', (h2.mono e').putF ((ry.mono e2).mono e')⟩
          exact ⟨ad, _, dx, fv, rfl, h1, cl, na, by rw [h2.length]; exact hl, p2 ρ2 _ σ e3 rs3 (re2.mono e3)⟩
        · rw [if_neg q] at p2; exact p2.elim
      | _ => exact p2.elim
  | _ => exact p2.elim
end
end Lg
namespace Lg
open PySem L2
section
variable {P : Program} {w : World} {K : PySem.W.Frag} {mg : PySem.Str → Option Value} {base : Heap} {N : List PySem.Str} {qual : PySem.Str} {scope : Scope} {f : Addr} {cd : Value} {A : Around} {outer : List Env} {s : Shared} {H : Hp} {E : XK}
theorem pD : Passes (L2.CX P w) (cxOf (L2.CX P w) P w K mg base N qual scope f cd A outer s H E) E := passes_call (takes_of rfl rfl rfl rfl) (fun _ _ _ _ h => h)
end
end Lg

namespace Lg
open PySem L2

/-! ### data as the library's data -/
mutual
def D.py : D → Option PyData
  | .non => some .none
  | .bl b => some (.bool b)
  | .int i => some (.int i)
  | .str s => some (.str s)
  | .tup ds => (pys ds).map .tuple
  | .tupX ds => (pys ds).map .tuple
  | .lst ds => (pys ds).map .list
  | _ => none
def pys : List D → Option (List PyData)
  | [] => some []
  | d :: ds => match d.py, pys ds with
    | some p, some ps => some (p :: ps)
    | _, _ => none
end
section
variable {g : G} {K : PySem.W.Frag} {ρ : List Addr} {H : Hp}
theorem dp_both {v : V} {d : D} (r : RD g ρ H v d) : ∀ p, d.py = some p → Dp K H v p := by
  refine RD.rec (motive_1 := fun v d _ => ∀ p, d.py = some p → Dp K H v p) (motive_2 := fun vs ds _ => ∀ ps, pys ds = some ps → DpAll K H vs ps) ?_ ?_ ?_ ?_ ?_ ?_ ?_ ?_ ?_ ?_ ?_ ?_ ?_ r
  · intro p h; simp [D.py] at h; subst h; exact .non
  · intro b p h; simp [D.py] at h; subst h; exact .bl b
  · intro i p h; simp [D.py] at h; subst h; exact .int i
  · intro s p h; simp [D.py] at h; subst h; exact .str s
  · intro a vs ds h n _ ih p e
    simp only [D.py, Option.map_eq_some_iff] at e
    obtain ⟨ps, e1, rfl⟩ := e
    exact .tup (SqT.of h) (ih ps e1)
  · intro a vs ds h n _ ih p e
    simp only [D.py, Option.map_eq_some_iff] at e
    obtain ⟨ps, e1, rfl⟩ := e
    exact .lst (SqL.of h) (ih ps e1)
  · intro a ns n p e; simp [D.py] at e
  · intro n a h p e; simp [D.py] at e
  · intro a o h n p e; simp [D.py] at e
  · intro a h n p e; simp [D.py] at e
  · intro a o vs ds h hd n _ ih p e
    simp only [D.py, Option.map_eq_some_iff] at e
    obtain ⟨ps, e1, rfl⟩ := e
    exact .tup (.inl (.inr ⟨o, h⟩)) (ih ps e1)
  · intro ps e; simp [pys] at e; subst e; exact .nil
  · intro v d vs ds _ _ ih1 ih2 ps e
    simp only [pys] at e
    split at e
    · rename_i p ps' e1 e2
      cases e
      exact .cons (ih1 p e1) (ih2 ps' e2)
    · cases e
theorem dps_of : ∀ {vs : List V} {ds : List D} {ps : List PyData}, RDs g ρ H vs ds → pys ds = some ps → DpAll K H vs ps
  | _, _, ps, .nil, e => by simp [pys] at e; subst e; exact .nil
  | _, _, ps, .cons h t, e => by
    simp only [pys] at e
    split at e
    · rename_i p ps' e1 e2
      cases e
      exact .cons (dp_both h p e1) (dps_of t e2)
    · cases e
end
/-- the items of a list, wherever it stands -/
def asL (d : D) (S : Store) : Option (List D) := match d with
  | .lst ds => some ds
  | .loc n => match S[n]? with
    | some (.lst ds) => some ds
    | _ => none
  | _ => none
def pyOf (d : D) (S : Store) : Option PyData := match d with
  | .loc n => match S[n]? with
    | some (.lst ds) => (pys ds).map .list
    | _ => none
  | d => d.py
section
variable {g : G} {K : PySem.W.Frag} {ρ : List Addr} {H : Hp} {S : Store} {v : V} {d : D}
theorem as_l {ds : List D} (rs : RS g ρ S H) (r : RD g ρ H v d) (h : asL d S = some ds) : ∃ a vs, v = .ref a ∧ H a = some (.lst vs) ∧ RDs g ρ H vs ds := by
  cases r with
  | @lst a vs ds' h1 n r => cases h; exact ⟨a, vs, rfl, h1, r⟩
  | @loc n a hn =>
    simp only [asL] at h
    split at h
    · rename_i ds' e
      cases h
      obtain ⟨vs, h1, h2⟩ := rs.ob n a _ hn e
      exact ⟨a, vs, rfl, h1, h2⟩
    · cases h
  | _ => cases h
theorem py_of {p : PyData} (rs : RS g ρ S H) (r : RD g ρ H v d) (h : pyOf d S = some p) : Dp K H v p := by
  cases r with
  | @loc n a hn =>
    simp only [pyOf] at h
    split at h
    · rename_i ds' e
      obtain ⟨vs, h1, h2⟩ := rs.ob n a _ hn e
      simp only [Option.map_eq_some_iff] at h
      obtain ⟨ps, e1, rfl⟩ := h
      exact .lst (SqL.of h1) (dps_of h2 e1)
    · cases h
  | non => exact dp_both (g := g) (ρ := ρ) .non p h
  | bl b => exact dp_both (g := g) (ρ := ρ) (.bl b) p h
  | int i => exact dp_both (g := g) (ρ := ρ) (.int i) p h
  | str s => exact dp_both (g := g) (ρ := ρ) (.str s) p h
  | tup h1 n r => exact dp_both (.tup h1 n r) p h
  | lst h1 n r => exact dp_both (.lst h1 n r) p h
  | scr n => exact dp_both (.scr n) p h
  | empF h1 n => exact dp_both (.empF h1 n) p h
  | empU h1 n => exact dp_both (.empU h1 n) p h
  | tupX h1 hd n r => exact dp_both (.tupX h1 hd n r) p h
end

/-! ### arithmetic, gluing -/
/-- one of two tuples, where the other one is empty; else a new one -/
def catX (a b : List D) (x y : D) : D := match a, b with
  | [], _ => y
  | _ :: _, [] => x
  | a, b => .tup (a ++ b)
def dAdd (x y : D) (S : Store) : Res D := match x, y with
  | .int i, .int j => .ok (.int (i + j)) S
  | .str a, .str b => if a.length + b.length ≤ sizeLine then .ok (.str (a ++ b)) S else .stuck
  | .tup a, .tup b => if a.length + b.length ≤ sizeLine then .ok (.tup (a ++ b)) S else .stuck
  | .tupX a, .tup b => if a.length + b.length ≤ sizeLine then .ok (catX a b (.tupX a) (.tup b)) S else .stuck
  | .tup a, .tupX b => if a.length + b.length ≤ sizeLine then .ok (catX a b (.tup a) (.tupX b)) S else .stuck
  | .tupX a, .tupX b => if a.length + b.length ≤ sizeLine then .ok (catX a b (.tupX a) (.tupX b)) S else .stuck
  | x, y => match asL x S, asL y S with
    | some a, some b => if a.length + b.length ≤ sizeLine then .ok (.lst (a ++ b)) S else .stuck
    | _, _ => .stuck
def dInt (f : Int → Int → Option D) (x y : D) (S : Store) : Res D := match x, y with
  | .int i, .int j => match f i j with
    | some d => .ok d S
    | none => .stuck
  | _, _ => .stuck
abbrev dSub := dInt fun i j => some (.int (i - j))
instance (i j : Int) : Decidable (CMulW i j) := inferInstanceAs (Decidable (_ < _))
instance (i j : Int) : Decidable (CDivW i j) := inferInstanceAs (Decidable (_ ∧ _))
instance (i j : Int) : Decidable (CPow i j) := inferInstanceAs (Decidable (_ ∧ _ ∧ _))
abbrev dMul := dInt fun i j => if CMulW i j then some (.int (i * j)) else none
abbrev dDiv := dInt fun i j => if CDivW i j then some (.int (i / j)) else none
abbrev dMod := dInt fun i j => if 0 < j then some (.int (i % j)) else none
abbrev dPow := dInt fun i j => if CPow i j then some (.int (i ^ j.toNat)) else none
abbrev dLt := dInt fun i j => some (.bl (decide (i < j)))
abbrev dLe := dInt fun i j => some (.bl (decide (i ≤ j)))
abbrev dGt := dInt fun i j => some (.bl (decide (j < i)))
abbrev dGe := dInt fun i j => some (.bl (decide (j ≤ i)))
def dNeg (x : D) (S : Store) : Res D := match x with
  | .int i => .ok (.int (-i)) S
  | _ => .stuck
def dEqB (x y : D) (S : Store) : Option Bool := match pyOf x S, pyOf y S with
  | some p, some q => if SeqAt.shaped p = true ∧ SeqAt.shaped q = true then some (PyData.eqv p q) else none
  | _, _ => none
def dEq (x y : D) (S : Store) : Res D := match dEqB x y S with
  | some b => .ok (.bl b) S
  | none => .stuck
def dNe (x y : D) (S : Store) : Res D := match dEqB x y S with
  | some b => .ok (.bl (!b)) S
  | none => .stuck
def dIsN (x y : D) (S : Store) : Res D := match x, y with
  | .non, .non => .ok (.bl true) S
  | _, .non => .ok (.bl false) S
  | _, _ => .stuck
def dNotN (x y : D) (S : Store) : Res D := match x, y with
  | .non, .non => .ok (.bl false) S
  | _, .non => .ok (.bl true) S
  | _, _ => .stuck

section
variable {g : G} {E : XK} {K : PySem.W.Frag} {X : Cx}
theorem rd_int {l : List Addr} {ρ : List Addr} {H : Hp} {v : V} {i : Int} (r : RD (g.hide l) ρ H v (.int i)) : v = .int i := by cases r; rfl
theorem sim_int0 {f : Int → Int → D} {h : Int → Int → V} (hr : ∀ i j l ρ H, RD (g.hide l) ρ H (h i j) (f i j)) : OpSim g E (rI0 h) (dInt fun i j => some (f i j)) := by
  intro l x y H Q ρ S dx dy rx ry rs p
  unfold dInt at p
  split at p
  · cases rx; cases ry
    exact ⟨_, _, rfl, rfl, p ρ H _ Ex.refl rs (hr _ _ _ _ _)⟩
  · exact p.elim
theorem sim_intC {C : Int → Int → Prop} [∀ i j, Decidable (C i j)] {f : Int → Int → D} {h : Int → Int → V} (hr : ∀ i j l ρ H, RD (g.hide l) ρ H (h i j) (f i j)) : OpSim g E (rI C h) (dInt fun i j => if C i j then some (f i j) else none) := by
  intro l x y H Q ρ S dx dy rx ry rs p
  unfold dInt at p
  split at p
  · rename_i i j
    cases rx; cases ry
    by_cases c : C i j
    · simp only [if_pos c] at p
      exact ⟨_, _, rfl, rfl, c, p ρ H _ Ex.refl rs (hr _ _ _ _ _)⟩
    · simp only [if_neg c] at p; exact p.elim
  · exact p.elim
theorem sim_sub : OpSim g E (rI0 fun i j => .int (i - j)) dSub := sim_int0 fun _ _ _ _ _ => .int _
theorem sim_mul : OpSim g E (rI CMulW fun i j => .int (i * j)) dMul := sim_intC fun _ _ _ _ _ => .int _
theorem sim_div : OpSim g E (rI CDivW fun i j => .int (i / j)) dDiv := sim_intC fun _ _ _ _ _ => .int _
theorem sim_mod : OpSim g E (rI (fun _ j => 0 < j) fun i j => .int (i % j)) dMod := sim_intC (C := fun _ j => 0 < j) fun _ _ _ _ _ => .int _
theorem sim_pow : OpSim g E (rI CPow fun i j => .int (i ^ j.toNat)) dPow := sim_intC fun _ _ _ _ _ => .int _
theorem sim_lt : OpSim g E (rI0 fun i j => .bl (decide (i < j))) dLt := sim_int0 fun _ _ _ _ _ => .bl _
theorem sim_le : OpSim g E (rI0 fun i j => .bl (decide (i ≤ j))) dLe := sim_int0 fun _ _ _ _ _ => .bl _
theorem sim_gt : OpSim g E (rI0 fun i j => .bl (decide (j < i))) dGt := sim_int0 fun _ _ _ _ _ => .bl _
theorem sim_ge : OpSim g E (rI0 fun i j => .bl (decide (j ≤ i))) dGe := sim_int0 fun _ _ _ _ _ => .bl _
theorem sim_neg : UnSim g E (rU fun i => .int (-i)) dNeg := by
  intro l x H Q ρ S dx rx rs p
  cases rx with
  | int i => exact ⟨i, rfl, p ρ H _ Ex.refl rs (.int _)⟩
  | _ => exact p.elim
/-- + of all kinds -/
def rAddA (K : PySem.W.Frag) : R2 := fun x y H Q => (∃ i j, x = .int i ∧ y = .int j ∧ Q (.int (i + j)) H) ∨ (∃ i j, x = .str i ∧ y = .str j ∧ i.length + j.length ≤ sizeLine ∧ Q (.str (i ++ j)) H) ∨ rCatA K x y H Q ∨ rCat x y H Q
theorem op_addA : OpR X (binaryOp .Add) (rAddA X.K) := op_add.or (op_add_str.or (op_catA.or op_cat))
theorem cat_rel {l : List Addr} {Q : VK} {ρ : List Addr} {H : Hp} {S : Store} {a b : Addr} {vs ws : List V} {ds es : List D} {x y : D} (rs : RS (g.hide l) ρ S H) (ha : SqT K H a vs) (hb : SqT K H b ws) (ra : RDs (g.hide l) ρ H vs ds) (rb : RDs (g.hide l) ρ H ws es) (rx : RD (g.hide l) ρ H (.ref a) x) (ry : RD (g.hide l) ρ H (.ref b) y) (hz : ds.length + es.length ≤ sizeLine)
    (p : PostE (g.hide l) E ρ H Q (.ok (catX ds es x y) S)) : rCatA K (.ref a) (.ref b) H Q := by
  refine ⟨a, b, vs, ws, rfl, rfl, ha, hb, by rw [ra.length, rb.length]; exact hz, fun e => ?_, fun e e' => ?_, fun e e' q hq => ?_⟩
  · subst e
    cases ra
    exact p ρ H _ Ex.refl rs ry
  · subst e'
    cases rb
    cases ra with
    | nil => exact absurd rfl e
    | cons h t => exact p ρ H _ Ex.refl rs rx
  · cases ra with
    | nil => exact absurd rfl e
    | cons h t =>
      cases rb with
      | nil => exact absurd rfl e'
      | cons h2 t2 => exact p ρ _ _ (Ex.new1 hq) (rs.aside hq) (.tup upd_same (rs.fresh hq) (((RDs.cons h t).append (RDs.cons h2 t2)).mono (Ex.new1 hq)))
theorem sim_add : OpSim g E (rAddA K) dAdd := by
  intro l x y H Q ρ S dx dy rx ry rs p
  unfold dAdd at p
  split at p
  · cases rx; cases ry
    exact .inl ⟨_, _, rfl, rfl, p ρ H _ Ex.refl rs (.int _)⟩
  · cases rx; cases ry
    split at p
    · rename_i hz; exact .inr (.inl ⟨_, _, rfl, rfl, hz, p ρ H _ Ex.refl rs (.str _)⟩)
    · exact p.elim
  · cases rx with
    | @tup a vs ds ha na ra =>
      cases ry with
      | @tup b ws es hb nb rb =>
        split at p
        · rename_i hz
          refine .inr (.inr (.inl ⟨a, b, vs, ws, rfl, rfl, SqT.of ha, SqT.of hb, by rw [ra.length, rb.length]; exact hz, fun e => ?_, fun e e' => ?_, fun e e' q hq => ?_⟩))
          · subst e
            cases ra
            exact p ρ H _ Ex.refl rs (.tup hb nb (by simpa using rb))
          · subst e'
            cases rb
            exact p ρ H _ Ex.refl rs (.tup ha na (by simpa using ra))
          · exact p ρ _ _ (Ex.new1 hq) (rs.aside hq) (.tup upd_same (rs.fresh hq) ((ra.append rb).mono (Ex.new1 hq)))
        · exact p.elim
  · cases rx with
    | @tupX a o vs ds ha hd na ra =>
      cases ry with
      | @tup b ws es hb nb rb =>
        split at p
        · rename_i hz; exact .inr (.inr (.inl (cat_rel rs (.inl (.inr ⟨o, ha⟩)) (SqT.of hb) ra rb (.tupX ha hd na ra) (.tup hb nb rb) hz p)))
        · exact p.elim
  · cases rx with
    | @tup a vs ds ha na ra =>
      cases ry with
      | @tupX b o ws es hb hd nb rb =>
        split at p
        · rename_i hz; exact .inr (.inr (.inl (cat_rel rs (SqT.of ha) (.inl (.inr ⟨o, hb⟩)) ra rb (.tup ha na ra) (.tupX hb hd nb rb) hz p)))
        · exact p.elim
  · cases rx with
    | @tupX a o vs ds ha hd na ra =>
      cases ry with
      | @tupX b o2 ws es hb hd2 nb rb =>
        split at p
        · rename_i hz; exact .inr (.inr (.inl (cat_rel rs (.inl (.inr ⟨o, ha⟩)) (.inl (.inr ⟨o2, hb⟩)) ra rb (.tupX ha hd na ra) (.tupX hb hd2 nb rb) hz p)))
        · exact p.elim
  · split at p
    · rename_i a b ea eb
      obtain ⟨a1, vs, rfl, h1, r1⟩ := as_l rs rx ea
      obtain ⟨b1, ws, rfl, h2, r2⟩ := as_l rs ry eb
      split at p
      · rename_i hz
        refine .inr (.inr (.inr ⟨a1, b1, vs, ws, rfl, rfl, h1, h2, by rw [r1.length, r2.length]; exact hz, fun q hq => ?_⟩))
        exact p ρ _ _ (Ex.new1 hq) (rs.aside hq) (.lst upd_same (rs.fresh hq) ((r1.append r2).mono (Ex.new1 hq)))
      · exact p.elim
    · exact p.elim
theorem sim_eq : OpSim g E (rEqD K) dEq := by
  intro l x y H Q ρ S dx dy rx ry rs p
  unfold dEq dEqB at p
  split at p
  · rename_i b e
    split at e
    · rename_i p1 p2 e1 e2
      split at e
      · rename_i hs
        cases e
        exact ⟨p1, p2, py_of rs rx e1, py_of rs ry e2, hs.1, hs.2, p ρ H _ Ex.refl rs (.bl _)⟩
      · cases e
    · cases e
  · exact p.elim
theorem sim_ne : OpSim g E (rNeD K) dNe := by
  intro l x y H Q ρ S dx dy rx ry rs p
  unfold dNe dEqB at p
  split at p
  · rename_i b e
    split at e
    · rename_i p1 p2 e1 e2
      split at e
      · rename_i hs
        cases e
        exact ⟨p1, p2, py_of rs rx e1, py_of rs ry e2, hs.1, hs.2, p ρ H _ Ex.refl rs (.bl _)⟩
      · cases e
    · cases e
  · exact p.elim
theorem sim_isN : OpSim g E (fun x y H Q => y = .non ∧ Q (.bl (decide (x = .non))) H) dIsN := by
  intro l x y H Q ρ S dx dy rx ry rs p
  unfold dIsN at p
  split at p
  · cases rx; cases ry; exact ⟨rfl, p ρ H _ Ex.refl rs (.bl _)⟩
  · rename_i hne
    cases ry
    refine ⟨rfl, ?_⟩
    have : decide (x = .non) = false := by
      cases rx with
      | non => exact absurd rfl hne
      | _ => rfl
    rw [this]; exact p ρ H _ Ex.refl rs (.bl _)
  · exact p.elim
theorem sim_notN : OpSim g E (fun x y H Q => y = .non ∧ Q (.bl (!decide (x = .non))) H) dNotN := by
  intro l x y H Q ρ S dx dy rx ry rs p
  unfold dNotN at p
  split at p
  · cases rx; cases ry; exact ⟨rfl, p ρ H _ Ex.refl rs (.bl _)⟩
  · rename_i hne
    cases ry
    refine ⟨rfl, ?_⟩
    have : decide (x = .non) = false := by
      cases rx with
      | non => exact absurd rfl hne
      | _ => rfl
    rw [this]; exact p ρ H _ Ex.refl rs (.bl _)
  · exact p.elim
end

/-! ### items, slices -/
def strAt (z : PySem.Str) (i : Int) : Option D := (atI z.cps.toList i).map fun c => .str ⟨#[c]⟩
def dIx (x y : D) (S : Store) : Res D := match x, y with
  | .tup ds, .int i => match atI ds i with
    | some d => .ok d S
    | none => .stuck
  | .tupX ds, .int i => match atI ds i with
    | some d => .ok d S
    | none => .stuck
  | .str z, .int i => if z.length ≤ sizeLine then match strAt z i with
    | some d => .ok d S
    | none => .stuck
    else .stuck
  | x, .int i => match asL x S with
    | some ds => match atI ds i with
      | some d => .ok d S
      | none => .stuck
    | none => .stuck
  | _, _ => .stuck
theorem atI_rel {g : G} {ρ : List Addr} {H : Hp} {vs : List V} {ds : List D} {i : Int} {d : D} (r : RDs g ρ H vs ds) (h : atI ds i = some d) : ∃ v, atI vs i = some v ∧ RD g ρ H v d := by
  unfold atI at h ⊢
  rw [r.length]
  cases e : ixN ds.length i with
  | none => rw [e] at h; cases h
  | some j =>
    rw [e] at h
    exact r.get h
def rIxA (K : PySem.W.Frag) : R2 := rIx K
section
variable {g : G} {E : XK} {K : PySem.W.Frag}
theorem sim_ix : OpSim g E (rIx K) dIx := by
  intro l x y H Q ρ S dx dy rx ry rs p
  unfold dIx at p
  split at p
  · rename_i ds i
    cases ry
    cases rx with
    | @tup a vs ds ha na ra =>
      split at p
      · rename_i d e
        obtain ⟨v, h1, h2⟩ := atI_rel ra e
        exact .inr (.inl ⟨a, vs, i, v, rfl, rfl, SqT.of ha, h1, p ρ H _ Ex.refl rs h2⟩)
      · exact p.elim
  · rename_i ds i
    cases ry
    cases rx with
    | @tupX a o vs ds ha hd na ra =>
      split at p
      · rename_i d e
        obtain ⟨v, h1, h2⟩ := atI_rel ra e
        exact .inr (.inl ⟨a, vs, i, v, rfl, rfl, .inl (.inr ⟨o, ha⟩), h1, p ρ H _ Ex.refl rs h2⟩)
      · exact p.elim
  · rename_i z i
    cases ry; cases rx
    split at p
    · rename_i hz
      split at p
      · rename_i d e
        unfold strAt at e
        simp only [Option.map_eq_some_iff] at e
        obtain ⟨c, e1, rfl⟩ := e
        exact .inr (.inr ⟨z, i, c, rfl, rfl, hz, e1, p ρ H _ Ex.refl rs (.str _)⟩)
      · exact p.elim
    · exact p.elim
  · rename_i i _ _ _
    cases ry
    split at p
    · rename_i ds e
      obtain ⟨a, vs, rfl, h1, r1⟩ := as_l rs rx e
      split at p
      · rename_i d e2
        obtain ⟨v, h2, h3⟩ := atI_rel r1 e2
        exact .inl ⟨a, vs, i, v, rfl, rfl, SqL.of h1, h2, p ρ H _ Ex.refl rs h3⟩
      · exact p.elim
    · exact p.elim
  · exact p.elim
/-- o[i] = v of a list of the store -/
def dSet (o i v : D) (S : Store) : Option Store := match o, i with
  | .loc n, .int k => match S[n]? with
    | some (.lst ds) => match ixN ds.length k with
      | some j => some (S.set n (.lst (ds.set j v)))
      | none => none
    | _ => none
  | _, _ => none
theorem sim_set : SetSim g rSetL dSet := by
  intro l o i v H Q ρ S d1 d2 d3 S' r1 r2 r3 rs h q
  unfold dSet at h
  split at h
  · rename_i n k
    cases r2
    cases r1 with
    | @loc n a hn =>
      split at h
      · rename_i ds e
        split at h
        · rename_i j ej
          cases h
          obtain ⟨vs, h1, h2⟩ := rs.ob n a _ hn e
          obtain ⟨e3, rs3⟩ := rs.put (o := .lst (vs.set j v)) (ob := .lst (ds.set j d3)) hn fun H' e' q' => ⟨_, q', (h2.mono e').set (r3.mono e') j⟩
          exact ⟨a, vs, k, j, rfl, rfl, h1, by rw [h2.length]; exact ej, q ρ _ e3 rs3⟩
        · cases h
      · cases h
  · cases h
end

/-! ### built-ins -/
def cLen (ds : List D) (S : Store) : Res D := match ds with
  | [.str z] => if z.length ≤ sizeLine then .ok (.int z.length) S else .stuck
  | [.tup xs] => .ok (.int xs.length) S
  | [.tupX xs] => .ok (.int xs.length) S
  | [.scr ns] => .ok (.int ns.length) S
  | [x] => match asL x S with
    | some xs => .ok (.int xs.length) S
    | none => .stuck
  | _ => .stuck
def cAbs (ds : List D) (S : Store) : Res D := match ds with
  | [.int i] => .ok (.int (if i < 0 then -i else i)) S
  | _ => .stuck
def cMax2 (ds : List D) (S : Store) : Res D := match ds with
  | [.int i, .int j] => .ok (.int (if j > i then j else i)) S
  | _ => .stuck
def cMin2 (ds : List D) (S : Store) : Res D := match ds with
  | [.int i, .int j] => .ok (.int (if j < i then j else i)) S
  | _ => .stuck
/-- the items of a list, a tuple, the script -/
def asSeq (d : D) (S : Store) : Option (List D) := match d with
  | .tup ds => some ds
  | .tupX ds => some ds
  | .scr ns => some (ns.map .int)
  | d => asL d S
/-- list(x), a list nobody changes | one of the store -/
def cList (ds : List D) (S : Store) : Res D := match ds with
  | [x] => match asSeq x S with
    | some xs => .ok (.lst xs) S
    | none => .stuck
  | _ => .stuck
def cListL (ds : List D) (S : Store) : Res D := match ds with
  | [x] => match asSeq x S with
    | some xs => .ok (.loc S.length) (S ++ [.lst xs])
    | none => .stuck
  | _ => .stuck
def cTuple (ds : List D) (S : Store) : Res D := match ds with
  | [.tup xs] => .ok (.tup xs) S
  | [.tupX xs] => .ok (.tupX xs) S
  | [x] => match asL x S with
    | some xs => .ok (.tup xs) S
    | none => .stuck
  | _ => .stuck
def bls : List D → Option (List Bool)
  | [] => some []
  | .bl b :: ds => (bls ds).map (b :: ·)
  | _ => none
def cAll (ds : List D) (S : Store) : Res D := match ds with
  | [x] => match asL x S with
    | some xs => match bls xs with
      | some bs => .ok (.bl (bs.all id)) S
      | none => .stuck
    | none => .stuck
  | _ => .stuck
def cAny (ds : List D) (S : Store) : Res D := match ds with
  | [x] => match asL x S with
    | some xs => match bls xs with
      | some bs => .ok (.bl (bs.any id)) S
      | none => .stuck
    | none => .stuck
  | _ => .stuck
section
variable {g : G} {E : XK} {K : PySem.W.Frag}
theorem RDs.one {g : G} {ρ : List Addr} {H : Hp} {vs : List V} {d : D} (r : RDs g ρ H vs [d]) : ∃ v, vs = [v] ∧ RD g ρ H v d := by
  cases r with
  | cons h t => cases t; exact ⟨_, rfl, h⟩
theorem RDs.two {g : G} {ρ : List Addr} {H : Hp} {vs : List V} {d e : D} (r : RDs g ρ H vs [d, e]) : ∃ v w, vs = [v, w] ∧ RD g ρ H v d ∧ RD g ρ H w e := by
  cases r with
  | cons h t => obtain ⟨w, rfl, q⟩ := t.one; exact ⟨_, w, rfl, h, q⟩
theorem rds_ints {g : G} {ρ : List Addr} {H : Hp} : ∀ ns : List Int, RDs g ρ H (ns.map V.int) (ns.map D.int)
  | [] => .nil
  | n :: ns => .cons (.int n) (rds_ints ns)
theorem scr_l {l : List Addr} {ρ : List Addr} {H : Hp} {v : V} {ns : List Int} (r : RD (g.hide l) ρ H v (.scr ns)) : ∃ a, v = .ref a ∧ SqL g.K H a (ns.map V.int) := by
  cases r with
  | @scr a ns n =>
    rcases n with ⟨o, h, _⟩ | n
    · exact ⟨a, rfl, .inl (.inr ⟨o, h⟩)⟩
    · exact ⟨a, rfl, n H⟩
theorem sim_len : CallSim g E (fun xs H Q => ∃ x n, xs = [x] ∧ LenV g.K x H n ∧ Q (.int n) H) cLen := by
  intro l xs H Q ρ S ds rx rs p
  unfold cLen at p
  split at p
  · obtain ⟨v, rfl, r⟩ := rx.one
    cases r
    split at p
    · rename_i hz; exact ⟨_, _, rfl, ⟨hz, rfl⟩, p ρ H _ Ex.refl rs (.int _)⟩
    · exact p.elim
  · obtain ⟨v, rfl, r⟩ := rx.one
    cases r with
    | @tup a vs ds ha na ra => exact ⟨_, _, rfl, .inr ⟨vs, SqT.of ha, rfl⟩, by rw [ra.length]; exact p ρ H _ Ex.refl rs (.int _)⟩
  · obtain ⟨v, rfl, r⟩ := rx.one
    cases r with
    | @tupX a o vs ds ha hd na ra => exact ⟨_, _, rfl, .inr ⟨vs, .inl (.inr ⟨o, ha⟩), rfl⟩, by rw [ra.length]; exact p ρ H _ Ex.refl rs (.int _)⟩
  · rename_i ns
    obtain ⟨v, rfl, r⟩ := rx.one
    obtain ⟨a, rfl, h⟩ := scr_l r
    exact ⟨_, ns.length, rfl, .inl ⟨_, h, by simp⟩, p ρ H _ Ex.refl rs (.int _)⟩
  · obtain ⟨v, rfl, r⟩ := rx.one
    split at p
    · rename_i xs' e
      obtain ⟨a, vs, rfl, h1, r1⟩ := as_l rs r e
      exact ⟨_, _, rfl, .inl ⟨vs, SqL.of h1, rfl⟩, by rw [r1.length]; exact p ρ H _ Ex.refl rs (.int _)⟩
    · exact p.elim
  · exact p.elim
theorem sim_abs : CallSim g E (fun xs H Q => ∃ i, xs = [.int i] ∧ Q (.int (if i < 0 then -i else i)) H) cAbs := by
  intro l xs H Q ρ S ds rx rs p
  unfold cAbs at p
  split at p
  · obtain ⟨v, rfl, r⟩ := rx.one
    cases r
    exact ⟨_, rfl, p ρ H _ Ex.refl rs (.int _)⟩
  · exact p.elim
theorem sim_max2 : CallSim g E (fun xs H Q => ∃ i j, xs = [.int i, .int j] ∧ Q (.int (if j > i then j else i)) H) cMax2 := by
  intro l xs H Q ρ S ds rx rs p
  unfold cMax2 at p
  split at p
  · obtain ⟨v, w, rfl, r1, r2⟩ := rx.two
    cases r1; cases r2
    exact ⟨_, _, rfl, p ρ H _ Ex.refl rs (.int _)⟩
  · exact p.elim
theorem sim_min2 : CallSim g E (fun xs H Q => ∃ i j, xs = [.int i, .int j] ∧ Q (.int (if j < i then j else i)) H) cMin2 := by
  intro l xs H Q ρ S ds rx rs p
  unfold cMin2 at p
  split at p
  · obtain ⟨v, w, rfl, r1, r2⟩ := rx.two
    cases r1; cases r2
    exact ⟨_, _, rfl, p ρ H _ Ex.refl rs (.int _)⟩
  · exact p.elim
theorem seq_of {l : List Addr} {ρ : List Addr} {H : Hp} {S : Store} {v : V} {d : D} {ds : List D} (rs : RS (g.hide l) ρ S H) (r : RD (g.hide l) ρ H v d) (h : asSeq d S = some ds) : ∃ a vs, v = .ref a ∧ (SqL g.K H a vs ∨ SqT g.K H a vs) ∧ RDs (g.hide l) ρ H vs ds := by
  cases r with
  | @tup a vs ds' ha na ra => cases h; exact ⟨a, vs, rfl, .inr (SqT.of ha), ra⟩
  | @tupX a o vs ds' ha hd na ra => cases h; exact ⟨a, vs, rfl, .inr (.inl (.inr ⟨o, ha⟩)), ra⟩
  | @scr a ns n =>
    cases h
    obtain ⟨a', e, h1⟩ := scr_l (g := g) (l := l) (RD.scr n)
    cases e
    exact ⟨a, _, rfl, .inl h1, rds_ints ns⟩
  | lst h1 n1 r1 => obtain ⟨a, vs, e, h2, r2⟩ := as_l rs (.lst h1 n1 r1) h; exact ⟨a, vs, e, .inl (SqL.of h2), r2⟩
  | loc h1 => obtain ⟨a, vs, e, h2, r2⟩ := as_l rs (.loc h1) h; exact ⟨a, vs, e, .inl (SqL.of h2), r2⟩
  | _ => cases h
abbrev rListA (K : PySem.W.Frag) : List V → Hp → VK → Prop := fun xs H Q => ∃ p ys, xs = [.ref p] ∧ (SqL K H p ys ∨ SqT K H p ys) ∧ ∀ l, H l = none → Q (.ref l) (upd H l (.lst ys))
theorem sim_list : CallSim g E (rListA g.K) cList := by
  intro l xs H Q ρ S ds rx rs p
  unfold cList at p
  split at p
  · obtain ⟨v, rfl, r⟩ := rx.one
    split at p
    · rename_i xs' e
      obtain ⟨a, vs, rfl, h1, r1⟩ := seq_of rs r e
      exact ⟨a, vs, rfl, h1, fun q hq => p ρ _ _ (Ex.new1 hq) (rs.aside hq) (.lst upd_same (rs.fresh hq) (r1.mono (Ex.new1 hq)))⟩
    · exact p.elim
  · exact p.elim
theorem sim_listL : CallSim g E (rListA g.K) cListL := by
  intro l xs H Q ρ S ds rx rs p
  unfold cListL at p
  split at p
  · obtain ⟨v, rfl, r⟩ := rx.one
    split at p
    · rename_i xs' e
      obtain ⟨a, vs, rfl, h1, r1⟩ := seq_of rs r e
      refine ⟨a, vs, rfl, h1, fun q hq => ?_⟩
      obtain ⟨e3, rs3⟩ := rs.push (o := .lst vs) (ob := .lst xs') hq fun ρ' H' e' q' => ⟨vs, q', r1.mono e'⟩
      exact p _ _ _ e3 rs3 (.loc (by rw [← rs.len]; simp))
    · exact p.elim
  · exact p.elim
abbrev rTupleA (K : PySem.W.Frag) : List V → Hp → VK → Prop := fun xs H Q => ∃ p ys, xs = [.ref p] ∧ ((SqL K H p ys ∧ ∀ l, H l = none → Q (.ref l) (upd H l (.tup ys))) ∨ (SqT K H p ys ∧ Q (.ref p) H))
theorem sim_tuple : CallSim g E (rTupleA K) cTuple := by
  intro l xs H Q ρ S ds rx rs p
  unfold cTuple at p
  split at p
  · obtain ⟨v, rfl, r⟩ := rx.one
    cases r with
    | @tup a vs ds ha na ra => exact ⟨a, vs, rfl, .inr ⟨SqT.of ha, p ρ H _ Ex.refl rs (.tup ha na ra)⟩⟩
  · obtain ⟨v, rfl, r⟩ := rx.one
    cases r with
    | @tupX a o vs ds ha hd na ra => exact ⟨a, vs, rfl, .inr ⟨.inl (.inr ⟨o, ha⟩), p ρ H _ Ex.refl rs (.tupX ha hd na ra)⟩⟩
  · obtain ⟨v, rfl, r⟩ := rx.one
    split at p
    · rename_i xs' e
      obtain ⟨a, vs, rfl, h1, r1⟩ := as_l rs r e
      exact ⟨a, vs, rfl, .inl ⟨SqL.of h1, fun q hq => p ρ _ _ (Ex.new1 hq) (rs.aside hq) (.tup upd_same (rs.fresh hq) (r1.mono (Ex.new1 hq)))⟩⟩
    · exact p.elim
  · exact p.elim
theorem bls_rel {ρ : List Addr} {H : Hp} : ∀ {ds : List D} {vs : List V} {bs : List Bool}, RDs g ρ H vs ds → bls ds = some bs → vs = bs.map V.bl
  | [], _, _, .nil, e => by simp [bls] at e; subst e; rfl
  | .bl b :: ds, _, bs, .cons h t, e => by
    simp only [bls, Option.map_eq_some_iff] at e
    obtain ⟨bs', e1, rfl⟩ := e
    cases h
    rw [bls_rel t e1]; rfl
theorem sim_all : CallSim g E (rAll K) cAll := by
  intro l xs H Q ρ S ds rx rs p
  unfold cAll at p
  split at p
  · obtain ⟨v, rfl, r⟩ := rx.one
    split at p
    · rename_i xs' e
      obtain ⟨a, vs, rfl, h1, r1⟩ := as_l rs r e
      split at p
      · rename_i bs eb
        have := bls_rel r1 eb
        subst this
        exact ⟨a, bs, rfl, SqL.of h1, p ρ H _ Ex.refl rs (.bl _)⟩
      · exact p.elim
    · exact p.elim
  · exact p.elim
theorem sim_any : CallSim g E (rAny K) cAny := by
  intro l xs H Q ρ S ds rx rs p
  unfold cAny at p
  split at p
  · obtain ⟨v, rfl, r⟩ := rx.one
    split at p
    · rename_i xs' e
      obtain ⟨a, vs, rfl, h1, r1⟩ := as_l rs r e
      split at p
      · rename_i bs eb
        have := bls_rel r1 eb
        subst this
        exact ⟨a, bs, rfl, SqL.of h1, p ρ H _ Ex.refl rs (.bl _)⟩
      · exact p.elim
    · exact p.elim
  · exact p.elim
end

/-! ### methods of lists -/
def mBM (f : D → List D → Store → Res D) (o : EM) (as : AM) : EM := fun env S => (o env S).bind fun d S1 => (as env S1).bind fun ds S2 => f d ds S2
def tyD (T : String) (d : D) (S : Store) : Bool := match d with
  | .str _ => T == "str"
  | .lst _ => T == "list"
  | .loc n => match S[n]? with
    | some (.lst _) => T == "list"
    | some (.dK _) => T == "dict"
    | some (.dT _) => T == "dict"
    | _ => false
  | _ => false
def qAppend (d : D) (ds : List D) (S : Store) : Res D := match d, ds with
  | .loc n, [x] => match S[n]? with
    | some (.lst xs) => if xs.length < sizeLine then .ok .non (S.set n (.lst (xs ++ [x]))) else .stuck
    | _ => .stuck
  | _, _ => .stuck
def qPopAt (d : D) (ds : List D) (S : Store) : Res D := match d, ds with
  | .loc n, [.int i] => match S[n]? with
    | some (.lst xs) => if -(2 ^ 63) ≤ i ∧ i < 2 ^ 63 then match seqIndex? i xs.length with
      | some k => match xs[k]? with
        | some x => .ok x (S.set n (.lst (xs.eraseIdx k)))
        | none => .stuck
      | none => .stuck
      else .stuck
    | _ => .stuck
  | _, _ => .stuck
def MtSim (g₀ : G) (E : XK) (r : V → List V → Hp → VK → Prop) (f : D → List D → Store → Res D) : Prop := ∀ l x xs H Q ρ S d ds, RD (g₀.hide l) ρ H x d → RDs (g₀.hide l) ρ H xs ds → RS (g₀.hide l) ρ S H → PostE (g₀.hide l) E ρ H Q (f d ds S) → r x xs H Q
section
variable {g : G} {E : XK} {K : PySem.W.Frag}
theorem sim_append : MtSim g E rAppend qAppend := by
  intro l x xs H Q ρ S d ds rx rxs rs p
  unfold qAppend at p
  split at p
  · rename_i n y
    obtain ⟨v, rfl, r⟩ := rxs.one
    cases rx with
    | @loc n a hn =>
      split at p
      · rename_i zs e
        obtain ⟨vs, h1, h2⟩ := rs.ob n a _ hn e
        split at p
        · rename_i hz
          obtain ⟨e3, rs3⟩ := rs.put (o := .lst (vs ++ [v])) (ob := .lst (zs ++ [y])) hn fun H' e' q' => ⟨_, q', (h2.mono e').snoc (r.mono e')⟩
          exact ⟨a, vs, v, rfl, rfl, h1, by rw [h2.length]; exact hz, p ρ _ _ e3 rs3 .non⟩
        · exact p.elim
      · exact p.elim
  · exact p.elim
theorem sim_popAt : MtSim g E rPopAt qPopAt := by
  intro l x xs H Q ρ S d ds rx rxs rs p
  unfold qPopAt at p
  split at p
  · rename_i n i
    obtain ⟨v, rfl, r⟩ := rxs.one
    cases r
    cases rx with
    | @loc n a hn =>
      split at p
      · rename_i zs e
        obtain ⟨vs, h1, h2⟩ := rs.ob n a _ hn e
        split at p
        · rename_i hz
          split at p
          · rename_i k ek
            split at p
            · rename_i y ey
              obtain ⟨v, h3, h4⟩ := h2.get ey
              obtain ⟨e3, rs3⟩ := rs.put (o := .lst (vs.eraseIdx k)) (ob := .lst (zs.eraseIdx k)) hn fun H' e' q' => ⟨_, q', (h2.mono e').eraseIdx k⟩
              exact ⟨a, vs, i, k, v, rfl, rfl, h1, hz.1, hz.2, by rw [h2.length]; exact ek, h3, p ρ _ _ e3 rs3 (h4.mono e3)⟩
            · exact p.elim
          · exact p.elim
        · exact p.elim
      · exact p.elim
  · exact p.elim
/-- what the receiver is -/
theorem ty_of {l : List Addr} {ρ : List Addr} {H : Hp} {S : Store} {v : V} {d : D} {T : String} (rs : RS (g.hide l) ρ S H) (r : RD (g.hide l) ρ H v d) (h : tyD T d S = true) : tyV K T v H := by
  cases r with
  | str s => exact beq_iff_eq.mp h |> fun e => by subst e; rfl
  | @lst a vs ds ha na ra => exact beq_iff_eq.mp h |> fun e => by subst e; exact .inl ⟨rfl, _, SqL.of ha⟩
  | @loc n a hn =>
    simp only [tyD] at h
    split at h
    · rename_i zs e
      obtain ⟨vs, h1, h2⟩ := rs.ob n a _ hn e
      exact beq_iff_eq.mp h |> fun e => by subst e; exact .inl ⟨rfl, _, SqL.of h1⟩
    · rename_i kvs e
      obtain ⟨kv, h1, h2⟩ := rs.ob n a _ hn e
      exact beq_iff_eq.mp h |> fun e => by subst e; exact .inr (.inr (.inl ⟨rfl, .inl ⟨_, h1⟩⟩))
    · rename_i kvs e
      obtain ⟨kv, h1, h2⟩ := rs.ob n a _ hn e
      exact beq_iff_eq.mp h |> fun e => by subst e; exact .inr (.inr (.inl ⟨rfl, .inr ⟨_, h1⟩⟩))
    · cases h
  | _ => cases h
def mBMt (T : String) (f : D → List D → Store → Res D) (o : EM) (as : AM) : EM := fun env S => (o env S).bind fun d S1 => if tyD T d S1 = true then (as env S1).bind fun ds S2 => f d ds S2 else .stuck
theorem sim_bm {T : String} {r : V → List V → Hp → VK → Prop} {f : D → List D → Store → Res D} {to : TE} {ta : TA} {o : EM} {a : AM} (h : MtSim g E r f) (ho : SimE g E to o) (ha : SimA g E ta a) : SimE g E (tBM K T r to ta) (mBMt T f o a) := by
  intro l σ H Q ρ S env re rs p
  refine ho.bind re rs p fun d S1 ρ1 H1 v e1 rs1 rx re1 p1 => ?_
  by_cases ht : tyD T d S1 = true
  · rw [if_pos ht] at p1
    refine ⟨ty_of rs1 rx ht, ?_⟩
    exact ha.bind re1 rs1 p1 fun ds S2 ρ2 H2 vs e2 rs2 ry re2 p2 => h l v vs H2 Q ρ2 S2 d ds (rx.mono e2) ry rs2 p2
  · rw [if_neg ht] at p1; exact p1.elim
theorem sim_bm0 {T : String} {r : V → List V → Hp → VK → Prop} {f : D → List D → Store → Res D} {to : TE} {o : EM} (h : MtSim g E r f) (ho : SimE g E to o) : SimE g E (tBM0 K T r to) (mBMt T f o mNil) := by
  intro l σ H Q ρ S env re rs p
  refine ho.bind re rs p fun d S1 ρ1 H1 v e1 rs1 rx re1 p1 => ?_
  by_cases ht : tyD T d S1 = true
  · rw [if_pos ht] at p1
    exact ⟨ty_of rs1 rx ht, h l v [] H1 Q ρ1 S1 d [] rx .nil rs1 p1⟩
  · rw [if_neg ht] at p1; exact p1.elim
end

/-! ### slices -/
abbrev OM := En → Store → Res (Option Int)
def oNone : OM := fun _ S => .ok none S
def oSome (a : EM) : OM := fun env S => (a env S).bind fun d S1 => match d with
  | .int i => .ok (some i) S1
  | _ => .stuck
def SimO (g : G) (E : XK) (t : TO) (m : OM) : Prop := ∀ l σ H (Q : Option Int → Hp → Prop) ρ S env, RE (g.hide l) ρ H σ env → RS (g.hide l) ρ S H →
  (match m env S with
   | .ok o S' => ∀ ρ' H', Ex ρ H ρ' H' → RS (g.hide l) ρ' S' H' → Q o H'
   | .err x S' => PX (g.hide l) E ρ H x S'
   | .stuck => False) → t σ H Q
def cutD (xs : List D) (lo hi : Option Int) : List D := (xs.drop (HT.sIx xs.length 0 lo)).take (HT.sIx xs.length xs.length hi - HT.sIx xs.length 0 lo)
def dSl (x : D) (lo hi : Option Int) (S : Store) : Res D := match x with
  | .tup ds => .ok (.tup (cutD ds lo hi)) S
  | .tupX ds => if HT.sIx ds.length 0 lo = 0 ∧ HT.sIx ds.length ds.length hi = ds.length then .ok (.tupX ds) S else .ok (.tup (cutD ds lo hi)) S
  | .str z => if z.length ≤ sizeLine then .ok (.str (cutS z lo hi)) S else .stuck
  | .scr ns => .ok (.lst (cutD (ns.map D.int) lo hi)) S
  | x => match asL x S with
    | some ds => .ok (.lst (cutD ds lo hi)) S
    | none => .stuck
def mSl (a : EM) (lo hi : OM) : EM := fun env S => (a env S).bind fun x S1 => (lo env S1).bind fun i S2 => (hi env S2).bind fun j S3 => dSl x i j S3
section
variable {g : G} {E : XK} {K : PySem.W.Frag}
theorem simo_none : SimO g E tNoPart oNone := fun l σ H Q ρ S env re rs p => p ρ H Ex.refl rs
theorem simo_some {te : TE} {a : EM} (ha : SimE g E te a) : SimO g E (tPart te) (oSome a) := by
  intro l σ H Q ρ S env re rs p
  refine ha l σ H _ ρ S env re rs ?_
  unfold oSome at p
  cases e : a env S with
  | ok d S1 =>
    rw [e] at p
    intro ρ1 H1 v e1 rs1 rx
    simp only [Res.bind] at p
    cases rx with
    | int i => exact ⟨i, rfl, p ρ1 H1 e1 rs1⟩
    | _ => exact p.elim
  | err x S1 => rw [e] at p; exact p
  | stuck => rw [e] at p; exact p
abbrev rSlAll (K : PySem.W.Frag) : V → Option Int → Option Int → Hp → VK → Prop := fun x lo hi H Q => rSlA K x lo hi H Q ∨ rSlS x lo hi H Q ∨ rSlL K x lo hi H Q
theorem sl_all {X : Cx} : SlR X (rSlAll X.K) := sl_tupA.or (sl_str.or sl_list)
theorem cut_rel {ρ : List Addr} {H : Hp} {vs : List V} {ds : List D} {lo hi : Option Int} (r : RDs g ρ H vs ds) : RDs g ρ H (cutV vs lo hi) (cutD ds lo hi) := by
  unfold cutV cutD
  rw [r.length]
  exact (r.drop _).take _
theorem sim_slice {te : TE} {tl th : TO} {a : EM} {lo hi : OM} (ha : SimE g E te a) (hl : SimO g E tl lo) (hh : SimO g E th hi) : SimE g E (tSl (rSlAll g.K) te tl th) (mSl a lo hi) := by
  intro l σ H Q ρ S env re rs p
  refine ha.bind re rs p fun d S1 ρ1 H1 v e1 rs1 rx re1 p1 => ?_
  refine hl l σ H1 _ ρ1 S1 env re1 rs1 ?_
  cases e : lo env S1 with
  | err x S2 => rw [e] at p1; exact p1
  | stuck => rw [e] at p1; exact p1
  | ok i S2 =>
    rw [e] at p1
    intro ρ2 H2 e2 rs2
    have p2 := PostE.ex p1 e2
    simp only [Res.bind] at p2
    refine hh l σ H2 _ ρ2 S2 env (re1.mono e2) rs2 ?_
    cases e' : hi env S2 with
    | err x S3 => rw [e'] at p2; exact p2
    | stuck => rw [e'] at p2; exact p2
    | ok j S3 =>
      rw [e'] at p2
      intro ρ3 H3 e3 rs3
      have p3 : PostE (g.hide l) E ρ3 H3 Q (dSl d i j S3) := PostE.ex p2 e3
      have rx3 := rx.mono (e2.trans e3)
      unfold dSl at p3
      split at p3
      · cases rx3 with
        | @tup ad vs ds ha' na ra =>
          refine .inl ⟨ad, vs, rfl, SqT.of ha', fun hw => ?_, fun hw q hq => ?_⟩
          · refine p3 ρ3 H3 _ Ex.refl rs3 (.tup ha' na ?_)
            rename_i ds0
            have : cutD _ i j = _ := show cutD ds0 i j = ds0 by
              unfold cutD
              rw [← ra.length, hw.1, hw.2]
              simp [ra.length]
            rw [this]; exact ra
          · exact p3 ρ3 _ _ (Ex.new1 hq) (rs3.aside hq) (.tup upd_same (rs3.fresh hq) ((cut_rel ra).mono (Ex.new1 hq)))
      · cases rx3 with
        | @tupX ad o vs ds ha' hd na ra =>
          refine .inl ⟨ad, vs, rfl, .inl (.inr ⟨o, ha'⟩), fun hw => ?_, fun hw q hq => ?_⟩
          · rw [ra.length] at hw
            rw [if_pos hw] at p3
            exact p3 ρ3 H3 _ Ex.refl rs3 (.tupX ha' hd na ra)
          · rw [ra.length] at hw
            rw [if_neg hw] at p3
            exact p3 ρ3 _ _ (Ex.new1 hq) (rs3.aside hq) (.tup upd_same (rs3.fresh hq) ((cut_rel ra).mono (Ex.new1 hq)))
      · cases rx3
        split at p3
        · rename_i hz; exact .inr (.inl ⟨_, rfl, hz, p3 ρ3 H3 _ Ex.refl rs3 (.str _)⟩)
        · exact p3.elim
      · obtain ⟨ad, rfl, hq⟩ := scr_l rx3
        exact .inr (.inr ⟨ad, _, rfl, hq, fun q hq' => p3 ρ3 _ _ (Ex.new1 hq') (rs3.aside hq') (.lst upd_same (rs3.fresh hq') ((cut_rel (rds_ints _)).mono (Ex.new1 hq')))⟩)
      · split at p3
        · rename_i ds e4
          obtain ⟨ad, vs, rfl, h1, r1⟩ := as_l rs3 rx3 e4
          exact .inr (.inr ⟨ad, vs, rfl, SqL.of h1, fun q hq => p3 ρ3 _ _ (Ex.new1 hq) (rs3.aside hq) (.lst upd_same (rs3.fresh hq) ((cut_rel r1).mono (Ex.new1 hq)))⟩)
        · exact p3.elim
end

/-! ### iterators -/
def itSeq (a : EM) : IM := fun env S => (a env S).bind fun d S1 => match d with
  | .lst ds => .ok ds S1
  | .tup ds => .ok ds S1
  | .tupX ds => .ok ds S1
  | _ => .stuck
def itList (a : EM) : IM := fun env S => (a env S).bind fun d S1 => match d with
  | .lst ds => .ok ds S1
  | _ => .stuck
def itTup (a : EM) : IM := fun env S => (a env S).bind fun d S1 => match d with
  | .tup ds => .ok ds S1
  | _ => .stuck
def itRange1 (a : AM) : IM := fun env S => (a env S).bind fun ds S1 => match ds with
  | [.int j] => if -(2 ^ 62) ≤ j ∧ j < 2 ^ 62 then .ok ((List.range j.toNat).map fun i : Nat => D.int (0 + (i : Int))) S1 else .stuck
  | _ => .stuck
def itStr (a : EM) : IM := fun env S => (a env S).bind fun d S1 => match d with
  | .str z => .ok (z.cps.toList.map fun c => D.str ⟨#[c]⟩) S1
  | _ => .stuck
section
variable {g : G} {E : XK} {K : PySem.W.Frag}
theorem walkd_at {l : List Addr} {ρ : List Addr} {H : Hp} {J : It} {vs : List V} {ds : List D} {G' : Hp → Prop} (w : Walk J vs.length G' (YAt vs)) (hG : ∀ ρ' H', ExH (g.hide l) ρ H ρ' H' → G' H') (r : RDs (g.hide l) ρ H vs ds) : WalkD (g.hide l) ρ H J ds := by
  refine ⟨G', YAt vs, by rw [← r.length]; exact w, hG, fun i ρ' H' x H'' S hi e rs y => ?_⟩
  obtain ⟨rfl, hx⟩ := y
  have hd : ds[i]? = some ds[i] := List.getElem?_eq_getElem hi
  obtain ⟨v, h1, h2⟩ := r.get hd
  rw [hx] at h1; cases h1
  exact ⟨ds[i], hd, Ex.refl, rs, h2.monoH e, fun _ _ h => h⟩
theorem rds_hide {l l' : List Addr} {ρ : List Addr} {H : Hp} {vs : List V} {ds : List D} (hl : ∀ a, a ∈ l' → a ∈ l ∨ H a = none) (r : RDs (g.hide l) ρ H vs ds) : RDs (g.hide l') ρ H vs ds :=
  RDs.tr (g := g.hide l) (g' := g.hide l') rfl (fun _ _ h => h) (fun a o n h => ⟨⟨n.1, fun m => (hl a m).elim n.2 fun z => by rw [z] at h; cases h⟩, h⟩) r
abbrev iSeq (K : PySem.W.Frag) (te : TE) : TI := fun σ H R => te σ H fun x H1 => (∃ a, x = .ref a ∧ (∃ xs, SqL K H1 a xs) ∧ R (Itl K a) H1) ∨ (∃ a, x = .ref a ∧ (∃ xs, SqT K H1 a xs) ∧ R (Itt K a) H1)
theorem simi_list {te : TE} {a : EM} (ha : SimE g E te a) : SimI g E (iList K te) (itList a) := by
  intro l σ H R ρ S env re rs p
  unfold itList at p
  refine ha l σ H _ ρ S env re rs ?_
  cases e : a env S with
  | err x S2 => rw [e] at p; exact p
  | stuck => rw [e] at p; exact p
  | ok d S1 =>
    rw [e] at p
    simp only [Res.bind] at p
    intro ρ1 H1 v e1 rs1 rx
    cases rx with
    | @lst ad vs ds h n r =>
      exact ⟨ad, rfl, ⟨vs, SqL.of h⟩, p ρ1 H1 _ e1 rs1 fun l' hl => walkd_at walk_list (fun ρ' H' ex => SqL.of (ex.keep _ _ (out_hide hl h n) h)) (rds_hide hl r)⟩
    | _ => exact p.elim
theorem simi_tup {te : TE} {a : EM} (ha : SimE g E te a) : SimI g E (iTup K te) (itTup a) := by
  intro l σ H R ρ S env re rs p
  unfold itTup at p
  refine ha l σ H _ ρ S env re rs ?_
  cases e : a env S with
  | err x S2 => rw [e] at p; exact p
  | stuck => rw [e] at p; exact p
  | ok d S1 =>
    rw [e] at p
    simp only [Res.bind] at p
    intro ρ1 H1 v e1 rs1 rx
    cases rx with
    | @tup ad vs ds h n r =>
      exact ⟨ad, rfl, ⟨vs, SqT.of h⟩, p ρ1 H1 _ e1 rs1 fun l' hl => walkd_at walk_tup (fun ρ' H' ex => SqT.of (ex.keep _ _ (out_hide hl h n) h)) (rds_hide hl r)⟩
    | _ => exact p.elim
theorem simi_range1 {ta : TA} {a : AM} (ha : SimA g E ta a) : SimI g E (iRng1 ta) (itRange1 a) := by
  intro l σ H R ρ S env re rs p
  refine ha l σ H _ ρ S env re rs ?_
  unfold itRange1 at p
  cases e : a env S with
  | err x S2 => rw [e] at p; exact p
  | stuck => rw [e] at p; exact p
  | ok ds S1 =>
    rw [e] at p
    simp only [Res.bind] at p
    intro ρ1 H1 vs e1 rs1 rx
    split at p
    · rename_i q hq
      split at hq
      · rename_i j
        split at hq
        · rename_i hj
          cases hq
          obtain ⟨v, rfl, r⟩ := rx.one
          cases r
          refine ⟨j, rfl, hj.1, hj.2, p ρ1 H1 _ e1 rs1 fun l' hl => ?_⟩
          refine ⟨fun _ => True, YFn fun i => .int (0 + i), by rw [show (List.map (fun i : Nat => D.int (0 + (i : Int))) (List.range j.toNat)).length = j.toNat by simp]; exact walk_range, fun _ _ _ => trivial, fun i ρ' H' x H'' S' hi e2 rs2 y => ?_⟩
          obtain ⟨rfl, rfl⟩ := y
          have hi' : i < j.toNat := by simpa using hi
          exact ⟨.int (0 + i), by simp [hi'], Ex.refl, rs2, .int _, fun _ _ h => h⟩
        · cases hq
      · cases hq
    · rename_i hq
      split at hq
      · split at hq <;> cases hq
      · cases hq
    · exact p.elim
theorem simi_str {te : TE} {a : EM} (ha : SimE g E te a) : SimI g E (iStr te) (itStr a) := by
  intro l σ H R ρ S env re rs p
  refine ha l σ H _ ρ S env re rs ?_
  unfold itStr at p
  cases e : a env S with
  | err x S2 => rw [e] at p; exact p
  | stuck => rw [e] at p; exact p
  | ok d S1 =>
    rw [e] at p
    simp only [Res.bind] at p
    intro ρ1 H1 v e1 rs1 rx
    cases rx with
    | str z =>
      refine ⟨z, rfl, p ρ1 H1 _ e1 rs1 fun l' hl => ?_⟩
      refine ⟨fun _ => True, _, by simpa using walk_str (z := z), fun _ _ _ => trivial, fun i ρ' H' x H'' S' hi e2 rs2 y => ?_⟩
      obtain ⟨rfl, c, hc, rfl⟩ := y
      exact ⟨.str ⟨#[c]⟩, by simp [hc], Ex.refl, rs2, .str _, fun _ _ h => h⟩
    | _ => exact p.elim
end
end Lg

namespace L2
open PySem PySem.Spec PyProof.Rows
section
variable {X : Cx} {tg : Expr}
/-- over a list or a tuple -/
theorem pi_seq {l : Expr} {tl : TE} (hl : PE X l tl) : PI X tg l (Lg.iSeq X.K tl) := by
  refine ⟨fun pins s σ H R I h => ?_⟩
  refine thn (hl.run pins s σ H _ I h) fun v s1 ⟨x, H1, I1, r1, q1⟩ => ?_
  rcases q1 with ⟨a, e, ⟨xs, hq⟩, q⟩ | ⟨a, e, ⟨xs, hq⟩, q⟩
  · subst e
    cases r1
    obtain ⟨its, rv, p, hz⟩ := I1.list hq
    refine wpAny_pyIter_list p.isList ?_
    refine ⟨s1.heap.objs.size, [s1.heap.objs.size], _, _, H1, rfl, I1.kept (t' := s1.toks) fun b o e => Heap.get?_push_of_some _ e, turn_list a _, ⟨_, Heap.get?_push_size _ rfl, rfl, rfl⟩, fun b hb => ?_, q⟩
    have e : b = s1.heap.objs.size := by simpa using hb
    subst e
    exact I1.fpOk (Nat.le_refl _) (I1.hok.fresh (Nat.le_refl _))
  · subst e
    cases r1
    obtain ⟨its, rv, p, hz⟩ := I1.tuple hq
    refine wpAny_pyIter_tuple (show s1.heap.IsTuple a its.toArray from p) ?_
    refine ⟨s1.heap.objs.size, [s1.heap.objs.size], _, _, H1, rfl, I1.kept (t' := s1.toks) fun b o e => Heap.get?_push_of_some _ e, turn_tuple a _, ⟨_, Heap.get?_push_size _ rfl, rfl, rfl⟩, fun b hb => ?_, q⟩
    have e : b = s1.heap.objs.size := by simpa using hb
    subst e
    exact I1.fpOk (Nat.le_refl _) (I1.hok.fresh (Nat.le_refl _))
/-- x in a tuple of data -/
def rInT (K : PySem.W.Frag) : R2 := fun x y H Q => ∃ d ds, Dp K H x d ∧ Dp K H y (.tuple ds) ∧ SeqAt.shaped d = true ∧ SeqAt.shaped (.tuple ds) = true ∧ Q (.bl (ds.any fun z => PyData.eqv z d)) H
def rNotInT (K : PySem.W.Frag) : R2 := fun x y H Q => ∃ d ds, Dp K H x d ∧ Dp K H y (.tuple ds) ∧ SeqAt.shaped d = true ∧ SeqAt.shaped (.tuple ds) = true ∧ Q (.bl (!ds.any fun z => PyData.eqv z d)) H
theorem op_inT (hu : X.A.units + 65 < cLine) : OpR X (compareOp .In) (rInT X.K) := by
  intro pins s σ H x y v u Q I rx ry h
  obtain ⟨d, ds, hd, he, sd, se, q⟩ := h
  obtain ⟨as, r1⟩ := Dp.reads I d x v hd rx
  obtain ⟨bs, r2⟩ := Dp.reads I (.tuple ds) y u he ry
  exact SeqAt.in_tuple_reads r2 r1 (SeqAt.canLay_of_shaped se) (SeqAt.canLay_of_shaped sd) (room_in_shaped sd hu) ⟨.bl _, H, I, rfl, q⟩
theorem op_notInT (hu : X.A.units + 65 < cLine) : OpR X (compareOp .NotIn) (rNotInT X.K) := by
  intro pins s σ H x y v u Q I rx ry h
  obtain ⟨d, ds, hd, he, sd, se, q⟩ := h
  obtain ⟨as, r1⟩ := Dp.reads I d x v hd rx
  obtain ⟨bs, r2⟩ := Dp.reads I (.tuple ds) y u he ry
  exact SeqAt.notIn_tuple_reads r2 r1 (SeqAt.canLay_of_shaped se) (SeqAt.canLay_of_shaped sd) (room_in_shaped sd hu) ⟨.bl _, H, I, rfl, q⟩
end
end L2

namespace Lg
open PySem L2
section
variable {g : G} {E : XK} {K : PySem.W.Frag}
theorem simi_seq {te : TE} {a : EM} (ha : SimE g E te a) : SimI g E (iSeq K te) (itSeq a) := by
  intro l σ H R ρ S env re rs p
  refine ha l σ H _ ρ S env re rs ?_
  unfold itSeq at p
  cases e : a env S with
  | err x S2 => rw [e] at p; exact p
  | stuck => rw [e] at p; exact p
  | ok d S1 =>
    rw [e] at p
    simp only [Res.bind] at p
    intro ρ1 H1 v e1 rs1 rx
    cases rx with
    | @tup ad vs ds h n r =>
      exact .inr ⟨ad, rfl, ⟨vs, SqT.of h⟩, p ρ1 H1 _ e1 rs1 fun l' hl => walkd_at walk_tup (fun ρ' H' ex => SqT.of (ex.keep _ _ (out_hide hl h n) h)) (rds_hide hl r)⟩
    | @tupX ad o vs ds h hd n r =>
      exact .inr ⟨ad, rfl, ⟨vs, .inl (.inr ⟨o, h⟩)⟩, p ρ1 H1 _ e1 rs1 fun l' hl => walkd_at walk_tup (fun ρ' H' ex => .inl (.inr ⟨o, ex.keep _ _ (out_hide hl h n) h⟩)) (rds_hide hl r)⟩
    | @lst ad vs ds h n r =>
      exact .inl ⟨ad, rfl, ⟨vs, SqL.of h⟩, p ρ1 H1 _ e1 rs1 fun l' hl => walkd_at walk_list (fun ρ' H' ex => SqL.of (ex.keep _ _ (out_hide hl h n) h)) (rds_hide hl r)⟩
    | _ => exact p.elim
/-- a, b = x, y -/
def sPar (i j : Nat) (a : AM) : SM := fun env S => (a env S).bindS fun ds S1 => match ds with
  | [x, y] => .next ((env.set i (some x)).set j (some y)) S1
  | _ => .stuck
theorem SimA.bindS {t : TA} {m : AM} (h : SimA g E t m) {l : List Addr} {σ : L2.St} {H : Hp} {Q : List V → Hp → Prop} {D' : Ends} {ρ : List Addr} {S : Store} {env : En} {f : List D → Store → FRes} (re : RE (g.hide l) ρ H σ env) (rs : RS (g.hide l) ρ S H) (p : PostS (g.hide l) E ρ H D' ((m env S).bindS f))
    (k : ∀ d S' ρ' H' v, Ex ρ H ρ' H' → RS (g.hide l) ρ' S' H' → RDs (g.hide l) ρ' H' v d → RE (g.hide l) ρ' H' σ env → PostS (g.hide l) E ρ' H' D' (f d S') → Q v H') : t σ H Q := by
  refine h l σ H Q ρ S env re rs ?_
  cases e : m env S with
  | ok d S' => rw [e] at p; exact fun ρ' H' v a b c => k d S' ρ' H' v a b c (re.mono a) (PostS.ex p a)
  | err x S' => rw [e] at p; exact p
  | stuck => rw [e] at p; exact p
theorem sims_par {i j : Nat} {ta : TA} {a : AM} (ha : SimA g E ta a) : SimS g E (tPar i j ta) (sPar i j a) := by
  intro l D' σ H ρ S env re rs p
  refine ha.bindS re rs p fun ds S1 ρ1 H1 vs e1 rs1 rx re1 p1 => ?_
  split at p1
  · obtain ⟨v, w, rfl, r1, r2⟩ := rx.two
    exact ⟨v, w, rfl, p1 ρ1 H1 _ Ex.refl rs1 ((re1.set r1 i).set r2 j)⟩
  · exact p1.elim
/-! ### x in xs -/
def pyL (ps : List PyData) (p : PyData) : Bool := ps.any fun z => PyData.eqv z p
def dInB (x y : D) (S : Store) : Option Bool := match pyOf x S, pyOf y S with
  | some p, some (.list qs) => if SeqAt.shaped p = true ∧ SeqAt.shaped (.list qs) = true then some (pyL qs p) else none
  | some p, some (.tuple qs) => if SeqAt.shaped p = true ∧ SeqAt.shaped (.tuple qs) = true then some (pyL qs p) else none
  | some (.str a), some (.str b) => match a.cps.toList with
    | [c] => some (decide (c ∈ b.cps.toList))
    | _ => none
  | _, _ => none
def dIn (x y : D) (S : Store) : Res D := match dInB x y S with
  | some b => .ok (.bl b) S
  | none => .stuck
def dNotIn (x y : D) (S : Store) : Res D := match dInB x y S with
  | some b => .ok (.bl (!b)) S
  | none => .stuck
abbrev rInA (K : PySem.W.Frag) : R2 := fun x y H Q => rInD K x y H Q ∨ rInT K x y H Q ∨ ∃ (c : Nat) (z : PySem.Str), x = .str ⟨#[c]⟩ ∧ y = .str z ∧ Q (.bl (decide (c ∈ z.cps.toList))) H
abbrev rNotInA (K : PySem.W.Frag) : R2 := fun x y H Q => rNotInD K x y H Q ∨ rNotInT K x y H Q ∨ ∃ (c : Nat) (z : PySem.Str), x = .str ⟨#[c]⟩ ∧ y = .str z ∧ Q (.bl (!decide (c ∈ z.cps.toList))) H
theorem op_inA {X : Cx} (hu : X.A.units + 65 < cLine) : OpR X (compareOp .In) (rInA X.K) := (op_inD hu).or ((op_inT hu).or op_in_sign)
theorem op_notInA {X : Cx} (hu : X.A.units + 65 < cLine) : OpR X (compareOp .NotIn) (rNotInA X.K) := (op_notInD hu).or ((op_notInT hu).or op_notIn_sign)
theorem str_of_py {ρ : List Addr} {H : Hp} {S : Store} {v : V} {d : D} {a : PySem.Str} (rs : RS g ρ S H) (r : RD g ρ H v d) (h : pyOf d S = some (.str a)) : v = .str a := by
  have := py_of (K := ([] : PySem.W.Frag)) rs r h
  cases this; rfl
theorem str_one {a : PySem.Str} {c : Nat} (h : a.cps.toList = [c]) : a = ⟨#[c]⟩ := by
  obtain ⟨cps⟩ := a
  simp only at h
  congr 1
  rw [← Array.toArray_toList (xs := cps), h]
theorem sim_in : OpSim g E (rInA K) dIn := by
  intro l x y H Q ρ S dx dy rx ry rs p
  unfold dIn dInB at p
  split at p
  · rename_i b e
    split at e
    · rename_i p1 qs e1 e2
      split at e
      · rename_i hs; cases e
        exact .inl ⟨p1, qs, py_of rs rx e1, py_of rs ry e2, hs.1, hs.2, p ρ H _ Ex.refl rs (.bl _)⟩
      · cases e
    · rename_i p1 qs e1 e2
      split at e
      · rename_i hs; cases e
        exact .inr (.inl ⟨p1, qs, py_of rs rx e1, py_of rs ry e2, hs.1, hs.2, p ρ H _ Ex.refl rs (.bl _)⟩)
      · cases e
    · rename_i a b' e1 e2
      split at e
      · rename_i c ec
        cases e
        refine .inr (.inr ⟨c, b', ?_, str_of_py rs ry e2, p ρ H _ Ex.refl rs (.bl _)⟩)
        rw [str_of_py rs rx e1, str_one ec]
      · cases e
    · cases e
  · exact p.elim
theorem sim_notIn : OpSim g E (rNotInA K) dNotIn := by
  intro l x y H Q ρ S dx dy rx ry rs p
  unfold dNotIn dInB at p
  split at p
  · rename_i b e
    split at e
    · rename_i p1 qs e1 e2
      split at e
      · rename_i hs; cases e
        exact .inl ⟨p1, qs, py_of rs rx e1, py_of rs ry e2, hs.1, hs.2, p ρ H _ Ex.refl rs (.bl _)⟩
      · cases e
    · rename_i p1 qs e1 e2
      split at e
      · rename_i hs; cases e
        exact .inr (.inl ⟨p1, qs, py_of rs rx e1, py_of rs ry e2, hs.1, hs.2, p ρ H _ Ex.refl rs (.bl _)⟩)
      · cases e
    · rename_i a b' e1 e2
      split at e
      · rename_i c ec
        cases e
        refine .inr (.inr ⟨c, b', ?_, str_of_py rs ry e2, p ρ H _ Ex.refl rs (.bl _)⟩)
        rw [str_of_py rs rx e1, str_one ec]
      · cases e
    · cases e
  · exact p.elim
/-! ### what kind a thing is of: a built-in type by its name -/
def kindD (d : D) (S : Store) : Option String := match d with
  | .non => some "NoneType"
  | .bl _ => some "bool"
  | .int _ => some "int"
  | .str _ => some "str"
  | .tup _ => some "tuple"
  | .tupX _ => some "tuple"
  | .lst _ => some "list"
  | .emp _ => some "dict"
  | .loc n => match S[n]? with
    | some (.lst _) => some "list"
    | some (.dK _) => some "dict"
    | some (.dT _) => some "dict"
    | _ => none
  | _ => none
def mIsi (T : String) (a : EM) : EM := fun env S => (a env S).bind fun d S1 => match kindD d S1 with
  | some k => match kitB k T with
    | some b => .ok (.bl b) S1
    | none => .stuck
  | none => .stuck
theorem kind_ty {l : List Addr} {ρ : List Addr} {H : Hp} {S : Store} {v : V} {d : D} {k : String} (rs : RS (g.hide l) ρ S H) (r : RD (g.hide l) ρ H v d) (h : kindD d S = some k) : TyX K H v (.type k) := by
  cases r with
  | non => cases h; exact .base .non
  | bl b => cases h; exact .base (.bl b)
  | int i => cases h; exact .base (.int i)
  | str s => cases h; exact .base (.str s)
  | tup h1 n r => cases h; exact .base (.tup h1)
  | tupX h1 hd n r => cases h; exact .fTuple h1
  | lst h1 n r => cases h; exact .base (.lst h1)
  | scr n => cases h
  | empF h1 n => cases h; exact .fDict h1
  | empU h1 n => cases h; exact .base (.dK h1)
  | @loc n a hn =>
    simp only [kindD] at h
    split at h
    · rename_i zs e
      obtain ⟨vs, h1, h2⟩ := rs.ob n a _ hn e
      cases h; exact .base (.lst h1)
    · rename_i zs e
      obtain ⟨vs, h1, h2⟩ := rs.ob n a _ hn e
      cases h; exact .base (.dK h1)
    · rename_i zs e
      obtain ⟨vs, h1, h2⟩ := rs.ob n a _ hn e
      cases h; exact .base (.dT h1)
    · cases h
theorem sim_isi {T : String} {ta : TE} {a : EM} (ha : SimE g E ta a) : SimE g E (tCB (rIsi K) (tCons ta (tCons (tC (.ty T)) tNil))) (mIsi T a) := by
  intro l σ H Q ρ S env re rs p
  refine ha.bind re rs p fun d S1 ρ1 H1 v e1 rs1 rx re1 p1 => ?_
  split at p1
  · rename_i k ek
    split at p1
    · rename_i b eb
      exact ⟨v, .ty T, .type k, .type T, b, rfl, .ty T, kind_ty rs1 rx ek, kit_ty eb, p1 ρ1 H1 _ Ex.refl rs1 (.bl _)⟩
    · exact p1.elim
  · exact p1.elim
end
end Lg

namespace Lg
open PySem PySem.Spec L2
abbrev sEnv (qual : PySem.Str) (scope : Scope) (s : Shared) (f cda cc : Addr) : Env := PySem.W.ksEnv qual scope s.heap.objs.size f (.ref cda) cc
def cxS (P : Program) (w : World) (K : PySem.W.Frag) (mg : PySem.Str → Option Value) (base : Heap) (N : List PySem.Str) (qual : PySem.Str) (scope : Scope) (f cda cc : Addr) (A : Around) (outer : List Env) (s : Shared) (H : Hp) (E : XK) : Cx where
  prog := P
  w := w
  K := K
  mg := mg
  base := base
  A := A.deeper (sEnv qual scope s f cda cc)
  N := N
  s_0 := s
  H_0 := H
  env := sEnv qual scope s f cda cc
  outer := outer
  stack := sEnv qual scope s f cda cc :: outer
  ex := []
  calm := true
  fn := fun _ => false
  pn := []
  xe := fun e s' => wpAny (model P w) (A.deeper (sEnv qual scope s f cda cc)) (leaving (sEnv qual scope s f cda cc) e) (fun _ s'' => L2.CX P w outer H s E e s'') (fun e' s'' => L2.CX P w outer H s E e' s'') s'
structure ScS (N ps : List PySem.Str) (sc : Scope) : Prop where
  kind : sc.kind = .function
  co : sc.isCoroutine = false
  gen : sc.isGenerator = false
  nd : N.Nodup
  pre : N.take ps.length = ps
  par : ∀ x ∈ ps, sc.names.lookup x = some .local
  nocell : ∀ y ∈ sc.names, y.2 ≠ .cell
  free : ∀ y ∈ sc.names, y.2 = .free → y.1 = "__class__"
  su : sc.names.lookup ("super" : PySem.Str) = some .globalImplicit
  cl : sc.names.lookup ("__class__" : PySem.Str) = some .free
theorem zip_out {x : PySem.Str} : ∀ {ps : List PySem.Str} {us : List Value}, x ∉ ps → (ps.zip us).reverse.lookup x = none := by
  intro ps us h
  have : ∀ l : List (PySem.Str × Value), (∀ p ∈ l, p.1 ≠ x) → l.lookup x = none := by
    intro l
    induction l with
    | nil => intro _; rfl
    | cons p l ih =>
      intro q
      obtain ⟨k, v⟩ := p
      have q1 : k ≠ x := q (k, v) List.mem_cons_self
      rw [List.lookup_cons, show (x == k) = false by simpa using Ne.symm q1]
      exact ih fun p hp => q p (List.mem_cons_of_mem _ hp)
  refine this _ fun p hp e => h ?_
  have hp := List.mem_reverse.mp hp
  obtain ⟨k, v⟩ := p
  have e : k = x := e
  subst e
  exact (List.of_mem_zip hp).1
theorem zip_get {x : PySem.Str} {u : Value} : ∀ {ps : List PySem.Str} {us : List Value} {i : Nat}, ps.Nodup → ps[i]? = some x → us[i]? = some u → (ps.zip us).reverse.lookup x = some u
  | [], _, _, _, h, _ => by simp at h
  | _ :: _, [], _, _, _, h => by simp at h
  | p :: ps, v :: us, 0, nd, h1, h2 => by
    simp at h1 h2; subst h1; subst h2
    rw [List.zip_cons_cons, List.reverse_cons, List.lookup_append, zip_out (List.nodup_cons.mp nd).1]
    simp
  | p :: ps, v :: us, i + 1, nd, h1, h2 => by
    rw [List.zip_cons_cons, List.reverse_cons, List.lookup_append, zip_get (i := i) (List.nodup_cons.mp nd).2 (by simpa using h1) (by simpa using h2)]
    rfl
section
variable {P : Program} {w : World} {K : PySem.W.Frag} {mg : PySem.Str → Option Value} {base : Heap} {N ps : List PySem.Str} {qual : PySem.Str} {scope : Scope} {f cda cc : Addr} {A : Around} {outer : List Env} {s : Shared} {H : Hp} {E : XK} {us : List Value} {vs : List V}
theorem kind_sup {cl : List (PySem.Str × Addr)} (S : ScS N ps scope) {x : PySem.Str} (h : scope.names.lookup x = some .cell ∨ scope.names.lookup x = some .free) : x = "__class__" := by
  rcases h with h | h
  · exact absurd rfl (S.nocell _ (PySem.mem_of_lookup h))
  · exact S.free _ (PySem.mem_of_lookup h) rfl
theorem look1 {cc c : Addr} {x : PySem.Str} (h : ([("__class__", cc)] : List (PySem.Str × Addr)).lookup x = some c) : x = "__class__" ∧ c = cc := by
  rw [List.lookup_cons] at h
  by_cases e : x = "__class__"
  · subst e
    simp at h
    exact ⟨rfl, h.symm⟩
  · rw [show (x == ("__class__" : PySem.Str)) = false by simpa using e] at h
    cases h
theorem inv_startS (S : ScS N ps scope) {cl : Value} {cld : Option Addr} {csl : Array (Option Value)} {D : Addr} (hcell : K.lookup cc = some ⟨cl, cld, .cell (some (.ref D)), csl⟩) (hd : A.handled = none) (e0 : Env0 P w K mg base A outer s H) (hl : vs.length = ps.length) (r : Vals vs us)
    {h0 : Heap} {t : Nat} (hns : h0.Ns s.heap.objs.size (fun x => (ps.zip us).reverse.lookup x)) (hk : ∀ b o, s.heap.get? b = some o → h0.get? b = some o) :
    Inv (cxS P w K mg base N qual scope f cda cc A outer s H E) [] (L2.start N vs) H { s with heap := h0, toks := t } := by
  have hpl : ps.length ≤ N.length := by have := congrArg List.length S.pre; rw [List.length_take] at this; omega
  have noA : ∀ b : Addr, b ∉ (cxS P w K mg base N qual scope f cda cc A outer s H E).ex := fun b z => absurd (show b ∈ ([] : List Addr) from z) (by simp)
  have hB := e0.mod.kin _ _ hcell
  refine ⟨⟨e0.mod, S.kind, rfl, rfl, Nat.le_refl _, fun y z c h1 h2 => ?_, fun y hy => ?_, fun y c q h => ?_, fun _ => hd, Around.frames_deeper e0.frames, .inr ⟨rfl, rfl⟩, fun b z => absurd z (noA b), e0.bs, e0.bsz, fun b _ _ => noA b, fun b z => absurd z (noA b), e0.funs, e0.frf⟩,
    rfl, e0.bare, Un.kept hk, ⟨_, hns, fun i y v h1 h2 h3 => ?_⟩, fun y c h => ?_, e0.hok.fresh (Nat.le_refl _), fun y c h => ?_, fun p hp => absurd (show p ∈ ([] : List (Addr × Obj)) from hp) (by simp), e0.hok.kept hk, ?_⟩
  · rw [(look1 h1).1, (look1 h2).1]
  · rw [kind_sup (cl := []) S hy]
    exact ⟨cc, List.lookup_cons_self (k := PySem.Str.ofString "__class__")⟩
  · exact absurd (show false = true from q) (by decide)
  · have hi : i < vs.length := by
      unfold L2.start at h2
      by_cases hi : i < vs.length
      · exact hi
      · rw [List.getElem?_append_right (by simpa using hi)] at h2
        rw [List.getElem?_replicate] at h2
        split at h2 <;> cases h2
    have ha : vs[i]? = some v := by
      unfold L2.start at h2
      rw [List.getElem?_append_left (by simpa using hi), List.getElem?_map] at h2
      cases e : vs[i]? with
      | none => rw [e] at h2; cases h2
      | some a => rw [e] at h2; cases h2; rfl
    obtain ⟨u, hu, rv⟩ := r.get ha
    have hp : ps[i]? = some y := by
      rw [← S.pre, List.getElem?_take_of_lt (by omega)]; exact h1
    have ndP : ps.Nodup := by rw [← S.pre]; exact S.nd.sublist (List.take_sublist _ _)
    exact ⟨u, rv, .inl ⟨S.par y (List.mem_of_getElem? hp), zip_get ndP hp hu⟩⟩
  · obtain ⟨_, rfl⟩ := look1 h
    exact ⟨some (.ref D), _, hk _ _ (e0.bs _ _ hB).1, rfl⟩
  · obtain ⟨_, rfl⟩ := look1 h
    exact (e0.bs _ _ hB).2
  · unfold L2.start
    show _ = N.length
    rw [List.length_append, List.length_map, List.length_replicate]
    omega
end

/-- what the written part says, for super().__init__ in the own __init__ of the exception class at C -/
structure SupC (K : PySem.W.Frag) (prog : Program) (C cda cc : Addr) : Prop where
  T : OexC K C
  hm : PySem.W.ks_superIn K C C "__init__" = some (some (.builtin "ValueError.__init__"))
  hB : PySem.W.subIn K (.ref C) (.type "ValueError") = some true
  hsub : PySem.W.mroIn K C (.ref C) = some true
  ho : PySem.W.nsIn K cStatics "thirdparty.any" = some none
  code : ∃ ccl cdd vs ccs file tf, K.lookup cda = some ⟨ccl, cdd, .fields vs, ccs⟩ ∧ vs[2]? = some (.str file tf) ∧ ((prog.main.file : PySem.Str) == file) = true
  cell : ∃ cl cld csl, K.lookup cc = some ⟨cl, cld, .cell (some (.ref C)), csl⟩
  top : (prog.main.scope.names.lookup ("super" : PySem.Str)).isSome = false
theorem boot_super : bootBuiltins "super" = some (.type "super") := PyProof.Rows.Boot.super
section
variable {A : Around} {E : Value → Shared → Prop} {s : Shared}
/-- the wrapper called -/
theorem wrap_call {X : Cx} {pins : List (Addr × Obj)} {σ : L2.St} {H : Hp} {C a u : Addr} {rest : List Value} {Q : Value → Shared → Prop} (T : OexC X.K C) (I : Inv X pins σ H s) (e : H a = some (exo a C none)) (hu : s.heap.get? u = some (PySem.W.kxs_mw "ValueError.__init__" a)) (hz : rest.length ≤ sizeLine)
    (h : ∀ s', Inv X pins σ H s' → Q .none s') : wpAny (model X.prog X.w) A (call (.ref u) rest) Q E s := by
  obtain ⟨nm, q, N, bs, bm, sn, sub, ab, col, dd, k0, k1, k2, k3, k5, hC, hbm⟩ := T.cls
  obtain ⟨t1, ho⟩ := exo_at I.hok e
  have hC' := I.kIn _ _ hC
  obtain ⟨hh, g, d, tk, os⟩ := s
  refine wpAny_call (codeAny_of_tree ?_)
  show wpAny _ A.in1 (callAny (.ref u) ⟨rest, []⟩) _ _ _
  simp only [callAny]
  refine wpAny_bind (wpAny_load hu ?_)
  simp only [PySem.W.kxs_mw, show (Value.type "method-wrapper" == Value.type "method" || Value.type "method-wrapper" == Value.type "builtin_function_or_method" || Value.type "method-wrapper" == Value.type "method-wrapper") = true by decide, if_true]
  refine PySem.W.KFB.if_so (by decide) ?_
  refine wpAny_bind (PySem.W.check_bound_init F.excBase_ValueError.toExcCallFacts hC' ho rfl ?_)
  refine wpAny_bind (wpAny_pure (wpAny_pure ?_))
  refine ⟨plainId_quiet F.excBase_ValueError.init.plain _, codeAny_builtin F.excBase_ValueError.initEntry ?_⟩
  refine PySem.W.exc_init_tree (cls := .ref C) (t0 := t1) (dv := none) (c2 := .none) (c3 := .none) (b4 := .bool false) ho hz fun h' k hx _ => ?_
  have J := I.write (t' := tk) (x := a) (e := a) (o := exo a C none) (by rw [e]; exact True.intro) (.inl rfl) k ⟨_, hx⟩ (exo_ok hx)
  have eu : upd H a (exo a C none) = H := by
    funext b
    by_cases hb : b = a
    · rw [hb, upd_same, e]
    · rw [upd_ne hb]
  rw [eu] at J
  exact h _ J
end

section
variable {P : Program} {w : World} {K : PySem.W.Frag} {mg : PySem.Str → Option Value} {base : Heap}
theorem fn_super {N ps : List PySem.Str} {k : Nat} {sp : Sp} {f C cda cc : Addr} {name qual z : PySem.Str} {params : Arguments} {rest : List Stmt} {scope : Scope} {dV kV doc pm ct oc : Value} {an od : Option Addr} {osl : Array (Option Value)} {p0 p1 p2 p3 p4 p5 : Pos} {j : Nat} {ar : Arg}
    (lk : K.lookup f = some ⟨oc, od, .func (PySem.W.ksFn name qual params (.Expr (.Call (.Attribute (.Call (.Name "super" p0) [] [] p1) "__init__" p2) [.Constant (.str z) j p3] [] p4) p5 :: rest) scope dV kV doc pm an (.ref cda) ct cc), osl⟩)
    (hcd : PySem.W.codeIn K (.ref cda) qual = true) (S : ScS N ps scope) (U : SupC K P C cda cc) (hsu : mg "super" = none) (hp : (params.posonlyargs ++ params.args).head? = some ar) {pl : Shared → Sem Bool}
    (hev : ∀ s : Shared, eval (.Call (.Attribute (.Call (.Name "super" p0) [] [] p1) "__init__" p2) [.Constant (.str z) j p3] [] p4) (sEnv qual scope s f cda cc) = (do
      let ov ← attributeBase (.Call (.Name "super" p0) [] [] p1) "__init__" (sEnv qual scope s f cda cc) (eval (.Call (.Name "super" p0) [] [] p1) (sEnv qual scope s f cda cc))
      standAt p2.atName
      let (g, first) ← holding [ov] (getMethod ov "__init__" (pl s))
      callWith p4 g first (backTo p4 (starEach [.Constant (.str z) j p3] (sEnv qual scope s f cda cc))) []))
    (hps : ps.head? = some ar.arg)
    (len : ∀ vs H Q E, sp vs H Q E → vs.length = ps.length) (hself : ∀ vs H Q E, sp vs H Q E → ∃ a ws, vs = .ref a :: ws ∧ H a = some (exo a C none))
    (hbody : ∀ (A : Around) (outer : List Env) (s : Shared) (H : Hp) (vs : List V) (Q : VK) (E : XK), Room k (A.deeper (sEnv qual scope s f cda cc)) → sp vs H Q E →
      ∃ t, PSs (cxS P w K mg base N qual scope f cda cc A outer s H E) rest t ∧ t { nx := fun _ H' => Q .non H', rt := Q } (L2.start N vs) H) :
    FnOk P w K mg base (L2.CX P w) (k + 1) f (PySem.W.ksFn name qual params (.Expr (.Call (.Attribute (.Call (.Name "super" p0) [] [] p1) "__init__" p2) [.Constant (.str z) j p3] [] p4) p5 :: rest) scope dV kV doc pm an (.ref cda) ct cc) ps sp := by
  refine ⟨len, fun A outer s H args us vs Q E hr e0 hb r hsp => ?_⟩
  obtain ⟨a, ws, rfl, ha⟩ := hself _ _ _ _ hsp
  have hl := len _ _ _ _ hsp
  have KX : K.In s.heap := e0.mod.kin.keeps fun b o e => (e0.bs b o e).1
  have lim : s.heap.NoLimit := e0.mod.nolimit.keeps fun b o e => (e0.bs b o e).1
  obtain ⟨cl, cld, csl, hcell⟩ := U.cell
  obtain ⟨ccl, cdd, fvs, ccs, file, tf, hcode, hvs, hfile⟩ := U.code
  refine PySem.ks_codeAny_call_defAt (binds := ps.zip us) hr.depth (KX _ _ lk) rfl lim (PySem.W.codeRec_of KX hcd) rfl hb S.nocell (fun y hy => S.par _ (List.of_mem_zip (a := y.1) (b := y.2) hy).1) (fun h0 hns hk => ?_) S.co S.gen S.kind
  have I : Inv (cxS P w K mg base N qual scope f cda cc A outer s H E) [] (L2.start N (.ref a :: ws)) H ⟨h0, s.gens, s.drawn, s.toks + (ps.zip us).length, s.os⟩ := inv_startS S hcell hr.hd e0 hl r hns hk
  show _root_.PySem.wpAt (model P w) (A.deeper (sEnv qual scope s f cda cc)) (.func _ (sEnv qual scope s f cda cc)) (execs _ (sEnv qual scope s f cda cc)) _ _ _
  refine PySem.ks_wpAt_execs_cons ?_
  refine PySem.ks_wpAt_Expr_any ?_ (by unfold interactive; rw [show (sEnv qual scope s f cda cc).scope.kind = .function from S.kind]; rfl)
  refine PySem.ks_wpAt_MethodCall ?_ (hev s)
  obtain ⟨pr, rfl⟩ : ∃ pr, ps = ar.arg :: pr := by
    cases ps with
    | nil => cases hps
    | cons p pr => cases hps; exact ⟨pr, rfl⟩
  obtain ⟨ur, rfl⟩ : ∃ ur, us = .ref a :: ur := by
    cases r with
    | @cons _ u0 _ ur ra rr => obtain rfl : u0 = Value.ref a := ra; exact ⟨ur, rfl⟩
  have hv0 : ((ar.arg :: pr).zip (Value.ref a :: ur)).reverse.lookup ar.arg = some (.ref a) := zip_get (i := 0) (by rw [← S.pre]; exact S.nd.sublist (List.take_sublist _ _)) rfl rfl
  obtain ⟨nm, q, NN, bs, bm, sn, sub, ab, col, dd, k0, k1, k2, k3, k5, hC, hbm⟩ := U.T.cls
  have hcl : PySem.W.clsIn K C = some { name := nm, bases := bs, mro := .ref C :: bm, ns := NN, qualname := q, hasDict := true, slotNames := sn, subclasses := sub, abstract := ab, collection := col, hasDel := false } := by unfold PySem.W.clsIn; rw [hC] <;> rfl
  have hC1 := I.kIn _ _ hC
  obtain ⟨t1, hob⟩ := exo_at I.hok ha
  refine PySem.ks_wpAt_super_base (env := sEnv qual scope s f cda cc) S.su S.cl (by decide) rfl (I.kIn _ _ lk) rfl hp rfl (I.kIn _ _ hcode) rfl hvs hfile U.top ?_
  obtain ⟨mb, hb1, hb2⟩ := I.mod.blt
  refine PySem.W.ks_loadName_global S.kind S.su (Calls.loadGlobal_builtin (env := sEnv qual scope s f cda cc) (I.mod.glob.keeps I.bk) hsu (hb1.keeps I.bk) ((hb2 _ (by decide)).trans boot_super) ⟨rfl, ?_⟩)
  refine wpAny_loadName_free S.kind S.cl rfl ⟨_, I.kIn _ _ hcell, rfl⟩ ?_
  refine wpAny_loadName_local S.kind (S.par _ List.mem_cons_self) hns hv0 ?_
  refine ks_wpAny_isType_cls hC1 rfl ⟨rfl, ?_⟩
  refine ks_wpAny_call_super hC1 rfl hob rfl (fun c e => by cases e) (PySem.W.looks_mroIn I.kIn U.hsub) (fun h1 e1 k1 => ?_)
  have I1 : Inv (cxS P w K mg base N qual scope f cda cc A outer s H E) [] (L2.start N (.ref a :: ws)) H ⟨h1, s.gens, s.drawn, s.toks + ((ar.arg :: pr).zip (Value.ref a :: ur)).length, s.os⟩ := I.kept k1
  have hob1 := k1 _ _ hob
  have IA : PySem.W.InstAt h1 a { cls := .ref C, dict := none, data := .fields #[.ref t1, .none, .none, .none, .bool false, .none] } C none := ⟨hob1, rfl, rfl, trivial⟩
  have hm := U.hm
  unfold PySem.W.ks_superIn at hm
  rw [hcl] at hm
  refine PySem.W.kxs_getMethod PySem.W.kxs_ValueError e1 (PySem.W.looks_opaque I1.kIn U.ho) (l₀ := .ref C :: bm) (fun A Q E s k q => wpAny_bind ((PySem.W.looks_clsIn I1.kIn hcl) A _ E s k (wpAny_pure q))) rfl I1.kIn hm (IA.type.andThen (PySem.W.looks_subIn I1.kIn U.hB)) (PySem.W.ks_ne I1.kIn IA hcl) (by decide) ?_
  have I2 : Inv (cxS P w K mg base N qual scope f cda cc A outer s H E) [] (L2.start N (.ref a :: ws)) H ⟨h1.push (PySem.W.kxs_mw "ValueError.__init__" a), s.gens, s.drawn, s.toks + ((ar.arg :: pr).zip (Value.ref a :: ur)).length + 1, s.os⟩ := I1.kept fun b o e => Heap.get?_push_of_some _ e
  have hu2 : (h1.push (PySem.W.kxs_mw "ValueError.__init__" a)).get? h1.objs.size = some (PySem.W.kxs_mw "ValueError.__init__" a) := Heap.get?_push_at rfl rfl
  have I3 : Inv (cxS P w K mg base N qual scope f cda cc A outer s H E) [(h1.objs.size, PySem.W.kxs_mw "ValueError.__init__" a)] (L2.start N (.ref a :: ws)) H ⟨h1.push (PySem.W.kxs_mw "ValueError.__init__" a), s.gens, s.drawn, s.toks + ((ar.arg :: pr).zip (Value.ref a :: ur)).length + 1, s.os⟩ := by
    refine I2.pins_of fun p hp => ?_
    rw [List.mem_singleton.mp hp]
    exact ⟨hu2, I1.hok.fresh (Nat.le_refl _), Nat.ne_of_gt I1.lt, I1.nofs (Nat.le_refl _), fun v z => by cases z⟩
  refine PySem.W.kxs_callWith (i := "ValueError.__init__") (x := a) rfl ?_
  refine Calls.evalArgs_plain ?_
  refine wpAny_mono ((pa_cons (X := cxS P w K mg base N qual scope f cda cc A outer s H E) pe_str pa_nil).run p4 _ _ _ H (fun vs H' => H' = H ∧ vs = [.str z]) I3 ⟨rfl, rfl⟩) (fun us1 s3 hs3 => ?_) fun _ _ x => x
  obtain ⟨vs3, H3, I4, r3, e3, rfl⟩ := hs3
  rw [e3] at I4
  have hu4 := (I4.pin _ (List.mem_append_right _ (List.mem_singleton.mpr rfl))).1
  refine ⟨hu4, ?_⟩
  have hl3 : us1.length ≤ sizeLine := by
    rw [← Paired.length r3, sizeLine_eq]
    show 1 ≤ _
    omega
  refine wrap_call (X := cxS P w K mg base N qual scope f cda cc A outer s H E) U.T I4 ha hu4 hl3 fun s5 I5 => ?_
  refine wpAt_of_wpAny ?_
  obtain ⟨t, ht, hq⟩ := hbody A outer s H (.ref a :: ws) Q E (hr.deeper _) hsp
  have I6 : Inv (cxS P w K mg base N qual scope f cda cc A outer s H E) [] (L2.start N (.ref a :: ws)) H s5 := I5.pins_of fun p hp => absurd hp (by simp)
  refine wpAny_mono (ht.run [] s5 _ _ _ I6 hq) (fun fl s' hs => ?_) fun e s' hs => hs
  have fin : ∀ {σ' : L2.St} {H' : Hp} {v : V} {u : Value}, Inv (cxS P w K mg base N qual scope f cda cc A outer s H E) [] σ' H' s' → RelV v u → Q v H' → CE outer P w H s Q u s' :=
    fun {σ' H' v u} J rv q => ⟨v, H', J.os, J.bare, J.base, J.hok, rv, q⟩
  cases fl with
  | ret u =>
    obtain ⟨v, σ', H', J, rv, q⟩ := hs
    exact fin J rv q
  | next =>
    obtain ⟨σ', H', J, q⟩ := hs
    exact fin (v := V.non) (u := Value.none) J rfl q
  | brk =>
    obtain ⟨_, _, _, q⟩ := hs
    exact False.elim q
  | cont =>
    obtain ⟨_, _, _, q⟩ := hs
    exact False.elim q
end
end Lg

namespace Lg
open PySem PySem.Spec L2

/-! ### self.f = v within an own exception's __init__ -/
def putX (f : PySem.Str) (y : D) (n c : Nat) (S : Store) : Option Store := match S[n]? with
  | some (.exc c' none) => if c' = c then some ((S ++ [Ob.xd [(f, y)]]).set n (Ob.exc c (some S.length))) else none
  | some (.exc c' (some m)) => if c' = c then match S[m]? with
    | some (.xd fs) => if fs.length ≤ 900 then some (S.set m (.xd ((f, y) :: fs))) else none
    | _ => none
    else none
  | _ => none
def sFldX (c : Nat) (f : PySem.Str) (o a : EM) : SM := fun env S => (a env S).bindS fun y S1 => (o env S1).bindS fun d S2 => match d with
  | .loc n => match putX f y n c S2 with
    | some S3 => .next env S3
    | none => .stuck
  | _ => .stuck
theorem kv1 {g : G} {ρ : List Addr} {H : Hp} {f : PySem.Str} {v : V} {d : D} {fv : List (PySem.Str × V)} {fs : List (PySem.Str × D)} (r : RD g ρ H v d) (t : RKV g ρ H fv fs) : RKV g ρ H ((f, v) :: fv) ((f, d) :: fs) := .cons ⟨rfl, r⟩ t
section
variable {g : G} {E : XK} {K : PySem.W.Frag}
theorem sims_fldX {c : Nat} {f : PySem.Str} {to te : TE} {o a : EM} (T : OexC K (g.cls c)) (na : PySem.W.findIn K (.ref (g.cls c)) f = some none) (ho : SimE g E to o) (ha : SimE g E te a) : SimS g E (tOst K f to te) (sFldX c f o a) := by
  intro l D' σ H ρ S env re rs p
  refine ha.bindS re rs p fun y S1 ρ1 H1 v e1 rs1 ry re1 p1 => ?_
  refine ho.bindS re1 rs1 p1 fun d S2 ρ2 H2 u e2 rs2 rd re2 p2 => ?_
  cases rd with
  | @loc n ad hn =>
    dsimp only at p2
    unfold putX at p2
    cases e : S2[n]? with
    | none => rw [e] at p2; exact p2.elim
    | some ob =>
      rw [e] at p2
      have ob2 := rs2.ob n ad _ hn e
      refine ⟨ad, g.cls c, rfl, T, ?_⟩
      cases ob with
      | exc c' dd =>
        cases dd with
        | none =>
          by_cases q : c' = c
          · subst q
            simp only [if_true] at p2
            refine ⟨na, .inl ⟨ob2, fun dx hdx ne => ?_⟩⟩
            obtain ⟨e3, rs3⟩ := rs2.push (o := exd dx [(f, v)]) (ob := .xd [(f, y)]) hdx fun ρ' H' e' q' => ⟨[(f, v)], q', kv1 ((ry.mono e2).mono e') .nil⟩
            obtain ⟨e4, rs4⟩ := rs3.put (o := exo ad (g.cls c') (some dx)) (ob := .exc c' (some S2.length)) (e3.at hn) fun H' e' q' => ⟨dx, by rw [← rs2.len]; simp, q'⟩
            exact p2 _ _ σ (e3.trans e4) rs4 ((re2.mono e3).mono e4)
          · simp only [if_neg q] at p2; exact p2.elim
        | some m =>
          by_cases q : c' = c
          · subst q
            simp only [if_true] at p2
            obtain ⟨dx, hm, hx⟩ := ob2
            cases e5 : S2[m]? with
            | none => rw [e5] at p2; exact p2.elim
            | some ob5 =>
              rw [e5] at p2
              cases ob5 with
              | xd fs =>
                dsimp only at p2
                by_cases hz : fs.length ≤ 900
                · rw [if_pos hz] at p2
                  obtain ⟨fv, h1, h2⟩ := rs2.ob m dx _ hm e5
                  obtain ⟨e4, rs4⟩ := rs2.put (o := exd dx ((f, v) :: fv)) (ob := .xd ((f, y) :: fs)) hm fun H' e' q' => ⟨_, q', kv1 ((ry.mono e2).mono e') (h2.mono e')⟩
                  exact ⟨na, .inr ⟨dx, fv, hx, h1, by rw [h2.length]; exact hz, p2 _ _ σ e4 rs4 (re2.mono e4)⟩⟩
                · rw [if_neg hz] at p2; exact p2.elim
              | _ => exact p2.elim
          · simp only [if_neg q] at p2; exact p2.elim
      | _ => exact p2.elim
  | _ => exact p2.elim
end

/-! ### C(e, ..) as a value -/
def tMkV (C : Addr) (sp : Sp) (dvs : List V) (ta : TA) : TE := fun σ H Q => ta σ H fun vs H1 => vs.length ≤ 1000 ∧ ∀ a, H1 a = none → sp (.ref a :: (vs ++ dvs)) (upd H1 a (exo a C none)) (fun v H2 => v = .non ∧ Q (.ref a) H2) E0
def mMkX (c : Nat) (f : List D → Store → Res D) (dd : List D) (as : AM) : EM := fun env S => (as env S).bind fun ds S1 => if ds.length ≤ 1000 then match f (.loc S1.length :: (ds ++ dd)) (S1 ++ [.exc c none]) with
  | .ok .non S2 => .ok (.loc S1.length) S2
  | _ => .stuck
  else .stuck
section
variable {g : G} {E : XK} {K : PySem.W.Frag}
theorem sim_mkX {n c : Nat} {f : List D → Store → Res D} {tas : TA} {as : AM} {dvs : List V} {dd : List D} (hf : Ar n f) (hd : ∀ l ρ H, RDs (g.hide l) ρ H dvs dd) (has : SimA g E tas as) : SimE g E (tMkV (g.cls c) (spOf g n f) dvs tas) (mMkX c f dd as) := by
  intro l σ H Q ρ S env re rs p
  refine has.bind re rs p fun ds S1 ρ1 H1 vs e1 rs1 rx re1 p1 => ?_
  by_cases hz : ds.length ≤ 1000
  · rw [if_pos hz] at p1
    refine ⟨by rw [rx.length]; exact hz, fun a ha => ?_⟩
    obtain ⟨e3, rs3⟩ := rs1.push (o := exo a (g.cls c) none) (ob := .exc c none) ha fun ρ' H' e' q => q
    have rself : RD (g.hide l) (ρ1 ++ [a]) (upd H1 a (exo a (g.cls c) none)) (.ref a) (.loc S1.length) := .loc (by rw [← rs1.len]; simp)
    refine sp_go hf (.cons rself ((rx.mono e3).append (hd l _ _))) rs3 ?_
    have p2 := PostE.ex p1 e3
    split at p2
    · rename_i S2 e
      rw [e]
      intro ρ' H' u e4 rs4 ru
      cases ru with
      | non => exact ⟨rfl, p2 ρ' H' _ e4 rs4 (.loc (e4.at (by rw [← rs1.len]; simp)))⟩
    · exact p2.elim
  · rw [if_neg hz] at p1; exact p1.elim
end
section
variable {X : Cx} {x : PySem.Str} {e : Expr} {es : List Expr} {ta : TA} {p pos : Pos}
/-- the rule: positional -/
theorem pe_mkV {k : Nat} {C fI : Addr} {fd : FuncData} {ps : List PySem.Str} {sp : Sp} {ds : List Value} {dvs : List V} (T : OexC X.K C) (iC : PySem.W.findIn X.K (.ref C) "__init__" = some (some (.ref fI))) (tI : PySem.W.typeIn X.K (.ref fI) = some (.type "function"))
    (F1 : FnOk X.prog X.w X.K X.mg X.base (L2.CX X.prog X.w) k fI fd ps sp) (hr : Room (k + 1) X.A) (hb : Binds X.K fd ps ds) (hd : Vals dvs ds) (hg : Gl X x) (hm : X.mg x = some (.ref C)) (ha : PA X (e :: es) ta)
    (hdb : (x == ("__debug__" : PySem.Str)) = false := by decide) (he : starEach (e :: es) X.env = (false, eval e X.env) :: starEach es X.env := by rfl) (hpl : (backTo pos (starEach es X.env)).any (·.1) = false := by rfl) :
    PE X (.Call (.Name x p) (e :: es) [] pos) (tMkV C sp dvs ta) := by
  refine ⟨fun pins s σ H Q I h => ?_⟩
  obtain ⟨nm, q, N, bs, bm, sn, sub, ab, col, dd, k0, k1, k2, k3, k5, hC, hbm⟩ := T.cls
  refine wpAny_Call_Name_kw (ld_glob I hg hm ?_ hdb)
  refine PySem.W.callWith_K (h₀ := X.base) I.ok.mod.kin T.kC (thn (ha.run pos pins s σ H _ I h) fun us s1 ⟨vs, H1, I1, r1, hz, q1⟩ => ⟨I1.kIn, ?_⟩) he hpl
  show wpAny _ _ (call (.ref C) us) _ _ _
  obtain ⟨hp, gg, dr, tk, os⟩ := s1
  have hsz : hp.objs.size ≤ hp.objs.size + 1 := Nat.le_succ _
  have hq := q1 (hp.objs.size + 1) (I1.hok.fresh hsz)
  have kk : ∀ b o, hp.get? b = some o → ((hp.push (PySem.W.kdv_tup us)).push (PySem.HandSPX.excO C hp.objs.size)).get? b = some o := fun b o e => Heap.get?_push_of_some _ (Heap.get?_push_of_some _ e)
  have I2 : Inv X pins σ (upd H1 (hp.objs.size + 1) (exo (hp.objs.size + 1) C none)) ⟨(hp.push (PySem.W.kdv_tup us)).push (PySem.HandSPX.excO C hp.objs.size), gg, dr, tk, os⟩ :=
    I1.laid (t' := tk) kk hsz (exo_ok (t1 := hp.objs.size) (by heap_get))
  have r2 : Vals (V.ref (hp.objs.size + 1) :: (vs ++ dvs)) (Value.ref (hp.objs.size + 1) :: (us ++ ds)) := .cons rfl (r1.append hd)
  have hl : (Value.ref (hp.objs.size + 1) :: us ++ ds).length = ps.length := r2.length.symm.trans (F1.len _ _ _ _ hq)
  have hus : us.length ≤ sizeLine := by
    rw [← Paired.length r1, sizeLine_eq]
    omega
  refine wpAny_call (PySem.HandSPX.call_own F.excBase_ValueError (fun Y => PySem.HandSPX.refsVE_contains Y bm hbm) (I1.kIn _ _ hC) (PySem.W.looks_findIn I1.kIn iC) (fun self => PySem.W.bind_fn I1.kIn self tI) hus ?_)
  refine codeAny_mono (F1.run _ X.stack _ _ ⟨Value.ref (hp.objs.size + 1) :: us, []⟩ (Value.ref (hp.objs.size + 1) :: (us ++ ds)) _ _ E0 (hr.make C us []) (I2.env0.make C us []) (hb _ (Value.ref (hp.objs.size + 1) :: us) I2.kIn hl) r2 hq) fun r s' hq' => ?_
  cases r with
  | error er => exact passL pins σ _ _ er s' I2 hq'
  | ok fl =>
    cases fl with
    | ret u =>
      obtain ⟨v, H', I3, rv, ev, q3⟩ := I2.after hq'
      subst ev
      exact ⟨rv, ⟨V.ref (hp.objs.size + 1), H', I3, rfl, q3⟩⟩
    | next => exact False.elim hq'
    | brk => exact False.elim hq'
    | cont => exact False.elim hq'
end

/-! ### C(k = e, ..) -/
section
variable {prog : Program} {w : World} {A : Around} {E : Value → Shared → Prop} {M : Model} {R : Result → Shared → Prop} {h : Heap} {g : Array GenState} {d : Drawn} {t : Nat} {os : OsState}
variable {nm q : PySem.Str} {C N : Addr} {bs bm bmB : List Value} {hdct : Bool} {sn : List PySem.Str} {sub : List Value} {ab : Bool} {col : Option Bool} {dd : Option Addr} {k0 k1 k2 k3 k5 : Option Value} {B newId initId : String}
theorem newK_check (F : ExcBaseFacts B newId initId bmB) (hT : ∀ X : String, bm.contains (.type X) = bmB.contains (.type X)) {rest : List Value} {kw : List (PySem.Str × Value)} {Q : Unit → Shared → Prop}
    (hC : h.get? C = some (excClassObj nm q C N bs bm hdct sn sub ab col dd k0 k1 k2 k3 k5 newId)) (hq : Q () ⟨h, g, d, t, os⟩) : wpAny M A (checkBuiltinCall newId ⟨.ref C :: rest, kw⟩) Q E ⟨h, g, d, t, os⟩ := by
  have i1 : (Value.ref C :: bm).contains (.type B) = true := by rw [List.contains_cons, hT, F.hasB, Bool.or_true]
  have i2 := F.noStar
  simp only [checkBuiltinCall, F.newKind, F.newSplit, F.newRow]
  repeat (first
    | refine wpAny_loadPart_at hC ?_
    | (refine wpAny_isSubtype_exc hC ?_; rw [i1])
    | refine wpAny_staticBase_exc hC ?_
    | refine wpAny_madeBy_exc hC ?_
    | simp only [bne_self_eq_false, Bool.false_eq_true, if_false]
    | wp_step)
  all_goals exact hq
end
section
variable {prog : Program} {w : World} {A : Around} {E : Value → Shared → Prop} {R : Result → Shared → Prop} {h : Heap} {g : Array GenState} {d : Drawn} {t : Nat} {os : OsState}
variable {nm q : PySem.Str} {C N : Addr} {bs bm bmB : List Value} {hdct : Bool} {sn : List PySem.Str} {sub : List Value} {ab : Bool} {col : Option Bool} {dd : Option Addr} {k0 k1 k2 k3 k5 : Option Value} {B newId initId : String}
theorem newK_run (F : ExcBaseFacts B newId initId bmB) (hT : ∀ X : String, bm.contains (.type X) = bmB.contains (.type X)) {rest : List Value} {kw : List (PySem.Str × Value)}
    (hC : h.get? C = some (excClassObj nm q C N bs bm hdct sn sub ab col dd k0 k1 k2 k3 k5 newId)) (hz : rest.length ≤ sizeLine)
    (hq : R (.ok (.ret (.ref (h.objs.size + 1)))) ⟨(h.push (PySem.W.kdv_tup rest)).push (PySem.HandSPX.excO C h.objs.size), g, d, t, os⟩) :
    codeAny (model prog w) A (.builtin newId ⟨.ref C :: rest, kw⟩) R ⟨h, g, d, t, os⟩ := by
  have i0 := F.ends
  have i1 : (Value.ref C :: bm).contains (.type B) = true := by rw [List.contains_cons, hT, F.hasB, Bool.or_true]
  have i2 : (Value.ref C :: bm).contains (.type "AttributeError") = false := by rw [List.contains_cons, hT, F.noAttr] <;> rfl
  have i3 : (Value.ref C :: bm).contains (.type "NameError") = false := by rw [List.contains_cons, hT, F.noName] <;> rfl
  refine codeAny_builtinAt F.entry ?_
  unfold Builtin.«BaseException.__new__»
  refine wpAt_bind ?_
  show wpAt _ _ _ (stack >>= _) _ _ _
  refine wpAt_bind (wpAt_stack fun p below => wpAt_of_wpAny ?_)
  wp_walk
  refine wpAt_of_wpAny ?_
  rw [F.owner]
  repeat (first
    | with_reducible refine wpAny_madeHere_exc F.canon hC ?_
    | with_reducible refine wpAny_loadPart_at hC ?_
    | (with_reducible refine wpAny_isSubtype_exc hC ?_; first | rw [i1] | rw [i2] | rw [i3])
    | wp_step)
  show R _ _
  rw [Heap.size_push]
  exact hq
theorem tcK (F : ExcBaseFacts B newId initId bmB) (hT : ∀ X : String, bm.contains (.type X) = bmB.contains (.type X)) {rest : List Value} {kw : List (PySem.Str × Value)} {fI : Addr} {Q : Fin → Shared → Prop}
    (hC : h.get? C = some (excClassObj nm q C N bs bm hdct sn sub ab col dd k0 k1 k2 k3 k5 newId)) (hi : PySem.W.Looks (model prog w) h (typeLookup (.ref C) "__init__") (some (.ref fI)))
    (hb : ∀ self, PySem.W.Looks (model prog w) h (bindSpecial (.ref fI) self) (.ref fI, [self])) (hz : rest.length ≤ sizeLine)
    (hq : codeAny (model prog w) A (.call (.ref fI) ⟨.ref (h.objs.size + 1) :: rest, kw⟩)
      (fun r s' => match r with | .ok (.ret v) => v = .none ∧ Q (.done (.ret (.ref (h.objs.size + 1)))) s' | .ok _ => False | .error e => E e s')
      ⟨(h.push (PySem.W.kdv_tup rest)).push (PySem.HandSPX.excO C h.objs.size), g, d, t, os⟩) : wpAny (model prog w) A (Builtin.«type.__call__» ⟨.ref C :: rest, kw⟩) Q E ⟨h, g, d, t, os⟩ := by
  repeat (first
    | with_reducible refine wpAny_loadPart_at hC ?_
    | with_reducible refine wpAny_madeBy_exc hC ?_
    | wp_step)
  refine codeAny_call_builtin_code (Code.quiet_builtin _ F.quiet) (newK_check F hT hC ?_)
  refine newK_run F hT hC hz ?_
  show wpAny _ _ _ _ _ _
  have k : ∀ b o, h.get? b = some o → ((h.push (PySem.W.kdv_tup rest)).push (PySem.HandSPX.excO C h.objs.size)).get? b = some o := fun b o e => Heap.get?_push_of_some _ (Heap.get?_push_of_some _ e)
  have kC := k _ _ hC
  have kN : ((h.push (PySem.W.kdv_tup rest)).push (PySem.HandSPX.excO C h.objs.size)).get? (h.objs.size + 1) = some (PySem.HandSPX.excO C h.objs.size) := by heap_get
  have cC : (Value.ref C :: bm).contains (.ref C) = true := by simp
  unfold isInstance
  repeat (first
    | with_reducible refine wpAny_loadPart_at kN ?_
    | (with_reducible refine wpAny_isSubtype_exc kC ?_; rw [cC])
    | wp_step)
  show wpAny _ _ (typeLookup (.ref C) _) _ _ _
  refine (hi.keeps k).at ?_
  refine wpAny_holding (wpAny_bind (((hb (.ref (h.objs.size + 1))).keeps k).at ?_))
  refine wpAny_bind (wpAny_call (codeAny_mono hq fun r s' z => ?_))
  rcases r with e | (v | _ | _ | _) <;> first | exact z | exact z.elim | skip
  obtain ⟨rfl, z⟩ := z
  first
    | exact wpAny_pure (wpAny_pure z)
    | (wp_walk; exact z)
theorem tcK_check {M : Model} {rest : List Value} {kw : List (PySem.Str × Value)} {Q : Unit → Shared → Prop} (hC : h.get? C = some (excClassObj nm q C N bs bm hdct sn sub ab col dd k0 k1 k2 k3 k5 newId)) (hq : Q () ⟨h, g, d, t, os⟩) :
    wpAny M A (checkBuiltinCall "type.__call__" ⟨.ref C :: rest, kw⟩) Q E ⟨h, g, d, t, os⟩ := by
  have i1 := tc_sub
  have i2 : (⟨h, g, d, t, os⟩ : Shared).TypeIs (.ref C) "type" := ⟨_, hC, rfl⟩
  simp only [checkBuiltinCall, tc_kind, tc_split]
  repeat (any_goals (first
    | assumption
    | with_reducible refine wpAny_loadPart_at hC ?_
    | with_reducible refine wpAny_onRaise ?_
    | with_reducible refine wpAny_map ?_
    | wp_step))
theorem callK (F : ExcBaseFacts B newId initId bmB) (hT : ∀ X : String, bm.contains (.type X) = bmB.contains (.type X)) {rest : List Value} {kw : List (PySem.Str × Value)} {fI : Addr}
    (hC : h.get? C = some (excClassObj nm q C N bs bm hdct sn sub ab col dd k0 k1 k2 k3 k5 newId)) (hi : PySem.W.Looks (model prog w) h (typeLookup (.ref C) "__init__") (some (.ref fI)))
    (hb : ∀ self, PySem.W.Looks (model prog w) h (bindSpecial (.ref fI) self) (.ref fI, [self])) (hz : rest.length ≤ sizeLine)
    (hq : codeAny (model prog w) (A.under (.builtin "type.__call__" ⟨.ref C :: rest, kw⟩)) (.call (.ref fI) ⟨.ref (h.objs.size + 1) :: rest, kw⟩) (PySem.W.InitBack (h.objs.size + 1) R)
      ⟨(h.push (PySem.W.kdv_tup rest)).push (PySem.HandSPX.excO C h.objs.size), g, d, t, os⟩) : codeAny (model prog w) A (.call (.ref C) ⟨rest, kw⟩) R ⟨h, g, d, t, os⟩ := by
  have f1 := tc_lookup
  have f2 := tc_bind (.ref C)
  have hTy : (⟨h, g, d, t, os⟩ : Shared).TypeIs (.ref C) "type" := ⟨_, hC, rfl⟩
  refine codeAny_of_tree ?_
  show wpAny _ _ (callAny (.ref C) _) _ _ _
  repeat (any_goals (first | assumption | with_reducible refine wpAny_loadPart_at hC ?_ | wp_step))
  refine ⟨rfl, ?_⟩
  refine codeAny_call_builtin_at (Code.quiet_builtin _ (by decide +kernel)) entry_typeCall (tcK_check hC (tcK F hT hC hi hb hz ?_))
  refine codeAny_mono hq fun r s' z => ?_
  rcases r with e | (v | _ | _ | _) <;> exact z
end

def tMkVk (C : Addr) (m : Nat) (sp : Sp) (gV : List V → List V → List V) (tk : TA) : TE := fun σ H Q => tk σ H fun zs H1 => zs.length = m ∧ ∀ a, H1 a = none → sp (gV [.ref a] zs) (upd H1 a (exo a C none)) (fun v H2 => v = .non ∧ Q (.ref a) H2) E0
section
variable {X : Cx} {x : PySem.Str} {kws : List Keyword} {tk : TA} {p pos : Pos}
theorem pe_mkVk {k : Nat} {C fI : Addr} {fd : FuncData} {ps ks : List PySem.Str} {sp : Sp} {gg : List Value → List Value → List Value} {gV : List V → List V → List V} (T : OexC X.K C) (iC : PySem.W.findIn X.K (.ref C) "__init__" = some (some (.ref fI))) (tI : PySem.W.typeIn X.K (.ref fI) = some (.type "function"))
    (F1 : FnOk X.prog X.w X.K X.mg X.base (L2.CX X.prog X.w) k fI fd ps sp) (hr : Room (k + 1) X.A) (hb : KBn X.K fd ps 1 ks gg gV) (hg : Gl X x) (hm : X.mg x = some (.ref C)) (hkw : PK X kws tk)
    (hall : (backToKw pos (keywordEach kws X.env)).all (·.1.isSome) = true := by rfl) (hks : (backToKw pos (keywordEach kws X.env)).filterMap (·.1) = ks := by rfl)
    (hdb : (x == ("__debug__" : PySem.Str)) = false := by decide) (hpl : ((backTo pos (starEach [] X.env)).any (·.1) || (backToKw pos (keywordEach kws X.env)).any (·.1.isNone)) = false := by rfl) :
    PE X (.Call (.Name x p) [] kws pos) (tMkVk C ks.length sp gV tk) := by
  refine ⟨fun pins s σ H Q I h => ?_⟩
  obtain ⟨nm, q, N, bs, bm, sn, sub, ab, col, dd, k0, k1, k2, k3, k5, hC, hbm⟩ := T.cls
  refine wpAny_Call_Name_kw (ld_glob I hg hm ?_ hdb)
  refine PySem.W.callWith_KW0 (h₀ := X.base) I.ok.mod.kin T.kC hall (thn (hkw.run pos pins s σ H _ I h) fun ws s1 ⟨zs, H1, I1, r1, hz, q1⟩ => ⟨I1.kIn, ?_⟩) hpl
  rw [hks]
  show wpAny _ _ (call (.ref C) [] (ks.zip ws)) _ _ _
  obtain ⟨hp, gs, dr, tk, os⟩ := s1
  have hsz : hp.objs.size ≤ hp.objs.size + 1 := Nat.le_succ _
  have hq := q1 (hp.objs.size + 1) (I1.hok.fresh hsz)
  have kk : ∀ b o, hp.get? b = some o → ((hp.push (PySem.W.kdv_tup [])).push (PySem.HandSPX.excO C hp.objs.size)).get? b = some o := fun b o e => Heap.get?_push_of_some _ (Heap.get?_push_of_some _ e)
  have I2 : Inv X pins σ (upd H1 (hp.objs.size + 1) (exo (hp.objs.size + 1) C none)) ⟨(hp.push (PySem.W.kdv_tup [])).push (PySem.HandSPX.excO C hp.objs.size), gs, dr, tk, os⟩ :=
    I1.laid (t' := tk) kk hsz (exo_ok (t1 := hp.objs.size) (by heap_get))
  have rs : Vals [V.ref (hp.objs.size + 1)] [Value.ref (hp.objs.size + 1)] := .cons rfl .nil
  refine wpAny_call (callK F.excBase_ValueError (fun Y => PySem.HandSPX.refsVE_contains Y bm hbm) (I1.kIn _ _ hC) (PySem.W.looks_findIn I1.kIn iC) (fun self => PySem.W.bind_fn I1.kIn self tI) (Nat.zero_le _) ?_)
  refine codeAny_mono (F1.run _ X.stack _ _ ⟨[Value.ref (hp.objs.size + 1)], ks.zip ws⟩ (gg [Value.ref (hp.objs.size + 1)] ws) _ _ E0 (hr.make C [] (ks.zip ws)) (I2.env0.make C [] (ks.zip ws)) (hb.to _ [Value.ref (hp.objs.size + 1)] ws I2.kIn rfl (r1.length.symm.trans hz)) (hb.rel rs r1) hq) fun r s' hq' => ?_
  cases r with
  | error er => exact passL pins σ _ _ er s' I2 hq'
  | ok fl =>
    cases fl with
    | ret u =>
      obtain ⟨v, H', I3, rv, ev, q3⟩ := I2.after hq'
      subst ev
      exact ⟨rv, ⟨V.ref (hp.objs.size + 1), H', I3, rfl, q3⟩⟩
    | next => exact False.elim hq'
    | brk => exact False.elim hq'
    | cont => exact False.elim hq'
end
def mMkXk (c m : Nat) (f : List D → Store → Res D) (gD : List D → List D → List D) (as : AM) : EM := fun env S => (as env S).bind fun ds S1 => if ds.length = m then match f (gD [.loc S1.length] ds) (S1 ++ [.exc c none]) with
  | .ok .non S2 => .ok (.loc S1.length) S2
  | _ => .stuck
  else .stuck
theorem sim_mkXk {g : G} {E : XK} {n c m : Nat} {f : List D → Store → Res D} {tas : TA} {as : AM} {gV : List V → List V → List V} {gD : List D → List D → List D} (hf : Ar n f) (hrel : ∀ {l : List Addr} {ρ : List Addr} {H : Hp} {vs zs : List V} {ds es : List D}, RDs (g.hide l) ρ H vs ds → RDs (g.hide l) ρ H zs es → RDs (g.hide l) ρ H (gV vs zs) (gD ds es)) (has : SimA g E tas as) :
    SimE g E (tMkVk (g.cls c) m (spOf g n f) gV tas) (mMkXk c m f gD as) := by
  intro l σ H Q ρ S env re rs p
  refine has.bind re rs p fun ds S1 ρ1 H1 vs e1 rs1 rx re1 p1 => ?_
  by_cases hz : ds.length = m
  · rw [if_pos hz] at p1
    refine ⟨by rw [rx.length]; exact hz, fun a ha => ?_⟩
    obtain ⟨e3, rs3⟩ := rs1.push (o := exo a (g.cls c) none) (ob := .exc c none) ha fun ρ' H' e' q => q
    have rself : RD (g.hide l) (ρ1 ++ [a]) (upd H1 a (exo a (g.cls c) none)) (.ref a) (.loc S1.length) := .loc (by rw [← rs1.len]; simp)
    refine sp_go hf (hrel (.cons rself .nil) (rx.mono e3)) rs3 ?_
    have p2 := PostE.ex p1 e3
    split at p2
    · rename_i S2 e
      rw [e]
      intro ρ' H' u e4 rs4 ru
      cases ru with
      | non => exact ⟨rfl, p2 ρ' H' _ e4 rs4 (.loc (e4.at (by rw [← rs1.len]; simp)))⟩
    · exact p2.elim
  · rw [if_neg hz] at p1; exact p1.elim

/-! ### an exception class without an own __init__ -/
def mEx0 (c : Nat) (as : EM) : EM := fun env S => (as env S).bind fun _ S1 => .ok (.loc S1.length) (S1 ++ [.ex0 c])
theorem sim_ex0 {g : G} {E : XK} {c : Nat} {ta : TE} {a : EM} (ha : SimE g E ta a) : SimE g E (fun σ H Q => ta σ H fun _ H1 => ∀ a, H1 a = none → Q (.ref a) (upd H1 a (ExO (.ref (g.cls c)) a))) (mEx0 c a) := by
  intro l σ H Q ρ S env re rs p
  refine ha.bind re rs p fun d S1 ρ1 H1 v e1 rs1 rx re1 p1 => ?_
  intro a hn
  obtain ⟨e3, rs3⟩ := rs1.push (o := ExO (.ref (g.cls c)) a) (ob := .ex0 c) hn fun ρ' H' e' q => q
  exact p1 _ _ _ e3 rs3 (.loc (by rw [← rs1.len]; simp))

/-! ### e.f of an exception -/
def tXg (K : PySem.W.Frag) (f : PySem.Str) (te : TE) : TE := fun σ H Q => te σ H fun x H1 => ∃ (a C dx : Addr) (fs : List (PySem.Str × V)) (v : V), x = .ref a ∧ ((H1 a = some (exo a C (some dx)) ∧ H1 dx = some (exd dx fs)) ∨ (H1 a = some (Cxo a C (some dx)) ∧ H1 dx = some (.xd fs))) ∧ fs.lookup f = some v ∧ XfC K C ∧ PySem.W.findIn K (.ref C) f = some none ∧ Q v H1
theorem pe_xg {X : Cx} {e : Expr} {te : TE} {pos : Pos} {n : PySem.Str} (he : PE X e te) (hb : attributeBase e n X.env (eval e X.env) = eval e X.env := by rfl) : PE X (.Attribute e n pos) (tXg X.K n te) := by
  refine ⟨fun pins s σ H Q I h => ?_⟩
  refine attr_of hb (thn (he.run pins s σ H _ I h) fun u s1 hh => ?_)
  obtain ⟨x, H1, I1, rx, a, C, dx, fs, v, ex, ee, l, T, hno, q⟩ := hh
  subst ex
  obtain rfl : u = Value.ref a := rx
  have go : ∀ (ox : Obj) (mA : PySem.Str → Option Value), s1.heap.get? a = some ox → ox.cls = .ref C → ox.dict = some dx → (∃ vs, ox.data = .fields vs) → s1.heap.Ns1 dx mA → (∀ f, RelO (fs.lookup f) (mA f)) → wpAny (model X.prog X.w) X.A (getAttr (.ref a) n true) (EP X pins σ Q) X.xe s1 := by
    intro ox mA ho hc hdx hf hns hr
    obtain ⟨od, hod, hl⟩ := lookIn_ns hns
    obtain ⟨u, hu, ru⟩ := RelO.some_of (v := v) (o := mA n) (by rw [← l]; exact hr n)
    obtain ⟨vs, hf⟩ := hf
    have J : PySem.W.InstAt s1.heap a ox C (some od) := ⟨ho, hc, by unfold PySem.W.notCls; rw [hf] <;> rfl, by rw [hdx]; exact hod⟩
    exact PySem.HandSPX.exc_get I1.kIn J T.ga T.gg T.exC (PySem.W.findObj_own T.hdC hno rfl (by rw [hl, hu])) (handed_of ru) ⟨v, H1, I1.tok _, ru, q⟩
  rcases ee with ⟨ea, ed⟩ | ⟨ea, ed⟩
  · obtain ⟨t1, ho⟩ := exo_at I1.hok ea
    obtain ⟨mA, hns, hr⟩ := exd_at I1.hok ed
    exact go _ mA ho rfl rfl ⟨_, rfl⟩ hns hr
  · obtain ⟨⟨oe, vs, ho, hz, hd⟩, _, _⟩ := I1.hok a _ ea
    obtain ⟨mA, hns, hr⟩ := (show ObjOk X.prog X.w H1 s1.heap dx (.xd fs) from I1.hok dx _ ed)
    exact go oe mA ho hz.1 hz.2 ⟨vs, hd⟩ hns hr
def fldX (ok : Nat → Bool) (f : PySem.Str) (d : D) (S : Store) : Option D := match d with
  | .loc n => match S[n]? with
    | some (.exc c' (some m)) => if ok c' = true then match S[m]? with
      | some (.xd fs) => fs.lookup f
      | _ => none
      else none
    | some (.cxc c' (some fs)) => if ok c' = true then fs.lookup f else none
    | _ => none
  | _ => none
def mXg (ok : Nat → Bool) (f : PySem.Str) (a : EM) : EM := fun env S => (a env S).bind fun d S1 => match fldX ok f d S1 with
  | some x => .ok x S1
  | none => .stuck
theorem sim_xg {g : G} {E : XK} {K : PySem.W.Frag} {ok : Nat → Bool} {f : PySem.Str} {te : TE} {a : EM} (T : ∀ c, ok c = true → XfC K (g.cls c) ∧ PySem.W.findIn K (.ref (g.cls c)) f = some none) (ha : SimE g E te a) : SimE g E (tXg K f te) (mXg ok f a) := by
  intro l σ H Q ρ S env re rs p
  refine ha.bind re rs p fun d S1 ρ1 H1 v e1 rs1 rx re1 p1 => ?_
  cases hF : fldX ok f d S1 with
  | none => rw [hF] at p1; exact p1.elim
  | some x =>
    rw [hF] at p1
    cases rx with
    | @loc n ad hn =>
      simp only [fldX] at hF
      split at hF
      · rename_i c' m e
        split at hF
        · rename_i q
          split at hF
          · rename_i fs e5
            obtain ⟨dx, hm, hx⟩ := rs1.ob n ad _ hn e
            obtain ⟨fv, h1, h2⟩ := rs1.ob m dx _ hm e5
            obtain ⟨y, h3, h4⟩ := (h2.lookup (f := f)).1 x hF
            exact ⟨ad, _, dx, fv, y, rfl, .inl ⟨hx, h1⟩, h3, (T _ q).1, (T _ q).2, p1 ρ1 H1 y Ex.refl rs1 h4⟩
          · cases hF
        · cases hF
      · rename_i c' fs e
        split at hF
        · rename_i q
          obtain ⟨dx, fv, _, hx, h1, h2⟩ := rs1.ob n ad _ hn e
          obtain ⟨y, h3, h4⟩ := (h2.lookup (f := f)).1 x hF
          exact ⟨ad, _, dx, fv, y, rfl, .inr ⟨hx, h1⟩, h3, (T _ q).1, (T _ q).2, p1 ρ1 H1 y Ex.refl rs1 h4⟩
        · cases hF
      · cases hF
    | _ => cases hF

/-! ### isinstance of an exception -/
open PySem.W in
theorem getO {prog : Program} {w : World} {A : Around} {E : Value → Shared → Prop} {s : Shared} {K : Frag} {x D : Addr} {ox : Obj} {od : Option Obj} {Q : Option Value → Shared → Prop} (C : ExcC K D) (X : K.In s.heap) (I : InstAt s.heap x ox D od) (h : Q (some (.ref D)) { s with toks := s.toks + 1 }) :
    wpAny (model prog w) A (getAttr? (.ref x) "__class__") Q E s := by
  have hf : findObj K D od "__class__" = some (.bind (.builtin "getset_descriptor.__get__") (.builtin "object.__class__")) := by
    obtain ⟨cd, hc, _⟩ := any_some C.hd
    unfold findObj
    rw [hc, Option.bind_some, C.ha, Option.bind_some]
    simp [C.hn, C.ht]
  obtain ⟨hp, g, d, t, os⟩ := s
  have a0 := I.type (M := model prog w)
  have a3 := looks_find (M := model prog w) X I hf
  have b2 : (Value.builtin "BaseException.__getattribute__" == Value.builtin "object.__getattribute__") = false := by decide +kernel
  have b1 : (onTheHeap (Value.ref D) && Value.builtin "BaseException.__getattribute__" == Value.builtin "object.__getattribute__") = false := by rw [b2] <;> rfl
  unfold getAttr? getAttrBy? getAttrBy
  refine wpAny_bind (wpAny_mkText (wpAny_bind (wpAny_attempt (wpAny_holding (wpAny_bind (a0.at (wpAny_bind ((looks_findIn X C.hg).at ?_))))))))
  show wpAny _ _ (if (onTheHeap (Value.ref D) && Value.builtin "BaseException.__getattribute__" == Value.builtin "object.__getattribute__") = true then _ else _) _ _ _
  rw [b1, if_neg Bool.false_ne_true]
  unfold getAttrByItsOwn hookBefore
  refine wpAny_bind ?_
  rw [if_pos (show onTheHeap (Value.ref D) = true from rfl)]
  refine (looks_findIn X C.hk).at ?_
  refine wpAny_bind (wpAny_attempt (wpAny_holding ?_))
  unfold callGetattribute
  rw [show (false && onTheHeap (Value.builtin "BaseException.__getattribute__")) = false from rfl, if_neg Bool.false_ne_true]
  unfold boundAndCalled
  rw [PySem.F.excAttr_ValueError.ga.bind (.ref x)]
  refine wpAny_bind (wpAny_pure ?_)
  show wpAny _ _ (call (.builtin "BaseException.__getattribute__") [.ref x, .str "__class__" t]) _ _ _
  refine wpAny_call (codeAny_call_builtin PySem.F.excAttr_ValueError.ga.plain PySem.F.entry_bexc_ga ?_)
  refine @check_slot (model prog w) _ _ ⟨hp, g, d, t + 1, os⟩ "BaseException.__getattribute__" "BaseException" "__getattribute__" (.ref x) [.str "__class__" t] [] _ (by decide +kernel) (by decide +kernel) (a0.andThen (looks_subIn X C.hs)) (PySem.F.args_bexc_ga (.ref x) (.str "__class__" t)) ?_
  unfold Builtin.«object.__getattribute__»
  refine wpAny_bind (wpAny_of_eq (a := ((Value.ref x : Value), [Value.str "__class__" t])) (by first | rfl | (simp only [slotArgs]; rfl)) ?_)
  refine wpAny_bind (wpAny_pure (wpAny_bind (a0.at (wpAny_bind (a3.at ?_)))))
  show wpAny _ _ (holding [Value.builtin "object.__class__"] (call (.builtin "getset_descriptor.__get__") [.builtin "object.__class__", .ref x, .ref D]) >>= ret) _ _ _
  refine wpAny_bind (wpAny_holding (wpAny_call (class_get (s := ⟨hp, g, d, t + 1, os⟩) (ox := ox) (od := od) X I C.hm ?_)))
  refine wpAny_pure ?_
  show wpAny _ _ (handedOut (.ref D)) _ _ _
  rw [handedOut_of (v := .ref D) rfl]
  first
    | exact wpAny_pure (wpAny_pure h)
    | exact wpAny_pure h
    | exact wpAny_pure (wpAny_bind (wpAny_pure (wpAny_pure h)))
open PySem.W in
theorem kitO {K : Frag} {x D : Addr} (C : ExcC K D) : KitX K (.ref x) (.ref D) (fun h => ∃ ox od, InstAt h x ox D od) where
  ty := fun _ _ _ ⟨_, _, I⟩ => I.type
  it := fun _ _ X _ => by
    obtain ⟨cd, hc, _⟩ := any_some C.hd
    unfold clsIn at hc
    split at hc
    · rename_i ho
      exact fun A' Q' E' s' k q => wpAny_bind (wpAny_loadPart (k _ _ (X _ _ ho)) (wpAny_pure q))
    · cases hc
  ne := fun h tp dd its n sl X htp => by
    obtain ⟨cd, hc, _⟩ := any_some C.hd
    refine Bool.eq_false_iff.mpr fun q => ?_
    have e : D = tp := Value.ref.inj (beq_iff_eq.mp q)
    subst e
    unfold clsIn at hc
    split at hc
    · rename_i ho
      cases (X _ _ ho).symm.trans htp
    · cases hc
  ca := fun X ⟨_, _, I⟩ k => getO C X I k
/-- an exception of the store -/
def ExAt (H : Hp) (a D : Addr) : Prop := (∃ d, H a = some (exo a D d) ∧ ∀ dx, d = some dx → ∃ fs, H dx = some (exd dx fs)) ∨ H a = some (ExO (.ref D) a) ∨ ∃ d, H a = some (Cxo a D d) ∧ ∀ dx, d = some dx → ∃ fs, H dx = some (.xd fs)
theorem exat_inst {X : Cx} {pins : List (Addr × Obj)} {s : Shared} {σ : L2.St} {H : Hp} {a D : Addr} (I : Inv X pins σ H s) (ha : ExAt H a D) : ∃ ox od, PySem.W.InstAt s.heap a ox D od := by
  have of : ∀ {oe : Obj} {d : Option Addr} {vs : Array Value}, s.heap.get? a = some oe → Zc (.ref D) d oe → oe.data = .fields vs → (∀ dx, d = some dx → ∃ o, s.heap.get? dx = some o) → ∃ ox od, PySem.W.InstAt s.heap a ox D od := fun {oe d vs} ho hz hd hx => by
    obtain ⟨oc, od, oda, osl⟩ := oe
    obtain ⟨h1, h2⟩ := hz
    dsimp only at h1 h2 hd
    subst h1 h2 hd
    cases od with
    | none => exact ⟨_, none, ho, rfl, rfl, trivial⟩
    | some dx =>
      obtain ⟨o, q⟩ := hx dx rfl
      exact ⟨_, some o, ho, rfl, rfl, q⟩
  rcases ha with ⟨d, ha, hd⟩ | ha | ⟨d, ha, hd⟩
  · obtain ⟨t1, ho⟩ := exo_at I.hok ha
    exact of ho ⟨rfl, rfl⟩ rfl fun dx e => by
      obtain ⟨fs, hx⟩ := hd dx e
      obtain ⟨mA, ⟨o, es, ep, hoo, _⟩, _⟩ := exd_at I.hok hx
      exact ⟨o, hoo⟩
  · obtain ⟨⟨oe, vs, ho, hz, hd, _⟩, _, _⟩ := I.hok a _ ha
    exact of ho hz hd fun dx e => nomatch e
  · obtain ⟨⟨oe, vs, ho, hz, hd'⟩, _, _⟩ := I.hok a _ ha
    exact of ho hz hd' fun dx e => by
      obtain ⟨fs, hx⟩ := hd dx e
      obtain ⟨mA, ⟨o, es, ep, hoo, _⟩, _⟩ := (show ObjOk X.prog X.w H s.heap dx (.xd fs) from I.hok dx _ hx)
      exact ⟨o, hoo⟩
/-- isinstance(e, c), e an exception of the store -/
def rIsX (K : PySem.W.Frag) : List V → Hp → VK → Prop := fun xs H Q => ∃ (a D : Addr) (c : V) (cv : Value) (b : Bool), xs = [.ref a, c] ∧ ExAt H a D ∧
  (∀ u, RelV c u → u = cv) ∧ ExcC K D ∧ PySem.W.kitOne K (.ref D) cv = some b ∧ Q (.bl b) H
theorem call_isX {X : Cx} : CallR X (.builtin "isinstance") (rIsX X.K) := by
  intro pins s σ H xs us Q I r h
  obtain ⟨a, D, c, cv, b, rfl, ha, hcv, C, e, q⟩ := h
  obtain ⟨u1, u2, rfl, r1, r2⟩ := vals2 r
  have e2 := hcv _ r2
  subst e2
  obtain rfl : u1 = Value.ref a := r1
  exact PySem.W.kia_one (kitO C) I.kIn (exat_inst I ha) e (fun z => nomatch z) fun tk => ⟨.bl b, H, I.tok tk, rfl, q⟩
/-- isinstance(e, (c, ..)) -/
def rIsXT (K : PySem.W.Frag) : List V → Hp → VK → Prop := fun xs H Q => ∃ (a D tp : Addr) (cs : List V) (us : List Value) (b : Bool), xs = [.ref a, .ref tp] ∧ H tp = some (.tup cs) ∧ Paired ClsV cs us ∧ ExAt H a D ∧
  ExcC K D ∧ PySem.W.kitAny K (.ref D) us = some b ∧ Q (.bl b) H
theorem call_isXT {X : Cx} : CallR X (.builtin "isinstance") (rIsXT X.K) := by
  intro pins s σ H xs us Q I r h
  obtain ⟨a, D, tp, cs, ws, b, rfl, hT, k, ha, C, e, q⟩ := h
  obtain ⟨u1, u2, rfl, r1, r2⟩ := vals2 r
  cases (show u2 = Value.ref tp from r2)
  obtain rfl : u1 = Value.ref a := r1
  obtain ⟨_, its, rv, o, h1, h2, n, h3⟩ := (show ObjOk X.prog X.w H s.heap tp (.tup cs) from I.hok tp _ hT)
  have e3 := ClsV.all k rv
  subst e3
  obtain ⟨oc, od, dt, sl⟩ := o
  simp only at h2 h3
  subst h2 h3
  exact PySem.W.kia_tup (kitO C) I.kIn (exat_inst I ha) h1 e (fun z => nomatch z) fun tk => ⟨.bl b, H, I.tok tk, rfl, q⟩
def excCls (d : D) (S : Store) : Option Nat := match d with
  | .loc n => match S[n]? with
    | some (.exc c none) => some c
    | some (.exc c (some m)) => match S[m]? with
      | some (.xd _) => some c
      | _ => none
    | some (.ex0 c) => some c
    | some (.cxc c _) => some c
    | _ => none
  | _ => none
/-- isi: what isinstance says of the class c -/
def mIsX (isi : Nat → Option Bool) (a : EM) : EM := fun env S => (a env S).bind fun d S1 => match excCls d S1 with
  | some c => match isi c with
    | some b => .ok (.bl b) S1
    | none => .stuck
  | none => .stuck
theorem exat_of {g : G} {l : List Addr} {ρ : List Addr} {H : Hp} {S : Store} {v : V} {d : D} {c : Nat} (rs : RS (g.hide l) ρ S H) (r : RD (g.hide l) ρ H v d) (h : excCls d S = some c) : ∃ ad, v = .ref ad ∧ ExAt H ad (g.cls c) := by
  cases r with
  | @loc n ad hn =>
    simp only [excCls] at h
    split at h
    · rename_i c' e
      cases h
      exact ⟨ad, rfl, .inl ⟨none, rs.ob n ad _ hn e, fun dx z => by cases z⟩⟩
    · rename_i c' m e
      split at h
      · rename_i fs e5
        cases h
        obtain ⟨dx, hm, hx⟩ := rs.ob n ad _ hn e
        obtain ⟨fv, h1, h2⟩ := rs.ob m dx _ hm e5
        exact ⟨ad, rfl, .inl ⟨some dx, hx, fun dx' z => by cases z; exact ⟨fv, h1⟩⟩⟩
      · cases h
    · rename_i c' e
      cases h
      exact ⟨ad, rfl, .inr (.inl (rs.ob n ad _ hn e))⟩
    · rename_i c' fs e
      cases h
      have o := rs.ob n ad _ hn e
      cases fs with
      | none => exact ⟨ad, rfl, .inr (.inr ⟨none, o, fun dx z => by cases z⟩)⟩
      | some fs =>
        obtain ⟨dx, fv, _, q1, q2, _⟩ := o
        exact ⟨ad, rfl, .inr (.inr ⟨some dx, q1, fun dx' z => by cases z; exact ⟨fv, q2⟩⟩)⟩
    · cases h
  | _ => cases h
theorem sim_isX {g : G} {E : XK} {K : PySem.W.Frag} {isi : Nat → Option Bool} {cv : V} {u0 : Value} {ta : TE} {a : EM} (hu : ∀ u, RelV cv u → u = u0) (hi : ∀ c b, isi c = some b → ExcC K (g.cls c) ∧ PySem.W.kitOne K (.ref (g.cls c)) u0 = some b) (ha : SimE g E ta a) :
    SimE g E (tCB (rIsX K) (tCons ta (tCons (tC cv) tNil))) (mIsX isi a) := by
  intro l σ H Q ρ S env re rs p
  refine ha.bind re rs p fun d S1 ρ1 H1 v e1 rs1 rx re1 p1 => ?_
  cases hc : excCls d S1 with
  | none => rw [hc] at p1; exact p1.elim
  | some c =>
    rw [hc] at p1
    dsimp only at p1
    cases hb : isi c with
    | none => rw [hb] at p1; exact p1.elim
    | some b =>
      rw [hb] at p1
      obtain ⟨i1, i2⟩ := hi c b hb
      obtain ⟨ad, rfl, ex⟩ := exat_of rs1 rx hc
      exact ⟨ad, _, cv, u0, b, rfl, ex, hu, i1, i2, p1 ρ1 H1 _ Ex.refl rs1 (.bl _)⟩
def tCs : List V → TA
  | [] => tNil
  | v :: vs => tCons (tC v) (tCs vs)
theorem tcs_go : ∀ (cs : List V) {σ : L2.St} {H : Hp} {Q : List V → Hp → Prop}, Q cs H → tCs cs σ H Q
  | [], _, _, _, q => q
  | v :: cs, σ, H, Q, q => by
    show tCs cs σ H fun ys H2 => Q (v :: ys) H2
    exact tcs_go cs q
theorem sim_isXT {g : G} {E : XK} {K : PySem.W.Frag} {isi : Nat → Option Bool} {cs : List V} {us : List Value} {ta : TE} {a : EM} (hl : cs.length ≤ 1000) (hu : Paired ClsV cs us) (hi : ∀ c b, isi c = some b → ExcC K (g.cls c) ∧ PySem.W.kitAny K (.ref (g.cls c)) us = some b) (ha : SimE g E ta a) :
    SimE g E (tCB (rIsXT K) (tCons ta (tCons (tTup (tCs cs)) tNil))) (mIsX isi a) := by
  intro l σ H Q ρ S env re rs p
  refine ha.bind re rs p fun d S1 ρ1 H1 v e1 rs1 rx re1 p1 => ?_
  cases hc : excCls d S1 with
  | none => rw [hc] at p1; exact p1.elim
  | some c =>
    rw [hc] at p1
    dsimp only at p1
    cases hb : isi c with
    | none => rw [hb] at p1; exact p1.elim
    | some b =>
      rw [hb] at p1
      obtain ⟨i1, i2⟩ := hi c b hb
      refine tcs_go cs ⟨Nat.le_trans hl (by decide), fun q hq => ?_⟩
      have e3 := Ex.new1 (ρ := ρ1) (H := H1) (o := .tup cs) hq
      obtain ⟨ad, rfl, ex⟩ := exat_of (rs1.aside hq) (rx.mono e3) hc
      exact ⟨ad, _, q, cs, us, b, rfl, upd_same, hu, ex, i1, i2, p1 ρ1 _ _ e3 (rs1.aside hq) (.bl _)⟩
end Lg

namespace Lg
open PySem PySem.Spec L2
section
variable {X : Cx} {pins : List (Addr × Obj)} {σ : L2.St} {H : Hp} {s : Shared}
theorem unsuiteP {a : Addr} {q : Addr × Obj} {pn' : List (Addr × Obj)} (I : Inv (X.suite a (q :: (X.pn ++ pins))) pn' σ H s) (ok : X.Ok) : Inv X (q :: pins) σ H s :=
  ⟨ok, I.os, I.bare, I.base, I.loc, I.cell, I.free, I.freeC, fun p hp => I.pin p (List.mem_append_left _ (by
    rcases List.mem_append.mp hp with m | m
    · exact List.mem_cons_of_mem _ (List.mem_append_left _ m)
    · rcases List.mem_cons.mp m with rfl | m
      · exact List.mem_cons_self
      · exact List.mem_cons_of_mem _ (List.mem_append_right _ m))), I.hok, I.len⟩
/-- the clause catches; its suite goes on with Nx -/
def wKeep (K : PySem.W.Frag) (c : Value) (i : Nat) (ts : Addr → Value → Option Addr → TS) (Nx : Addr → Value → Option Addr → L2.St → Hp → Prop) : WX := fun cls d σ H =>
  PySem.W.exmOne K cls c = some true ∧ ∀ a, H a = none → ts a cls d { nx := fun σ' H' => Nx a cls d (σ'.set i none) H', rt := fun _ _ => False, bk := fun _ _ => False, ct := fun _ _ => False } (σ.set i (some (.ref a))) H
def Kept (X : Cx) (pins : List (Addr × Obj)) (Nx : Addr → Value → Option Addr → L2.St → Hp → Prop) (f : Flow) (s' : Shared) : Prop :=
  f = .next ∧ ∃ a oe cls d σ H, Zc cls d oe ∧ (∃ vs, oe.data = .fields vs) ∧ Inv X ((a, oe) :: pins) σ H s' ∧ Nx a cls d σ H
theorem try_keep {x n : PySem.Str} {c : Value} {i : Nat} {body suite : List Stmt} {b₀ : Stmt} {np pos pos' : Pos} {tb : WX → TS} {ts : Addr → Value → Option Addr → TS} {Nx : Addr → Value → Option Addr → L2.St → Hp → Prop}
    (hs : X.stack = X.env :: X.outer) (hf : X.env.frame = some X.env.locals) (hN : X.N.Nodup) (hi : X.N[i]? = some n) (hln : X.env.kindOf n = some .local) (hc : Names X x c)
    (hb : ∀ (W : WX) (pn : List (Addr × Obj)) (xe : Value → Shared → Prop), Takes (X.tr pn xe) W → PassesOwn (model X.prog X.w) X.A X.env xe → PSs (X.tr pn xe) body (tb W))
    (hsu : ∀ (a : Addr) (oe : Obj) (cls : Value) (d : Option Addr) (pn : List (Addr × Obj)), Zc cls d oe → (∃ vs, oe.data = .fields vs) → PSs (X.suite a ((a, oe) :: pn)) (b₀ :: suite) (ts a cls d))
    (I : Inv X pins σ H s) (h : tb (wKeep X.K c i ts Nx) { nx := fun _ _ => False, rt := fun _ _ => False } σ H) :
    wpAny (model X.prog X.w) X.A (exec (.Try body [.ExceptHandler (some (.Name x np)) (some n) (b₀ :: suite) pos'] [] [] pos) X.env) (Kept X pins Nx) X.xe s := by
  have ok := I.ok
  have hfr : X.A.frames = some (X.env :: X.outer) := by rw [ok.frames, hs]
  refine wpAny_Try_except ?_
  refine wpAny_mono ((hb (wKeep X.K c i ts Nx) (X.pn ++ pins) (fun e s₁ => wpAny (model X.prog X.w) X.A (noteFrame e X.env) (fun _ s₂ => wpAny (model X.prog X.w) X.A (setFlight e none) (fun _ s₃ =>
    wpAny (model X.prog X.w) X.A (handleBy e X.env [.ExceptHandler (some (.Name x np)) (some n) (b₀ :: suite) pos']) (Kept X pins Nx) X.xe s₃) X.xe s₂) X.xe s₁) (fun u s' xx => ?_) PassesOwn.looking).run [] s σ H _ (I.toTry _) h) (fun f s1 hsp => ?_) (fun e s1 he => he)
  · obtain ⟨a, B, sI, pins', σ', H', cls, d, rfl, J', nb, up, sky, na, os, ag, hyes, go⟩ := xx
    have J : Inv X pins σ' H' sI := J'.ofTry ok
    have sky' : Sky B (X.env :: X.outer) a (Zc cls d) X.env.locals s'.heap := by rw [← hs]; exact sky
    show wpAny (model X.prog X.w) X.A (noteFrame (.ref a) X.env) _ _ _
    refine Sky.land Zc.steady hfr hf sky' fun h3 fl3 up3 => ?_
    have J3 : Inv X pins σ' H' { s' with heap := h3 } := J.landed nb fl3.1 (up.trans up3) os ag
    obtain ⟨oe3, vs3, he3, hz3, hd3⟩ := fl3.there
    have nfr : a ∉ frs (X.env :: X.outer) := fun hm => by
      obtain ⟨_, o', e', hnf⟩ := fl3.2.2.1.mem hm
      rw [he3] at e'; cases e'
      exact hnf _ hd3
    have nL : a ≠ X.env.locals := fun z => nfr (List.mem_filterMap.mpr ⟨X.env, List.mem_cons_self, by rw [hf, z]⟩)
    have nF : a ∉ X.fs := fun hm => by
      obtain ⟨e, he, q⟩ := List.mem_filterMap.mp hm
      exact nfr (List.mem_filterMap.mpr ⟨e, List.mem_cons_of_mem _ he, q⟩)
    have S3 := J3.suite he3 hd3 na nL nF
    refine wpAny_handleBy_cons (codeAny_handlers_test ?_) (by intro q; cases q)
    have LT : PySem.W.Looks (model X.prog X.w) h3 (typeOf (.ref a)) cls := fun A Q E s k q => wpAny_typeOf_ref (k _ _ he3) (by rw [hz3.1]; exact q)
    have LM := PySem.W.exm_one (M := model X.prog X.w) (J3.kIn) LT hyes
    have test : ∀ {Q : Value → Shared → Prop} {E : Value → Shared → Prop}, Q c { s' with heap := h3 } → wpAny (model X.prog X.w) (X.A.mark (some (.ref a))) (eval (.Name x np) X.env) Q E { s' with heap := h3 } := fun {Q E} q => by
      obtain ⟨hg, hdbg, hm | ⟨hm, hv, hnn⟩⟩ := hc
      · exact ld_glob (X := X.suite a ((a, oe3) :: (X.pn ++ pins))) S3 hg hm q hdbg
      · exact ld_blt (X := X.suite a ((a, oe3) :: (X.pn ++ pins))) S3 hg hm hv q hnn hdbg
    refine test (LM.here ?_)
    refine codeAny_handlers_suite_as ?_
    refine HandSPX.lands_againZ fl3 fun h4 fl4 up4 => ?_
    have J4 : Inv X pins σ' H' { s' with heap := h4 } := J.landed nb fl4.1 ((up.trans up3).trans up4) os ag
    obtain ⟨oe4, vs4, he4, hz4, hd4⟩ := fl4.there
    have S4 := J4.suite he4 hd4 na nL nF
    refine store_ok (X := X.suite a ((a, oe4) :: (X.pn ++ pins))) (v := .ref a) S4 hN hi (.inl hln) rfl (fun s5 S5 => ?_) (.inr hln)
    refine wpAny_mono ((hsu a oe4 cls d (X.pn ++ pins) hz4 ⟨_, hd4⟩).run [] s5 _ H' _ S5 (go a na)) (fun f s6 hsp => ?_) (fun _ _ z => False.elim z)
    cases f with
    | next =>
      obtain ⟨σ6, H6, S6, q6⟩ := hsp
      exact gone_ok (unsuiteP S6 ok) hN hi hln fun s7 J7 => ⟨rfl, a, oe4, cls, d, _, _, hz4, ⟨_, hd4⟩, J7, q6⟩
    | brk =>
      obtain ⟨_, _, _, q6⟩ := hsp
      exact False.elim q6
    | cont =>
      obtain ⟨_, _, _, q6⟩ := hsp
      exact False.elim q6
    | ret u =>
      obtain ⟨_, _, _, _, _, q6⟩ := hsp
      exact False.elim q6
  · cases f with
    | next =>
      obtain ⟨_, _, _, q⟩ := hsp
      exact False.elim q
    | brk =>
      obtain ⟨_, _, _, q⟩ := hsp
      exact False.elim q
    | cont =>
      obtain ⟨_, _, _, q⟩ := hsp
      exact False.elim q
    | ret u =>
      obtain ⟨_, _, _, _, _, q⟩ := hsp
      exact False.elim q
end

/-- behind the try the kept exception's field is given back -/
def NxF (C : Addr) (j : Nat) (f : PySem.Str) (D : Ends) : Addr → Value → Option Addr → L2.St → Hp → Prop := fun a cls d σ' H' => cls = .ref C ∧ σ'[j]? = some (some (.ref a)) ∧ ∃ (dd : Addr) (fs : List (PySem.Str × V)) (v : V), d = some dd ∧ H' dd = some (.xd fs) ∧ fs.lookup f = some v ∧ D.rt v H'
def tKeepF (K : PySem.W.Frag) (c : Value) (i j : Nat) (C : Addr) (f : PySem.Str) (tmk : L2.St → Hp → XK → Prop) : TS := fun D σ H => tmk σ H fun cls d H' => wKeep K c i (fun _ _ _ => tAsg (tVar i) (gName j)) (NxF C j f D) cls d σ H'
section
variable {X : Cx} {i j : Nat} {x n y f : PySem.Str} {c : Value} {C : Addr} {e : Expr} {b₀ : Stmt} {suite : List Stmt} {np p1 p2 p3 p4 pos pos' : Pos} {tmk : L2.St → Hp → XK → Prop}
theorem pss_keepF (hs : X.stack = X.env :: X.outer) (hf : X.env.frame = some X.env.locals) (hcalm : X.calm = true) (hN : X.N.Nodup) (hi : X.N[i]? = some n) (hln : X.env.kindOf n = some .local) (hj : X.N[j]? = some y) (hlj : X.env.kindOf y = some .local) (hc : Names X x c)
    (T : XfC X.K C) (hno : PySem.W.findIn X.K (.ref C) f = some none) (hmk : ∀ (pn : List (Addr × Obj)) (xe : Value → Shared → Prop), PMk (X.tr pn xe) e tmk) (hsu : ∀ (a : Addr) (oe : Obj) (pn : List (Addr × Obj)), PSs (X.suite a ((a, oe) :: pn)) (b₀ :: suite) (tAsg (tVar i) (gName j)))
    (hb : attributeBase (.Name y p3) f X.env (eval (.Name y p3) X.env) = eval (.Name y p3) X.env := by rfl) (hd1 : (y == ("__debug__" : PySem.Str)) = false := by decide) (hd2 : (y == ("__classdict__" : PySem.Str)) = false := by decide) :
    PSs X [.Try [.Raise (some e) none p1] [.ExceptHandler (some (.Name x np)) (some n) (b₀ :: suite) pos'] [] [] pos, .Return (some (.Attribute (.Name y p3) f p2)) p4] (tKeepF X.K c i j C f tmk) := by
  refine ⟨fun pins s σ H D I h => ?_⟩
  have W := try_keep (X := X) (body := [.Raise (some e) none p1]) (np := np) (pos := pos) (pos' := pos') (tb := fun W _ σ H => tmk σ H fun cls d H' => W cls d σ H') (ts := fun _ _ _ => tAsg (tVar i) (gName j)) (Nx := NxF C j f D) hs hf hN hi hln hc (fun W pn xe tk _ => pss_one (ps_raise hcalm tk (hmk pn xe))) (fun a oe cls d pn _ _ => hsu a oe pn) I h
  refine wpAny_execs_cons (wpAny_mono W (fun fl s1 hk => ?_) fun _ _ z => z)
  obtain ⟨rfl, a, oe, cls, d, σ1, H1, hz, ⟨vs, hd⟩, I1, rfl, hσ, dd, fs, v, rfl, ha, hl, q⟩ := hk
  refine wpAny_execs_cons (wpAny_Return_some (attr_of hb (thn ((pe_var (X := X) hj (.inl hlj) hd1 hd2).run _ s1 σ1 H1 (fun x H2 => x = .ref a ∧ H2 = H1) I1 ⟨.ref a, hσ, rfl, rfl⟩) fun u s2 hh => ?_)))
  obtain ⟨x2, H2, I2, rx, rfl, rfl⟩ := hh
  obtain rfl : u = Value.ref a := rx
  have hget := (I2.pin (a, oe) (List.mem_append_right _ List.mem_cons_self)).1
  have hx : ObjOk X.prog X.w H2 s2.heap dd (.xd fs) := I2.hok dd _ ha
  obtain ⟨mA, hns, hr⟩ := hx
  obtain ⟨od, ho, hlk⟩ := lookIn_ns hns
  obtain ⟨w, hw, rw'⟩ := RelO.some_of (v := v) (o := mA f) (by rw [← hl]; exact hr f)
  have J : PySem.W.InstAt s2.heap a oe C (some od) := ⟨hget, hz.1, by unfold PySem.W.notCls; rw [hd] <;> rfl, by rw [hz.2]; exact ho⟩
  refine PySem.HandSPX.exc_get I2.kIn J T.ga T.gg T.exC (PySem.W.findObj_own T.hdC hno rfl (by rw [hlk, hw])) (handed_of rw') ?_
  have I3 : Inv X pins σ1 H2 { s2 with toks := s2.toks + 1 } := (I2.tok _).pins_of (fun p hp => I2.pin p (List.mem_append_right _ (List.mem_cons_of_mem _ hp)))
  exact ⟨v, σ1, H2, I3, rw', q⟩
end

/-! ### letting the last objects of the store go -/
mutual
def D.und (n : Nat) : D → Bool
  | .loc m => decide (m < n)
  | .tup ds => unds n ds
  | .tupX ds => unds n ds
  | .lst ds => unds n ds
  | _ => true
def unds (n : Nat) : List D → Bool
  | [] => true
  | d :: ds => d.und n && unds n ds
end
def undkv {κ : Type} (n : Nat) (l : List (κ × D)) : Bool := l.all fun p => p.2.und n
def Ob.und (n : Nat) : Ob → Bool
  | .lst ds => unds n ds
  | .dK kvs => undkv n kvs
  | .dT kvs => undkv n kvs
  | .ins _ fs => undkv n fs
  | .exc _ none => true
  | .exc _ (some m) => decide (m < n)
  | .xd fs => undkv n fs
  | .ex0 _ => true
  | .cxc _ none => true
  | .cxc _ (some fs) => undkv n fs
section
variable {g : G} {ρ x : List Addr} {H H' : Hp}
theorem RD.cut (k : ∀ a, a ∉ x → H' a = H a) {v : V} {d : D} (r : RD g (ρ ++ x) H v d) : d.und ρ.length = true → RD g ρ H' v d := by
  have out : ∀ {a o}, H a = some o → Out g (ρ ++ x) a → H' a = some o ∧ Out g ρ a := fun {a o} h n => ⟨by rw [k a fun m => n.1 (List.mem_append_right _ m)]; exact h, fun m => n.1 (List.mem_append_left _ m), n.2⟩
  refine RD.rec (motive_1 := fun v d _ => d.und ρ.length = true → RD g ρ H' v d) (motive_2 := fun vs ds _ => unds ρ.length ds = true → RDs g ρ H' vs ds) (fun _ => .non) (fun b _ => .bl b) (fun i _ => .int i) (fun s _ => .str s) ?_ ?_ ?_ ?_ ?_ ?_ ?_ (fun _ => .nil) ?_ r
  · intro a vs ds h n _ ih u; exact .tup (out h n).1 (out h n).2 (ih (by simpa [D.und] using u))
  · intro a vs ds h n _ ih u; exact .lst (out h n).1 (out h n).2 (ih (by simpa [D.und] using u))
  · intro a ns n u
    refine .scr ?_
    rcases n with ⟨o, h, n⟩ | n
    · exact .inl ⟨o, (out h n).1, (out h n).2⟩
    · exact .inr n
  · intro n a h u
    have u : n < ρ.length := by simpa [D.und] using u
    exact .loc (by rw [List.getElem?_append_left u] at h; exact h)
  · intro a o h n u; exact .empF (out h n).1 (out h n).2
  · intro a h n u; exact .empU (out h n).1 (out h n).2
  · intro a o vs ds h hd n _ ih u; exact .tupX (out h n).1 hd (out h n).2 (ih (by simpa [D.und] using u))
  · intro v d vs ds _ _ h t u
    simp only [unds, Bool.and_eq_true] at u
    exact .cons (h u.1) (t u.2)
theorem RDs.cut (k : ∀ a, a ∉ x → H' a = H a) : ∀ {vs : List V} {ds : List D}, RDs g (ρ ++ x) H vs ds → unds ρ.length ds = true → RDs g ρ H' vs ds
  | _, _, .nil, _ => .nil
  | _, _, .cons h t, u => by
    simp only [unds, Bool.and_eq_true] at u
    exact .cons (h.cut k u.1) (RDs.cut k t u.2)
theorem RKV.cut {κ : Type} (k : ∀ a, a ∉ x → H' a = H a) : ∀ {xs : List (κ × V)} {ys : List (κ × D)}, RKV g (ρ ++ x) H xs ys → undkv ρ.length ys = true → RKV g ρ H' xs ys
  | _, _, .nil, _ => .nil
  | _, _, .cons h t, u => by
    simp only [undkv, List.all_cons, Bool.and_eq_true] at u
    exact .cons ⟨h.1, h.2.cut k u.1⟩ (RKV.cut k t u.2)
theorem RO.cut (k : ∀ a, a ∉ x → H' a = H a) {a : Addr} (ha : H' a = H a) {ob : Ob} (r : RO g (ρ ++ x) H a ob) (u : ob.und ρ.length = true) : RO g ρ H' a ob := by
  cases ob with
  | lst ds => obtain ⟨vs, q1, q2⟩ := r; exact ⟨vs, ha ▸ q1, q2.cut k u⟩
  | dK ds => obtain ⟨vs, q1, q2⟩ := r; exact ⟨vs, ha ▸ q1, q2.cut k u⟩
  | dT ds => obtain ⟨vs, q1, q2⟩ := r; exact ⟨vs, ha ▸ q1, q2.cut k u⟩
  | ins c fs => obtain ⟨dx, fv, q1, q2⟩ := r; exact ⟨dx, fv, ha ▸ q1, q2.cut k u⟩
  | exc c d => cases d with
    | none => exact (ha ▸ r : H' a = some (exo a (g.cls c) none))
    | some n =>
      obtain ⟨dx, q1, q2⟩ := r
      have u : n < ρ.length := by simpa [Ob.und] using u
      exact ⟨dx, by rw [List.getElem?_append_left u] at q1; exact q1, ha ▸ q2⟩
  | xd fs => obtain ⟨fv, q1, q2⟩ := r; exact ⟨fv, ha ▸ q1, q2.cut k u⟩
  | ex0 c => exact (ha ▸ r : H' a = some (ExO (.ref (g.cls c)) a))
  | cxc c d => cases d with
    | none => exact (ha ▸ r : H' a = some (Cxo a (g.cls c) none))
    | some fs =>
      obtain ⟨dx, fv, q0, q1, q2, q3⟩ := r
      exact ⟨dx, fv, ⟨fun m => q0.1 (List.mem_append_left _ m), q0.2⟩, ha ▸ q1, by rw [k dx fun m => q0.1 (List.mem_append_right _ m)]; exact q2, q3.cut k u⟩
theorem RS.cut (k : ∀ a, a ∉ x → H' a = H a) {S : Store} (rs : RS g (ρ ++ x) S H) (u : (S.take ρ.length).all (Ob.und ρ.length) = true) : RS g ρ (S.take ρ.length) H' := by
  have hle : ρ.length ≤ S.length := by rw [← rs.len, List.length_append]; exact Nat.le_add_right _ _
  have nd := List.nodup_append.mp rs.nd
  refine ⟨by rw [List.length_take]; omega, nd.1, fun n a ob h1 h2 => ?_, fun a m => ?_⟩
  · have hn : n < ρ.length := (List.getElem?_eq_some_iff.mp h1).1
    rw [List.getElem?_take_of_lt hn] at h2
    have hx : a ∉ x := fun m => nd.2.2 a (List.mem_of_getElem? h1) a m rfl
    refine (rs.ob n a ob (by rw [List.getElem?_append_left hn]; exact h1) h2).cut k (k a hx) ?_
    exact List.all_eq_true.mp u ob (List.mem_of_getElem? (by rw [List.getElem?_take_of_lt hn]; exact h2))
  · obtain ⟨⟨o, h, ho⟩, n⟩ := rs.hd a m
    exact ⟨⟨o, by rw [k a fun m => n (List.mem_append_right _ m)]; exact h, ho⟩, fun m => n (List.mem_append_left _ m)⟩
end
def sKeepF (c i j : Nat) (fld : PySem.Str) (f : List D → Store → Res D) (as : AM) : SM := fun env S => (as env S).bindS fun ds S1 => match f (.loc S1.length :: ds) (S1 ++ [.exc c none]) with
  | .ok .non S2 => match S2[S1.length]?, S2[S1.length + 1]? with
    | some (.exc c' (some m)), some (.xd fs) => if ds.length ≤ 1000 ∧ S2.length = S1.length + 2 ∧ c' = c ∧ m = S1.length + 1 ∧ (S2.take S1.length).all (Ob.und S1.length) = true ∧ i < env.length ∧ j < env.length ∧ i ≠ j then match fs.lookup fld with
      | some d => if d.und S1.length = true then .ret d (S2.take S1.length) else .stuck
      | none => .stuck
      else .stuck
    | _, _ => .stuck
  | _ => .stuck
theorem sims_keepF {g : G} {E : XK} {K : PySem.W.Frag} {c n i j : Nat} {fld : PySem.Str} {f : List D → Store → Res D} {cv : Value} {tas : TA} {as : AM} (hf : Ar n f) (hex : PySem.W.exmOne K (.ref (g.cls c)) cv = some true) (has : SimA g E tas as) :
    SimS g E (tKeepF K cv i j (g.cls c) fld (tMkO (g.cls c) (spOf g n f) [] tas)) (sKeepF c i j fld f as) := by
  intro l D' σ H ρ S env re rs p
  refine has.bindS re rs p fun ds S1 ρ1 H1 vs e1 rs1 rx re1 p1 => ?_
  have lσ : σ.length = env.length := Paired.length re1
  cases ef : f (.loc S1.length :: ds) (S1 ++ [.exc c none]) with
  | err x S2 => rw [ef] at p1; exact p1.elim
  | stuck => rw [ef] at p1; exact p1.elim
  | ok v0 S2 =>
    rw [ef] at p1
    cases v0 with
    | non =>
      dsimp only at p1
      split at p1
      · rename_i c' m fs en en1
        split at p1
        · rename_i hc
          obtain ⟨hz, hl2, rfl, rfl, hu, hi, hj, hij⟩ := hc
          split at p1
          · rename_i d hfd
            split at p1
            · rename_i hdu
              refine ⟨by rw [rx.length]; exact hz, fun a ha => ?_⟩
              obtain ⟨e3, rs3⟩ := rs1.push (o := exo a (g.cls c') none) (ob := .exc c' none) ha fun ρ' H' e' q => q
              have rself : RD (g.hide l) (ρ1 ++ [a]) (upd H1 a (exo a (g.cls c') none)) (.ref a) (.loc S1.length) := .loc (by rw [← rs1.len]; simp)
              rw [List.append_nil]
              refine sp_go hf (.cons rself (rx.mono e3)) rs3 ?_
              rw [ef]
              intro ρ2 H2 u e4 rs4 ru
              cases ru
              refine ⟨rfl, ?_⟩
              obtain ⟨l2, rfl, hl⟩ := e4.new
              have ll : l2.length = 1 := by
                have := rs4.len
                rw [hl2, List.length_append, List.length_append, rs1.len] at this
                simp at this
                omega
              obtain ⟨dx, rfl⟩ := List.length_eq_one_iff.mp ll
              have an : (ρ1 ++ [a] ++ [dx])[S1.length]? = some a := by rw [← rs1.len]; simp
              have dn : (ρ1 ++ [a] ++ [dx])[S1.length + 1]? = some dx := by rw [← rs1.len]; simp
              obtain ⟨dx', q1, q2⟩ := rs4.ob _ a _ an en
              rw [dn] at q1; cases q1
              obtain ⟨fv, q3, q4⟩ := rs4.ob _ dx _ dn en1
              have hdx := (hl dx List.mem_cons_self).1
              have dxa : dx ≠ a := fun z => by rw [z, upd_same] at hdx; cases hdx
              have hdx1 : H1 dx = none := by rw [upd_ne dxa] at hdx; exact hdx
              refine ⟨dx, fv, q2, q3, hdx1, hex, fun a' _ => ?_⟩
              have kk : ∀ b, b ∉ [a, dx] → upd (del H2 a) dx (HO.xd fv) b = H2 b := fun b hb => by
                rw [upd_ne (fun z => hb (by simp [z])), del_ne (fun z => hb (by simp [z]))]
              have rs5 : RS (g.hide l) ρ1 (S2.take S1.length) (upd (del H2 a) dx (.xd fv)) := by
                have r := RS.cut (g := g.hide l) (ρ := ρ1) (x := [a, dx]) kk (S := S2) (by simpa using rs4) (by rw [rs1.len]; exact hu)
                rw [rs1.len] at r; exact r
              have e5 : Ex ρ1 H1 ρ1 (upd (del H2 a) dx (.xd fv)) := ⟨⟨[], by simp, by simp⟩, fun b o nb hb => by
                have ba : b ≠ a := ne_of_none hb ha
                have bd : b ≠ dx := ne_of_none hb hdx1
                rw [kk b (by simp [ba, bd])]
                exact e4.keep b o (by simp [nb, ba]) (by rw [upd_ne ba]; exact hb)⟩
              obtain ⟨y, h3, h4⟩ := (q4.lookup (f := fld)).1 d hfd
              have h5 : RD (g.hide l) ρ1 (upd (del H2 a) dx (.xd fv)) y d := RD.cut (x := [a, dx]) kk (by simpa using h4) (by rw [rs1.len]; exact hdu)
              refine ⟨.ref a', by rw [List.getElem?_set_self (by rw [lσ]; exact hi)], ?_⟩
              refine ⟨rfl, ?_, dx, fv, y, rfl, upd_same, h3, p1 ρ1 _ y e5 rs5 h5⟩
              rw [List.getElem?_set_ne hij, List.getElem?_set_self (by simp [lσ]; exact hj)]
            · exact p1.elim
          · exact p1.elim
        · exact p1.elim
      · exact p1.elim
    | _ => exact p1.elim
end Lg

namespace Lg
open PySem PySem.Spec L2

mutual
def D.pd : D → Option PyData
  | .non => some .none
  | .bl b => some (.bool b)
  | .int i => some (.int i)
  | .str s => some (.str s)
  | .tup ds => (pds ds).map .tuple
  | .tupX ds => (pds ds).map .tuple
  | .lst ds => (pds ds).map .list
  | .emp _ => some (.dict [])
  | _ => none
def pds : List D → Option (List PyData)
  | [] => some []
  | d :: ds => match d.pd, pds ds with
    | some p, some ps => some (p :: ps)
    | _, _ => none
end
section
variable {X : Cx} {pins : List (Addr × Obj)} {σ : L2.St} {H : Hp} {s : Shared} {g : G} {ρ : List Addr}
def Trk (H : Hp) (as : List Addr) : Prop := ∀ b ∈ as, ∃ o, H b = some o
theorem empty_dict (I : Inv X pins σ H s) {a : Addr} {u : HO} (hk : ObjOk X.prog X.w H s.heap a (.dK [])) : Reads s.heap (.ref a) (.dict []) [a] := by
  obtain ⟨_, _, vs, kv, o, es, ep, ho, hx, hd, r⟩ := hk
  cases kv
  have he : es = #[] := by
    have l1 := r.2.1.length
    have : es.toList = [] := by simpa using l1
    exact Array.toList_eq_nil_iff.mp this
  subst he
  exact .dict (as := []) (bs := []) ho hx.1 hd .nil .nil
theorem reads_all (I : Inv X pins σ H s) {v : V} {d : D} (r : RD g ρ H v d) : ∀ p u, d.pd = some p → RelV v u → ∃ as, Reads s.heap u p as ∧ Trk H as := by
  refine RD.rec (motive_1 := fun v d _ => ∀ p u, d.pd = some p → RelV v u → ∃ as, Reads s.heap u p as ∧ Trk H as) (motive_2 := fun vs ds _ => ∀ ps us, pds ds = some ps → Vals vs us → ∃ as, ReadsAll s.heap us ps as ∧ Trk H as) ?_ ?_ ?_ ?_ ?_ ?_ ?_ ?_ ?_ ?_ ?_ ?_ ?_ r
  · intro p u e ru; cases e; cases (show u = Value.none from ru); exact ⟨[], .none, fun _ h => nomatch h⟩
  · intro b p u e ru; cases e; cases (show u = Value.bool b from ru); exact ⟨[], .bool b, fun _ h => nomatch h⟩
  · intro i p u e ru; cases e; obtain ⟨t, q⟩ := (show ∃ t, u = Value.int i t from ru); cases q; exact ⟨[], .int i t, fun _ h => nomatch h⟩
  · intro x p u e ru; cases e; obtain ⟨t, q⟩ := (show ∃ t, u = Value.str x t from ru); cases q; exact ⟨[], .str x t, fun _ h => nomatch h⟩
  · intro a vs ds h n _ ih p u e ru
    simp only [D.pd, Option.map_eq_some_iff] at e
    obtain ⟨ps, e1, rfl⟩ := e
    cases (show u = Value.ref a from ru)
    obtain ⟨_, its, rv, o, h1, h2, m, h3⟩ := (show ObjOk X.prog X.w H s.heap a (.tup vs) from I.hok a _ h)
    obtain ⟨as, q1, q2⟩ := ih ps its e1 rv
    exact ⟨as, .tuple h1 h2 h3 (by simpa using q1), q2⟩
  · intro a vs ds h n _ ih p u e ru
    simp only [D.pd, Option.map_eq_some_iff] at e
    obtain ⟨ps, e1, rfl⟩ := e
    cases (show u = Value.ref a from ru)
    obtain ⟨_, its, m, rv, h1⟩ := (show ObjOk X.prog X.w H s.heap a (.lst vs) from I.hok a _ h)
    obtain ⟨as, q1, q2⟩ := ih ps its e1 rv
    exact ⟨a :: as, .list h1 rfl rfl (by simpa using q1), fun b hb => (List.mem_cons.mp hb).elim (fun z => ⟨_, z ▸ h⟩) (q2 b)⟩
  · intro a ns n p u e ru; simp [D.pd] at e
  · intro n a h p u e ru; simp [D.pd] at e
  · intro a o h n p u e ru
    cases e
    cases (show u = Value.ref a from ru)
    exact ⟨[a], empty_dict (u := .dK []) I (show ObjOk X.prog X.w H s.heap a (.frz o (.dK [])) from I.hok a _ h).2, fun b hb => ⟨_, (List.mem_singleton.mp hb) ▸ h⟩⟩
  · intro a h n p u e ru
    cases e
    cases (show u = Value.ref a from ru)
    exact ⟨[a], empty_dict (u := .dK []) I (I.hok a _ h), fun b hb => ⟨_, (List.mem_singleton.mp hb) ▸ h⟩⟩
  · intro a o vs ds h hd n _ ih p u e ru
    simp only [D.pd, Option.map_eq_some_iff] at e
    obtain ⟨ps, e1, rfl⟩ := e
    cases (show u = Value.ref a from ru)
    obtain ⟨_, _, its, rv, o', h1, h2, m, h3⟩ := (show ObjOk X.prog X.w H s.heap a (.frz o (.tup vs)) from I.hok a _ h)
    obtain ⟨as, q1, q2⟩ := ih ps its e1 rv
    exact ⟨as, .tuple h1 h2 h3 (by simpa using q1), q2⟩
  · intro ps us e ru; simp [pds] at e; subst e; cases ru; exact ⟨[], .nil, fun _ h => nomatch h⟩
  · intro v d vs ds _ _ ih1 ih2 ps us e ru
    simp only [pds] at e
    split at e
    · rename_i p ps' e1 e2
      cases e
      cases ru with
      | cons r1 r2 =>
        obtain ⟨as, q1, q2⟩ := ih1 p _ e1 r1
        obtain ⟨bs, q3, q4⟩ := ih2 ps' _ e2 r2
        exact ⟨as ++ bs, .cons q1 q3, fun b hb => (List.mem_append.mp hb).elim (q2 b) (q4 b)⟩
    · cases e
end
/-- what the context must know for repr -/
structure Rg (X : Cx) : Prop where
  g : X.A.guards = some []
  sm : ∃ o, X.base.get? sysModules = some o
  u : X.A.units + 64 < cLine
/-- repr(x) -/
def rRepr : List V → Hp → VK → Prop := fun xs H Q => ∃ (v : V) (g : G) (ρ : List Addr) (d : D) (p : PyData), xs = [v] ∧ RD g ρ H v d ∧ d.pd = some p ∧ p.showable = true ∧ p.shown.length ≤ sizeLine ∧ p.depth ≤ 40 ∧ Q (.str p.shown) H
theorem call_repr {X : Cx} (R : Rg X) : CallR X (.builtin "repr") rRepr := by
  intro pins s σ H xs us Q I r h
  obtain ⟨v, g, ρ, d, p, rfl, rd, e, hs, hz, hd, q⟩ := h
  obtain ⟨u, rfl, ru⟩ := vals1 r
  obtain ⟨as, rr, tr⟩ := reads_all I rd p u e ru
  obtain ⟨o1, h1⟩ := R.sm
  have ns : sysModules ∉ as := fun m => by
    obtain ⟨o, ho⟩ := tr _ m
    rw [(I.bs _ _ h1).2] at ho
    cases ho
  cases u with
  | ref a =>
    exact repr_of_reads' rr hs (fun _ => ns) R.g (by have := R.u; omega) (fun _ _ e => e) (fun h' u tk hk => ⟨.str _, H, I.kept (t' := tk) hk, ⟨_, rfl⟩, q⟩) hz
  | none => cases rr; exact PySem.P.repr_of_none ⟨.str _, H, I.tok _, ⟨_, rfl⟩, q⟩
  | bool b => cases rr; exact PySem.P.repr_of_bool ⟨.str _, H, I.tok _, ⟨_, rfl⟩, q⟩
  | int i t => cases rr; exact PySem.P.repr_of_int (of_decide_eq_true hs) ⟨.str _, H, I.tok _, ⟨_, rfl⟩, q⟩
  | str x t => cases rr; exact PySem.P.repr_of_str ⟨.str _, H, I.tok _, ⟨_, rfl⟩, q⟩ hz
  | _ => cases rr
def cRepr (ds : List D) (S : Store) : Res D := match ds with
  | [d] => match d.pd with
    | some p => if p.showable = true ∧ p.shown.length ≤ sizeLine ∧ p.depth ≤ 40 then .ok (.str p.shown) S else .stuck
    | none => .stuck
  | _ => .stuck
theorem sim_repr {g : G} {E : XK} : CallSim g E rRepr cRepr := by
  intro l xs H Q ρ S ds rx rs p
  unfold cRepr at p
  split at p
  · rename_i d
    split at p
    · rename_i pp e
      split at p
      · rename_i h
        obtain ⟨v, rfl, r⟩ := rx.one
        exact ⟨v, _, ρ, d, pp, rfl, r, e, h.1, h.2.1, h.2.2, p ρ H _ Ex.refl rs (.str _)⟩
      · exact p.elim
    · exact p.elim
  · exact p.elim

/-! ### defs that are called with nothing guarded -/
structure FnG (P : Program) (w : World) (K : PySem.W.Frag) (mg : PySem.Str → Option Value) (base : Heap) (k : Nat) (f : Addr) (fd : FuncData) (ps : List PySem.Str) (sp : Sp) : Prop where
  len : ∀ vs H Q E, sp vs H Q E → vs.length = ps.length
  run : ∀ (A : Around) (outer : List Env) (s : Shared) (H : Hp) (args : Args) (us : List Value) (vs : List V) (Q : VK) (E : XK), Room k A → A.guards = some [] → Env0 P w K mg base A outer s H → BindsTo s fd args (ps.zip us) → Vals vs us → sp vs H Q E →
    codeAny (model P w) A (.call (.ref f) args) (CR (L2.CX P w) outer P w H s Q E) s
section
variable {X : Cx} {k : Nat} {f : Addr} {fd : FuncData} {ps : List PySem.Str} {sp : Sp} {dvs : List V} {ds : List Value} {E : XK} {x : PySem.Str} {p pos : Pos} {e : Expr} {es : List Expr} {t : TA}
theorem pe_callG (F : FnG X.prog X.w X.K X.mg X.base k f fd ps sp) (gg : X.A.guards = some []) (hr : Room k X.A) (hg : Gl X x) (hm : X.mg x = some (.ref f)) (hk : PySem.W.keepIn X.K (.ref f) = true) (hb : Binds X.K fd ps ds) (hd : Vals dvs ds) (hx : Passes (L2.CX X.prog X.w) X E)
    (ha : PA X (e :: es) t) (hdb : (x == ("__debug__" : PySem.Str)) = false := by decide) (he : starEach (e :: es) X.env = (false, eval e X.env) :: starEach es X.env := by rfl) (hpl : (backTo pos (starEach es X.env)).any (·.1) = false := by rfl) :
    PE X (.Call (.Name x p) (e :: es) [] pos) (tCall sp dvs E t) := by
  refine ⟨fun pins s σ H Q I h => ?_⟩
  refine wpAny_Call_Name_kw (ld_glob I hg hm ?_ hdb)
  refine PySem.W.callWith_K (h₀ := X.base) I.ok.mod.kin hk (thn (ha.run pos pins s σ H _ I h) fun us s1 ⟨vs, H1, I1, r, q⟩ => ⟨I1.kIn, ?_⟩) he hpl
  have r2 : Vals (vs ++ dvs) (us ++ ds) := r.append hd
  refine wpAny_call (codeAny_mono (F.run X.A X.stack s1 H1 ⟨us, []⟩ (us ++ ds) (vs ++ dvs) Q E hr gg I1.env0 (hb s1 us I1.kIn (r2.length.symm.trans (F.len _ _ _ _ q))) r2 q) fun r s' hq => ?_)
  cases r with
  | error e => exact hx pins σ H1 s1 e s' I1 hq
  | ok fl =>
    cases fl with
    | ret u => exact I1.after hq
    | next => exact False.elim hq
    | brk => exact False.elim hq
    | cont => exact False.elim hq
end
section
variable {P : Program} {w : World} {K : PySem.W.Frag} {mg : PySem.Str → Option Value} {base : Heap} {g : G}
theorem fn_simG {x qual : PySem.Str} {st : Stmt} {f : Addr} {fd : FuncData} {N ps : List PySem.Str} {k : Nat} {m : SM} (F : Fun K x qual st f fd) (S : FnScope N ps (defScope st)) (sm : ∃ o, base.get? sysModules = some o)
    (hb : ∀ (cdv : Value) (A : Around) (outer : List Env) (s : Shared) (H : Hp) (E : XK), Room k (A.deeper (PyProof.Rows.envOfC qual (defScope st) s.heap.objs.size f cdv)) → Rg (cxOf (L2.CX P w) P w K mg base N qual (defScope st) f cdv A outer s H E) →
      ∃ t, PSs (cxOf (L2.CX P w) P w K mg base N qual (defScope st) f cdv A outer s H E) (defBody st) t ∧ SimS g E t m) :
    FnG P w K mg base (k + 1) f fd ps (spOf g ps.length (mDef N.length ps.length m)) := by
  obtain ⟨oc, od, kV, doc, pm, an, cdv, ct, osl, rfl, lk, hcd⟩ := F.ex
  refine ⟨fun vs H Q E h => by obtain ⟨l, ρ, S, ds, hl, _⟩ := h; exact hl, fun A outer s H args us vs Q E hr gg e0 hbd r hsp => ?_⟩
  obtain ⟨l, ρ, S0, ds, hl, rd, rs, p⟩ := hsp
  have KX : K.In s.heap := e0.mod.kin.keeps fun b o e => (e0.bs b o e).1
  have lim : s.heap.NoLimit := e0.mod.nolimit.keeps fun b o e => (e0.bs b o e).1
  refine codeAny_call_function hr.depth (KX _ _ lk) rfl S.co S.gen rfl (PySem.W.codeRec_of KX hcd) (hbd _ _ _ _ ?_)
  refine wpAny_newFunctionEnv_cells S.kind (fun ⟨n, v⟩ hy => ?_) fun env he s1 xx => ?_
  · rcases S.par n (List.of_mem_zip hy).1 with q | q
    · exact .inl q
    · exact .inr ⟨q, PySem.W.cellsFrom_some _ _ _ (.inl q)⟩
  subst he
  refine ⟨lim.keeps xx.toInCall.keep, codeAny_func ?_⟩
  have hr2 := hr.deeper (PyProof.Rows.envOfC qual (defScope st) s.heap.objs.size f cdv)
  obtain ⟨t, ht, hs⟩ := hb cdv A outer s H E hr2 ⟨gg, sm, hr2.units⟩
  have hq : t { nx := fun _ H' => Q .non H', rt := Q } (L2.start N vs) H := by
    refine hs l _ _ H ρ S0 (startE N.length ds) (re_start rd) rs ?_
    unfold mDef at p
    rw [if_pos (by rw [← rd.length]; exact hl)] at p
    cases e : m (startE N.length ds) S0 with
    | ret d S' => rw [e] at p; exact p
    | next env' S' => rw [e] at p; exact fun ρ' H' σ' e1 rs1 re1 => p ρ' H' .non e1 rs1 .non
    | err x S' => rw [e] at p; exact p
    | brk env' S' => rw [e] at p; exact p.elim
    | cont env' S' => rw [e] at p; exact p.elim
    | stuck => rw [e] at p; exact p.elim
  have I : Inv (cxOf (L2.CX P w) P w K mg base N qual (defScope st) f cdv A outer s H E) [] (L2.start N vs) H s1 := inv_start S hr.hd e0 hl r xx
  refine wpAny_mono (ht.run [] s1 (L2.start N vs) H _ I hq) (fun fl s' hs => ?_) fun e s' hs => hs
  cases fl with
  | ret u =>
    obtain ⟨v, σ', H', J, rv, q⟩ := hs
    exact ⟨v, H', J.os, J.bare, J.base, J.hok, rv, q⟩
  | next =>
    obtain ⟨σ', H', J, q⟩ := hs
    exact ⟨.non, H', J.os, J.bare, J.base, J.hok, rfl, q⟩
  | brk =>
    obtain ⟨_, _, _, q⟩ := hs
    exact False.elim q
  | cont =>
    obtain ⟨_, _, _, q⟩ := hs
    exact False.elim q
end
end Lg

namespace Lg
open PySem PySem.Spec L2
def tDNewF : TE := fun _ H Q => ∀ p o, H p = none → Q (.ref p) (upd H p (.frz o (.dK [])))
theorem pe_dnewF {X : Cx} {pos : Pos} : PE X (.Dict [] [] pos) tDNewF := ⟨fun pins s σ H Q I h =>
  wpAny_Dict_empty ⟨.ref s.heap.objs.size, _, I.laid (a := s.heap.objs.size) (o := .frz { cls := .type "dict", data := .dict #[] } (.dK [])) (t' := s.toks) (fun _ _ q => Heap.get?_push_of_some _ q) (Nat.le_refl _) ⟨Heap.get?_push_size _ rfl, dk_empty s.heap I.big⟩, rfl, h _ _ (I.hok.fresh (Nat.le_refl _))⟩⟩
def mEmp : EM := fun _ S => .ok (.emp true) S
theorem sim_emp {g : G} {E : XK} : SimE g E tDNewF mEmp := by
  intro l σ H Q ρ S env re rs p q o hq
  exact p ρ _ _ (Ex.new1 hq) (rs.aside hq) (.empF upd_same (rs.fresh hq))
/-- {k: v for .. in d.items()}, d the empty dict -/
def mDc0 (a : EM) : EM := fun env S => (a env S).bind fun d S1 => match d with
  | .emp true => .ok (.emp false) S1
  | _ => .stuck
theorem sim_dc0 {g : G} {E : XK} {te : TE} {a : EM} {gt : TG} {tt : TT} {tk tv : TE} {vs : List Nat} (ha : SimE g E te a) : SimE g E (tDc (iItems te) gt tt tk tv vs) (mDc0 a) := by
  intro l σ H Q ρ S env re rs p
  refine ha.bind re rs p fun d S1 ρ1 H1 v e1 rs1 rx re1 p1 => ?_
  cases rx with
  | @empF ad o h n =>
    refine ⟨ad, o, [], rfl, h, fun D hD => ?_⟩
    refine ⟨fun i _ H' => i = 0 ∧ H' = upd H1 D (.dK []), ⟨0, rfl, rfl⟩, ?_⟩
    rintro i m H' ⟨rfl, rfl⟩
    exact .inl ⟨⟨by rw [upd_ne (ne_of_none h hD)]; exact h, Nat.le_refl _⟩, p1 ρ1 _ _ (Ex.new1 hD) (rs1.aside hD) (.empU upd_same (rs1.fresh hD))⟩
  | _ => exact p1.elim

/-! ### signs repeated -/
instance (x : PySem.Str) (n : Int) : Decidable (MulOk x n) := by unfold MulOk; infer_instance
def rMulS : R2 := fun x y H Q => ∃ (a : PySem.Str) (n : Int), x = .str a ∧ y = .int n ∧ MulOk a n ∧ Q (.str (Txt.mul a n)) H
theorem op_mulS {X : Cx} : OpR X (binaryOp .Mult) rMulS := by
  intro pins s σ H x y v u Q I rx ry h
  obtain ⟨a, n, rfl, rfl, ok, q⟩ := h
  obtain ⟨t, e⟩ := (show ∃ t, v = Value.str a t from rx)
  obtain ⟨t', e'⟩ := (show ∃ t, u = Value.int n t from ry)
  cases e; cases e'
  exact SB.mul ok fun t'' k => ⟨.str _, H, I.tok k, ⟨_, rfl⟩, q⟩
def dMulS (x y : D) (S : Store) : Res D := match x, y with
  | .str a, .int n => if MulOk a n then .ok (.str (Txt.mul a n)) S else .stuck
  | _, _ => .stuck
theorem sim_mulS {g : G} {E : XK} : OpSim g E rMulS dMulS := by
  intro l x y H Q ρ S dx dy rx ry rs p
  unfold dMulS at p
  split at p
  · cases rx; cases ry
    split at p
    · rename_i h
      exact ⟨_, _, rfl, rfl, h, p ρ H _ Ex.refl rs (.str _)⟩
    · exact p.elim
  · exact p.elim

/-! ### == with texts of any signs -/
def rEqA (K : PySem.W.Frag) : R2 := fun x y H Q => rEqD K x y H Q ∨ ∃ a b : PySem.Str, x = .str a ∧ y = .str b ∧ Q (.bl (decide (a = b))) H
def rNeA (K : PySem.W.Frag) : R2 := fun x y H Q => rNeD K x y H Q ∨ ∃ a b : PySem.Str, x = .str a ∧ y = .str b ∧ Q (.bl (!decide (a = b))) H
theorem op_eqT {X : Cx} : OpR X (compareOp .Eq) (fun x y H Q => ∃ a b : PySem.Str, x = .str a ∧ y = .str b ∧ Q (.bl (decide (a = b))) H) := by
  intro pins s σ H x y v u Q I rx ry h
  obtain ⟨a, b, rfl, rfl, q⟩ := h
  refine op_eq pins s σ H _ _ v u Q I rx ry ⟨rfl, ?_⟩
  rw [show decide (V.str a = V.str b) = decide (a = b) by simp]
  exact q
theorem op_neT {X : Cx} : OpR X (compareOp .NotEq) (fun x y H Q => ∃ a b : PySem.Str, x = .str a ∧ y = .str b ∧ Q (.bl (!decide (a = b))) H) := by
  intro pins s σ H x y v u Q I rx ry h
  obtain ⟨a, b, rfl, rfl, q⟩ := h
  refine op_ne pins s σ H _ _ v u Q I rx ry ⟨rfl, ?_⟩
  rw [show decide (V.str a = V.str b) = decide (a = b) by simp]
  exact q
theorem op_eqA {X : Cx} (hu : X.A.units + 64 < cLine) : OpR X (compareOp .Eq) (rEqA X.K) := (op_eqD hu).or op_eqT
theorem op_neA {X : Cx} (hu : X.A.units + 64 < cLine) : OpR X (compareOp .NotEq) (rNeA X.K) := (op_neD hu).or op_neT
def dEqA (x y : D) (S : Store) : Res D := match x, y with
  | .str a, .str b => .ok (.bl (decide (a = b))) S
  | x, y => dEq x y S
def dNeA (x y : D) (S : Store) : Res D := match x, y with
  | .str a, .str b => .ok (.bl (!decide (a = b))) S
  | x, y => dNe x y S
theorem sim_eqA {g : G} {E : XK} {K : PySem.W.Frag} : OpSim g E (rEqA K) dEqA := by
  intro l x y H Q ρ S dx dy rx ry rs p
  unfold dEqA at p
  split at p
  · cases rx; cases ry
    exact .inr ⟨_, _, rfl, rfl, p ρ H _ Ex.refl rs (.bl _)⟩
  · exact .inl (sim_eq l x y H Q ρ S dx dy rx ry rs p)
theorem sim_neA {g : G} {E : XK} {K : PySem.W.Frag} : OpSim g E (rNeA K) dNeA := by
  intro l x y H Q ρ S dx dy rx ry rs p
  unfold dNeA at p
  split at p
  · cases rx; cases ry
    exact .inr ⟨_, _, rfl, rfl, p ρ H _ Ex.refl rs (.bl _)⟩
  · exact .inl (sim_ne l x y H Q ρ S dx dy rx ry rs p)
end Lg

namespace Lg
open PySem PySem.Spec L2
def mInit (c n np : Nat) (m : SM) (ds : List D) (S : Store) : Res D := match ds with
  | .loc i :: _ => match S[i]? with
    | some (.exc c' none) => if c' = c then mDef n np m ds S else .stuck
    | _ => .stuck
  | _ => .stuck
theorem ar_init {c n np : Nat} {m : SM} : Ar np (mInit c n np m) := fun ds S h => by
  unfold mInit
  split
  · split
    · split
      · exact mDef_len h
      · rfl
    · rfl
  · rfl
section
variable {P : Program} {w : World} {K : PySem.W.Frag} {mg : PySem.Str → Option Value} {base : Heap} {N : List PySem.Str} {qual : PySem.Str} {scope : Scope} {f cda cc : Addr} {A : Around} {outer : List Env} {s : Shared} {H : Hp} {E : XK}
theorem pS : Passes (L2.CX P w) (cxS P w K mg base N qual scope f cda cc A outer s H E) E := passes_call (takes_of rfl rfl rfl rfl) (fun _ _ _ _ h => h)
end
/-- an own exception class with its own __init__, as it stands behind the top; st: the def's statement -/
structure XI (K : PySem.W.Frag) (prog : Program) (mg : PySem.Str → Option Value) (n qual : PySem.Str) (st : Stmt) (C fI cda cc : Addr) (fd : FuncData) : Prop where
  ex : ∃ (oc : Value) (od : Option Addr) (kV doc pm : Value) (an : Option Addr) (ct : Value) (osl : Array (Option Value)), fd = PySem.W.ksFn "__init__" qual (defArgs st) (defBody st) (defScope st) .none kV doc pm an (.ref cda) ct cc ∧ K.lookup fI = some ⟨oc, od, .func fd, osl⟩
  cd : PySem.W.codeIn K (.ref cda) qual = true
  U : SupC K prog C cda cc
  m : mg n = some (.ref C)
  su : mg "super" = none
  iC : PySem.W.findIn K (.ref C) "__init__" = some (some (.ref fI))
  tI : PySem.W.typeIn K (.ref fI) = some (.type "function")
section
variable {P : Program} {w : World} {K : PySem.W.Frag} {mg : PySem.Str → Option Value} {base : Heap} {g : G}
theorem fn_init {n qual z : PySem.Str} {st : Stmt} {C fI cda cc : Addr} {fd : FuncData} {N ps : List PySem.Str} {k c j : Nat} {m : SM} {p0 p1 p2 p3 p4 p5 : Pos} {rest : List Stmt} {ar : Arg} {pl : Shared → Sem Bool}
    (F : XI K P mg n qual st C fI cda cc fd) (hc : g.cls c = C) (hst : defBody st = .Expr (.Call (.Attribute (.Call (.Name "super" p0) [] [] p1) "__init__" p2) [.Constant (.str z) j p3] [] p4) p5 :: rest) (S : ScS N ps (defScope st)) (hp : ((defArgs st).posonlyargs ++ (defArgs st).args).head? = some ar) (hps : ps.head? = some ar.arg)
    (hev : ∀ s : Shared, eval (.Call (.Attribute (.Call (.Name "super" p0) [] [] p1) "__init__" p2) [.Constant (.str z) j p3] [] p4) (sEnv qual (defScope st) s fI cda cc) = (do
      let ov ← attributeBase (.Call (.Name "super" p0) [] [] p1) "__init__" (sEnv qual (defScope st) s fI cda cc) (eval (.Call (.Name "super" p0) [] [] p1) (sEnv qual (defScope st) s fI cda cc))
      standAt p2.atName
      let (g, first) ← holding [ov] (getMethod ov "__init__" (pl s))
      callWith p4 g first (backTo p4 (starEach [.Constant (.str z) j p3] (sEnv qual (defScope st) s fI cda cc))) []))
    (hb : ∀ (A : Around) (outer : List Env) (s : Shared) (H : Hp) (E : XK), Room k (A.deeper (sEnv qual (defScope st) s fI cda cc)) → ∃ t, PSs (cxS P w K mg base N qual (defScope st) fI cda cc A outer s H E) rest t ∧ SimS g E t m) :
    FnOk P w K mg base (L2.CX P w) (k + 1) fI fd ps (spOf g ps.length (mInit c N.length ps.length m)) := by
  obtain ⟨oc, od, kV, doc, pm, an, ct, osl, rfl, lk⟩ := F.ex
  rw [hst] at lk ⊢
  subst hc
  refine fn_super (C := g.cls c) (pl := pl) lk F.cd S F.U F.su hp hev hps (fun vs H Q E h => ?_) (fun vs H Q E h => ?_) fun A outer s H vs Q E hr h => ?_
  · obtain ⟨l, ρ, S, ds, hl, _⟩ := h
    exact hl
  · obtain ⟨l, ρ, S, ds, hl, rd, rs, p⟩ := h
    unfold mInit at p
    split at p
    · rename_i i ds'
      split at p
      · rename_i c' e
        split at p
        · rename_i q
          subst q
          cases rd with
          | cons r t =>
            cases r with
            | loc hn => exact ⟨_, _, rfl, rs.ob i _ _ hn e⟩
        · exact p.elim
      · exact p.elim
    · exact p.elim
  · obtain ⟨l, ρ, S, ds, hl, rd, rs, p⟩ := h
    obtain ⟨t, ht, hs⟩ := hb A outer s H E hr
    refine ⟨t, ht, hs l _ _ H ρ S (startE N.length ds) (re_start rd) rs ?_⟩
    unfold mInit at p
    split at p
    · split at p
      · split at p
        · unfold mDef at p
          rw [if_pos (by rw [← rd.length]; exact hl)] at p
          split at p
          · rename_i d S' e; rw [e]; exact p
          · rename_i env' S' e; rw [e]; exact fun ρ' H' σ' e1 rs1 re1 => p ρ' H' .non e1 rs1 .non
          · rename_i x S' e; rw [e]; exact p
          · exact p.elim
        · exact p.elim
      · exact p.elim
    · exact p.elim
end
theorem RDs.reverse {g : G} {ρ : List Addr} {H : Hp} : ∀ {vs : List V} {ds : List D}, RDs g ρ H vs ds → RDs g ρ H vs.reverse ds.reverse
  | _, _, .nil => .nil
  | _, _, .cons h t => by rw [List.reverse_cons, List.reverse_cons]; exact (RDs.reverse t).append (.cons h .nil)
end Lg

namespace Lg
open PySem PySem.Spec L2 PyProof.Rows
section
variable {P : Program} {w : World} {K : PySem.W.Frag} {mg mb : PySem.Str → Option Value} {k : Nat} {fa a : Addr} {fd : FuncData} {x : PySem.Str} {f : List D → Store → Res D} {g : G} {s₁ : Shared} {vs : List Value} {ns : List Int}
theorem law_callG (KX : K.In s₁.heap) (hns : s₁.heap.Ns mainGlobals mg) (hb : s₁.heap.Ns builtinsNs mb) (hbb : ∀ x : PySem.Str, x ≠ "__name__" → mb x = bootBuiltins x) (hlim : s₁.heap.NoLimit) (hsm : ∃ mm, s₁.heap.Ns sysModules mm) (hg : s₁.gens = #[])
    (ha : s₁.heap.get? a = some { cls := .type "list", data := .seq vs.toArray }) (hi : IntsAre vs ns) (hl : ns.length ≤ sizeLine) (hr : Room k callerA) (gK : g.K = K)
    (F : ∀ base : Heap, K.In base → base.Ns mainGlobals mg → (∃ o, base.get? sysModules = some o) → FnG P w K mg base k fa fd [x] (spOf g 1 f)) (hbind : ∀ (s : Shared) (u : Value), BindsTo s fd ⟨[u], []⟩ [(x, u)]) {S' : Store} (hf : f [.scr ns] [] = .ok (.bl true) S') :
    codeAny (model P w) callerA (.call (.ref fa) ⟨[.ref a], []⟩) (fun r s' => r = .ok (.ret (.bool true)) ∧ OldK s₁.heap s'.heap ∧ s'.os = s₁.os ∧ AllBare s'.gens) s₁ := by
  have rv := vals_ints hi
  have lenV := hi.length
  obtain ⟨mm, osm, esm, epm, hsm1, hsm2, _⟩ := hsm
  have core : ∀ H : Hp, (∀ b u, H b = some u → b = a ∧ K.lookup a = none ∧ ∃ o, u = .frz o (.lst (ns.map V.int))) → ((∃ o, H a = some (.frz o (.lst (ns.map V.int)))) ∨ ∀ H', SqL K H' a (ns.map V.int)) → HOk P w H s₁.heap →
      codeAny (model P w) callerA (.call (.ref fa) ⟨[.ref a], []⟩) (fun r s' => r = .ok (.ret (.bool true)) ∧ OldK s₁.heap s'.heap ∧ s'.os = s₁.os ∧ AllBare s'.gens) s₁ := by
    intro H hA hS hok
    have keep : ∀ {b : Addr} {o : Obj}, s₁.heap.get? b = some o → H b = none → (hidT s₁.heap H).get? b = some o := fun e n => hidT_get e n
    have dictFree : ∀ {b : Addr} {o : Obj} {es : Array DictEntry} {ep : Nat}, s₁.heap.get? b = some o → o.data = .dict es ep → H b = none := fun {b o es ep} e d => by
      cases q : H b with
      | none => rfl
      | some u =>
        rw [(hA b u q).1, ha] at e
        cases e
        cases (show Data.seq vs.toArray _ = Data.dict es ep from d)
    have nsK : ∀ {b : Addr} {m : PySem.Str → Option Value}, s₁.heap.Ns b m → (hidT s₁.heap H).Ns b m := fun {b m} ⟨o, es, ep, e, d, r⟩ => ⟨o, es, ep, keep e (dictFree e d), d, r⟩
    have inK : K.In (hidT s₁.heap H) := fun b o e => keep (KX b o e) (by
      cases q : H b with
      | none => rfl
      | some u =>
        obtain ⟨rfl, z, _⟩ := hA b u q
        rw [z] at e; cases e)
    have hM : Mod K mg (hidT s₁.heap H) := ⟨inK, nsK hns, ⟨mb, nsK hb, hbb⟩, let ⟨mc, h1, h2⟩ := hlim; ⟨mc, nsK h1, h2⟩⟩
    have e0 : Env0 P w K mg (hidT s₁.heap H) callerA [] s₁ H := ⟨rfl, hM, fun b o e => of_hidT e, Nat.le_of_eq (hidT_size _ _), trivial, fun b hb => absurd (show b ∈ ([] : List Addr) from hb) (by simp), hok, .of_eq hg⟩
    have FF := F _ inK (nsK hns) ⟨osm, keep hsm1 (dictFree hsm1 hsm2)⟩
    have rs : RS (g.hide []) [] [] H := ⟨rfl, List.nodup_nil, fun n a o h => by simp at h, fun b m => absurd (show b ∈ ([] : List Addr) from m) (by simp)⟩
    have rd : RD (g.hide []) [] H (.ref a) (.scr ns) := .scr (by
      rcases hS with ⟨o, h⟩ | h
      · exact .inl ⟨o, h, by simp, fun m => absurd (show a ∈ ([] : List Addr) from m) (by simp)⟩
      · exact .inr fun H' => by
          have : (g.hide []).K = K := gK
          rw [this]; exact h H')
    refine codeAny_mono (FF.run callerA [] s₁ H ⟨[.ref a], []⟩ [.ref a] [.ref a] (fun v _ => v = .bl true) (fun _ _ _ => False) hr rfl e0 (hbind s₁ (.ref a)) (.cons rfl .nil) ⟨[], [], [], [.scr ns], rfl, .cons rd .nil, rs, ?_⟩) fun r s' h => ?_
    · rw [hf]
      intro ρ' H' v _ _ rv'
      cases rv'
      rfl
    cases r with
    | error e =>
      obtain ⟨_, _, _, _, _, _, _, _, _, _, _, _, z⟩ := h
      exact z.elim
    | ok fl =>
      cases fl with
      | next => exact False.elim h
      | brk => exact False.elim h
      | cont => exact False.elim h
      | ret u =>
        obtain ⟨v, H', os, bare, un, hok', r', q⟩ := h
        obtain rfl : v = .bl true := q
        obtain rfl : u = Value.bool true := r'
        refine ⟨rfl, OldK.of_keep fun b o e => ?_, os, bare⟩
        cases q : H b with
        | none => exact un.keep b o e q (by intro z; exact absurd (show b ∈ ([] : List Addr) from z) (by simp)) (by simp)
        | some u =>
          obtain ⟨_, _, ob, rfl⟩ := hA b u q
          obtain ⟨e1, _⟩ := hok b _ q
          obtain ⟨e2, _⟩ := hok' b _ (un.frzs b ob _ q)
          rw [e] at e1; cases e1
          exact e2
  cases hk : K.lookup a with
  | some o =>
    have e := KX a o hk
    rw [ha] at e
    cases e
    exact core (fun _ => none) (fun b u z => nomatch z) (.inr fun H' => .inr ⟨_, vs.toArray, _, hk, rfl, rfl, rfl, by rw [List.size_toArray, lenV]; exact hl, by simpa using rv⟩) (fun b u z => nomatch z)
  | none =>
    refine core (fun b => if b = a then some (.frz { cls := .type "list", data := .seq vs.toArray } (.lst (ns.map V.int))) else none) (fun b u z => ?_) (.inl ⟨_, if_pos rfl⟩) (fun b u z => ?_)
    · by_cases hb : b = a
      · have z' := (if_pos hb).symm.trans z
        cases z'
        exact ⟨hb, hk, _, rfl⟩
      · cases (if_neg hb).symm.trans z
    · by_cases hb : b = a
      · have z' := (if_pos hb).symm.trans z
        cases z'
        subst hb
        exact ⟨ha, by rw [List.length_map]; exact hl, vs, _, rv, ha⟩
      · cases (if_neg hb).symm.trans z
end

theorem walkG {l : PySem.W.OpenLaw} {n k : Nat} {q : Program} {loose : List PySem.Str} {XP : (PySem.Str → Option Value) → Heap → Prop} {YP : World → Heap → Prop} {d : DefRec} {K : Params → PySem.W.Frag} {x : PySem.Str} {f : List D → Store → Res D}
    (hn : l.most = some n) (hn2 : n ≤ sizeLine) (hdf : d.params.defaults = []) (hr : Room k callerA) (hin : importsNone q = true) (hY : ∀ (w : World) (h : Heap), YP w h → (K w.params).In h)
    (F : ∀ (w : World) (mg : PySem.Str → Option Value) (fa : Addr) (h : Heap), (K w.params).In h → h.Ns mainGlobals mg → mg d.name = some (.ref fa) →
      ∃ (fd : FuncData) (g : G), g.K = K w.params ∧ (∀ (s : Shared) (u : Value), BindsTo s fd ⟨[u], []⟩ [(x, u)]) ∧
        ∀ base : Heap, (K w.params).In base → base.Ns mainGlobals mg → (∃ o, base.get? sysModules = some o) → FnG l.prog w (K w.params) mg base k fa fd [x] (spOf g 1 f))
    (hf : ∀ ns : List Int, ns.length ≤ n → (∀ z ∈ ns, Builtin.Int.intBits z ≤ 1048576) → ∃ S', f [.scr ns] [] = .ok (.bl true) S') :
    PySem.W.WalkO q loose XP YP l.row.toRowW d [] (fun f vs => PySem.call f vs) := by
  refine Att.attach_callB hn hdf fun w s₀ s₁ mg mb fa o pm cd doc a vs ns G Y ho hd hcd hmg hobj hints hlen hbits hg => ?_
  have KX := hY w _ Y
  obtain ⟨fd, g, gK, hb, hF⟩ := F w mg fa _ KX G.T.g hmg
  obtain ⟨S', e⟩ := hf ns hlen hbits
  obtain ⟨mm, hm, _⟩ := (G.T.seer hin).mods
  exact law_callG KX G.T.g G.T.b G.T.builtins G.T.nolimit ⟨mm, hm⟩ hg hobj hints (Nat.le_trans hlen hn2) hr gK hF hb e
end Lg

namespace Lg
open PySem PySem.Spec L2
section
variable {K : PySem.W.Frag} {P : Program} {C fI cda cc : Addr}
def ecB (K : PySem.W.Frag) (C : Addr) : Bool := match K.lookup C with
  | some ⟨.type t, _, .cls cd, sl⟩ => (match cd.mro, sl.toList with
    | .ref C' :: bm, [_, _, _, _, some (.builtin n), _] => decide (t = "type") && decide (C' = C) && decide (n = "ValueError.__new__") && !cd.hasDel && cd.hasDict && PySem.HandSPX.refsVE bm
    | _, _ => false)
  | _ => false
theorem ec_of (h : ecB K C = true) : ∃ nm q N bs bm sn sub ab col dd k0 k1 k2 k3 k5, K.lookup C = some (excClassObj nm q C N bs bm true sn sub ab col dd k0 k1 k2 k3 k5 "ValueError.__new__") ∧ PySem.HandSPX.refsVE bm = true := by
  unfold ecB at h
  split at h
  · rename_i t dd cd sl ho
    split at h
    · rename_i C' bm k0 k1 k2 k3 n k5 hm hs
      simp only [Bool.and_eq_true, decide_eq_true_eq, Bool.not_eq_true'] at h
      obtain ⟨⟨⟨⟨⟨rfl, rfl⟩, rfl⟩, hdel⟩, hh⟩, ht⟩ := h
      obtain ⟨nm, bs, mro, ns, qn, hd, sn, sub, ab, col, del⟩ := cd
      dsimp only at hm hdel hh
      subst hm hdel hh
      have hsl : sl = #[k0, k1, k2, k3, some (.builtin "ValueError.__new__"), k5] := by
        obtain ⟨l⟩ := sl
        simp only at hs
        rw [hs]
      subst hsl
      exact ⟨nm, qn, ns, bs, bm, sn, sub, ab, col, dd, k0, k1, k2, k3, k5, ho, ht⟩
    · cases h
  · cases h
def oexB (K : PySem.W.Frag) (C : Addr) : Bool := ecB K C && decide (PySem.W.findIn K (.ref C) "__setattr__" = some (some (.builtin "object.__setattr__"))) && decide (PySem.W.subIn K (.ref C) (.type "BaseException") = some true) && decide (PySem.W.typeIn K (.ref C) = some (.type "type")) && PySem.W.keepIn K (.ref C)
theorem oex_of (h : oexB K C = true) : OexC K C := by
  unfold oexB at h
  simp only [Bool.and_eq_true, decide_eq_true_eq] at h
  obtain ⟨⟨⟨⟨h1, h2⟩, h3⟩, h4⟩, h5⟩ := h
  exact ⟨ec_of h1, h2, h3, h4, h5⟩
def codeB (K : PySem.W.Frag) (P : Program) (cda : Addr) : Bool := match K.lookup cda with
  | some ⟨_, _, .fields vs, _⟩ => (match (vs : Array Value)[2]? with
    | some (Value.str file _) => (P.main.file : PySem.Str) == file
    | _ => false)
  | _ => false
def cellB (K : PySem.W.Frag) (C cc : Addr) : Bool := match K.lookup cc with
  | some ⟨_, _, .cell (some (.ref D)), _⟩ => decide (D = C)
  | _ => false
def supB (K : PySem.W.Frag) (P : Program) (C cda cc : Addr) : Bool := oexB K C && decide (PySem.W.ks_superIn K C C "__init__" = some (some (.builtin "ValueError.__init__"))) && decide (PySem.W.subIn K (.ref C) (.type "ValueError") = some true) && decide (PySem.W.mroIn K C (.ref C) = some true) &&
  decide (PySem.W.nsIn K cStatics "thirdparty.any" = some none) && codeB K P cda && cellB K C cc && !(P.main.scope.names.lookup ("super" : PySem.Str)).isSome
theorem sup_of (h : supB K P C cda cc = true) : SupC K P C cda cc := by
  unfold supB at h
  simp only [Bool.and_eq_true, decide_eq_true_eq, Bool.not_eq_true'] at h
  obtain ⟨⟨⟨⟨⟨⟨⟨h1, h2⟩, h3⟩, h4⟩, h5⟩, h6⟩, h7⟩, h8⟩ := h
  refine ⟨oex_of h1, h2, h3, h4, h5, ?_, ?_, h8⟩
  · unfold codeB at h6
    split at h6
    · rename_i a b vs c ho
      split at h6
      · rename_i file tk hv
        exact ⟨a, b, vs, c, file, tk, ho, hv, h6⟩
      · cases h6
    · cases h6
  · unfold cellB at h7
    split at h7
    · rename_i a b D c ho
      have e := of_decide_eq_true h7
      subst e
      exact ⟨a, b, c, ho⟩
    · cases h7
def excCB (K : PySem.W.Frag) (D : Addr) : Bool := decide (PySem.W.findIn K (.ref D) "__getattribute__" = some (some (.builtin "BaseException.__getattribute__"))) && decide (PySem.W.findIn K (.ref D) "__getattr__" = some none) && decide (PySem.W.subIn K (.ref D) (.type "BaseException") = some true) && PySem.W.hasDictIn K D &&
  decide (PySem.W.findIn K (.ref D) "__class__" = some (some (.builtin "object.__class__"))) && decide (PySem.W.specialIn K (.builtin "object.__class__") "__get__" = some (some (.builtin "getset_descriptor.__get__"))) && decide (PySem.W.takesIn K (.builtin "object.__class__") = some true) && decide (PySem.W.mroIn K D (.type "object") = some true)
theorem excC_of (h : excCB K C = true) : ExcC K C := by
  unfold excCB at h
  simp only [Bool.and_eq_true, decide_eq_true_eq] at h
  obtain ⟨⟨⟨⟨⟨⟨⟨h1, h2⟩, h3⟩, h4⟩, h5⟩, h6⟩, h7⟩, h8⟩ := h
  exact ⟨h1, h2, h3, h4, h5, h6, h7, h8⟩
/-- what isinstance says of the classes 0 .. n - 1 -/
def isiB (K : PySem.W.Frag) (Cs : List Addr) (n : Nat) (u : Value) (t : Nat → Option Bool) : Bool := (List.range n).all fun c => decide (PySem.W.kitOne K (.ref (Cs.getD c 0)) u = t c)
theorem isi_of {Cs : List Addr} {n : Nat} {u : Value} {t : Nat → Option Bool} (hx : ((List.range n).all fun c => excCB K (Cs.getD c 0)) = true) (h : isiB K Cs n u t = true) (ht : ∀ c b, t c = some b → c < n) : ∀ c b, t c = some b → ExcC K (Cs.getD c 0) ∧ PySem.W.kitOne K (.ref (Cs.getD c 0)) u = some b := by
  intro c b e
  have hc := List.mem_range.mpr (ht c b e)
  refine ⟨excC_of (List.all_eq_true.mp hx c hc), ?_⟩
  rw [← e]
  exact of_decide_eq_true (List.all_eq_true.mp h c hc)
def flB (K : PySem.W.Frag) (Cs : List Addr) (cs : List Nat) (f : PySem.Str) : Bool := cs.all fun c => xfB K (Cs.getD c 0) && decide (PySem.W.findIn K (.ref (Cs.getD c 0)) f = some none)
theorem fl_of {Cs : List Addr} {cs : List Nat} {f : PySem.Str} (h : flB K Cs cs f = true) : ∀ c, cs.contains c = true → XfC K (Cs.getD c 0) ∧ PySem.W.findIn K (.ref (Cs.getD c 0)) f = some none := by
  intro c hc
  have := List.all_eq_true.mp h c (by simpa using hc)
  simp only [Bool.and_eq_true, decide_eq_true_eq] at this
  exact ⟨xfB_ok this.1, this.2⟩
theorem xi_of {mg : PySem.Str → Option Value} {n qual : PySem.Str} {st : Stmt} {oc kV doc pm ct : Value} {od an : Option Addr} {osl : Array (Option Value)} (lk : K.lookup fI = some ⟨oc, od, .func (PySem.W.ksFn "__init__" qual (defArgs st) (defBody st) (defScope st) .none kV doc pm an (.ref cda) ct cc), osl⟩)
    (cd : PySem.W.codeIn K (.ref cda) qual = true) (U : supB K P C cda cc = true) (m : mg n = some (.ref C)) (su : mg "super" = none) (iC : PySem.W.findIn K (.ref C) "__init__" = some (some (.ref fI))) (tI : PySem.W.typeIn K (.ref fI) = some (.type "function")) :
    XI K P mg n qual st C fI cda cc (PySem.W.ksFn "__init__" qual (defArgs st) (defBody st) (defScope st) .none kV doc pm an (.ref cda) ct cc) :=
  ⟨⟨oc, od, kV, doc, pm, an, ct, osl, rfl, lk⟩, cd, sup_of U, m, su, iC, tI⟩
theorem kbn_of {fd : FuncData} {p : PySem.Str} {ps ks : List PySem.Str} {g : List Value → List Value → List Value} {gV : List V → List V → List V} (hrel : ∀ {vs : List V} {us : List Value} {zs : List V} {ws : List Value}, Vals vs us → Vals zs ws → Vals (gV vs zs) (g us ws))
    (h : ∀ (a : Value) (ws : List Value), ws.length = ks.length → bindArgs fd ⟨[a], ks.zip ws⟩ = pure ((p :: ps).zip (g [a] ws))) : KBn K fd (p :: ps) 1 ks g gV :=
  ⟨fun s us ws X l1 l2 => by
    obtain ⟨a, rfl⟩ := List.length_eq_one_iff.mp l1
    exact .of_eq (h a ws l2), hrel⟩
theorem vals_rev : ∀ {zs : List V} {ws : List Value}, Vals zs ws → Vals zs.reverse ws.reverse
  | _, _, .nil => .nil
  | _, _, .cons h t => by rw [List.reverse_cons, List.reverse_cons]; exact (vals_rev t).append (.cons h .nil)
end
end Lg

namespace Lg
open PySem PySem.Spec L2
def sRaiseX (c : Nat) (f : List D → Store → Res D) (as : AM) : SM := fun env S => (as env S).bindS fun ds S1 => match f (.loc S1.length :: ds) (S1 ++ [.exc c none]) with
  | .ok .non S2 => match S2[S1.length]?, S2[S1.length + 1]? with
    | some (.exc c' (some m)), some (.xd fs) => if ds.length ≤ 1000 ∧ S2.length = S1.length + 2 ∧ c' = c ∧ m = S1.length + 1 ∧ (S2.take S1.length).all (Ob.und S1.length) = true ∧ undkv S1.length fs = true then .err ⟨c, some fs⟩ (S2.take S1.length) else .stuck
    | _, _ => .stuck
  | _ => .stuck
theorem sims_raiseX {g : G} {E : XK} {c n : Nat} {f : List D → Store → Res D} {tas : TA} {as : AM} (hf : Ar n f) (has : SimA g E tas as) :
    SimS g E (fun _ σ H => tMkO (g.cls c) (spOf g n f) [] tas σ H fun cls d H' => E cls d H') (sRaiseX c f as) := by
  intro l D' σ H ρ S env re rs p
  refine has.bindS re rs p fun ds S1 ρ1 H1 vs e1 rs1 rx re1 p1 => ?_
  cases ef : f (.loc S1.length :: ds) (S1 ++ [.exc c none]) with
  | err x S2 => rw [ef] at p1; exact p1.elim
  | stuck => rw [ef] at p1; exact p1.elim
  | ok v0 S2 =>
    rw [ef] at p1
    cases v0 with
    | non =>
      dsimp only at p1
      split at p1
      · rename_i c' m fs en en1
        split at p1
        · rename_i hc
          obtain ⟨hz, hl2, rfl, rfl, hu, hfu⟩ := hc
          refine ⟨by rw [rx.length]; exact hz, fun a ha => ?_⟩
          obtain ⟨e3, rs3⟩ := rs1.push (o := exo a (g.cls c') none) (ob := .exc c' none) ha fun ρ' H' e' q => q
          have rself : RD (g.hide l) (ρ1 ++ [a]) (upd H1 a (exo a (g.cls c') none)) (.ref a) (.loc S1.length) := .loc (by rw [← rs1.len]; simp)
          rw [List.append_nil]
          refine sp_go hf (.cons rself (rx.mono e3)) rs3 ?_
          rw [ef]
          intro ρ2 H2 u e4 rs4 ru
          cases ru
          refine ⟨rfl, ?_⟩
          obtain ⟨l2, rfl, hl⟩ := e4.new
          have ll : l2.length = 1 := by
            have := rs4.len
            rw [hl2, List.length_append, List.length_append, rs1.len] at this
            simp at this
            omega
          obtain ⟨dx, rfl⟩ := List.length_eq_one_iff.mp ll
          have an : (ρ1 ++ [a] ++ [dx])[S1.length]? = some a := by rw [← rs1.len]; simp
          have dn : (ρ1 ++ [a] ++ [dx])[S1.length + 1]? = some dx := by rw [← rs1.len]; simp
          obtain ⟨dx', q1, q2⟩ := rs4.ob _ a _ an en
          rw [dn] at q1; cases q1
          obtain ⟨fv, q3, q4⟩ := rs4.ob _ dx _ dn en1
          have hdx := (hl dx List.mem_cons_self).1
          have dxa : dx ≠ a := fun z => by rw [z, upd_same] at hdx; cases hdx
          have hdx1 : H1 dx = none := by rw [upd_ne dxa] at hdx; exact hdx
          refine ⟨dx, fv, q2, q3, hdx1, ?_⟩
          have kk : ∀ b, b ∉ [a, dx] → upd (del H2 a) dx (HO.xd fv) b = H2 b := fun b hb => by
            rw [upd_ne (fun z => hb (by simp [z])), del_ne (fun z => hb (by simp [z]))]
          have rs5 : RS (g.hide l) ρ1 (S2.take S1.length) (upd (del H2 a) dx (.xd fv)) := by
            have r := RS.cut (g := g.hide l) (ρ := ρ1) (x := [a, dx]) kk (S := S2) (by simpa using rs4) (by rw [rs1.len]; exact hu)
            rw [rs1.len] at r; exact r
          have e5 : Ex ρ1 H1 ρ1 (upd (del H2 a) dx (.xd fv)) := ⟨⟨[], by simp, by simp⟩, fun b o nb hb => by
            have ba : b ≠ a := ne_of_none hb ha
            have bd : b ≠ dx := ne_of_none hb hdx1
            rw [kk b (by simp [ba, bd])]
            exact e4.keep b o (by simp [nb, ba]) (by rw [upd_ne ba]; exact hb)⟩
          have h5 : RKV (g.hide l) ρ1 (upd (del H2 a) dx (.xd fv)) fv fs := RKV.cut (x := [a, dx]) kk (by simpa using q4) (by rw [rs1.len]; exact hfu)
          exact p1 ρ1 _ _ _ e5 rs5 ⟨rfl, dx, fv, rfl, rs1.fresh hdx1, upd_same, h5⟩
        · exact p1.elim
      · exact p1.elim
    | _ => exact p1.elim
/-- the rule's form in a def's body -/
theorem ps_raiseX {P : Program} {w : World} {K : PySem.W.Frag} {mg : PySem.Str → Option Value} {base : Heap} {N : List PySem.Str} {qual : PySem.Str} {scope : Scope} {f : Addr} {cd : Value} {A : Around} {outer : List Env} {s : Shared} {H : Hp} {E : XK} {e : Expr} {t : L2.St → Hp → XK → Prop} {pos : Pos}
    (he : PMk (cxOf (L2.CX P w) P w K mg base N qual scope f cd A outer s H E) e t) : PS (cxOf (L2.CX P w) P w K mg base N qual scope f cd A outer s H E) (.Raise (some e) none pos) (fun _ σ H' => t σ H' fun cls d H'' => E cls d H'') := ps_raise rfl (takes_of rfl rfl rfl rfl) he
end Lg

namespace Lg
open PySem PySem.Spec L2
theorem each_of {R : Value → (V × PyData) → Prop} (h : ∀ v b, RelV b.1 v → R v b) : ∀ {bs : List (V × PyData)} {us : List Value}, Vals (bs.map (·.1)) us → PySem.W.EachIs R us bs
  | [], _, r => by cases r; exact .nil
  | b :: bs, _, r => by
    cases r with
    | cons r1 r2 => exact .cons (h _ _ r1) (each_of h r2)
theorem each_back : ∀ {bs : List (V × PyData)} {us : List Value}, PySem.W.EachIs (fun v (b : V × PyData) => RelV b.1 v) us bs → Vals (bs.map (·.1)) us
  | [], _, .nil => .nil
  | _ :: _, _, .cons r t => .cons r (each_back t)
/-- sorted(xs): the items' data tell the order -/
def rSortD (K : PySem.W.Frag) : List V → Hp → VK → Prop := fun vs H Q => ∃ (a : Addr) (bs : List (V × PyData)), vs = [.ref a] ∧ SqL K H a (bs.map (·.1)) ∧ (∀ b ∈ bs, Dp K H b.1 b.2) ∧ PySem.W.AllAlike (bs.map (·.2)) ∧ PySem.W.Sortable (bs.map (·.2)) ∧ (∀ b ∈ bs, b.2.depth ≤ 40) ∧
  ∀ p, H p = none → Q (.ref p) (upd H p (.lst ((bs.mergeSort (PySem.W.dataLe false (·.2))).map (·.1))))
theorem call_sortD {X : Cx} (hu : X.A.units + 64 < cLine) : CallR X (.builtin "sorted") (rSortD X.K) := by
  intro pins s σ H xs us Q I r h
  obtain ⟨a, bs, rfl, hs, hd, hal, hk, hdep, q⟩ := h
  obtain ⟨its, rv, hl, hz⟩ := I.list hs
  rw [Vals.ref1 r]
  have hlen : bs.length = its.length := by have := rv.length; rwa [List.length_map] at this
  have rd : ∀ {v : Value} {b : V × PyData}, b ∈ bs → RelV b.1 v → ∃ as, Reads s.heap v b.2 as := fun {v b} hb rv => Dp.reads I b.2 b.1 v (hd b hb) rv
  have e1 : PySem.W.EachIs (fun v (b : V × PyData) => RelV b.1 v) its bs := each_of (fun _ _ h => h) rv
  have e2 : PySem.W.EachIs (fun v (b : V × PyData) => ∃ as, Reads s.heap v b.2 as) its bs := by
    have key : ∀ {cs : List (V × PyData)} {us : List Value}, (∀ b ∈ cs, b ∈ bs) → Vals (cs.map (·.1)) us → PySem.W.EachIs (fun v (b : V × PyData) => ∃ as, Reads s.heap v b.2 as) us cs := by
      intro cs
      induction cs with
      | nil => intro us _ r; cases r; exact .nil
      | cons c cs ih =>
        intro us hm r
        cases r with
        | cons r1 r2 => exact .cons (rd (hm c List.mem_cons_self) r1) (ih (fun b hb => hm b (List.mem_cons_of_mem _ hb)) r2)
    exact key (fun _ h => h) rv
  have hz' : bs.length ≤ sizeLine := by simpa using hz
  refine PySem.W.sorted_data (enc := fun b : V × PyData => b.2) hl.isList e1 e2 hal hk hz' (fun b hb => by have := hdep b hb; omega) fun out ho eo => ?_
  obtain ⟨ep, he'⟩ := PyProof.Rows.sortedAll_at s.heap its out.toArray
  have hlen2 : ((bs.mergeSort (PySem.W.dataLe false (·.2))).map (·.1)).length ≤ sizeLine := by rw [List.length_map, List.length_mergeSort]; exact hz'
  exact ⟨.ref _, upd H (s.heap.objs.size + 1) (.lst ((bs.mergeSort (PySem.W.dataLe false (·.2))).map (·.1))), I.laid (t' := s.toks) (fun _ _ => PyProof.Rows.sortedAll_old) (Nat.le_succ _) ⟨hlen2, out, ep, each_back eo, he'⟩, rfl, q _ (I.hok.fresh (Nat.le_succ _))⟩
def alikeB (ps : List PyData) : Bool := ps.all fun d => ps.all fun d' => PySem.W.alike d d'
theorem alike_of {ps : List PyData} (h : alikeB ps = true) : PySem.W.AllAlike ps := fun d hd d' hd' => List.all_eq_true.mp (List.all_eq_true.mp h d hd) d' hd'
def tupB : PyData → Bool
  | .tuple (_ :: _) => true
  | _ => false
def othB : PyData → Bool
  | .none => false
  | .tuple _ => false
  | _ => true
def sortB (ps : List PyData) : Bool := ps.all tupB || ps.all othB
theorem sortable_of {ps : List PyData} (h : sortB ps = true) : PySem.W.Sortable ps := by
  unfold sortB at h
  rcases Bool.or_eq_true_iff.mp h with h | h
  · refine .inl fun d hd => ?_
    have := List.all_eq_true.mp h d hd
    unfold tupB at this
    split at this
    · exact ⟨_, _, rfl⟩
    · cases this
  · refine .inr fun d hd => ?_
    have := List.all_eq_true.mp h d hd
    unfold othB at this
    split at this
    · cases this
    · cases this
    · rename_i h1 h2
      exact ⟨h1, h2⟩
def withPy : List D → Option (List (D × PyData))
  | [] => some []
  | d :: ds => match d.py, withPy ds with
    | some p, some r => some ((d, p) :: r)
    | _, _ => none
def sortD (x : List (D × PyData)) : List D := (x.mergeSort (PySem.W.dataLe false (·.2))).map (·.1)
def cSort (ds : List D) (S : Store) : Res D := match ds with
  | [x] => match asL x S with
    | some xs => match withPy xs with
      | some bs => if alikeB (bs.map (·.2)) = true ∧ sortB (bs.map (·.2)) = true ∧ (bs.all fun b => decide (b.2.depth ≤ 40)) = true then .ok (.lst (sortD bs)) S else .stuck
      | none => .stuck
    | none => .stuck
  | _ => .stuck
theorem with_py {g : G} {ρ : List Addr} {H : Hp} : ∀ {vs : List V} {ds : List D} {bs : List (D × PyData)}, RDs g ρ H vs ds → withPy ds = some bs → ∃ ts : List (V × D × PyData), ts.map (·.1) = vs ∧ ts.map (fun t => (t.2.1, t.2.2)) = bs ∧ ∀ t ∈ ts, RD g ρ H t.1 t.2.1 ∧ t.2.1.py = some t.2.2
  | _, _, bs, .nil, e => by cases e; exact ⟨[], rfl, rfl, fun _ h => nomatch h⟩
  | _, _, bs, .cons (v := v) (d := d) h t, e => by
    simp only [withPy] at e
    split at e
    · rename_i p r e1 e2
      cases e
      obtain ⟨ts, q1, q2, q3⟩ := with_py t e2
      refine ⟨(v, d, p) :: ts, by simp [q1], by simp [q2], fun t ht => ?_⟩
      rcases List.mem_cons.mp ht with rfl | ht
      · exact ⟨h, e1⟩
      · exact q3 t ht
    · cases e
theorem rds_map {g : G} {ρ : List Addr} {H : Hp} : ∀ {ts : List (V × D × PyData)}, (∀ t ∈ ts, RD g ρ H t.1 t.2.1) → RDs g ρ H (ts.map (·.1)) (ts.map fun t => t.2.1)
  | [], _ => .nil
  | t :: ts, h => .cons (h t List.mem_cons_self) (rds_map fun x hx => h x (List.mem_cons_of_mem _ hx))
theorem sim_sort {g : G} {E : XK} {K : PySem.W.Frag} : CallSim g E (rSortD K) cSort := by
  intro l xs H Q ρ S ds rx rs p
  unfold cSort at p
  split at p
  · rename_i x
    split at p
    · rename_i ys e
      split at p
      · rename_i bs eb
        split at p
        · rename_i hc
          obtain ⟨v, rfl, r⟩ := rx.one
          obtain ⟨a, vs, rfl, h1, r1⟩ := as_l rs r e
          obtain ⟨ts, q1, q2, q3⟩ := with_py r1 eb
          have m2 : (ts.map fun t => (t.1, t.2.2)).map (·.2) = bs.map (·.2) := by rw [← q2]; simp [List.map_map, Function.comp_def]
          have m1 : (ts.map fun t => (t.1, t.2.2)).map (·.1) = vs := by rw [← q1]; simp [List.map_map, Function.comp_def]
          have s1 : (ts.map fun t => (t.1, t.2.2)).mergeSort (PySem.W.dataLe false (·.2)) = (ts.mergeSort fun a b => PySem.W.dataLe false (·.2) (a.1, a.2.2) (b.1, b.2.2)).map fun t => (t.1, t.2.2) := (List.map_mergeSort (f := fun t : V × D × PyData => (t.1, t.2.2)) (fun _ _ _ _ => rfl)).symm
          have s2 : bs.mergeSort (PySem.W.dataLe false (·.2)) = (ts.mergeSort fun a b => PySem.W.dataLe false (·.2) (a.1, a.2.2) (b.1, b.2.2)).map fun t => (t.2.1, t.2.2) := by
            rw [← q2]
            exact (List.map_mergeSort (f := fun t : V × D × PyData => (t.2.1, t.2.2)) (fun _ _ _ _ => rfl)).symm
          refine ⟨a, ts.map fun t => (t.1, t.2.2), rfl, by rw [m1]; exact SqL.of h1, fun b hb => ?_, by rw [m2]; exact alike_of hc.1, by rw [m2]; exact sortable_of hc.2.1, fun b hb => ?_, fun q hq => ?_⟩
          · obtain ⟨t, ht, rfl⟩ := List.mem_map.mp hb
            exact dp_both (q3 t ht).1 _ (q3 t ht).2
          · obtain ⟨t, ht, rfl⟩ := List.mem_map.mp hb
            have : (t.2.1, t.2.2) ∈ bs := by rw [← q2]; exact List.mem_map.mpr ⟨t, ht, rfl⟩
            exact of_decide_eq_true (List.all_eq_true.mp hc.2.2 _ this)
          · refine p ρ _ _ (Ex.new1 hq) (rs.aside hq) (.lst upd_same (rs.fresh hq) ?_)
            unfold sortD
            rw [s1, s2]
            simp only [List.map_map, Function.comp_def]
            have hm : ∀ t ∈ (ts.mergeSort fun a b => PySem.W.dataLe false (·.2) (a.1, a.2.2) (b.1, b.2.2)), RD (g.hide l) ρ H t.1 t.2.1 := fun t ht => (q3 t (List.mem_mergeSort.mp ht)).1
            exact (rds_map hm).mono (Ex.new1 hq)
        · exact p.elim
      · exact p.elim
    · exact p.elim
  · exact p.elim
end Lg

namespace Lg
open PySem PySem.Spec L2
theorem _root_.L2.Room.units2 {k : Nat} {A : Around} (h : Room k A) : A.units + 65 < cLine := by
  have := h.un
  omega
def mChain (f f' : D → D → Store → Res D) (a b c : EM) : EM := fun env S => (a env S).bind fun x S1 => (b env S1).bind fun y S2 => (f x y S2).bind fun z S3 => match z with
  | .bl k => if k = true then (c env S3).bind fun w S4 => f' y w S4 else .ok (.bl false) S3
  | _ => .stuck
theorem OpSim.bind {g : G} {E : XK} {r : R2} {f : D → D → Store → Res D} (h : OpSim g E r f) {l : List Addr} {x y : V} {H : Hp} {Q Q' : VK} {ρ : List Addr} {S : Store} {dx dy : D} {k : D → Store → Res D} (rx : RD (g.hide l) ρ H x dx) (ry : RD (g.hide l) ρ H y dy) (rs : RS (g.hide l) ρ S H) (p : PostE (g.hide l) E ρ H Q' ((f dx dy S).bind k))
    (c : ∀ d S' ρ' H' v, Ex ρ H ρ' H' → RS (g.hide l) ρ' S' H' → RD (g.hide l) ρ' H' v d → PostE (g.hide l) E ρ' H' Q' (k d S') → Q v H') : r x y H Q := by
  refine h l x y H Q ρ S dx dy rx ry rs ?_
  cases e : f dx dy S with
  | ok d S' => rw [e] at p; exact fun ρ' H' v a b q => c d S' ρ' H' v a b q (PostE.ex p a)
  | err x S' => rw [e] at p; exact p
  | stuck => rw [e] at p; exact p
theorem sim_chain {g : G} {E : XK} {r r' : R2} {f f' : D → D → Store → Res D} {ta tb tc : TE} {a b c : EM} (h : OpSim g E r f) (h' : OpSim g E r' f') (ha : SimE g E ta a) (hb : SimE g E tb b) (hc : SimE g E tc c) : SimE g E (tChain r r' ta tb tc) (mChain f f' a b c) := by
  intro l σ H Q ρ S env re rs p
  refine ha.bind re rs p fun x S1 ρ1 H1 v e1 rs1 rx re1 p1 => ?_
  refine hb.bind re1 rs1 p1 fun y S2 ρ2 H2 u e2 rs2 ry re2 p2 => ?_
  refine h.bind (rx.mono e2) ry rs2 p2 fun z S3 ρ3 H3 t e3 rs3 rz p3 => ?_
  cases rz with
  | bl k =>
    refine ⟨k, rfl, ?_⟩
    cases k with
    | true =>
      simp only [if_true] at p3 ⊢
      exact hc.bind (re2.mono e3) rs3 p3 fun w S4 ρ4 H4 w' e4 rs4 rw' re4 p4 => h' l u w' H4 Q ρ4 S4 y w ((ry.mono e3).mono e4) rw' rs4 p4
    | false => exact p3 ρ3 H3 _ Ex.refl rs3 (.bl false)
  | _ => exact p3.elim

/-! ### join -/
def txs : List D → Option (List PySem.Str)
  | [] => some []
  | .str s :: ds => (txs ds).map (s :: ·)
  | _ => none
theorem txs_of {g : G} {ρ : List Addr} {H : Hp} : ∀ {vs : List V} {ds : List D} {ys : List PySem.Str}, RDs g ρ H vs ds → txs ds = some ys → vs = ys.map V.str
  | _, _, _, .nil, e => by cases e; rfl
  | _, _, ys, .cons (d := d) h t, e => by
    cases h with
    | str s =>
      simp only [txs, Option.map_eq_some_iff] at e
      obtain ⟨zs, e1, rfl⟩ := e
      rw [txs_of t e1]
      rfl
    | _ => simp [txs] at e
def asLT (d : D) (S : Store) : Option (List D) := match d with
  | .tup ds => some ds
  | .tupX ds => some ds
  | d => asL d S
def qJoin (d : D) (ds : List D) (S : Store) : Res D := match d, ds with
  | .str a, [x] => match asLT x S with
    | some xs => match txs xs with
      | some ys => if (ys.map (·.length)).sum + ys.length * a.length ≤ 16777216 then .ok (.str (Txt.join a ys)) S else .stuck
      | none => .stuck
    | none => .stuck
  | _, _ => .stuck
theorem sim_join {g : G} {E : XK} {K : PySem.W.Frag} : MtSim g E (fun x xs H Q => ∃ a p, ∃ ys : List PySem.Str, x = .str a ∧ xs = [.ref p] ∧ (SqL K H p (ys.map V.str) ∨ SqT K H p (ys.map V.str)) ∧ (ys.map (·.length)).sum + ys.length * a.length ≤ 16777216 ∧ Q (.str (Txt.join a ys)) H) qJoin := by
  intro l x xs H Q ρ S d ds rx ry rs p
  unfold qJoin at p
  split at p
  · rename_i a y
    cases rx
    obtain ⟨v, rfl, r⟩ := ry.one
    split at p
    · rename_i zs e
      split at p
      · rename_i ys e2
        split at p
        · rename_i hz
          unfold asLT at e
          split at e
          · cases e
            cases r with
            | tup h n r => exact ⟨a, _, ys, rfl, rfl, .inr (by rw [← txs_of r e2]; exact SqT.of h), hz, p ρ H _ Ex.refl rs (.str _)⟩
          · cases e
            cases r with
            | @tupX _ o _ _ h hd n r => exact ⟨a, _, ys, rfl, rfl, .inr (by rw [← txs_of r e2]; exact .inl (.inr ⟨o, h⟩)), hz, p ρ H _ Ex.refl rs (.str _)⟩
          · obtain ⟨b, vs, rfl, h1, r1⟩ := as_l rs r e
            exact ⟨a, b, ys, rfl, rfl, .inl (by rw [← txs_of r1 e2]; exact SqL.of h1), hz, p ρ H _ Ex.refl rs (.str _)⟩
        · exact p.elim
      · exact p.elim
    · exact p.elim
  · exact p.elim
/-! ### f-strings -/
def mFmt (a : EM) : EM := fun env S => (a env S).bind fun d S1 => match d with
  | .str y => if y.length ≤ sizeLine then .ok (.str y) S1 else .stuck
  | .int i => if i.natAbs.log2 < 1920 then .ok (.str (toString i)) S1 else .stuck
  | _ => .stuck
theorem sim_fmt {g : G} {E : XK} {ta : TE} {a : EM} (ha : SimE g E ta a) : SimE g E (tFmt ta) (mFmt a) := by
  intro l σ H Q ρ S env re rs p
  refine ha.bind re rs p fun d S1 ρ1 H1 v e1 rs1 rx re1 p1 => ?_
  cases rx with
  | str y =>
    dsimp only at p1
    split at p1
    · rename_i h; exact .inl ⟨y, rfl, h, p1 ρ1 H1 _ Ex.refl rs1 (.str _)⟩
    · exact p1.elim
  | int i =>
    dsimp only at p1
    split at p1
    · rename_i h; exact .inr ⟨i, rfl, h, p1 ρ1 H1 _ Ex.refl rs1 (.str _)⟩
    · exact p1.elim
  | _ => exact p1.elim
def mJs : List EM → PySem.Str → EM
  | [], acc => fun _ S => .ok (.str acc) S
  | a :: r, acc => fun env S => (a env S).bind fun d S1 => match d with
    | .str y => if (acc ++ y).length ≤ sizeLine then mJs r (acc ++ y) env S1 else .stuck
    | _ => .stuck
inductive SimEs (g : G) (E : XK) : List TE → List EM → Prop
  | nil : SimEs g E [] []
  | cons {t : TE} {a : EM} {ts : List TE} {as : List EM} (h : SimE g E t a) (r : SimEs g E ts as) : SimEs g E (t :: ts) (a :: as)
theorem js_sim {g : G} {E : XK} {ts : List TE} {as : List EM} (h : SimEs g E ts as) : ∀ (acc : PySem.Str) (l : List Addr) (σ : L2.St) (H : Hp) (Q : VK) (ρ : List Addr) (S : Store) (env : En), RE (g.hide l) ρ H σ env → RS (g.hide l) ρ S H → PostE (g.hide l) E ρ H Q (mJs as acc env S) → tJs ts acc σ H fun out H1 => Q (.str out) H1 := by
  induction h with
  | nil => exact fun acc l σ H Q ρ S env re rs p => p ρ H _ Ex.refl rs (.str _)
  | cons h r ih =>
    intro acc l σ H Q ρ S env re rs p
    refine h.bind re rs p fun d S1 ρ1 H1 v e1 rs1 rx re1 p1 => ?_
    cases rx with
    | str y =>
      dsimp only at p1
      split at p1
      · rename_i hz; exact ⟨y, rfl, hz, ih _ l σ H1 Q ρ1 S1 env re1 rs1 p1⟩
      · exact p1.elim
    | _ => exact p1.elim
theorem sim_joined {g : G} {E : XK} {ts : List TE} {as : List EM} (h : SimEs g E ts as) : SimE g E (fun σ H Q => tJs ts PySem.Str.empty σ H fun out H1 => Q (.str out) H1) (mJs as PySem.Str.empty) := fun l σ H Q ρ S env re rs p => js_sim h PySem.Str.empty l σ H Q ρ S env re rs p
end Lg

namespace Lg
open PySem PySem.Spec L2
def keyD : D → Option Key
  | .int i => some (.inl i)
  | .str s => some (.inr s)
  | _ => none
def keysD : List D → Option (List Key)
  | [] => some []
  | d :: ds => match keyD d, keysD ds with
    | some k, some ks => some (k :: ks)
    | _, _ => none
theorem key_of_rd {g : G} {ρ : List Addr} {H : Hp} {v : V} {d : D} {k : Key} (r : RD g ρ H v d) (h : keyD d = some k) : v = kV k := by
  cases r with
  | int i => cases h; rfl
  | str s => cases h; rfl
  | _ => cases h
theorem keys_of_rds {g : G} {ρ : List Addr} {H : Hp} : ∀ {vs : List V} {ds : List D} {ks : List Key}, RDs g ρ H vs ds → keysD ds = some ks → vs = ks.map kV
  | _, _, _, .nil, e => by cases e; rfl
  | _, _, _, .cons h t, e => by
    simp only [keysD] at e
    split at e
    · rename_i k ks e1 e2
      cases e
      rw [key_of_rd h e1, keys_of_rds t e2]
      rfl
    · cases e
def putKD {κ : Type} [DecidableEq κ] (kvs : List (κ × D)) (k : κ) (v : D) : List (κ × D) := if (kvs.any fun kv => decide (kv.1 = k)) = true then kvs.map (fun kv => if kv.1 = k then (kv.1, v) else kv) else kvs ++ [(k, v)]
theorem rkv_any {κ : Type} [DecidableEq κ] {g : G} {ρ : List Addr} {H : Hp} {k : κ} : ∀ {xs : List (κ × V)} {ys : List (κ × D)}, RKV g ρ H xs ys → (xs.any fun kv => decide (kv.1 = k)) = ys.any fun kv => decide (kv.1 = k)
  | _, _, .nil => rfl
  | (a, v) :: xs, (b, d) :: ys, .cons h t => by
    have e : a = b := h.1
    subst e
    rw [List.any_cons, List.any_cons, rkv_any t]
theorem rkv_upd {κ : Type} [DecidableEq κ] {g : G} {ρ : List Addr} {H : Hp} {k : κ} {v : V} {d : D} (r : RD g ρ H v d) : ∀ {xs : List (κ × V)} {ys : List (κ × D)}, RKV g ρ H xs ys → RKV g ρ H (xs.map fun kv => if kv.1 = k then (kv.1, v) else kv) (ys.map fun kv => if kv.1 = k then (kv.1, d) else kv)
  | _, _, .nil => .nil
  | (a, w) :: xs, (b, e) :: ys, .cons h t => by
    have q : a = b := h.1
    subst q
    refine .cons (show (if a = k then (a, v) else (a, w)).1 = (if a = k then (a, d) else (a, e)).1 ∧ RD g ρ H (if a = k then (a, v) else (a, w)).2 (if a = k then (a, d) else (a, e)).2 from ?_) (rkv_upd r t)
    by_cases z : a = k
    · rw [if_pos z, if_pos z]; exact ⟨rfl, r⟩
    · rw [if_neg z, if_neg z]; exact ⟨rfl, h.2⟩
theorem rkv_snoc {κ : Type} {g : G} {ρ : List Addr} {H : Hp} {p : κ × V} {q : κ × D} (e : p.1 = q.1 ∧ RD g ρ H p.2 q.2) : ∀ {xs : List (κ × V)} {ys : List (κ × D)}, RKV g ρ H xs ys → RKV g ρ H (xs ++ [p]) (ys ++ [q])
  | _, _, .nil => .cons e .nil
  | _, _, .cons h t => .cons h (rkv_snoc e t)
theorem RKV.putK {κ : Type} [DecidableEq κ] {g : G} {ρ : List Addr} {H : Hp} {k : κ} {v : V} {d : D} {xs : List (κ × V)} {ys : List (κ × D)} (r : RD g ρ H v d) (t : RKV g ρ H xs ys) : RKV g ρ H (L2.putK xs k v) (putKD ys k d) := by
  unfold L2.putK putKD
  rw [rkv_any t]
  split
  · exact rkv_upd r t
  · exact rkv_snoc ⟨rfl, r⟩ t
/-- o[i] = v -/
def dSetK (o i v : D) (S : Store) : Option Store := match o with
  | .loc n => match S[n]? with
    | some (.dK kvs) => match keyD i with
      | some k => if kvs.length < sizeLine then some (S.set n (.dK (putKD kvs k v))) else none
      | none => none
    | some (.dT kvs) => match i with
      | .tup ds => match keysD ds with
        | some ks => if kvs.length < sizeLine then some (S.set n (.dT (putKD kvs ks v))) else none
        | none => none
      | _ => none
    | _ => none
  | _ => none
theorem sim_setK {g : G} : SetSim g rSetD dSetK := by
  intro l o i v H Q ρ S d1 d2 d3 S' r1 r2 r3 rs h q
  unfold dSetK at h
  split at h
  · rename_i n
    cases r1 with
    | @loc n a hn =>
      split at h
      · rename_i kvs e
        obtain ⟨xs, h1, h2⟩ := rs.ob n a _ hn e
        split at h
        · rename_i k ek
          split at h
          · rename_i hz
            cases h
            obtain ⟨e3, rs3⟩ := rs.put (o := .dK (L2.putK xs k v)) (ob := .dK (putKD kvs k d3)) hn fun H' e' q' => ⟨_, q', (h2.mono e').putK (r3.mono e')⟩
            exact ⟨a, _, rfl, .inl ⟨xs, k, h1, key_of_rd r2 ek, by rw [h2.length]; exact hz, rfl⟩, q ρ _ e3 rs3⟩
          · cases h
        · cases h
      · rename_i kvs e
        obtain ⟨xs, h1, h2⟩ := rs.ob n a _ hn e
        split at h
        · rename_i ds
          cases r2 with
          | @tup b vs ds hb nb rb =>
            split at h
            · rename_i ks ek
              split at h
              · rename_i hz
                cases h
                obtain ⟨e3, rs3⟩ := rs.put (o := .dT (L2.putK xs ks v)) (ob := .dT (putKD kvs ks d3)) hn fun H' e' q' => ⟨_, q', (h2.mono e').putK (r3.mono e')⟩
                exact ⟨a, _, rfl, .inr ⟨xs, ks, b, h1, rfl, by rw [← keys_of_rds rb ek]; exact hb, by rw [h2.length]; exact hz, rfl⟩, q ρ _ e3 rs3⟩
              · cases h
            · cases h
        · cases h
      · cases h
  · cases h
/-- {}, to be filled -/
def mNewK : EM := fun _ S => .ok (.loc S.length) (S ++ [.dK []])
def mNewT : EM := fun _ S => .ok (.loc S.length) (S ++ [.dT []])
theorem sim_newK {g : G} {E : XK} : SimE g E tDNewK mNewK := by
  intro l σ H Q ρ S env re rs p q hq
  obtain ⟨e3, rs3⟩ := rs.push (o := .dK []) (ob := .dK []) hq fun ρ' H' e' q' => ⟨[], q', .nil⟩
  exact p _ _ _ e3 rs3 (.loc (by rw [← rs.len]; simp))
theorem sim_newT {g : G} {E : XK} : SimE g E tDNewT mNewT := by
  intro l σ H Q ρ S env re rs p q hq
  obtain ⟨e3, rs3⟩ := rs.push (o := .dT []) (ob := .dT []) hq fun ρ' H' e' q' => ⟨[], q', .nil⟩
  exact p _ _ _ e3 rs3 (.loc (by rw [← rs.len]; simp))

/-! ### d[k], k in d -/
def valD {κ : Type} [DecidableEq κ] (kvs : List (κ × D)) (k : κ) : Option D := (kvs.find? fun kv => decide (kv.1 = k)).map (·.2)
theorem RKV.val {κ : Type} [DecidableEq κ] {g : G} {ρ : List Addr} {H : Hp} {k : κ} : ∀ {xs : List (κ × V)} {ys : List (κ × D)}, RKV g ρ H xs ys → (∀ d, valD ys k = some d → ∃ v, valV xs k = some v ∧ RD g ρ H v d) ∧ (valD ys k).isSome = (valV xs k).isSome
  | _, _, .nil => ⟨fun d h => (nomatch h), rfl⟩
  | (a, w) :: xs, (b, e) :: ys, .cons h t => by
    have q : a = b := h.1
    subst q
    have ih := RKV.val (k := k) t
    by_cases z : a = k
    · have e1 : valV ((a, w) :: xs) k = some w := valV_pos z
      have e2 : valD ((a, e) :: ys) k = some e := by simp [valD, List.find?_cons, z]
      rw [e1, e2]
      exact ⟨fun d hd => ⟨w, rfl, by cases hd; exact h.2⟩, rfl⟩
    · have e1 : valV ((a, w) :: xs) k = valV xs k := valV_neg z
      have e2 : valD ((a, e) :: ys) k = valD ys k := by simp [valD, List.find?_cons, z]
      rw [e1, e2]
      exact ih
/-- what stands under a key, where the thing is a dict and the key may be one -/
def getK (o i : D) (S : Store) : Option (Option D) := match o with
  | .loc n => match S[n]? with
    | some (.dK kvs) => (keyD i).map fun k => valD kvs k
    | some (.dT kvs) => match i with
      | .tup ds => (keysD ds).map fun ks => valD kvs ks
      | _ => none
    | _ => none
  | _ => none
theorem get_k {g : G} {l : List Addr} {ρ : List Addr} {S : Store} {H : Hp} {o i : V} {d1 d2 : D} {r : Option D} (rs : RS (g.hide l) ρ S H) (r1 : RD (g.hide l) ρ H o d1) (r2 : RD (g.hide l) ρ H i d2) (h : getK d1 d2 S = some r) :
    ∃ a z, o = .ref a ∧ DGet H a i z ∧ z.isSome = r.isSome ∧ ∀ d, r = some d → ∃ v, z = some v ∧ RD (g.hide l) ρ H v d := by
  unfold getK at h
  split at h
  · rename_i n
    cases r1 with
    | @loc n a hn =>
      split at h
      · rename_i kvs e
        obtain ⟨xs, h1, h2⟩ := rs.ob n a _ hn e
        simp only [Option.map_eq_some_iff] at h
        obtain ⟨k, ek, rfl⟩ := h
        have q := h2.val (k := k)
        exact ⟨a, _, rfl, by rw [key_of_rd r2 ek]; exact DGet.k h1, q.2.symm, q.1⟩
      · rename_i kvs e
        obtain ⟨xs, h1, h2⟩ := rs.ob n a _ hn e
        split at h
        · rename_i ds
          cases r2 with
          | @tup b vs ds hb nb rb =>
            simp only [Option.map_eq_some_iff] at h
            obtain ⟨ks, ek, rfl⟩ := h
            have q := h2.val (k := ks)
            exact ⟨a, _, rfl, DGet.t h1 (by rw [← keys_of_rds rb ek]; exact hb), q.2.symm, q.1⟩
        · cases h
      · cases h
  · cases h
def mDGet (a i : EM) : EM := fun env S => (a env S).bind fun x S1 => (i env S1).bind fun y S2 => match getK x y S2 with
  | some (some d) => .ok d S2
  | _ => .stuck
theorem sim_dget {g : G} {E : XK} {ta ti : TE} {a i : EM} (ha : SimE g E ta a) (hi : SimE g E ti i) : SimE g E (tDGet ta ti) (mDGet a i) := by
  intro l σ H Q ρ S env re rs p
  refine ha.bind re rs p fun x S1 ρ1 H1 v e1 rs1 rx re1 p1 => ?_
  refine hi.bind re1 rs1 p1 fun y S2 ρ2 H2 u e2 rs2 ry re2 p2 => ?_
  split at p2
  · rename_i d e
    obtain ⟨b, z, rfl, dg, _, hz⟩ := get_k rs2 (rx.mono e2) ry e
    obtain ⟨w, rfl, rw'⟩ := hz d rfl
    exact ⟨b, w, rfl, dg, p2 ρ2 H2 w Ex.refl rs2 rw'⟩
  · exact p2.elim
def mDIn (i a : EM) : EM := fun env S => (i env S).bind fun y S1 => (a env S1).bind fun x S2 => match getK x y S2 with
  | some r => .ok (.bl r.isSome) S2
  | _ => .stuck
theorem sim_din {g : G} {E : XK} {ta ti : TE} {a i : EM} (hi : SimE g E ti i) (ha : SimE g E ta a) : SimE g E (tDIn ti ta) (mDIn i a) := by
  intro l σ H Q ρ S env re rs p
  refine hi.bind re rs p fun y S1 ρ1 H1 u e1 rs1 ry re1 p1 => ?_
  refine ha.bind re1 rs1 p1 fun x S2 ρ2 H2 v e2 rs2 rx re2 p2 => ?_
  split at p2
  · rename_i r e
    obtain ⟨b, z, rfl, dg, hs, _⟩ := get_k rs2 rx (ry.mono e2) e
    exact ⟨b, z, rfl, dg, by rw [hs]; exact p2 ρ2 H2 _ Ex.refl rs2 (.bl _)⟩
  · exact p2.elim
/-! ### dict(pairs) -/
def pairsD : List D → Option (List (Key × D))
  | [] => some []
  | .tup [a, b] :: ds => match keyD a, pairsD ds with
    | some k, some r => some ((k, b) :: r)
    | _, _ => none
  | _ => none
def mergeD (l : List (Key × D)) : List (Key × D) := l.foldl (fun acc kv => putKD acc kv.1 kv.2) []
theorem merge_rkv {g : G} {ρ : List Addr} {H : Hp} : ∀ {xs : List (Key × V)} {ys : List (Key × D)} {ax : List (Key × V)} {ay : List (Key × D)}, RKV g ρ H xs ys → RKV g ρ H ax ay → RKV g ρ H (xs.foldl (fun acc kv => L2.putK acc kv.1 kv.2) ax) (ys.foldl (fun acc kv => putKD acc kv.1 kv.2) ay)
  | _, _, _, _, .nil, a => a
  | (k, v) :: xs, (k', d) :: ys, _, _, .cons h t, a => by
    have q : k = k' := h.1
    subst q
    exact merge_rkv (xs := xs) (ys := ys) t (a.putK h.2)
def asTL (d : D) (S : Store) : Option (List D) := match d with
  | .tup ds => some ds
  | .tupX ds => some ds
  | d => asL d S
end Lg

namespace Lg
open PySem PySem.Spec L2 RZ
def zipD (xs ys : List D) : List D := List.zipWith (fun d e => .tup [d, e]) xs ys
def itZip (a : AM) : IM := fun env S => (a env S).bind fun ds S1 => match ds with
  | [.lst xs, .lst ys] => .ok (zipD xs ys) S1
  | [.tup xs, .tup ys] => .ok (zipD xs ys) S1
  | [.tup xs, .tupX ys] => .ok (zipD xs ys) S1
  | [.tupX xs, .tup ys] => .ok (zipD xs ys) S1
  | [.tupX xs, .tupX ys] => .ok (zipD xs ys) S1
  | _ => .stuck
section
variable {g : G} {E : XK} {K : PySem.W.Frag}
theorem walkd_pair {l : List Addr} {ρ : List Addr} {H : Hp} {J : It} {vs ws : List V} {xs ys : List D} {G' : Hp → Prop} (w : Walk J (zipD xs ys).length G' (YPair (fun i => vs[i]?) (fun i => ws[i]?))) (hG : ∀ ρ' H', ExH (g.hide l) ρ H ρ' H' → G' H') (r1 : RDs (g.hide l) ρ H vs xs) (r2 : RDs (g.hide l) ρ H ws ys) : WalkD (g.hide l) ρ H J (zipD xs ys) := by
  refine ⟨G', _, w, hG, fun i ρ' H' x H'' S hi e rs y => ?_⟩
  obtain ⟨T, v, u, rfl, hT, rfl, hv, hu⟩ := y
  have hl : i < xs.length ∧ i < ys.length := by
    have := hi
    simp only [zipD, List.length_zipWith] at this
    omega
  obtain ⟨v', h1, h2⟩ := r1.get (List.getElem?_eq_getElem hl.1)
  obtain ⟨u', h3, h4⟩ := r2.get (List.getElem?_eq_getElem hl.2)
  obtain rfl := Option.some.inj (hv.symm.trans h1)
  obtain rfl := Option.some.inj (hu.symm.trans h3)
  refine ⟨.tup [xs[i], ys[i]], by simp [zipD, List.getElem?_zipWith, List.getElem?_eq_getElem hl.1, List.getElem?_eq_getElem hl.2], Ex.new1 hT, rs.aside hT, .tup upd_same (rs.fresh hT) (.cons ((h2.monoH e).mono (Ex.new1 hT)) (.cons ((h4.monoH e).mono (Ex.new1 hT)) .nil)), fun p o q => by rw [upd_ne (ne_of_none q hT)]; exact q⟩
theorem walk_zipTT {a b : Addr} {vs ws : List V} {n : Nat} (hn : n = min vs.length ws.length) : Walk (ItzT K a b) n (fun H => SqT K H a vs ∧ SqT K H b ws) (YPair (fun i => vs[i]?) (fun i => ws[i]?)) := by
  subst hn
  refine ⟨fun i _ hi q => ⟨vs, ws, vs[i]'(by omega), ws[i]'(by omega), q.1, q.2, List.getElem?_eq_getElem _, List.getElem?_eq_getElem _⟩, fun _ q => ⟨vs, ws, q.1, q.2, by omega⟩, fun i H v H' _ q y => ?_⟩
  obtain ⟨T, x, z, h1, h2, h3, h4, h5⟩ := y
  exact ⟨T, x, z, h1, h2, h3, h4 vs q.1, h5 ws q.2⟩
theorem simi_zip {ta : TA} {a : AM} (ha : SimA g E ta a) : SimI g E (iZipA K ta) (itZip a) := by
  intro l σ H R ρ S env re rs p
  refine ha l σ H _ ρ S env re rs ?_
  unfold itZip at p
  cases e : a env S with
  | err x S2 => rw [e] at p; exact p
  | stuck => rw [e] at p; exact p
  | ok ds S1 =>
    rw [e] at p
    simp only [Res.bind] at p
    intro ρ1 H1 vs e1 rs1 rx
    have ln : ∀ {vs ws : List V} {xs ys : List D}, RDs (g.hide l) ρ1 H1 vs xs → RDs (g.hide l) ρ1 H1 ws ys → (zipD xs ys).length = min vs.length ws.length := fun r1 r2 => by simp [zipD, r1.length, r2.length]
    split at p
    · rename_i q hq
      split at hq
      · rename_i xs ys
        cases hq
        obtain ⟨v, w, rfl, r1, r2⟩ := rx.two
        cases r1 with
        | @lst b1 vs1 _ h1 n1 q1 =>
          cases r2 with
          | @lst b2 vs2 _ h2 n2 q2 =>
            refine ⟨b1, b2, vs1, vs2, rfl, .inl ⟨SqL.of h1, SqL.of h2, p ρ1 H1 _ e1 rs1 fun l' hl => ?_⟩⟩
            exact walkd_pair (walk_zip (ln q1 q2)) (fun ρ' H' ex => ⟨SqL.of (ex.keep _ _ (out_hide hl h1 n1) h1), SqL.of (ex.keep _ _ (out_hide hl h2 n2) h2)⟩) (rds_hide hl q1) (rds_hide hl q2)
      · rename_i xs ys
        cases hq
        obtain ⟨v, w, rfl, r1, r2⟩ := rx.two
        cases r1 with
        | @tup b1 vs1 _ h1 n1 q1 =>
          cases r2 with
          | @tup b2 vs2 _ h2 n2 q2 =>
            refine ⟨b1, b2, vs1, vs2, rfl, .inr ⟨SqT.of h1, SqT.of h2, p ρ1 H1 _ e1 rs1 fun l' hl => ?_⟩⟩
            exact walkd_pair (walk_zipTT (ln q1 q2)) (fun ρ' H' ex => ⟨SqT.of (ex.keep _ _ (out_hide hl h1 n1) h1), SqT.of (ex.keep _ _ (out_hide hl h2 n2) h2)⟩) (rds_hide hl q1) (rds_hide hl q2)
      · rename_i xs ys
        cases hq
        obtain ⟨v, w, rfl, r1, r2⟩ := rx.two
        cases r1 with
        | @tup b1 vs1 _ h1 n1 q1 =>
          cases r2 with
          | @tupX b2 o2 vs2 _ h2 hd2 n2 q2 =>
            refine ⟨b1, b2, vs1, vs2, rfl, .inr ⟨SqT.of h1, (.inl (.inr ⟨o2, h2⟩)), p ρ1 H1 _ e1 rs1 fun l' hl => ?_⟩⟩
            exact walkd_pair (walk_zipTT (ln q1 q2)) (fun ρ' H' ex => ⟨SqT.of (ex.keep _ _ (out_hide hl h1 n1) h1), (.inl (.inr ⟨o2, ex.keep _ _ (out_hide hl h2 n2) h2⟩))⟩) (rds_hide hl q1) (rds_hide hl q2)
      · rename_i xs ys
        cases hq
        obtain ⟨v, w, rfl, r1, r2⟩ := rx.two
        cases r1 with
        | @tupX b1 o1 vs1 _ h1 hd1 n1 q1 =>
          cases r2 with
          | @tup b2 vs2 _ h2 n2 q2 =>
            refine ⟨b1, b2, vs1, vs2, rfl, .inr ⟨(.inl (.inr ⟨o1, h1⟩)), SqT.of h2, p ρ1 H1 _ e1 rs1 fun l' hl => ?_⟩⟩
            exact walkd_pair (walk_zipTT (ln q1 q2)) (fun ρ' H' ex => ⟨(.inl (.inr ⟨o1, ex.keep _ _ (out_hide hl h1 n1) h1⟩)), SqT.of (ex.keep _ _ (out_hide hl h2 n2) h2)⟩) (rds_hide hl q1) (rds_hide hl q2)
      · rename_i xs ys
        cases hq
        obtain ⟨v, w, rfl, r1, r2⟩ := rx.two
        cases r1 with
        | @tupX b1 o1 vs1 _ h1 hd1 n1 q1 =>
          cases r2 with
          | @tupX b2 o2 vs2 _ h2 hd2 n2 q2 =>
            refine ⟨b1, b2, vs1, vs2, rfl, .inr ⟨(.inl (.inr ⟨o1, h1⟩)), (.inl (.inr ⟨o2, h2⟩)), p ρ1 H1 _ e1 rs1 fun l' hl => ?_⟩⟩
            exact walkd_pair (walk_zipTT (ln q1 q2)) (fun ρ' H' ex => ⟨(.inl (.inr ⟨o1, ex.keep _ _ (out_hide hl h1 n1) h1⟩)), (.inl (.inr ⟨o2, ex.keep _ _ (out_hide hl h2 n2) h2⟩))⟩) (rds_hide hl q1) (rds_hide hl q2)
      · cases hq
    · rename_i hq
      split at hq <;> cases hq
    · exact p.elim
end
end Lg

namespace Lg
open PySem PySem.Spec L2
theorem notIn_of {X : Cx} {pins : List (Addr × Obj)} {s : Shared} {σ : St} {v u : Value} {Q : VK} {E} (h : wpAny (model X.prog X.w) X.A (compareOp .In v u) (EP X pins σ (fun z H => ∃ k, z = .bl k ∧ Q (.bl (!k)) H)) E s) : wpAny (model X.prog X.w) X.A (compareOp .NotIn v u) (EP X pins σ Q) E s := by
  intro Γ p hΓ
  have := h Γ p hΓ
  unfold compareOp at this ⊢
  change Sem.wp _ _ (Sem.bind _ _) _ _ _ _ at this
  change Sem.wp _ _ (Sem.bind _ _) _ _ _ _
  rw [Sem.wp_bind] at this ⊢
  refine Sem.wp_mono _ _ _ ?_ ?_ _ _ this
  · intro b p' s' hb
    obtain ⟨z, H', I, r, k, rfl, q⟩ := hb
    exact ⟨.bl (!k), H', I, by cases r; rfl, q⟩
  · exact fun _ _ _ h => h
def rInRng : R2 := fun x y H Q => ∃ i a lo hi, x = V.int i ∧ y = V.ref a ∧ H a = some (HO.rng lo hi) ∧ Q (V.bl (decide (lo ≤ i ∧ i < hi))) H
def rNotInRng : R2 := fun x y H Q => ∃ i a lo hi, x = V.int i ∧ y = V.ref a ∧ H a = some (HO.rng lo hi) ∧ Q (V.bl (!decide (lo ≤ i ∧ i < hi))) H
theorem op_inRng {X : Cx} : OpR X (compareOp .In) rInRng := op_in_rng
theorem op_notInRng {X : Cx} : OpR X (compareOp .NotIn) rNotInRng := by
  intro pins s σ H x y v u Q I rx ry h
  obtain ⟨i, a, lo, hi, e1, e2, e3, q⟩ := h
  exact notIn_of (op_in_rng pins s σ H x y v u _ I rx ry ⟨i, a, lo, hi, e1, e2, e3, _, rfl, q⟩)
def mRng (f : Bool → Bool) (a : EM) (b : AM) : EM := fun env S => (a env S).bind fun x S1 => (b env S1).bind fun ds S2 => match x, ds with
  | .int i, [.int lo, .int hi] => .ok (.bl (f (decide (lo ≤ i ∧ i < hi)))) S2
  | _, _ => .stuck
def cInt (ds : List D) (S : Store) : Res D := match ds with
  | [.int i] => .ok (.int i) S
  | [.bl k] => .ok (.int (if k = true then 1 else 0)) S
  | _ => .stuck
def mUpper (a : EM) : EM := fun env S => (a env S).bind fun x S1 => match x with
  | .str s => if s.length ≤ 5592405 then .ok (.str (Txt.upper s)) S1 else .stuck
  | _ => .stuck
def dIsBl (x y : D) (S : Store) : Res D := match x, y with
  | .bl a, .bl b => .ok (.bl (decide (a = b))) S
  | _, _ => .stuck
def dNotBl (x y : D) (S : Store) : Res D := match x, y with
  | .bl a, .bl b => .ok (.bl (!decide (a = b))) S
  | _, _ => .stuck
section
variable {g : G} {E : XK}
theorem sim_int : CallSim g E (fun xs H Q => (∃ i, xs = [.int i] ∧ Q (.int i) H) ∨ ∃ k, xs = [.bl k] ∧ Q (.int (if k = true then 1 else 0)) H) cInt := by
  intro l xs H Q ρ S ds rx rs p
  unfold cInt at p
  split at p
  · obtain ⟨v, rfl, r⟩ := rx.one
    cases r
    exact .inl ⟨_, rfl, p ρ H _ Ex.refl rs (.int _)⟩
  · obtain ⟨v, rfl, r⟩ := rx.one
    cases r
    exact .inr ⟨_, rfl, p ρ H _ Ex.refl rs (.int _)⟩
  · exact p.elim
theorem sim_upper {to : TE} {a : EM} (ha : SimE g E to a) : SimE g E (tM0 (fun x xs H Q => ∃ a, x = V.str a ∧ xs = [] ∧ a.length ≤ 5592405 ∧ Q (V.str (Txt.upper a)) H) to) (mUpper a) := by
  intro l σ H Q ρ S env re rs p
  refine ha.bind re rs p fun x S1 ρ1 H1 v e1 rs1 rx re1 p1 => ?_
  split at p1
  · cases rx
    split at p1
    · rename_i hz
      exact ⟨⟨_, rfl⟩, _, rfl, rfl, hz, p1 ρ1 H1 _ Ex.refl rs1 (.str _)⟩
    · exact p1.elim
  · exact p1.elim
theorem sim_rngWith {ta : TE} {tb : TA} {a : EM} {b : AM} {f : Bool → Bool} {r : R2} (hr : ∀ i p lo hi H Q, H p = some (HO.rng lo hi) → Q (V.bl (f (decide (lo ≤ i ∧ i < hi)))) H → r (.int i) (.ref p) H Q) (ha : SimE g E ta a) (hb : SimA g E tb b) : SimE g E (tOp r ta (tCB (fun vs H Q => ∃ i j, vs = [V.int i, V.int j] ∧ ∀ (p : Addr), H p = none → Q (V.ref p) (upd H p (HO.rng i j))) tb)) (mRng f a b) := by
  intro l σ H Q ρ S env re rs p
  refine ha.bind re rs p fun x S1 ρ1 H1 v e1 rs1 rx re1 p1 => ?_
  refine hb.bind re1 rs1 p1 fun ds S2 ρ2 H2 vs e2 rs2 ry re2 p2 => ?_
  split at p2
  · rename_i i lo hi
    obtain ⟨z, w, rfl, r1, r2⟩ := ry.two
    cases rx; cases r1; cases r2
    refine ⟨_, _, rfl, fun q hq => ?_⟩
    exact hr _ _ _ _ _ _ upd_same (p2 ρ2 _ _ (Ex.new1 hq) (rs2.aside hq) (.bl _))
  · exact p2.elim
theorem sim_inRng {ta : TE} {tb : TA} {a : EM} {b : AM} (ha : SimE g E ta a) (hb : SimA g E tb b) : SimE g E (tOp rInRng ta (tCB (fun vs H Q => ∃ i j, vs = [V.int i, V.int j] ∧ ∀ (p : Addr), H p = none → Q (V.ref p) (upd H p (HO.rng i j))) tb)) (mRng id a b) := sim_rngWith (fun i p lo hi H Q h q => ⟨i, p, lo, hi, rfl, rfl, h, q⟩) ha hb
theorem sim_notInRng {ta : TE} {tb : TA} {a : EM} {b : AM} (ha : SimE g E ta a) (hb : SimA g E tb b) : SimE g E (tOp rNotInRng ta (tCB (fun vs H Q => ∃ i j, vs = [V.int i, V.int j] ∧ ∀ (p : Addr), H p = none → Q (V.ref p) (upd H p (HO.rng i j))) tb)) (mRng (fun b => !b) a b) := sim_rngWith (fun i p lo hi H Q h q => ⟨i, p, lo, hi, rfl, rfl, h, q⟩) ha hb
theorem sim_isBl : OpSim g E rIsB dIsBl := by
  intro l x y H Q ρ S d1 d2 r1 r2 rs p
  unfold dIsBl at p
  split at p
  · cases r1; cases r2
    exact ⟨_, _, rfl, rfl, p ρ H _ Ex.refl rs (.bl _)⟩
  · exact p.elim
theorem sim_notBl : OpSim g E rNotB dNotBl := by
  intro l x y H Q ρ S d1 d2 r1 r2 rs p
  unfold dNotBl at p
  split at p
  · cases r1; cases r2
    exact ⟨_, _, rfl, rfl, p ρ H _ Ex.refl rs (.bl _)⟩
  · exact p.elim
end
end Lg

namespace Lg
open PySem PySem.Spec L2
def rLtD (K : PySem.W.Frag) : R2 := fun x y H Q => ∃ d e : PyData, Dp K H x d ∧ Dp K H y e ∧ PySem.W.alike d e = true ∧ d ≠ .none ∧ min d.depth e.depth ≤ 40 ∧ Q (.bl (PySem.W.dataLt d e)) H
theorem op_ltD {X : Cx} (hu : X.A.units + 64 < cLine) : OpR X (compareOp .Lt) (rLtD X.K) := by
  intro pins s σ H x y v u Q I rx ry h
  obtain ⟨d, e, hd, he, al, hn, dp, q⟩ := h
  obtain ⟨as, r1⟩ := Dp.reads I d x v hd rx
  obtain ⟨bs, r2⟩ := Dp.reads I e y u he ry
  exact PySem.W.rcLt_alike d e X.A s v u as bs r1 r2 al hn (by omega) _ _ _ _ ⟨.bl _, H, I, rfl, q⟩
abbrev rLtA (K : PySem.W.Frag) : R2 := fun x y H Q => (∃ i j, x = .int i ∧ y = .int j ∧ Q (.bl (decide (i < j))) H) ∨ rLtD K x y H Q
theorem op_ltA {X : Cx} (hu : X.A.units + 64 < cLine) : OpR X (compareOp .Lt) (rLtA X.K) := op_lt.or (op_ltD hu)
abbrev rLeA : R2 := fun x y H Q => (∃ i j, x = .int i ∧ y = .int j ∧ Q (.bl (decide (i ≤ j))) H) ∨ ∃ i j : PySem.Str, x = .str i ∧ y = .str j ∧ Q (.bl (!decide (j.cps.toList < i.cps.toList))) H
theorem op_leA {X : Cx} : OpR X (compareOp .LtE) rLeA := op_le.or op_le_str
def noneB : PyData → Bool
  | .none => true
  | _ => false
def dLtA (x y : D) (S : Store) : Res D := match x, y with
  | .int i, .int j => .ok (.bl (decide (i < j))) S
  | x, y => match pyOf x S, pyOf y S with
    | some p, some q => if PySem.W.alike p q = true ∧ noneB p = false ∧ min p.depth q.depth ≤ 40 then .ok (.bl (PySem.W.dataLt p q)) S else .stuck
    | _, _ => .stuck
def dLeA (x y : D) (S : Store) : Res D := match x, y with
  | .int i, .int j => .ok (.bl (decide (i ≤ j))) S
  | .str i, .str j => .ok (.bl (!decide (j.cps.toList < i.cps.toList))) S
  | _, _ => .stuck
section
variable {g : G} {E : XK} {K : PySem.W.Frag}
theorem sim_ltA : OpSim g E (rLtA K) dLtA := by
  intro l x y H Q ρ S d1 d2 r1 r2 rs p
  unfold dLtA at p
  split at p
  · cases r1; cases r2
    exact .inl ⟨_, _, rfl, rfl, p ρ H _ Ex.refl rs (.bl _)⟩
  · split at p
    · rename_i p' q' e1 e2
      split at p
      · rename_i hc
        exact .inr ⟨_, _, py_of rs r1 e1, py_of rs r2 e2, hc.1, (by intro e; have := hc.2.1; rw [e] at this; cases this), hc.2.2, p ρ H _ Ex.refl rs (.bl _)⟩
      · exact p.elim
    · exact p.elim
theorem sim_leA : OpSim g E rLeA dLeA := by
  intro l x y H Q ρ S d1 d2 r1 r2 rs p
  unfold dLeA at p
  split at p
  · cases r1; cases r2
    exact .inl ⟨_, _, rfl, rfl, p ρ H _ Ex.refl rs (.bl _)⟩
  · cases r1; cases r2
    exact .inr ⟨_, _, rfl, rfl, p ρ H _ Ex.refl rs (.bl _)⟩
  · exact p.elim
end
end Lg

namespace Lg
open PySem L2
/-! ### the machine -/
section
open PySem.W PyProof.Rows PySem.Calls
theorem bound_b {M : Model} {A : Around} {E : Value → Shared → Prop} {s : Shared} {K : Frag} {x C : Addr} {ox : Obj} {od : Option Obj} {nm : PySem.Str} {id : String} {rest : List Value} {R : Option Value → Shared → Prop}
    (X : K.In s.heap) (J : InstAt s.heap x ox C od) (hf : findIn K (.ref C) nm = some (some (.builtin id))) (hb : ∀ v, bindSpecial (.builtin id) v = pure (.builtin id, [v]))
    (q : wpAny M A (call (.builtin id) (.ref x :: rest)) (fun v => R (some v)) E s) : wpAny M A (callSpecialIfBound? (.ref x) nm rest) R E s := by
  simp only [callSpecialIfBound?, bindSpecialIfBound?]
  refine wpAny_holding (wpAny_bind (wpAny_bind (wpAny_bind (J.type.here ((looks_findIn X hf).here (wpAny_bind (wpAny_askSetting (wpAny_ite ?_))))))))
  have last : wpAny M A (call (.builtin id) ([.ref x] ++ rest) >>= fun v => pure (some v)) R E s := wpAny_bind (wpAny_mono q (fun _ _ z => wpAny_pure z) fun _ _ z => z)
  have bd := Looks.of_pure (M := M) (h := s.heap) (hb (.ref x))
  split <;> first | exact wpAny_bind (bd.here (wpAny_pure (by exact last))) | exact wpAny_tryCatch (wpAny_bind (bd.here (wpAny_pure (by exact last))))
theorem cmp_ne {prog : Program} {w : World} {A : Around} {E : Value → Shared → Prop} {s : Shared} {K : Frag} {x C f : Addr} {ox : Obj} {od : Option Obj} {b tb : Value} {Q : Value → Shared → Prop} (hu : A.units < cLine) (hu1 : A.in1.units < cLine)
    (X : K.In s.heap) (J : InstAt s.heap x ox C od) (hb : Looks (model prog w) s.heap (typeOf b) tb) (hn : notFirst K C tb = true)
    (h1 : findIn K (.ref C) "__ne__" = some (some (.builtin "object.__ne__"))) (h2 : findIn K (.ref C) "__eq__" = some (some (.ref f))) (hf : isFn K (.ref f) = true) (hm : mroIn K C (.type "object") = some true)
    (q : wpAny (model prog w) A.in1 (call (.ref f) [.ref x, b]) (fun v s' => ∃ r, v = .bool r ∧ Q (.bool !r) s') E s) : wpAny (model prog w) A (richCompare .NotEq (.ref x) b) Q E s := by
  have called : wpAny (model prog w) A (call (.builtin "object.__ne__") [.ref x, b]) (fun v s' => ∃ r, v = .bool r ∧ Q v s') E s := by
    refine wpAny_call (codeAny_call_builtin PySem.F.cmp_object.ne.plain PySem.F.cmpEntry_ne (check_slot PySem.F.cmpKind_ne PySem.F.cmpSplit_ne (J.type.andThen (looks_mroIn X hm)) (PySem.F.cmpArgs_ne _ _) ?_))
    unfold Builtin.«object.__ne__»
    refine wpAny_bind (m := slotArgs "__ne__" 1 _) (wpAny_pure ?_)
    refine wpAny_bind (m := cRoomFor _ _) (wpAny_cRoomFor hu1 ?_)
    refine wpAny_bind (m := callSpecialIfBound? (.ref x) (PySem.Str.ofString "__eq__") [b]) (ifBound_K X J h2 hf (wpAny_mono q (fun v s' z => ?_) fun _ _ z => z))
    obtain ⟨r, rfl, z⟩ := z
    refine wpAny_bind (m := truthy (.bool r)) (wpAny_truthy_bool ?_)
    exact wpAny_pure ⟨_, rfl, z⟩
  have one : wpAny (model prog w) A (tryCompare (.ref x) (cmpInfo .NotEq).2.1 b) (fun r s' => ∃ v, r = some v ∧ Q v s') E s := by
    unfold tryCompare
    refine wpAny_bind (bound_b X J h1 (fun _ => PySem.F.cmp_object.ne.bind _) (wpAny_mono called (fun v s' z => ?_) fun _ _ z => z))
    obtain ⟨r, rfl, z⟩ := z
    exact wpAny_pure ⟨_, rfl, z⟩
  unfold richCompare
  simp only [oneThing_ref]
  refine wpAny_holding (wpAny_bind (wpAny_cRoomFor hu (wpAny_bind (J.type.here (wpAny_bind (hb.here ?_))))))
  split
  · rename_i e0
    have e1 : subIn K tb (.ref C) = some false := by
      rcases Bool.or_eq_true_iff.mp hn with e | e
      · rw [beq_iff_eq.mp e] at e0; simp at e0
      · exact beq_iff_eq.mp e
    refine wpAny_bind ((looks_subIn X e1).here ?_)
    simp only [Bool.false_eq_true, if_false]
    refine wpAny_bind (wpAny_mono one (fun r s' z => ?_) fun _ _ z => z)
    obtain ⟨v, rfl, z⟩ := z
    exact wpAny_pure z
  · refine wpAny_bind (wpAny_pure ?_)
    simp only [Bool.false_eq_true, if_false]
    refine wpAny_bind (wpAny_mono one (fun r s' z => ?_) fun _ _ z => z)
    obtain ⟨v, rfl, z⟩ := z
    exact wpAny_pure z
end

/-! ### rules -/
/-- what isinstance asks of the class at C -/
structure ClsI (K : PySem.W.Frag) (C : Addr) : Prop where
  cl : Cls K C
  ha : PySem.W.findIn K (.ref C) "__class__" = some (some (.builtin "object.__class__"))
  hn : PySem.W.specialIn K (.builtin "object.__class__") "__get__" = some (some (.builtin "getset_descriptor.__get__"))
  ht : PySem.W.takesIn K (.builtin "object.__class__") = some true
  hm : PySem.W.mroIn K C (.type "object") = some true
/-- the def of the class at C under a name -/
structure Dun (K : PySem.W.Frag) (C : Addr) (nm : PySem.Str) (f : Addr) : Prop where
  at_ : PySem.W.findIn K (.ref C) nm = some (some (.ref f))
  fn : PySem.W.isFn K (.ref f) = true
section
variable {X : Cx} {CX : CXT} {C f : Addr} {fd : FuncData} {ps : List PySem.Str} {n : Nat} {sp : Sp} {E : XK} {pins : List (Addr × Obj)} {σ : L2.St} {H : Hp} {s : Shared}
theorem inst_of (I : Inv X pins σ H s) {a dx : Addr} {fs : List (PySem.Str × V)} (h : H a = some (.ins C dx fs)) : ∃ od, PySem.W.InstAt s.heap a (PySem.W.instObj C dx) C (some od) := by
  obtain ⟨mA, O, _⟩ := ins_get I.hok h
  obtain ⟨od, J, _⟩ := O.look
  exact ⟨od, J⟩
theorem call_below {A : Around} {Q : VK} {us : List Value} {ws : List V} (F : FnR X.prog X.w X.K X.mg X.base CX n f sp) (hr : Room n A) (e0 : Env0 X.prog X.w X.K X.mg X.base A X.stack s H) (hx : Passes CX X E) (I : Inv X pins σ H s) (r : Vals ws us) (h : sp ws H Q E) :
    wpAny (model X.prog X.w) A (call (.ref f) us) (EP X pins σ Q) X.xe s := by
  refine wpAny_call (codeAny_mono (SlX.run_at F hr e0 hx I r h) fun r s' z => ?_)
  cases r with
  | error e => exact z
  | ok fl => cases fl with
    | ret u => exact z
    | _ => exact z.elim
def rOE (K : PySem.W.Frag) (C : Addr) (sp : Sp) (E : XK) : R2 := fun x y H Q => ∃ a dx fs t, x = .ref a ∧ H a = some (.ins C dx fs) ∧ TyX K H y t ∧ PySem.W.notFirst K C t = true ∧ sp [x, y] H Q E
def rON (K : PySem.W.Frag) (C : Addr) (sp : Sp) (E : XK) : R2 := fun x y H Q => ∃ a dx fs t, x = .ref a ∧ H a = some (.ins C dx fs) ∧ TyX K H y t ∧ PySem.W.notFirst K C t = true ∧ sp [x, y] H (fun v H' => ∃ b, v = .bl b ∧ Q (.bl (!b)) H') E
/-- x == y, x of the class at C -/
theorem op_oe (F : FnR X.prog X.w X.K X.mg X.base CX n f sp) (d : Dun X.K C "__eq__" f) (hr : Room n X.A) (hx : Passes CX X E) : OpR X (compareOp .Eq) (rOE X.K C sp E) := by
  intro pins s σ H x y v u Q I rx ry h
  obtain ⟨a, dx, fs, t, rfl, ha, ty, hn, q⟩ := h
  cases (show v = Value.ref a from rx)
  obtain ⟨od, J⟩ := inst_of I ha
  obtain ⟨P, Z, p, _⟩ := kit_of I ry ty
  obtain ⟨m, hF⟩ := I.fr
  show wpAny _ _ (richCompare .Eq (.ref a) u) _ _ _
  refine PySem.W.cmp_K (op := .Eq) (tb := t) hr.units0 hF I.ok.mod.kin J (Z.ty _ _ I.kIn p) hn d.at_ d.fn ?_
  refine wpAny_mono (call_below (us := [.ref a, u]) (ws := [.ref a, y]) F hr I.env0 hx I (.cons rfl (.cons ry .nil)) q) (fun w s' z => ?_) fun _ _ z => z
  obtain ⟨z', H', I', rz, qz⟩ := z
  exact SlX.cmpback rz ⟨z', H', I', rz, qz⟩
/-- x != y -/
theorem op_on (F : FnR X.prog X.w X.K X.mg X.base CX n f sp) (d : Dun X.K C "__eq__" f) (hne : PySem.W.findIn X.K (.ref C) "__ne__" = some (some (.builtin "object.__ne__"))) (hm : PySem.W.mroIn X.K C (.type "object") = some true)
    (hr : Room (n + 1) X.A) (hx : Passes CX X E) : OpR X (compareOp .NotEq) (rON X.K C sp E) := by
  intro pins s σ H x y v u Q I rx ry h
  obtain ⟨a, dx, fs, t, rfl, ha, ty, hn, q⟩ := h
  cases (show v = Value.ref a from rx)
  obtain ⟨od, J⟩ := inst_of I ha
  obtain ⟨P, Z, p, _⟩ := kit_of I ry ty
  show wpAny _ _ (richCompare .NotEq (.ref a) u) _ _ _
  refine cmp_ne hr.units0 hr.in1.units0 I.kIn J (Z.ty _ _ I.kIn p) hn hne d.at_ d.fn hm ?_
  refine wpAny_mono (call_below (us := [.ref a, u]) (ws := [.ref a, y]) F hr.in1 I.env0.in1 hx I (.cons rfl (.cons ry .nil)) q) (fun w s' z => ?_) fun _ _ z => z
  obtain ⟨z', H', I', rz, b, rfl, qz⟩ := z
  cases (show w = Value.bool b from rz)
  exact ⟨b, rfl, .bl (!b), H', I', rfl, qz⟩
/-- f(x), x of the class at C, whose own def is asked; want: what it must say -/
def rO1 (C : Addr) (want : V → Prop) (sp : Sp) (E : XK) : List V → Hp → VK → Prop := fun xs H Q => ∃ a dx fs, xs = [.ref a] ∧ H a = some (.ins C dx fs) ∧ sp [.ref a] H (fun z H' => want z ∧ Q z H') E
def wStr (z : V) : Prop := ∃ y, z = .str y
def wLen (z : V) : Prop := ∃ i : Int, z = .int i ∧ 0 ≤ i ∧ i < 2 ^ 63
theorem call_oRepr (F : FnR X.prog X.w X.K X.mg X.base CX n f sp) (d : Dun X.K C "__repr__" f) (hr : Room (n + 1) X.A) (hx : Passes CX X E) : CallR X (.builtin "repr") (rO1 C wStr sp E) := by
  intro pins s σ H xs us Q I r h
  obtain ⟨a, dx, fs, rfl, ha, q⟩ := h
  obtain ⟨u, rfl, ru⟩ := vals1 r
  cases (show u = Value.ref a from ru)
  obtain ⟨od, J⟩ := inst_of I ha
  obtain ⟨m, hF⟩ := I.fr
  refine PySem.W.repr_K hr.in1.units0 hF I.ok.mod.kin J d.at_ d.fn ?_
  refine wpAny_mono (call_below (us := [.ref a]) (ws := [.ref a]) F hr.in1 I.env0.in1 hx I (.cons rfl .nil) q) (fun w s' z => ?_) fun _ _ z => z
  obtain ⟨z', H', I', rz, ⟨y, rfl⟩, qz⟩ := z
  obtain ⟨t, e⟩ := (show ∃ t, w = Value.str y t from rz)
  subst e
  exact ⟨.str y, H', I', ⟨t, rfl⟩, qz⟩
theorem call_oStr (F : FnR X.prog X.w X.K X.mg X.base CX n f sp) (d : Dun X.K C "__str__" f) (hr : Room (n + 2) X.A) (hx : Passes CX X E) : CallR X (.type "str") (rO1 C wStr sp E) := by
  intro pins s σ H xs us Q I r h
  obtain ⟨a, dx, fs, rfl, ha, q⟩ := h
  obtain ⟨u, rfl, ru⟩ := vals1 r
  cases (show u = Value.ref a from ru)
  obtain ⟨od, J⟩ := inst_of I ha
  have hr2 : Room n X.A.in1.in1 := (show Room (n + 1) X.A.in1 from Room.in1 hr).in1
  refine PySem.W.kso_call hr2.units0 I.kIn J d.at_ d.fn ?_
  refine wpAny_mono (call_below (us := [.ref a]) (ws := [.ref a]) F hr2 I.env0.in1.in1 hx I (.cons rfl .nil) q) (fun w s' z => ?_) fun _ _ z => z
  obtain ⟨z', H', I', rz, ⟨y, rfl⟩, qz⟩ := z
  obtain ⟨t, e⟩ := (show ∃ t, w = Value.str y t from rz)
  subst e
  exact ⟨.str y, H', I', ⟨t, rfl⟩, qz⟩
theorem call_oLen (F : FnR X.prog X.w X.K X.mg X.base CX n f sp) (d : Dun X.K C "__len__" f) (hr : Room (n + 1) X.A) (hx : Passes CX X E) : CallR X (.builtin "len") (rO1 C wLen sp E) := by
  intro pins s σ H xs us Q I r h
  obtain ⟨a, dx, fs, rfl, ha, q⟩ := h
  obtain ⟨u, rfl, ru⟩ := vals1 r
  cases (show u = Value.ref a from ru)
  obtain ⟨od, J⟩ := inst_of I ha
  obtain ⟨m, hF⟩ := I.fr
  refine PySem.W.len_K hF I.ok.mod.kin J d.at_ d.fn ?_
  refine wpAny_mono (call_below (us := [.ref a]) (ws := [.ref a]) F hr.in1 I.env0.in1 hx I (.cons rfl .nil) q) (fun w s' z => ?_) fun _ _ z => z
  obtain ⟨z', H', I', rz, ⟨i, rfl, i0, i1⟩, qz⟩ := z
  obtain ⟨t, e⟩ := (show ∃ t, w = Value.int i t from rz)
  subst e
  exact ⟨⟨i0, i1⟩, .int i, H', I'.tok _, ⟨_, rfl⟩, qz⟩
end
/-! ### plain functions -/
def insC (d : D) (S : Store) : Option Nat := match d with
  | .loc n => match S[n]? with
    | some (.ins c _) => some c
    | _ => none
  | _ => none
def kinds : List String := ["NoneType", "bool", "int", "str", "tuple", "list", "dict"]
theorem kind_mem {d : D} {S : Store} {k : String} (h : kindD d S = some k) : k ∈ kinds := by
  unfold kindD at h
  repeat' (first | (cases h; decide) | (cases h; done) | split at h)
/-- a thing that == may be asked of: of a kind that is built in, or of a class that ok lets -/
def eqOk (ok : Nat → Bool) (y : D) (S : Store) : Bool := (kindD y S).isSome || match insC y S with
  | some c => ok c
  | none => false
def dOE (c : Nat) (ok : Nat → Bool) (f : List D → Store → Res D) (base : D → D → Store → Res D) (x y : D) (S : Store) : Res D :=
  if insC x S = some c then (if eqOk ok y S = true then f [x, y] S else .stuck) else base x y S
def dON (c : Nat) (ok : Nat → Bool) (f : List D → Store → Res D) (base : D → D → Store → Res D) (x y : D) (S : Store) : Res D :=
  if insC x S = some c then (if eqOk ok y S = true then (f [x, y] S).bind fun v S' => match v with
    | .bl b => .ok (.bl (!b)) S'
    | _ => .stuck else .stuck) else base x y S
def isStrD : D → Bool
  | .str _ => true
  | _ => false
def isLenD : D → Bool
  | .int i => decide (0 ≤ i ∧ i < 2 ^ 63)
  | _ => false
def cO1 (c : Nat) (want : D → Bool) (f : List D → Store → Res D) (base : List D → Store → Res D) (ds : List D) (S : Store) : Res D := match ds with
  | [d] => if insC d S = some c then (f [d] S).bind fun v S' => if want v = true then .ok v S' else .stuck else base ds S
  | _ => base ds S
def mIsO (isi : Nat → Option Bool) (a : EM) : EM := fun env S => (a env S).bind fun d S1 => if (kindD d S1).isSome then .ok (.bl false) S1 else match insC d S1 with
  | some c => match isi c with
    | some b => .ok (.bl b) S1
    | none => .stuck
  | none => .stuck
def mMakeK (c m : Nat) (f : List D → Store → Res D) (gD : List D → List D → List D) (as : AM) : EM := fun env S => (as env S).bind fun ds S1 => if ds.length = m then (f (gD [.loc S1.length] ds) (S1 ++ [.ins c []])).bind fun v S2 => match v with
  | .non => .ok (.loc S1.length) S2
  | _ => .stuck
  else .stuck
def cGcd (ds : List D) (S : Store) : Res D := match ds with
  | [.int a, .int b] => .ok (.int ((Nat.gcd a.natAbs b.natAbs : Nat) : Int)) S
  | _ => .stuck
def cStr (ds : List D) (S : Store) : Res D := match ds with
  | [.int i] => if i.natAbs.log2 < 1920 then .ok (.str (toString i)) S else .stuck
  | [.str y] => .ok (.str y) S
  | _ => .stuck
section
variable {g : G} {E : XK} {K : PySem.W.Frag}
theorem PostE.then {ρ : List Addr} {H : Hp} {r : Res D} {k : D → Store → Res D} {Q Q' : VK} (p : PostE g E ρ H Q (r.bind k))
    (hk : ∀ d S' ρ' H' v, Ex ρ H ρ' H' → RS g ρ' S' H' → RD g ρ' H' v d → PostE g E ρ' H' Q (k d S') → Q' v H') : PostE g E ρ H Q' r := by
  cases r with
  | ok d S' => exact fun ρ' H' v e rs r => hk d S' ρ' H' v e rs r (PostE.ex p e)
  | err x S' => exact p
  | stuck => exact p
theorem insc_at {l : List Addr} {ρ : List Addr} {S : Store} {H : Hp} {c : Nat} {v : V} {d : D} (rs : RS (g.hide l) ρ S H) (r : RD (g.hide l) ρ H v d) (h : insC d S = some c) : ∃ a dx fv, v = .ref a ∧ H a = some (.ins (g.cls c) dx fv) := by
  cases r with
  | @loc n a hn =>
    simp only [insC] at h
    split at h
    · rename_i c' fs e
      obtain ⟨dx, fv, h1, h2⟩ := rs.ob n a _ hn e
      cases h
      exact ⟨a, dx, fv, rfl, h1⟩
    · cases h
  | _ => cases h
theorem insc_ty {l : List Addr} {ρ : List Addr} {S : Store} {H : Hp} {c : Nat} {v : V} {d : D} (rs : RS (g.hide l) ρ S H) (r : RD (g.hide l) ρ H v d) (h : insC d S = some c) (T : ClsI K (g.cls c)) : TyX K H v (.ref (g.cls c)) := by
  obtain ⟨a, dx, fv, rfl, h1⟩ := insc_at rs r h
  exact .base (.ins h1 T.cl T.ha T.hn T.ht T.hm)
/-- what == asks of the class c: which things it may meet -/
structure EqF (g : G) (K : PySem.W.Frag) (c : Nat) (ok : Nat → Bool) : Prop where
  ki : ∀ k ∈ kinds, PySem.W.notFirst K (g.cls c) (.type k) = true
  cl : ∀ c', ok c' = true → ClsI K (g.cls c') ∧ PySem.W.notFirst K (g.cls c) (.ref (g.cls c')) = true
theorem eqok_ty {l : List Addr} {ρ : List Addr} {S : Store} {H : Hp} {c : Nat} {ok : Nat → Bool} {v : V} {d : D} (T : EqF g K c ok) (rs : RS (g.hide l) ρ S H) (r : RD (g.hide l) ρ H v d) (h : eqOk ok d S = true) : ∃ t, TyX K H v t ∧ PySem.W.notFirst K (g.cls c) t = true := by
  unfold eqOk at h
  cases hk : kindD d S with
  | some k => exact ⟨_, kind_ty rs r hk, T.ki k (kind_mem hk)⟩
  | none =>
    rw [hk] at h
    cases hi : insC d S with
    | none => rw [hi] at h; cases h
    | some c' =>
      rw [hi] at h
      have h' : ok c' = true := by simpa using h
      exact ⟨_, insc_ty rs r hi (T.cl c' h').1, (T.cl c' h').2⟩
theorem sim_oe {c : Nat} {ok : Nat → Bool} {f : List D → Store → Res D} {base : D → D → Store → Res D} {r : R2} (hf : Ar 2 f) (T : EqF g K c ok) (hb : OpSim g E r base) :
    OpSim g E (fun x y H Q => rOE K (g.cls c) (fun vs H Q E => spOf g 2 f (vs ++ []) H Q E) E x y H Q ∨ r x y H Q) (dOE c ok f base) := by
  intro l x y H Q ρ S dx dy rx ry rs p
  unfold dOE at p
  by_cases hx : insC dx S = some c
  · rw [if_pos hx] at p
    by_cases hy : eqOk ok dy S = true
    · rw [if_pos hy] at p
      obtain ⟨a, d1, fv, rfl, h1⟩ := insc_at rs rx hx
      obtain ⟨t, ty, nf⟩ := eqok_ty T rs ry hy
      refine .inl ⟨a, d1, fv, t, rfl, h1, ty, nf, ?_⟩
      show spOf g 2 f ([V.ref a, y] ++ []) H Q E
      rw [List.append_nil]
      exact sp_go hf (.cons rx (.cons ry .nil)) rs p
    · rw [if_neg hy] at p; exact p.elim
  · rw [if_neg hx] at p
    exact .inr (hb l x y H Q ρ S dx dy rx ry rs p)
theorem sim_on {c : Nat} {ok : Nat → Bool} {f : List D → Store → Res D} {base : D → D → Store → Res D} {r : R2} (hf : Ar 2 f) (T : EqF g K c ok) (hb : OpSim g E r base) :
    OpSim g E (fun x y H Q => rON K (g.cls c) (fun vs H Q E => spOf g 2 f (vs ++ []) H Q E) E x y H Q ∨ r x y H Q) (dON c ok f base) := by
  intro l x y H Q ρ S dx dy rx ry rs p
  unfold dON at p
  by_cases hx : insC dx S = some c
  · rw [if_pos hx] at p
    by_cases hy : eqOk ok dy S = true
    · rw [if_pos hy] at p
      obtain ⟨a, d1, fv, rfl, h1⟩ := insc_at rs rx hx
      obtain ⟨t, ty, nf⟩ := eqok_ty T rs ry hy
      refine .inl ⟨a, d1, fv, t, rfl, h1, ty, nf, ?_⟩
      show spOf g 2 f ([V.ref a, y] ++ []) H _ E
      rw [List.append_nil]
      refine sp_go hf (.cons rx (.cons ry .nil)) rs (p.then fun d S' ρ' H' v e rs' rv z => ?_)
      cases rv with
      | bl b => exact ⟨b, rfl, z ρ' H' _ Ex.refl rs' (.bl _)⟩
      | _ => exact z.elim
    · rw [if_neg hy] at p; exact p.elim
  · rw [if_neg hx] at p
    exact .inr (hb l x y H Q ρ S dx dy rx ry rs p)
theorem sim_o1 {c : Nat} {want : D → Bool} {wv : V → Prop} {f : List D → Store → Res D} {base : List D → Store → Res D} {r : List V → Hp → VK → Prop} (hf : Ar 1 f) (hw : ∀ l ρ H v d, RD (g.hide l) ρ H v d → want d = true → wv v) (hb : CallSim g E r base) :
    CallSim g E (fun xs H Q => rO1 (g.cls c) wv (fun vs H Q E => spOf g 1 f (vs ++ []) H Q E) E xs H Q ∨ r xs H Q) (cO1 c want f base) := by
  intro l xs H Q ρ S ds rx rs p
  cases rx with
  | nil => exact .inr (hb l _ H Q ρ S _ .nil rs p)
  | @cons v d vs ds h t =>
    cases t with
    | cons h2 t2 => exact .inr (hb l _ H Q ρ S _ (.cons h (.cons h2 t2)) rs p)
    | nil =>
      simp only [cO1] at p
      by_cases hx : insC d S = some c
      · rw [if_pos hx] at p
        obtain ⟨a, d1, fv, rfl, h1⟩ := insc_at rs h hx
        refine .inl ⟨a, d1, fv, rfl, h1, ?_⟩
        show spOf g 1 f ([V.ref a] ++ []) H _ E
        rw [List.append_nil]
        refine sp_go hf (.cons h .nil) rs (p.then fun d S' ρ' H' v e rs' rv z => ?_)
        by_cases q : want d = true
        · rw [if_pos q] at z
          exact ⟨hw _ _ _ _ _ rv q, z ρ' H' _ Ex.refl rs' rv⟩
        · rw [if_neg q] at z; exact z.elim
      · rw [if_neg hx] at p
        exact .inr (hb l _ H Q ρ S _ (.cons h .nil) rs p)
theorem want_str (l : List Addr) (ρ : List Addr) (H : Hp) (v : V) (d : D) (r : RD (g.hide l) ρ H v d) (h : isStrD d = true) : wStr v := by
  cases r <;> first | exact ⟨_, rfl⟩ | cases h
theorem want_len (l : List Addr) (ρ : List Addr) (H : Hp) (v : V) (d : D) (r : RD (g.hide l) ρ H v d) (h : isLenD d = true) : wLen v := by
  cases r <;> first | exact ⟨_, rfl, of_decide_eq_true h⟩ | cases h
theorem sim_isO {C : Addr} {isi : Nat → Option Bool} {ta : TE} {a : EM} (hk : ∀ k ∈ kinds, PySem.W.kitOne K (.type k) (.ref C) = some false) (hi : ∀ c b, isi c = some b → ClsI K (g.cls c) ∧ PySem.W.kitOne K (.ref (g.cls c)) (.ref C) = some b) (ha : SimE g E ta a) :
    SimE g E (tCB (rIsi K) (tCons ta (tCons (tC (.ref C)) tNil))) (mIsO isi a) := by
  intro l σ H Q ρ S env re rs p
  refine ha.bind re rs p fun d S1 ρ1 H1 v e1 rs1 rx re1 p1 => ?_
  cases h : kindD d S1 with
  | some k =>
    rw [h] at p1
    exact ⟨v, .ref C, .type k, .ref C, false, rfl, .own C, kind_ty rs1 rx h, hk k (kind_mem h), p1 ρ1 H1 _ Ex.refl rs1 (.bl _)⟩
  | none =>
    rw [h] at p1
    cases hc : insC d S1 with
    | none => rw [hc] at p1; exact p1.elim
    | some c =>
      rw [hc] at p1
      cases hb : isi c with
      | none => simp only [hb] at p1; exact p1.elim
      | some b =>
        simp only [hb] at p1
        obtain ⟨i1, i2⟩ := hi c b hb
        exact ⟨v, .ref C, .ref (g.cls c), .ref C, b, rfl, .own C, insc_ty rs1 rx hc i1, i2, p1 ρ1 H1 _ Ex.refl rs1 (.bl _)⟩
theorem sim_makeK {n c m : Nat} {f : List D → Store → Res D} {tas : TA} {as : AM} {gV : List V → List V → List V} {gD : List D → List D → List D} (hf : Ar n f) (hrel : ∀ {l : List Addr} {ρ : List Addr} {H : Hp} {vs zs : List V} {ds es : List D}, RDs (g.hide l) ρ H vs ds → RDs (g.hide l) ρ H zs es → RDs (g.hide l) ρ H (gV vs zs) (gD ds es)) (has : SimA g E tas as) :
    SimE g E (tMakeK (g.cls c) 0 m (spOf g n f) gV E tNil tas) (mMakeK c m f gD as) := by
  intro l σ H Q ρ S env re rs p
  refine has.bind re rs p fun ds S1 ρ1 H1 vs e1 rs1 rx re1 p1 => ?_
  by_cases hz : ds.length = m
  · rw [if_pos hz] at p1
    refine ⟨rfl, by rw [rx.length]; exact hz, fun x dx hx hdx ne => ?_⟩
    have e2 : Ex ρ1 H1 ρ1 (upd H1 dx (.own x)) := Ex.new1 hdx
    have rs2 := rs1.aside (o := .own x) hdx
    have hx2 : upd H1 dx (.own x) x = none := by rw [upd_ne (Ne.symm ne)]; exact hx
    obtain ⟨e3, rs3⟩ := rs2.push (o := .ins (g.cls c) dx []) (ob := .ins c []) hx2 fun ρ' H' e' q => ⟨dx, [], q, RKV.mt⟩
    have e13 := e2.trans e3
    have rself : RD (g.hide l) (ρ1 ++ [x]) (upd (upd H1 dx (.own x)) x (.ins (g.cls c) dx [])) (.ref x) (.loc S1.length) := .loc (by rw [← rs1.len]; simp)
    refine sp_go hf (hrel (.cons rself .nil) (rx.mono e13)) rs3 ((PostE.ex p1 e13).then fun d S' ρ' H' v e rs' rv z => ?_)
    cases rv with
    | non => exact ⟨rfl, z ρ' H' _ Ex.refl rs' (.loc (e.at (by rw [← rs1.len]; simp)))⟩
    | _ => exact z.elim
  · rw [if_neg hz] at p1; exact p1.elim
theorem sim_gcd : CallSim g E rGcd cGcd := by
  intro l xs H Q ρ S ds rx rs p
  unfold cGcd at p
  split at p
  · rename_i a b
    cases rx with
    | cons h t => cases t with
      | cons h2 t2 =>
        cases t2
        cases h
        cases h2
        exact ⟨a, b, rfl, p ρ H _ Ex.refl rs (.int _)⟩
  · exact p.elim
abbrev rStr : List V → Hp → VK → Prop := fun xs H Q => (∃ i, xs = [.int i] ∧ i.natAbs.log2 < 1920 ∧ Q (.str (toString i)) H) ∨ ∃ a, xs = [.str a] ∧ Q (.str a) H
theorem call_str {X : Cx} : CallR X (.type "str") rStr := call_str_int.or SkE.call_str_str
theorem sim_str : CallSim g E rStr cStr := by
  intro l xs H Q ρ S ds rx rs p
  unfold cStr at p
  split at p
  · rename_i i
    cases rx with
    | cons h t =>
      cases t
      cases h
      split at p
      · rename_i hz; exact .inl ⟨i, rfl, hz, p ρ H _ Ex.refl rs (.str _)⟩
      · exact p.elim
  · rename_i y
    cases rx with
    | cons h t =>
      cases t
      cases h
      exact .inr ⟨y, rfl, p ρ H _ Ex.refl rs (.str _)⟩
  · exact p.elim
end
end Lg

namespace Lg
open PySem PySem.Spec L2 RZ
/-! ### enumerate -/
def enumD (xs : List D) : List D := List.zipWith (fun (i : Nat) d => .tup [.int (i : Nat), d]) (List.range xs.length) xs
def itEnum (a : AM) : IM := fun env S => (a env S).bind fun ds S1 => match ds with
  | [.lst xs] => .ok (enumD xs) S1
  | _ => .stuck
section
variable {g : G} {E : XK} {K : PySem.W.Frag}
theorem simi_enum {ta : TA} {a : AM} (ha : SimA g E ta a) : SimI g E (iEnum K ta) (itEnum a) := by
  intro l σ H R ρ S env re rs p
  refine ha l σ H _ ρ S env re rs ?_
  unfold itEnum at p
  cases e : a env S with
  | err x S2 => rw [e] at p; exact p
  | stuck => rw [e] at p; exact p
  | ok ds S1 =>
    rw [e] at p
    simp only [Res.bind] at p
    intro ρ1 H1 vs e1 rs1 rx
    split at p
    · rename_i q hq
      split at hq
      · rename_i xs
        cases hq
        cases rx with
        | cons r t =>
          cases t
          cases r with
          | @lst b vs1 _ h1 n1 q1 =>
            refine ⟨b, vs1, rfl, SqL.of h1, p ρ1 H1 _ e1 rs1 fun l' hl => ?_⟩
            have ln : vs1.length = (enumD xs).length := by simp [enumD, q1.length]
            have w := walk_enum (K := K) (a := b) (xs := vs1)
            rw [ln] at w
            refine ⟨_, _, w, fun ρ' H' ex => SqL.of (ex.keep _ _ (out_hide hl h1 n1) h1), fun i ρ' H' x H'' S hi e rs y => ?_⟩
            obtain ⟨T, v, u, rfl, hT, rfl, hv, hu⟩ := y
            have hi' : i < xs.length := by simpa [enumD] using hi
            obtain ⟨u', h3, h4⟩ := (rds_hide hl q1).get (List.getElem?_eq_getElem hi')
            obtain rfl := Option.some.inj hv
            obtain rfl := Option.some.inj (hu.symm.trans h3)
            refine ⟨.tup [.int (i : Nat), xs[i]], by simp [enumD, List.getElem?_zipWith, List.getElem?_eq_getElem hi', hi'], Ex.new1 hT, rs.aside hT, .tup upd_same (rs.fresh hT) (.cons (.int _) (.cons ((h4.monoH e).mono (Ex.new1 hT)) .nil)), fun p o q => by rw [upd_ne (ne_of_none q hT)]; exact q⟩
      · cases hq
    · rename_i hq
      split at hq <;> cases hq
    · exact p.elim
end
/-! ### e.f of an object of one of some classes -/
def insF (ok : Nat → Bool) (d : D) (S : Store) : Option (List (PySem.Str × D)) := match d with
  | .loc n => match S[n]? with
    | some (.ins c fs) => if ok c = true then some fs else none
    | _ => none
  | _ => none
def mFldO (ok : Nat → Bool) (f : PySem.Str) (a : EM) : EM := fun env S => (a env S).bind fun d S1 => match insF ok d S1 with
  | some fs => match fs.lookup f with
    | some x => .ok x S1
    | none => .stuck
  | none => .stuck
section
variable {g : G} {E : XK} {K : PySem.W.Frag}
theorem insf_at {l : List Addr} {ρ : List Addr} {S : Store} {H : Hp} {ok : Nat → Bool} {v : V} {d : D} {fs : List (PySem.Str × D)} (rs : RS (g.hide l) ρ S H) (r : RD (g.hide l) ρ H v d) (h : insF ok d S = some fs) : ∃ c, ok c = true ∧ insAt c d S = some fs := by
  cases r with
  | @loc n a hn =>
    simp only [insF] at h
    split at h
    · rename_i c fs' e
      split at h
      · rename_i q
        cases h
        exact ⟨c, q, by simp [insAt, e]⟩
      · cases h
    · cases h
  | _ => cases h
theorem sim_fldO {ok : Nat → Bool} {f : PySem.Str} {ta : TE} {a : EM} (T : ∀ c, ok c = true → Cls K (g.cls c) ∧ NoAttr K (g.cls c) f) (ha : SimE g E ta a) : SimE g E (tFld K ta f) (mFldO ok f a) := by
  intro l σ H Q ρ S env re rs p
  refine ha.bind re rs p fun d S1 ρ1 H1 v e1 rs1 rx re1 p1 => ?_
  cases hI : insF ok d S1 with
  | none => rw [hI] at p1; exact p1.elim
  | some fs =>
    rw [hI] at p1
    dsimp only at p1
    obtain ⟨c, hc, hA⟩ := insf_at rs1 rx hI
    obtain ⟨n, ad, dx, fv, e2, hn, e3, hS, hH, rk⟩ := ins_at rs1 rx hA
    cases hF : fs.lookup f with
    | none => rw [hF] at p1; exact p1.elim
    | some x =>
      rw [hF] at p1
      obtain ⟨y, h1, h2⟩ := (rk.lookup (f := f)).1 x hF
      exact ⟨ad, _, dx, fv, y, e3, hH, (T c hc).1, (T c hc).2, h1, p1 ρ1 H1 y Ex.refl rs1 h2⟩
end
/-! ### repr of an int or a bool -/
def rReprS : List V → Hp → VK → Prop := fun xs H Q => (∃ i, xs = [.int i] ∧ i.natAbs.log2 < 1920 ∧ Q (.str (toString i)) H) ∨ ∃ b, xs = [.bl b] ∧ Q (.str (PyData.shown (.bool b))) H
theorem call_reprS {X : Cx} : CallR X (.builtin "repr") rReprS := by
  intro pins s σ H xs us Q I r h
  rcases h with h | ⟨b, rfl, q⟩
  · exact SkE.call_repr_int pins s σ H xs us Q I r h
  · obtain ⟨u, rfl, ru⟩ := vals1 r
    cases (show u = Value.bool b from ru)
    exact PySem.P.repr_of_bool ⟨.str _, H, I.tok _, ⟨_, rfl⟩, q⟩
def cReprS (ds : List D) (S : Store) : Res D := match ds with
  | [.int i] => if i.natAbs.log2 < 1920 then .ok (.str (toString i)) S else .stuck
  | [.bl b] => .ok (.str (PyData.shown (.bool b))) S
  | _ => .stuck
theorem sim_reprS {g : G} {E : XK} : CallSim g E rReprS cReprS := by
  intro l xs H Q ρ S ds rx rs p
  unfold cReprS at p
  split at p
  · rename_i i
    cases rx with
    | cons h t =>
      cases t
      cases h
      split at p
      · rename_i hz; exact .inl ⟨i, rfl, hz, p ρ H _ Ex.refl rs (.str _)⟩
      · exact p.elim
  · rename_i y
    cases rx with
    | cons h t =>
      cases t
      cases h
      exact .inr ⟨y, rfl, p ρ H _ Ex.refl rs (.str _)⟩
  · exact p.elim
theorem _root_.L2.FnOk.toG {P : Program} {w : World} {K : PySem.W.Frag} {mg : PySem.Str → Option Value} {base : Heap} {k : Nat} {f : Addr} {fd : FuncData} {ps : List PySem.Str} {sp : Sp} (F : FnOk P w K mg base (L2.CX P w) k f fd ps sp) : FnG P w K mg base k f fd ps sp :=
  ⟨F.len, fun A outer s H args us vs Q E hr gg e0 hb r h => F.run A outer s H args us vs Q E hr e0 hb r h⟩
/-! ### the written part -/
def clsB (K : PySem.W.Frag) (C : Addr) : Bool := PySem.W.plainGet K C Str.empty && PySem.W.hasDictIn K C && PySem.W.plainOver K C && decide (PySem.W.findIn K (.ref C) "__setattr__" = some (some (.builtin "object.__setattr__"))) && decide (PySem.W.findIn K (.ref C) "__class__" = some (some (.builtin "object.__class__"))) &&
  decide (PySem.W.specialIn K (.builtin "object.__class__") "__get__" = some (some (.builtin "getset_descriptor.__get__"))) && decide (PySem.W.takesIn K (.builtin "object.__class__") = some true) && decide (PySem.W.mroIn K C (.type "object") = some true)
theorem clsI_of {K : PySem.W.Frag} {C : Addr} (h : clsB K C = true) : ClsI K C := by
  unfold clsB at h
  simp only [Bool.and_eq_true, decide_eq_true_eq] at h
  obtain ⟨⟨⟨⟨⟨⟨⟨h1, h2⟩, h3⟩, h4⟩, h5⟩, h6⟩, h7⟩, h8⟩ := h
  exact ⟨⟨h1, h2, h3, h4⟩, h5, h6, h7, h8⟩
def nfB (K : PySem.W.Frag) (C : Addr) : Bool := kinds.all fun k => PySem.W.notFirst K C (.type k)
theorem nf_of {K : PySem.W.Frag} {C : Addr} (h : nfB K C = true) : ∀ k ∈ kinds, PySem.W.notFirst K C (.type k) = true := List.all_eq_true.mp h
def kfB (K : PySem.W.Frag) (C : Addr) : Bool := kinds.all fun k => decide (PySem.W.kitOne K (.type k) (.ref C) = some false)
theorem kf_of {K : PySem.W.Frag} {C : Addr} (h : kfB K C = true) : ∀ k ∈ kinds, PySem.W.kitOne K (.type k) (.ref C) = some false := fun k hk => of_decide_eq_true (List.all_eq_true.mp h k hk)
/-- of the classes told: no attribute f in them -/
def naB (K : PySem.W.Frag) (Cs : List Addr) (cs : List Nat) (f : PySem.Str) : Bool := cs.all fun c => clsB K (Cs.getD c 0) && decide (PySem.W.findIn K (.ref (Cs.getD c 0)) f = some none)
theorem na_of {K : PySem.W.Frag} {Cs : List Addr} {cs : List Nat} {f : PySem.Str} (h : naB K Cs cs f = true) : ∀ c, cs.contains c = true → Cls K (Cs.getD c 0) ∧ NoAttr K (Cs.getD c 0) f := by
  intro c hc
  have := List.all_eq_true.mp h c (by simpa using hc)
  simp only [Bool.and_eq_true, decide_eq_true_eq] at this
  exact ⟨(clsI_of this.1).cl, this.2⟩
def eqB (K : PySem.W.Frag) (Cs : List Addr) (cs : List Nat) (C : Addr) : Bool := nfB K C && cs.all fun c => clsB K (Cs.getD c 0) && PySem.W.notFirst K C (.ref (Cs.getD c 0))
theorem eqF_of {g : G} {K : PySem.W.Frag} {Cs : List Addr} {cs : List Nat} {c : Nat} (hg : g.cls = fun i => Cs.getD i 0) (h : eqB K Cs cs (Cs.getD c 0) = true) : EqF g K c (fun c' => cs.contains c') := by
  unfold eqB at h
  simp only [Bool.and_eq_true] at h
  refine ⟨by rw [hg]; exact nf_of h.1, fun c' hc => ?_⟩
  have := List.all_eq_true.mp h.2 c' (by simpa using hc)
  simp only [Bool.and_eq_true] at this
  rw [hg]
  exact ⟨clsI_of this.1, this.2⟩
def isoB (K : PySem.W.Frag) (Cs : List Addr) (cs : List Nat) (C : Addr) (t : Nat → Option Bool) : Bool := kfB K C && cs.all fun c => clsB K (Cs.getD c 0) && decide (PySem.W.kitOne K (.ref (Cs.getD c 0)) (.ref C) = t c)
theorem iso_of {K : PySem.W.Frag} {Cs : List Addr} {cs : List Nat} {C : Addr} {t : Nat → Option Bool} (h : isoB K Cs cs C t = true) (ht : ∀ c b, t c = some b → cs.contains c = true) : (∀ k ∈ kinds, PySem.W.kitOne K (.type k) (.ref C) = some false) ∧ ∀ c b, t c = some b → ClsI K (Cs.getD c 0) ∧ PySem.W.kitOne K (.ref (Cs.getD c 0)) (.ref C) = some b := by
  unfold isoB at h
  simp only [Bool.and_eq_true] at h
  refine ⟨kf_of h.1, fun c b e => ?_⟩
  have := List.all_eq_true.mp h.2 c (by simpa using ht c b e)
  simp only [Bool.and_eq_true, decide_eq_true_eq] at this
  exact ⟨clsI_of this.1, this.2.trans e⟩
end Lg

namespace Lg
open PySem L2
/-! ### tuple(list) -/
def rTupX (K : PySem.W.Frag) : List V → Hp → VK → Prop := fun xs H Q => ∃ p ys, xs = [.ref p] ∧ SqL K H p ys ∧ ∀ l (o : Obj), o.dict = none → H l = none → Q (.ref l) (upd H l (.frz o (.tup ys)))
section
open PyProof.Rows
theorem call_tupX {X : Cx} : CallR X (.type "tuple") (rTupX X.K) := by
  intro pins s σ H xs us Q I r h
  obtain ⟨p, ys, rfl, hq, q⟩ := h
  obtain ⟨u, rfl, rx⟩ := vals1 r
  cases (show u = Value.ref p from rx)
  obtain ⟨its, r', pl, hz⟩ := I.list hq
  have hlen := r'.length
  refine call_tuple_list pl.isList (fun h' kp => ?_) (by simp only [List.size_toArray] <;> omega)
  have J := I.kept (t' := s.toks) kp
  have at1 : (h'.push { cls := .type "tuple", data := .seq its.toArray }).get? h'.objs.size = some { cls := .type "tuple", data := .seq its.toArray } := Heap.get?_push_size _ rfl
  exact ⟨.ref h'.objs.size, _, J.laid (t' := s.toks) (fun b o e => Heap.get?_push_of_some _ e) (Nat.le_refl _) (show ObjOk X.prog X.w _ _ _ (.frz { cls := .type "tuple", data := .seq its.toArray } (.tup ys)) from ⟨at1, hz, its, r', IsTup.new _ _⟩), rfl, q _ _ rfl (J.hok.fresh (Nat.le_refl _))⟩
end
abbrev rTupXA (K : PySem.W.Frag) : List V → Hp → VK → Prop := fun xs H Q => rTupX K xs H Q ∨ rTupleA K xs H Q
theorem call_tupXA {X : Cx} : CallR X (.type "tuple") (rTupXA X.K) := call_tupX.or call_tuple_of
def cTupX (ds : List D) (S : Store) : Res D := match ds with
  | [.tup xs] => .ok (.tup xs) S
  | [.tupX xs] => .ok (.tupX xs) S
  | [x] => match asL x S with
    | some xs => .ok (.tupX xs) S
    | none => .stuck
  | _ => .stuck
section
variable {g : G} {E : XK} {K : PySem.W.Frag}
theorem sim_tupX : CallSim g E (rTupXA K) cTupX := by
  intro l xs H Q ρ S ds rx rs p
  unfold cTupX at p
  split at p
  · obtain ⟨v, rfl, r⟩ := rx.one
    cases r with
    | @tup a vs ds ha na ra => exact .inr ⟨a, vs, rfl, .inr ⟨SqT.of ha, p ρ H _ Ex.refl rs (.tup ha na ra)⟩⟩
  · obtain ⟨v, rfl, r⟩ := rx.one
    cases r with
    | @tupX a o vs ds ha hd na ra => exact .inr ⟨a, vs, rfl, .inr ⟨.inl (.inr ⟨o, ha⟩), p ρ H _ Ex.refl rs (.tupX ha hd na ra)⟩⟩
  · obtain ⟨v, rfl, r⟩ := rx.one
    split at p
    · rename_i xs' e
      obtain ⟨a, vs, rfl, h1, r1⟩ := as_l rs r e
      exact .inl ⟨a, vs, rfl, SqL.of h1, fun q o hd hq => p ρ _ _ (Ex.new1 hq) (rs.aside hq) (.tupX upd_same hd (rs.fresh hq) (r1.mono (Ex.new1 hq)))⟩
    · exact p.elim
  · exact p.elim
end
end Lg
namespace Lg
open PySem PySem.Spec PyProof.Rows L2
/-! ### dict(tuple of pairs), at the machine -/
theorem tup_no_keys : typeLookup (.type "tuple") "keys" = pure none := am_miss_of_fast (by first | decide +kernel | rfl)
section
variable {prog : Program} {w : World} {A : Around} {E : Value → Shared → Prop}
/-- a tuple has no attribute keys: what is raised is forgotten -/
theorem keys_missed {s : Shared} {a : Addr} {ot : Obj} {vs : Array Value} {n : Nat} {R : Option Value → Shared → Prop} (h1 : s.heap.get? a = some ot) (h2 : ot.cls = .type "tuple") (h3 : ot.data = .seq vs n) (h4 : ot.dict = none) (h5 : A.handled = none)
    (q : ∀ h' t', (∀ b ob, s.heap.get? b = some ob → h'.get? b = some ob) → R none { s with heap := h', toks := t' }) : wpAny (model prog w) A (getAttr? (.ref a) "keys") R E s := by
  obtain ⟨oc, od, oda, osl⟩ := ot
  dsimp only at h2 h3 h4
  subst h2 h3 h4
  obtain ⟨hp, g, d, tk, os⟩ := s
  have ty : ∀ t', (⟨hp, g, d, t', os⟩ : Shared).TypeIs (.ref a) "tuple" := fun _ => ⟨_, h1, rfl⟩
  have m0 := tup_no_keys
  have m1 : (["__module__", "__name__", "__qualname__", "__doc__", "__annotations__"] : List PySem.Str).contains "keys" = false := by decide +kernel
  have m2 : ("keys" : PySem.Str).length + 100 ≤ sizeLine := by first | size_fits | decide +kernel
  have e1 := sub_AttributeError
  have e3 := PySem.F.slot_tuple_getattribute.lookup
  have e4 := PySem.F.slot_tuple_getattribute.bind (.ref a)
  have e5 := am_tuple_getattr_none
  unfold getAttr? getAttrBy? getAttrBy
  repeat (any_goals (first | assumption | exact ty _ | ((with_reducible show wpAny _ _ (call (Value.builtin "tuple.__getattribute__") _ _) _ _ _); exact call_meets PySem.F.slot_tuple_getattribute (ty _) am_entry_tuple_getattribute (PySem.F.args_tuple_getattribute_2 _ _) (meets_getattribute_miss_tuple a vs n osl "keys" _ m0 m1 m2) ⟨h1, h5, fun h' t' e ne => by
    obtain ⟨t2, u2, he⟩ := ne.there
    show wpAny _ _ (getattributeRaised _ _ _ _ _ _ _) _ _ _
    unfold getattributeRaised
    repeat (any_goals (first | assumption | wp_step))
    all_goals first | exact q _ _ ne.keeps | (dsimp only; repeat (any_goals (first | assumption | exact q _ _ ne.keeps | wp_step)))⟩) | wp_step))
/-- the pairs are put into the dict one by one -/
theorem pour {R : Result → Shared → Prop} {D I T : Addr} {vs : Array Value} {out : Value} (h5 : A.handled = none) (nTI : T ≠ I) (nDI : D ≠ I) (nDT : D ≠ T) :
    ∀ (todo : List (Key × Value)) (i : Nat) (had : List (Key × Value)) (n : Int) (tk : Tok) (s : Shared), vs.size = i + todo.length → had.length + todo.length ≤ sizeLine →
      (∀ (j : Nat) (p : Key × Value), todo[j]? = some p → ∃ (b : Addr) (u : Value), vs[i + j]? = some (.ref b) ∧ b ≠ D ∧ b ≠ I ∧ IsTup s.heap b #[u, p.2] ∧ keyIs p.1 u = true) →
      s.heap.IsTupleIter I T i → s.heap.IsTuple T vs → s.heap.DictOf (mixKind prog w) D had →
      (∀ h' t', h'.DictOf (mixKind prog w) D (merged had todo) → (∀ b o, b ≠ D → b ≠ I → s.heap.get? b = some o → h'.get? b = some o) → R (.ok (.ret out)) { s with heap := h', toks := t' }) →
      codeAny (model prog w) A (.builtin "dict.update.loop" ⟨[.ref D, .ref I, .int n tk, out], []⟩) R s
  | [], i, had, n, tk, s, z1, z2, at_, it, tu, di, fin => by
    refine codeAny_builtin ud_entry ?_
    rw [Around.under_plainId ud_plain _]
    show wpAny _ A.in1 (pyNext (.ref I) >>= _) _ _ s
    have past : vs[i]? = none := Array.getElem?_eq_none (by rw [z1]; simp)
    refine wpAny_bind (wpAny_pyNext_tuple_end (A := A.in1) h5 it tu past fun h' ex => ?_)
    show wpAny _ A.in1 (Builtin.Dict.addKeywords D [] >>= _) _ _ _
    exact wpAny_bind (wpAny_pure (wpAny_pure (fin h' s.toks (di.extBut ex nDI) fun b o _ nb e => ex b o nb e)))
  | p :: todo, i, had, n, tk, s, z1, z2, at_, it, tu, di, fin => by
    rw [List.length_cons] at z1 z2
    obtain ⟨b, u, hb, bD, bI, tb, kb⟩ := at_ 0 p rfl
    refine codeAny_builtin ud_entry ?_
    rw [Around.under_plainId ud_plain _]
    show wpAny _ A.in1 (pyNext (.ref I) >>= _) _ _ s
    refine wpAny_bind (wpAny_pyNext_tuple_item (x := .ref b) it tu (by simpa using hb) fun h1 it1 sb => ?_)
    have tb1 := tb.extBut sb.extBut bI
    obtain ⟨o, ho, oc, m, od⟩ := id tb1
    show wpAny _ A.in1 (holding [Value.ref b] _ >>= _) _ _ _
    refine wpAny_bind (wpAny_holding (wpAny_bind (wpAny_tryCatch ?_)))
    unfold Builtin.Dict.pairItems
    refine wpAny_bind (wpAny_typeOf (T := "tuple") ⟨o, ho, oc⟩ ?_)
    rw [if_pos (by first | decide | rfl | simp)]
    refine wpAny_bind (wpAny_seqItems ho od (wpAny_pure ?_))
    show wpAny _ A.in1 (holding [u, p.2] (dictSet D u p.2)) _ _ _
    refine wpAny_holding (wpAny_dictSet_pairs (knd := mixKind prog w) (k := p.1) kb (di.extBut sb.extBut nDI) (fun h2 di2 sb2 => ?_) (by omega))
    have more : ∀ c oc, c ≠ D → c ≠ I → s.heap.get? c = some oc → h2.get? c = some oc := fun c oc n1 n2 e => sb2.extBut c oc n1 (sb.extBut c oc n2 e)
    have go := pour (R := R) (out := out) (vs := vs) h5 nTI nDI nDT todo (i + 1) (stored had p.1 p.2) (n + 1) 0 { s with heap := h2, toks := s.toks + 1 } (show vs.size = i + 1 + todo.length by omega)
      (by have := stored_length_le had p.1 p.2; omega) (fun j p' e => by
        obtain ⟨b', u', q1, q2, q3, q4, q5⟩ := at_ (j + 1) p' (by simpa using e)
        refine ⟨b', u', by rw [← q1]; congr 1; omega, q2, q3, ?_, q5⟩
        exact (q4.extBut sb.extBut q3).extBut sb2.extBut q2)
      (it1.extBut sb2.extBut (Ne.symm nDI)) ((tu.extBut sb.extBut nTI).extBut sb2.extBut (Ne.symm nDT)) di2 (fun h' t' d' keep => fin h' t' d' fun c oc n1 n2 e => keep c oc n1 n2 (more c oc n1 n2 e))
    exact wpAny_pure ⟨plainId_quiet ud_plain _, go⟩
/-- dict(t) -/
theorem call_dict_tup {s : Shared} {a : Addr} {ot : Obj} {vs : Array Value} {n : Nat} {ps : List (Key × Value)} {Q : Value → Shared → Prop} (h5 : A.handled = none) (h1 : s.heap.get? a = some ot) (h2 : ot.cls = .type "tuple") (h4 : ot.dict = none) (h3 : ot.data = .seq vs n)
    (z1 : vs.size = ps.length) (z2 : ps.length ≤ sizeLine) (at_ : ∀ (j : Nat) (p : Key × Value), ps[j]? = some p → ∃ (b : Addr) (u : Value), vs[j]? = some (.ref b) ∧ IsTup s.heap b #[u, p.2] ∧ keyIs p.1 u = true)
    (fin : ∀ h' t', h'.DictOf (mixKind prog w) s.heap.objs.size (merged [] ps) → (∀ b o, s.heap.get? b = some o → h'.get? b = some o) → Q (.ref s.heap.objs.size) { s with heap := h', toks := t' }) :
    wpAny (model prog w) A (call (.type "dict") [.ref a]) Q E s := by
  generalize hN : s.heap.push { cls := .type "dict", data := .dict #[] } = h0
  refine callType_codes (Q₁ := fun obj s₁ => obj = .ref s.heap.objs.size ∧ s₁ = { s with heap := s.heap.push { cls := .type "dict", data := .dict #[] } }) PySem.F.kt_called_dict (PySem.F.kt_typeCall_dict_1 _) PySem.F.entry_dict_init (kt_code_dict_new _ ⟨rfl, rfl⟩) ?_
  rintro obj s₁ ⟨rfl, rfl⟩
  rw [hN]
  have made : h0.DictOf (mixKind prog w) s.heap.objs.size [] := hN ▸ Heap.DictOf.new s.heap
  have up0 : ∀ b o, s.heap.get? b = some o → h0.get? b = some o := fun b o e => hN ▸ Heap.get?_push_of_some _ e
  have e0 : h0.get? s.heap.objs.size = some { cls := .type "dict", data := .dict #[] } := hN ▸ Heap.get?_push_size _ rfl
  have tyN : Shared.TypeIs { s with heap := h0 } (.ref s.heap.objs.size) "dict" := ⟨_, e0, rfl⟩
  refine ⟨tyN, PySem.F.args_dict_init_2 _ _, ?_⟩
  unfold Builtin.«dict.__init__» Builtin.Dict.selfAndRest
  refine wpAny_bind (wpAny_bind (wpAny_notOrdered_dict tyN ?_))
  show wpAny _ _ (pure (s.heap.objs.size, [Value.ref a])) _ _ _
  refine wpAny_pure ?_
  show wpAny _ _ (Builtin.Dict.updateFrom "dict.__init__" s.heap.objs.size (.ref a) [] .none) _ _ _
  unfold Builtin.Dict.updateFrom
  refine wpAny_bind (wpAny_typeOf (T := "tuple") ⟨ot, up0 _ _ h1, h2⟩ ?_)
  rw [if_pos (by first | decide | rfl | simp)]
  refine wpAny_bind (keys_missed (up0 _ _ h1) h2 h3 h4 h5 fun h6 t6 up6 => ?_)
  rw [if_pos (show (none : Option Value).isNone = true from rfl)]
  refine wpAny_bind (wpAny_rule ?_)
  have tu6 : h6.IsTuple a vs := ⟨ot, up6 _ _ (up0 _ _ h1), h2, n, h3⟩
  have lt6 : s.heap.objs.size < h6.objs.size := Heap.lt_size (up6 _ _ e0)
  have lta := Heap.lt_size h1
  refine wpAny_bind (wpAny_pyIter_tuple tu6 ?_)
  generalize hI : h6.push { cls := .type "tuple_iterator", data := .fields #[.ref a, .int 0 0] } = h7
  have up7 : ∀ b o, h6.get? b = some o → h7.get? b = some o := fun b o e => hI ▸ Heap.get?_push_of_some _ e
  have up : ∀ b o, s.heap.get? b = some o → h7.get? b = some o := fun b o e => up7 _ _ (up6 _ _ (up0 _ _ e))
  have it7 : h7.IsTupleIter h6.objs.size a 0 := ⟨_, hI ▸ Heap.get?_push_size _ rfl, rfl, rfl⟩
  have go := pour (prog := prog) (w := w) (A := A.in1) (R := wants (fun r s₂ => r = .none ∧ Q (.ref s.heap.objs.size) s₂) E) (D := s.heap.objs.size) (I := h6.objs.size) (T := a) (vs := vs) (out := Value.none) h5
    (Nat.ne_of_lt (Nat.lt_trans lta lt6)) (Nat.ne_of_lt lt6) (Nat.ne_of_gt lta) ps 0 [] 0 0 { s with heap := h7, toks := t6 } (by rw [z1, Nat.zero_add]) (by simpa using z2)
    (fun j p e => by
      obtain ⟨b, u, q1, q2, q3⟩ := at_ j p e
      have ltb := q2.lt
      exact ⟨b, u, by rw [Nat.zero_add]; exact q1, Nat.ne_of_lt ltb, Nat.ne_of_lt (Nat.lt_trans ltb lt6), q2.keeps fun c o y => up _ _ y, q3⟩)
    it7 ⟨ot, up7 _ _ (up6 _ _ (up0 _ _ h1)), h2, n, h3⟩ ((made.at fun o e => up6 _ _ e).at fun o e => up7 _ _ e)
    (fun h' t' d' keep => ⟨rfl, fin h' t' d' fun b o e => keep b o (Nat.ne_of_lt (Heap.lt_size e)) (Nat.ne_of_lt (Nat.lt_trans (Heap.lt_size e) lt6)) (up _ _ e)⟩)
  first | exact wpAny_pure ⟨plainId_quiet ud_plain _, go⟩ | exact wpAny_bind (wpAny_pure (wpAny_pure ⟨plainId_quiet ud_plain _, go⟩))
end
section
variable {X : Cx}
/-- dict(t), t a tuple that is known to have no dict of its own -/
def rDictX (K : PySem.W.Frag) : List V → Hp → VK → Prop := fun xs H Q => ∃ (a : Addr) (o : Obj) (ps : List Addr) (kvs : List (Key × V)), xs = [.ref a] ∧ o.dict = none ∧ H a = some (.frz o (.tup (ps.map V.ref))) ∧ Paired (fun p kv => SqT K H p [kV kv.1, kv.2]) ps kvs ∧
  ∀ p, H p = none → Q (.ref p) (upd H p (.dK (mergeK [] kvs)))
theorem call_dictX (hcalm : X.calm = true) : CallR X (.type "dict") (rDictX X.K) := by
  intro pins s σ H xs us Q I r h
  obtain ⟨a, o, ps, kvs, rfl, hd, ha, hp, q⟩ := h
  obtain ⟨u, rfl, ru⟩ := vals1 r
  cases (show u = Value.ref a from ru)
  obtain ⟨ho, z, its, rv, tu⟩ := (show ObjOk X.prog X.w H s.heap a (.frz o (.tup (ps.map V.ref))) from I.hok a _ ha)
  have ei := refs_at rv
  subst ei
  obtain ⟨o', e', oc, n, od⟩ := tu
  obtain rfl := Option.some.inj (ho.symm.trans e')
  rw [List.length_map] at z
  obtain ⟨prs, rel, hl, hpr⟩ := pairs_of I hp
  refine call_dict_tup (ps := prs) (I.ok.hd hcalm) ho oc hd od (by simp [hl]) (by rw [hl]; exact z) (fun j p e => ?_) fun h' t' d' keep => ?_
  · obtain ⟨b, u, q1, q2, q3⟩ := hpr j p e
    exact ⟨b, u, by simp [q1], q2, q3⟩
  · have big : (s.heap.objs.size == sysModules) = false := beq_eq_false_iff_ne.mpr (Nat.ne_of_gt I.big)
    have len : (mergeK [] kvs).length ≤ sizeLine := Nat.le_trans (length_mergeK kvs []) (by rw [List.length_nil, Nat.zero_add, rel.length, hl]; exact z)
    exact ⟨.ref s.heap.objs.size, _, I.laid (t' := t') keep (Nat.le_refl _) (show ObjOk X.prog X.w _ _ _ (.dK (mergeK [] kvs)) from ⟨len, big, merged [] prs, KV.merge rel .nil, d'⟩), rfl, q _ (I.hok.fresh (Nat.le_refl _))⟩
end
/-! ### as a plain function -/
def cDictX (ds : List D) (S : Store) : Res D := match ds with
  | [.tupX xs] => match pairsD xs with
    | some kvs => .ok (.loc S.length) (S ++ [.dK (mergeD kvs)])
    | none => .stuck
  | _ => .stuck
section
variable {g : G} {E : XK} {K : PySem.W.Frag}
theorem pairs_rel {ρ : List Addr} {H : Hp} : ∀ {vs : List V} {ds : List D} {kvs : List (Key × D)}, RDs g ρ H vs ds → pairsD ds = some kvs → ∃ (ps : List Addr) (kv : List (Key × V)), vs = ps.map V.ref ∧ Paired (fun p kv => SqT K H p [kV kv.1, kv.2]) ps kv ∧ RKV g ρ H kv kvs
  | _, _, _, .nil, e => by cases e; exact ⟨[], [], rfl, .nil, .nil⟩
  | _, _, _, .cons (v := v) (d := d) h t, e => by
    unfold pairsD at e
    split at e
    · rename_i hd; cases hd
    · rename_i a b ds' hd
      cases hd
      split at e
      · rename_i k r e1 e2
        cases e
        obtain ⟨ps, kv, q1, q2, q3⟩ := pairs_rel t e2
        cases h with
        | @tup p vs' _ hp n r' =>
          cases r' with
          | cons ra r2 => cases r2 with
            | cons rb r3 =>
              cases r3
              have := key_of_rd ra e1
              subst this
              exact ⟨p :: ps, (k, _) :: kv, by rw [q1]; rfl, .cons (SqT.of hp) q2, .cons ⟨rfl, rb⟩ q3⟩
      · cases e
    · cases e
theorem sim_dictX : CallSim g E (rDictX K) cDictX := by
  intro l xs H Q ρ S ds rx rs p
  unfold cDictX at p
  split at p
  · obtain ⟨v, rfl, r⟩ := rx.one
    split at p
    · rename_i kvs e
      cases r with
      | @tupX a o vs ds' h hd n r =>
        obtain ⟨ps, kv, q1, q2, q3⟩ := pairs_rel (K := K) r e
        subst q1
        refine ⟨a, o, ps, kv, rfl, hd, h, q2, fun q hq => ?_⟩
        obtain ⟨e3, rs3⟩ := rs.push (o := .dK (mergeK [] kv)) (ob := .dK (mergeD kvs)) hq fun ρ' H' e' q' => ⟨_, q', (merge_rkv q3 .nil).mono e'⟩
        exact p _ _ _ e3 rs3 (.loc (by rw [← rs.len]; simp))
    · exact p.elim
  · exact p.elim
end
end Lg

namespace Lg
open PySem PySem.Spec PyProof.Rows L2
open AutoSeq1 (wpAny_loadPart')
theorem new_enumT (l : Addr) (items : Array Value) (ot : Obj) (h1 : ot.cls = .type "tuple") (n : Nat) (h2 : ot.data = .seq items n) :
    Meets (Builtin.«enumerate.__new__» ⟨[.type "enumerate", .ref l], []⟩) (fun _ R s => s.heap.get? l = some ot ∧
      R (.ok (.ret (.ref (s.heap.push { cls := .type "tuple_iterator", data := .fields #[.ref l, .int 0 0] }).objs.size)))
        { s with heap := (s.heap.push { cls := .type "tuple_iterator", data := .fields #[.ref l, .int 0 0] }).push { cls := .type "enumerate", data := .fields #[.none, .bool false, .ref s.heap.objs.size, rawInt 0, .none, .none] } }) :=
  .of_wp fun prog w A R s ⟨hl, h⟩ => by
    obtain ⟨hp, g, d, tk, os⟩ := s
    obtain ⟨oc, od, oda, osl⟩ := ot
    dsimp only at h1 h2
    subst h1 h2
    have sub := sub_enumerate
    have tu : Heap.IsTuple (Shared.heap ⟨hp, g, d, tk, os⟩) l items := ⟨_, hl, rfl, n, rfl⟩
    wp_walk using wpAny_loadPart' hl
    refine wpAny_stack_any fun st => wpAny_pure ?_
    split
    · rename_i c _ _ _ _ _
      cases (c == Value.type "enumerate") <;> (wp_walk using wpAny_loadPart' hl, wpAny_pyIter_tuple tu; exact ⟨_, rfl, h⟩)
    · wp_walk using wpAny_loadPart' hl, wpAny_pyIter_tuple tu
      exact ⟨_, rfl, h⟩
section
variable {prog : Program} {w : World} {A : Around} {E : Value → Shared → Prop} {s : Shared}
theorem call_enumT {l : Addr} {items : Array Value} {Q : Value → Shared → Prop} (hL : s.heap.IsTuple l items)
    (h : ∀ h', IsEnum h' (s.heap.objs.size + 1) s.heap.objs.size 0 .none → h'.IsTupleIter s.heap.objs.size l 0 → (∀ b o, s.heap.get? b = some o → h'.get? b = some o) → Q (.ref (s.heap.objs.size + 1)) { s with heap := h' }) :
    wpAny (model prog w) A (call (.type "enumerate") [.ref l]) Q E s := by
  obtain ⟨ot, hl, hc, n, hd⟩ := hL
  refine callType_new F.called_enumerate (by decide) (F.typeCall_enumerate_1 _) (F.newCall_enumerate_1 _) (fun obj => F.args_object_init_2 obj _) F.entry_enumerate_new (new_enumT l items ot hc n hd) ⟨hl, ?_⟩
  generalize hI : s.heap.push { cls := .type "tuple_iterator", data := .fields #[.ref l, .int 0 0] } = h1
  have z : h1.objs.size = s.heap.objs.size + 1 := hI ▸ Heap.size_push ..
  have e1 : h1.get? s.heap.objs.size = some { cls := .type "tuple_iterator", data := .fields #[.ref l, .int 0 0] } := hI ▸ Heap.get?_push_size _ rfl
  generalize hN : h1.push { cls := .type "enumerate", data := .fields #[.none, .bool false, .ref s.heap.objs.size, rawInt 0, .none, .none] } = h2
  have en : IsEnum h2 (s.heap.objs.size + 1) s.heap.objs.size 0 .none := by
    rw [← z, ← hN]
    exact Heap.get?_push_size _ rfl
  show _ ∧ _
  rw [z]
  exact ⟨⟨_, en, rfl⟩, h _ en ⟨_, hN ▸ Heap.get?_push_of_some _ e1, rfl, rfl⟩ fun b o y => hN ▸ Heap.get?_push_of_some _ (hI ▸ Heap.get?_push_of_some _ y)⟩
end
/-- the tuple at a, each item in a new pair -/
def IteT (K : PySem.W.Frag) (a : Addr) : It :=
  ⟨fun i H => ∃ (ys : List V) (y : V), SqT K H a ys ∧ ys[i]? = some y, fun i H v H' => ∃ T y, v = .ref T ∧ H T = none ∧ H' = upd H T (.tup [.int (i : Nat), y]) ∧ ∀ ys, SqT K H a ys → ys[i]? = some y, fun i H => ∃ ys : List V, SqT K H a ys ∧ ys.length = i⟩
theorem turn_enumT {P : Program} {w : World} {K : PySem.W.Frag} {elts : List Expr} {kk : Nat} {tpos : Pos} (a e it : Addr) :
    Turn P w K (.Tuple elts kk tpos) (IteT K a) [e, it] e (fun i h => (∃ old, IsEnum h e it ((i : Nat) : Int) old) ∧ h.IsTupleIter it a i ∧ e ≠ it) where
  mem := List.mem_cons_self
  obj := fun i h st b hb => by
    obtain ⟨⟨old, he⟩, ⟨o, ho, hc, hd⟩, _⟩ := st
    rcases List.mem_cons.mp hb with rfl | hb
    · exact ⟨_, he, fun v q => nomatch q⟩
    · obtain rfl := List.mem_singleton.mp hb
      exact ⟨o, ho, fun v q => by rw [hd] at q; cases q⟩
  keep := fun i h h' st k => let ⟨⟨old, he⟩, ⟨o, ho, r⟩, ne⟩ := st; ⟨⟨old, k e (by simp) _ he⟩, ⟨o, k it (by simp) o ho, r⟩, ne⟩
  item := by
    intro X hP hw hK hc i pins s σ H E I hf st hg
    subst hP hw hK
    obtain ⟨⟨old, he⟩, hit, ne⟩ := st
    obtain ⟨ys, y, hq, hy⟩ := hg
    obtain ⟨its, rv, tu, _⟩ := I.tuple hq
    obtain ⟨u, hu, ru⟩ := rv.get hy
    obtain ⟨ot, hot, hoc, no, hod⟩ := id tu
    obtain ⟨oi, hoi, hic, hid⟩ := id hit
    have nai : a ≠ it := fun q => by
      subst q
      have e1 := Option.some.inj (hot.symm.trans hoi)
      rw [e1, hic] at hoc
      exact absurd hoc (by decide)
    have nea : e ≠ a := fun q => by
      subst q
      have e1 := Option.some.inj (hot.symm.trans he)
      rw [e1] at hoc
      exact absurd (show Value.type "enumerate" = Value.type "tuple" from hoc) (by decide)
    have lt : i < its.toArray.size := by simpa using (List.getElem?_eq_some_iff.mp hu).1
    have le : e < s.heap.objs.size := Heap.lt_size he
    have li : it < s.heap.objs.size := Heap.lt_size hoi
    refine wpAny_pyNext_enum_itemD (Draws.tuple (A := X.A.in1) (I.ok.hd hc) it a nai its.toArray) he ⟨hit, tu⟩ lt ne (by simp [ne, nea]) fun x h1 tk px out st1 hT hsz hk => ?_
    have ex : x = u := by
      have px' : its[i]? = some x := by simpa using px
      exact Option.some.inj (px'.symm.trans hu)
    subst ex
    refine ⟨_, rfl, wpAny_letOwnedTupleGo_enum (s := { s with heap := h1, toks := tk + 1 }) out fun h2 he2 sb => ?_⟩
    have hT2 : h2.get? s.heap.objs.size = some { cls := .type "tuple", data := .seq #[.int i tk, x] } := (sb.2 _ (Nat.ne_of_gt le)).trans hT
    have new : ObjOk X.prog X.w (upd H s.heap.objs.size (.tup [.int (i : Nat), y])) h2 s.heap.objs.size (.tup [.int (i : Nat), y]) := ⟨by show 2 ≤ sizeLine; decide, [.int i tk, x], .cons ⟨_, rfl⟩ (.cons ru .nil), ⟨_, hT2, rfl, _, rfl⟩⟩
    have I1 : Inv X pins σ (upd H s.heap.objs.size (.tup [.int (i : Nat), y])) { s with heap := h2, toks := tk + 1 } :=
      I.turnedNew (ch := [e, it]) (fun b ob nb q => (sb.2 b fun z => nb (by simp [z])).trans (hk b ob (fun z => nb (by simp [z])) (fun z => nb (by simp [z])) q)) hf (Nat.le_refl _) new
    refine ⟨.ref s.heap.objs.size, _, I1, rfl, ⟨_, y, rfl, I.hok.fresh (Nat.le_refl _), rfl, fun zs hz => by rw [I.tuple_inj hz hq]; exact hy⟩, ⟨⟨x, ?_⟩, ?_, ne⟩, fun b hb => ?_⟩
    · rw [show ((i + 1 : Nat) : Int) = (i : Int) + 1 by omega]
      exact he2
    · obtain ⟨o, ho, r⟩ := st1.1
      exact ⟨o, (sb.2 it (Ne.symm ne)).trans ho, r⟩
    · have lb : b < s.heap.objs.size := by
        rcases List.mem_cons.mp hb with rfl | hb
        · exact le
        · obtain rfl := List.mem_singleton.mp hb
          exact li
      rw [upd_ne (Nat.ne_of_lt lb)]
      exact (hf b hb).1
  done := by
    intro X hP hw hK hc i pins s σ H E I hf st hg
    subst hP hw hK
    obtain ⟨⟨old, he⟩, hit, ne⟩ := st
    obtain ⟨ys, hq, hl⟩ := hg
    obtain ⟨its, rv, tu, _⟩ := I.tuple hq
    obtain ⟨ot, hot, hoc, no, hod⟩ := id tu
    obtain ⟨oi, hoi, hic, hid⟩ := id hit
    have nai : a ≠ it := fun q => by
      subst q
      have e1 := Option.some.inj (hot.symm.trans hoi)
      rw [e1, hic] at hoc
      exact absurd hoc (by decide)
    obtain ⟨f0, f1, f2, f3, f4, f5⟩ := hf it (by simp)
    have z : its.toArray.size = i := by rw [List.size_toArray, ← rv.length, hl]
    refine wpAny_pyNext_enum_endD (Draws.tuple (A := X.A.in1) (I.ok.hd hc) it a nai its.toArray) he ⟨by rw [z]; exact hit, tu⟩ fun h' eb => ⟨rfl, I.turned (t' := s.toks) (fun b o hb q => eb b o hb q) f0 f1 f3 f4 f5⟩
  self := fun A i s Q E st h => let ⟨⟨_, he⟩, _⟩ := st; wpAny_pyIter_enum he h
def iEnumA (K : PySem.W.Frag) (ta : TA) : TI := fun σ H R => ta σ H fun vs H1 => ∃ a, vs = [.ref a] ∧ (((∃ xs, SqL K H1 a xs) ∧ R (Ite K a) H1) ∨ ((∃ xs, SqT K H1 a xs) ∧ R (IteT K a) H1))
theorem pi_enumA {X : Cx} {e : Expr} {ta : TA} {p pos tpos : Pos} {elts : List Expr} {kk : Nat} (hg : Gl X "enumerate") (hm : X.mg "enumerate" = none) (ha : PA X [e] ta) (hs : starEach [e] X.env = [(false, eval e X.env)] := by rfl) :
    PI X (.Tuple elts kk tpos) (.Call (.Name "enumerate" p) [e] [] pos) (iEnumA X.K ta) := by
  refine ⟨fun pins s σ H R I h => ?_⟩
  refine Call_ (ld_blt I hg hm boot_enumerate (PyProof.Rows.callWith_type1 (thn (ha.run pos pins s σ H _ I h) fun us s1 ⟨vs, H1, I1, r1, a, ev, q1⟩ => ?_) hs rfl))
  subst ev
  obtain ⟨u, rfl, ru⟩ := vals1 r1
  cases (show u = Value.ref a from ru)
  have two : ∀ {h' : Heap}, (∀ b o, s1.heap.get? b = some o → h'.get? b = some o) → ∀ b ∈ [s1.heap.objs.size + 1, s1.heap.objs.size], ∀ (I2 : Inv X pins σ H1 { s1 with heap := h' }), FpOk X pins H1 b := fun hk b hb I2 => by
    have hle : s1.heap.objs.size ≤ b := by
      rcases List.mem_cons.mp hb with rfl | hb
      · exact Nat.le_succ _
      · exact Nat.le_of_eq (List.mem_singleton.mp hb).symm
    exact I1.fpOk hle (I1.hok.fresh hle)
  rcases q1 with ⟨⟨xs, hq⟩, q⟩ | ⟨⟨xs, hq⟩, q⟩
  · obtain ⟨its, rv, pl, _⟩ := I1.list hq
    refine call_enumerate_list pl.isList fun h' he hit hsz hk => wpAny_pyIter_enum he ?_
    have I2 := I1.kept (t' := s1.toks) hk
    exact ⟨s1.heap.objs.size + 1, _, _, _, H1, rfl, I2, turn_enum a (s1.heap.objs.size + 1) s1.heap.objs.size, ⟨⟨.none, he⟩, hit, Nat.succ_ne_self _⟩, fun b hb => two hk b hb I2, q⟩
  · obtain ⟨its, rv, tu, _⟩ := I1.tuple hq
    refine call_enumT tu fun h' he hit hk => wpAny_pyIter_enum he ?_
    have I2 := I1.kept (t' := s1.toks) hk
    exact ⟨s1.heap.objs.size + 1, _, _, _, H1, rfl, I2, turn_enumT a (s1.heap.objs.size + 1) s1.heap.objs.size, ⟨⟨.none, he⟩, hit, Nat.succ_ne_self _⟩, fun b hb => two hk b hb I2, q⟩
theorem walk_enumT {K : PySem.W.Frag} {a : Addr} {xs : List V} : Walk (IteT K a) xs.length (fun H => SqT K H a xs) (YPair (fun i => some (.int (i : Nat))) (fun i => xs[i]?)) := by
  refine ⟨fun i _ hi q => ⟨xs, xs[i], q, List.getElem?_eq_getElem hi⟩, fun _ q => ⟨xs, q, rfl⟩, fun i H v H' _ q ⟨T, y, h1, h2, h3, h4⟩ => ⟨T, .int (i : Nat), y, h1, h2, h3, rfl, h4 xs q⟩⟩
def itEnumA (a : AM) : IM := fun env S => (a env S).bind fun ds S1 => match ds with
  | [.lst xs] => .ok (enumD xs) S1
  | [.tup xs] => .ok (enumD xs) S1
  | [.tupX xs] => .ok (enumD xs) S1
  | _ => .stuck
section
variable {g : G} {E : XK} {K : PySem.W.Frag}
theorem walkd_enum {l : List Addr} {ρ : List Addr} {H : Hp} {J : It} {vs : List V} {xs : List D} {G' : Hp → Prop} (w : Walk J vs.length G' (YPair (fun i => some (.int (i : Nat))) (fun i => vs[i]?))) (hG : ∀ ρ' H', ExH (g.hide l) ρ H ρ' H' → G' H') (r : RDs (g.hide l) ρ H vs xs) : WalkD (g.hide l) ρ H J (enumD xs) := by
  have ln : vs.length = (enumD xs).length := by simp [enumD, r.length]
  rw [ln] at w
  refine ⟨_, _, w, hG, fun i ρ' H' x H'' S hi e rs y => ?_⟩
  obtain ⟨T, v, u, rfl, hT, rfl, hv, hu⟩ := y
  have hi' : i < xs.length := by simpa [enumD] using hi
  obtain ⟨u', h3, h4⟩ := r.get (List.getElem?_eq_getElem hi')
  obtain rfl := Option.some.inj hv
  obtain rfl := Option.some.inj (hu.symm.trans h3)
  refine ⟨.tup [.int (i : Nat), xs[i]], by simp [enumD, List.getElem?_zipWith, List.getElem?_eq_getElem hi', hi'], Ex.new1 hT, rs.aside hT, .tup upd_same (rs.fresh hT) (.cons (.int _) (.cons ((h4.monoH e).mono (Ex.new1 hT)) .nil)), fun p o q => by rw [upd_ne (ne_of_none q hT)]; exact q⟩
theorem simi_enumA {ta : TA} {a : AM} (ha : SimA g E ta a) : SimI g E (iEnumA K ta) (itEnumA a) := by
  intro l σ H R ρ S env re rs p
  refine ha l σ H _ ρ S env re rs ?_
  unfold itEnumA at p
  cases e : a env S with
  | err x S2 => rw [e] at p; exact p
  | stuck => rw [e] at p; exact p
  | ok ds S1 =>
    rw [e] at p
    simp only [Res.bind] at p
    intro ρ1 H1 vs e1 rs1 rx
    split at p
    · rename_i q hq
      split at hq
      · rename_i xs
        cases hq
        obtain ⟨v, rfl, r⟩ := rx.one
        cases r with
        | @lst b vs1 _ h1 n1 q1 => exact ⟨b, rfl, .inl ⟨⟨vs1, SqL.of h1⟩, p ρ1 H1 _ e1 rs1 fun l' hl => walkd_enum walk_enum (fun ρ' H' ex => SqL.of (ex.keep _ _ (out_hide hl h1 n1) h1)) (rds_hide hl q1)⟩⟩
      · rename_i xs
        cases hq
        obtain ⟨v, rfl, r⟩ := rx.one
        cases r with
        | @tup b vs1 _ h1 n1 q1 => exact ⟨b, rfl, .inr ⟨⟨vs1, SqT.of h1⟩, p ρ1 H1 _ e1 rs1 fun l' hl => walkd_enum walk_enumT (fun ρ' H' ex => SqT.of (ex.keep _ _ (out_hide hl h1 n1) h1)) (rds_hide hl q1)⟩⟩
      · rename_i xs
        cases hq
        obtain ⟨v, rfl, r⟩ := rx.one
        cases r with
        | @tupX b o1 vs1 _ h1 hd1 n1 q1 => exact ⟨b, rfl, .inr ⟨⟨vs1, .inl (.inr ⟨o1, h1⟩)⟩, p ρ1 H1 _ e1 rs1 fun l' hl => walkd_enum walk_enumT (fun ρ' H' ex => (.inl (.inr ⟨o1, ex.keep _ _ (out_hide hl h1 n1) h1⟩))) (rds_hide hl q1)⟩⟩
      · cases hq
    · rename_i hq
      split at hq <;> cases hq
    · exact p.elim
end
end Lg

namespace Lg
open PySem PySem.Spec PyProof.Rows L2
def pdK : Key → PyData
  | .inl i => .int i
  | .inr s => .str s
def pdT (k : List Key) : PyData := .tuple (k.map pdK)
theorem dp_key {K : PySem.W.Frag} {H : Hp} : ∀ k : Key, Dp K H (kV k) (pdK k)
  | .inl i => .int i
  | .inr s => .str s
theorem dp_keys {K : PySem.W.Frag} {H : Hp} : ∀ k : List Key, DpAll K H (k.map kV) (k.map pdK)
  | [] => .nil
  | k :: ks => .cons (dp_key k) (dp_keys ks)
abbrev KA := List Key × Addr
def sortKA (bs : List KA) : List KA := bs.mergeSort (PySem.W.dataLe false fun b => pdT b.1)
def rSortDT : List V → Hp → VK → Prop := fun xs H Q => ∃ (a : Addr) (kvs : List (List Key × V)), xs = [.ref a] ∧ H a = some (.dT kvs) ∧ PySem.W.AllAlike (kvs.map fun kv => pdT kv.1) ∧ PySem.W.Sortable (kvs.map fun kv => pdT kv.1) ∧ (∀ kv ∈ kvs, (pdT kv.1).depth ≤ 40) ∧
  ∀ (p : Addr) (bs : List KA), bs.map (·.1) = kvs.map (·.1) → (∀ b ∈ bs, H b.2 = some (.tup (b.1.map kV))) → H p = none → Q (.ref p) (upd H p (.lst ((sortKA bs).map fun b => V.ref b.2)))
theorem paired_keys {P : Program} {w : World} {H : Hp} : ∀ {kvs : List (List Key × V)} {xs : List (List Key × Addr × Value)}, Paired (fun (p : List Key × V) (q : List Key × Addr × Value) => p.1 = q.1 ∧ H q.2.1 = some (.tup (p.1.map kV)) ∧ RelV p.2 q.2.2) kvs xs →
    (xs.map fun x => ((x.1, x.2.1) : KA)).map (·.1) = kvs.map (·.1) ∧ ∀ b ∈ xs.map (fun x => ((x.1, x.2.1) : KA)), H b.2 = some (.tup (b.1.map kV))
  | _, _, .nil => ⟨rfl, fun _ h => nomatch h⟩
  | _, _, .cons (a := p) (b := q) h t => by
    obtain ⟨h1, h2, _⟩ := h
    obtain ⟨t1, t2⟩ := paired_keys (P := P) (w := w) t
    refine ⟨by simp only [List.map_cons, t1, h1], fun b hb => ?_⟩
    rcases List.mem_cons.mp hb with rfl | hb
    · rw [← h1]; exact h2
    · exact t2 b hb
theorem each_refs {M : Value → KA → Prop} (h : ∀ b v, v = Value.ref b.2 → M v b) : ∀ {bs : List KA}, (∀ b ∈ bs, True) → PySem.W.EachIs (fun v (b : KA) => v = Value.ref b.2) (bs.map fun b => Value.ref b.2) bs
  | [], _ => .nil
  | b :: bs, g => .cons rfl (each_refs h (bs := bs) fun _ _ => trivial)
theorem each_eq : ∀ {bs : List KA} {us : List Value}, PySem.W.EachIs (fun v (b : KA) => v = Value.ref b.2) us bs → us = bs.map fun b => Value.ref b.2
  | [], _, .nil => rfl
  | b :: bs, _, .cons h t => by rw [h, each_eq t]; rfl
theorem vals_ka (bs : List KA) : Vals (bs.map fun b => V.ref b.2) (bs.map fun b => Value.ref b.2) := by
  induction bs with
  | nil => exact .nil
  | cons b bs ih => exact .cons rfl ih
theorem call_sortDT {X : Cx} (hcalm : X.calm = true) (hu : X.A.units + 64 < cLine) : CallR X (.builtin "sorted") rSortDT := by
  intro pins s σ H xs us Q I r h
  obtain ⟨a, kvs, rfl, ha, al, so, dep, q⟩ := h
  obtain ⟨u, rfl, ru⟩ := vals1 r
  cases (show u = Value.ref a from ru)
  obtain ⟨z, lo, xs, pr, o, es, ep, ho, hx, hd, he, _⟩ := (show ObjOk X.prog X.w H s.heap a (.dT kvs) from I.hok a _ ha)
  obtain ⟨k1, k2⟩ := paired_keys (P := X.prog) (w := X.w) pr
  generalize hbs : xs.map (fun x => ((x.1, x.2.1) : KA)) = bs at k1 k2
  have esz : es.size = bs.length := by rw [← Array.length_toList, he, List.length_map, ← hbs, List.length_map]
  have zb : bs.length ≤ sizeLine := by
    have := congrArg List.length k1
    rw [List.length_map, List.length_map] at this
    omega
  refine Calls.call_function_entry kind_sorted plain_sorted entry_sorted (args_sorted1 _) ?_
  unfold Builtin.«sorted»
  refine wpAny_bind (m := checkCount "sorted" 1 1 _) (wpAny_pure (wpAny_bind (PySem.W.kdu_collect (A := X.A.in1) (kdl_raw lo hx hd) (I.ok.hd hcalm) ho (by rw [esz]; exact zb) fun h1 t1 acc up1 it => ?_)))
  have ea : acc.toList = bs.map fun b => Value.ref b.2 := by
    refine List.ext_getElem? fun j => ?_
    rw [List.getElem?_map, Array.getElem?_toList]
    cases hj : acc[j]? with
    | none =>
      have h2 := Array.getElem?_eq_none_iff.mp hj
      rw [List.getElem?_eq_none (by rw [it.1, esz] at h2; exact h2)]
      rfl
    | some v =>
      obtain ⟨en, hen, hv⟩ := it.2 j v hj
      have e2 : es.toList[j]? = some en := by rw [Array.getElem?_toList]; exact hen
      rw [he, List.getElem?_map] at e2
      rw [← hbs, List.getElem?_map]
      cases hb : xs[j]? with
      | none => rw [hb] at e2; cases e2
      | some x =>
        rw [hb] at e2
        have e3 : entryOfKey (tupleKind (mixKind X.prog X.w)) x = en := Option.some.inj e2
        rw [hv, ← e3]
        rfl
  generalize hvs : bs.map (fun b => Value.ref b.2) = vs at ea
  have lv : vs.length = bs.length := by rw [← hvs, List.length_map]
  have I1 : Inv X pins σ H { s with heap := h1, toks := t1 } := I.kept up1
  refine wpAny_bind (wpAny_newList ?_ (by rw [ea, lv]; exact zb))
  rw [ea]
  generalize hL : h1.push (seqObj "list" vs.toArray 0) = h2
  have at2 : h2.get? h1.objs.size = some (seqObj "list" vs.toArray 0) := hL ▸ Heap.get?_push_size _ rfl
  have up2 : ∀ b ob, h1.get? b = some ob → h2.get? b = some ob := fun b ob e => hL ▸ Heap.get?_push_of_some _ e
  show wpAny _ _ _ _ _ { s with heap := h2, toks := t1 }
  have ne : ∀ b ob, h1.get? b = some ob → b ≠ h1.objs.size := fun b ob e => Nat.ne_of_lt (Heap.lt_size e)
  have rd : ∀ b ∈ bs, ∃ as, Reads (PySem.W.sortingHeap h2 h1.objs.size vs) (Value.ref b.2) (pdT b.1) as := fun b hb => by
    obtain ⟨as, rr⟩ := Dp.reads I1 (pdT b.1) (.ref b.2) _ (.tup (SqT.of (k2 b hb)) (dp_keys b.1)) rfl
    exact ⟨as, PyProof.Rows.Reads.keeps (fun c oc e => PySem.W.sortingHeap_old (ne c oc e) (up2 c oc e)) rr⟩
  have eR : PySem.W.EachIs (fun v (b : KA) => v = Value.ref b.2) vs bs := hvs ▸ each_refs (M := fun _ _ => True) (fun _ _ _ => trivial) fun _ _ => trivial
  have eD : PySem.W.EachIs (fun v (b : KA) => ∃ as, Reads (PySem.W.sortingHeap h2 h1.objs.size vs) v (pdT b.1) as) vs bs :=
    (PySem.W.each_mem eR).mono fun v b ⟨e, hb⟩ => by rw [e]; exact rd b hb
  have mk : ∀ {β : Type} (f : List Key → β), bs.map (fun b => f b.1) = kvs.map fun kv => f kv.1 := fun f => by
    have := congrArg (List.map f) k1
    rw [List.map_map, List.map_map] at this
    exact this
  have al2 : PySem.W.AllAlike (bs.map fun b => pdT b.1) := by rw [mk pdT]; exact al
  have so2 : PySem.W.Sortable (bs.map fun b => pdT b.1) := by rw [mk pdT]; exact so
  have room : ∀ b ∈ bs, X.A.units + 2 + (pdT b.1).depth < cLine := fun b hb => by
    have : pdT b.1 ∈ kvs.map fun kv => pdT kv.1 := by rw [← mk pdT]; exact List.mem_map.mpr ⟨b, hb, rfl⟩
    obtain ⟨kv, hkv, e⟩ := List.mem_map.mp this
    have := dep kv hkv
    rw [e] at this
    omega
  have S := PySem.W.SortsAt.data (prog := X.prog) (w := X.w) (A := X.A.in1.in1) (s := { s with heap := PySem.W.sortingHeap h2 h1.objs.size vs, toks := t1 }) (PySem.W.each_map (R := fun v d => ∃ as, Reads (PySem.W.sortingHeap h2 h1.objs.size vs) v d as) (fun b : KA => pdT b.1) eD) al2 so2 (PySem.W.bound_map (A := X.A.in1.in1) room)
  refine wpAny_bind (wpAny_holding (wpAny_call_entry slot_list_sort ⟨_, at2, rfl⟩ entry_list_sort (PySem.W.list_sort_vals (s := { s with heap := h2, toks := t1 }) at2 S (by rw [lv]; exact zb) ⟨_, rfl, ?_⟩) (args_list_sort _)))
  have out := each_eq (PySem.W.sortVals_data false eR eD al2)
  rw [out]
  obtain ⟨ep', at3⟩ := sortedHeap_at (vs := vs) (out := ((sortKA bs).map fun b => Value.ref b.2).toArray) at2
  have lenS : ((sortKA bs).map fun b => V.ref b.2).length ≤ sizeLine := by rw [List.length_map, sortKA, List.length_mergeSort]; exact zb
  refine wpAny_pure ⟨_, rfl, .ref h1.objs.size, upd H h1.objs.size (.lst ((sortKA bs).map fun b => V.ref b.2)), I1.laid (t' := t1) (fun b ob e => ?_) (Nat.le_refl _) (show ObjOk X.prog X.w _ _ _ (.lst ((sortKA bs).map fun b => V.ref b.2)) from ⟨lenS, _, ep', vals_ka _, at3⟩), rfl, q _ bs k1 k2 (I1.hok.fresh (Nat.le_refl _))⟩
  rw [sortedHeap_old (ne b ob e) (Heap.lt_size (up2 b ob e))]
  exact up2 b ob e
/-! ### as a plain function -/
def dKey : Key → D
  | .inl i => .int i
  | .inr s => .str s
def dTup (k : List Key) : D := .tup (k.map dKey)
def sortK (ks : List (List Key)) : List (List Key) := ks.mergeSort (PySem.W.dataLe false pdT)
def cSortDT (ds : List D) (S : Store) : Res D := match ds with
  | [.loc n] => match S[n]? with
    | some (.dT kvs) => if alikeB (kvs.map fun kv => pdT kv.1) = true ∧ sortB (kvs.map fun kv => pdT kv.1) = true ∧ (kvs.all fun kv => decide ((pdT kv.1).depth ≤ 40)) = true then .ok (.lst ((sortK (kvs.map (·.1))).map dTup)) S else .stuck
    | _ => .stuck
  | _ => .stuck
theorem rds_keys {g : G} {ρ : List Addr} {H : Hp} : ∀ k : List Key, RDs g ρ H (k.map kV) (k.map dKey)
  | [] => .nil
  | .inl i :: ks => .cons (.int i) (rds_keys ks)
  | .inr s :: ks => .cons (.str s) (rds_keys ks)
theorem rds_tups {g : G} {ρ : List Addr} {H : Hp} {S : Store} (rs : RS g ρ S H) : ∀ {bs : List KA}, (∀ b ∈ bs, H b.2 = some (.tup (b.1.map kV))) → RDs g ρ H (bs.map fun b => V.ref b.2) ((bs.map (·.1)).map dTup)
  | [], _ => .nil
  | b :: bs, h => .cons (.tup (h b List.mem_cons_self) (rs.tup (h b List.mem_cons_self)) (rds_keys b.1)) (rds_tups rs fun c hc => h c (List.mem_cons_of_mem _ hc))
theorem rkv_keys {κ : Type} {g : G} {ρ : List Addr} {H : Hp} : ∀ {xs : List (κ × V)} {ys : List (κ × D)}, RKV g ρ H xs ys → xs.map (·.1) = ys.map (·.1)
  | _, _, .nil => rfl
  | _, _, .cons h t => by
    rw [List.map_cons, List.map_cons, rkv_keys t]
    exact congrArg (· :: _) h.1
theorem sim_sortDT {g : G} {E : XK} : CallSim g E rSortDT cSortDT := by
  intro l xs H Q ρ S ds rx rs p
  unfold cSortDT at p
  split at p
  · rename_i n
    obtain ⟨v, rfl, r⟩ := rx.one
    split at p
    · rename_i kvs e
      split at p
      · rename_i hc
        cases r with
        | @loc _ a hn =>
          obtain ⟨kv, h1, h2⟩ := rs.ob n a _ hn e
          have ek := rkv_keys h2
          have mk : ∀ {β : Type} (f : List Key → β), kv.map (fun x => f x.1) = kvs.map fun x => f x.1 := fun f => by
            have := congrArg (List.map f) ek
            rw [List.map_map, List.map_map] at this
            exact this
          refine ⟨a, kv, rfl, h1, by rw [mk pdT]; exact alike_of hc.1, by rw [mk pdT]; exact sortable_of hc.2.1, fun x hx => ?_, fun q bs b1 b2 hq => ?_⟩
          · have : pdT x.1 ∈ kvs.map fun y => pdT y.1 := by rw [← mk pdT]; exact List.mem_map.mpr ⟨x, hx, rfl⟩
            obtain ⟨y, hy, ey⟩ := List.mem_map.mp this
            rw [← ey]
            exact of_decide_eq_true (List.all_eq_true.mp hc.2.2 y hy)
          · refine p ρ _ _ (Ex.new1 hq) (rs.aside hq) (.lst upd_same (rs.fresh hq) ?_)
            have e1 : (sortKA bs).map (·.1) = sortK (kvs.map (·.1)) := by
              rw [← ek, ← b1]
              exact List.map_mergeSort (f := fun b : KA => b.1) (fun _ _ _ _ => rfl)
            rw [← e1]
            exact (rds_tups rs fun b hb => b2 b (List.mem_mergeSort.mp hb)).mono (Ex.new1 hq)
      · exact p.elim
    · exact p.elim
  · exact p.elim
/-! ### list(text) -/
def rListS : List V → Hp → VK → Prop := fun xs H Q => ∃ z : PySem.Str, xs = [.str z] ∧ z.length ≤ sizeLine ∧ ∀ p, H p = none → Q (.ref p) (upd H p (.lst (z.cps.toList.map fun c => V.str ⟨#[c]⟩)))
theorem vals_signs {x : PySem.Str} {acc : Array Value} (h : ItemsOf (SignAt x) acc x.cps.size) : Vals (x.cps.toList.map fun c => V.str ⟨#[c]⟩) acc.toList := by
  have key : ∀ (cs : List Nat) (us : List Value), us.length = cs.length → (∀ (j : Nat) (v : Value), us[j]? = some v → ∃ c u, cs[j]? = some c ∧ v = .str ⟨#[c]⟩ u) → Vals (cs.map fun c => V.str ⟨#[c]⟩) us := by
    intro cs
    induction cs with
    | nil => intro us hl _; cases us with
      | nil => exact .nil
      | cons _ _ => simp at hl
    | cons c cs ih => intro us hl hv; cases us with
      | nil => simp at hl
      | cons u us =>
        obtain ⟨c', t, e1, e2⟩ := hv 0 u rfl
        have : c = c' := Option.some.inj e1
        subst this
        exact .cons ⟨t, e2⟩ (ih us (by simpa using hl) fun j v e => by
          obtain ⟨c', t, e1, e2⟩ := hv (j + 1) v (by simpa using e)
          exact ⟨c', t, by simpa using e1, e2⟩)
  refine key _ _ (by rw [Array.length_toList, h.1, Array.length_toList]) fun j v e => ?_
  obtain ⟨c, u, e1, e2⟩ := h.2 j v (by rw [← Array.getElem?_toList]; exact e)
  exact ⟨c, u, by rw [Array.getElem?_toList]; exact e1, e2⟩
theorem call_listS {X : Cx} (hcalm : X.calm = true) : CallR X (.type "list") rListS := by
  intro pins s σ H xs us Q I r h
  obtain ⟨z, rfl, hz, q⟩ := h
  obtain ⟨u, rfl, t, rfl⟩ := vals1 r
  refine call_list_str (I.ok.hd hcalm) z t (hn := hz) fun h' tk acc c up at_ it => ?_
  have len : (z.cps.toList.map fun c => V.str ⟨#[c]⟩).length ≤ sizeLine := by rw [List.length_map, Array.length_toList]; exact hz
  exact ⟨.ref s.heap.objs.size, _, I.laid (t' := tk) up (Nat.le_refl _) (show ObjOk X.prog X.w _ _ _ (.lst (z.cps.toList.map fun c => V.str ⟨#[c]⟩)) from ⟨len, acc.toList, c, vals_signs it, at_⟩), rfl, q _ (I.hok.fresh (Nat.le_refl _))⟩
def signsD (z : PySem.Str) : List D := z.cps.toList.map fun c => .str ⟨#[c]⟩
def cListS (ds : List D) (S : Store) : Res D := match ds with
  | [.str z] => if z.length ≤ sizeLine then .ok (.lst (signsD z)) S else .stuck
  | _ => .stuck
def cListSL (ds : List D) (S : Store) : Res D := match ds with
  | [.str z] => if z.length ≤ sizeLine then .ok (.loc S.length) (S ++ [.lst (signsD z)]) else .stuck
  | _ => .stuck
theorem rds_signs {g : G} {ρ : List Addr} {H : Hp} (cs : List Nat) : RDs g ρ H (cs.map fun c => V.str ⟨#[c]⟩) (cs.map fun c => D.str ⟨#[c]⟩) := by
  induction cs with
  | nil => exact .nil
  | cons c cs ih => exact .cons (.str _) ih
theorem sim_listS {g : G} {E : XK} : CallSim g E rListS cListS := by
  intro l xs H Q ρ S ds rx rs p
  unfold cListS at p
  split at p
  · rename_i z
    split at p
    · rename_i hz
      obtain ⟨v, rfl, r⟩ := rx.one
      cases r
      exact ⟨z, rfl, hz, fun q hq => p ρ _ _ (Ex.new1 hq) (rs.aside hq) (.lst upd_same (rs.fresh hq) (rds_signs _))⟩
    · exact p.elim
  · exact p.elim
theorem sim_listSL {g : G} {E : XK} : CallSim g E rListS cListSL := by
  intro l xs H Q ρ S ds rx rs p
  unfold cListSL at p
  split at p
  · rename_i z
    split at p
    · rename_i hz
      obtain ⟨v, rfl, r⟩ := rx.one
      cases r
      refine ⟨z, rfl, hz, fun q hq => ?_⟩
      obtain ⟨e3, rs3⟩ := rs.push (o := .lst _) (ob := .lst (signsD z)) hq fun ρ' H' e' q' => ⟨_, q', rds_signs _⟩
      exact p _ _ _ e3 rs3 (.loc (by rw [← rs.len]; simp))
    · exact p.elim
  · exact p.elim
end Lg

namespace Lg
open PySem PySem.Spec PyProof.Rows L2
def rSortT (K : PySem.W.Frag) : List V → Hp → VK → Prop := fun vs H Q => ∃ (a : Addr) (bs : List (V × PyData)), vs = [.ref a] ∧ SqT K H a (bs.map (·.1)) ∧ (∀ b ∈ bs, Dp K H b.1 b.2) ∧ PySem.W.AllAlike (bs.map (·.2)) ∧ PySem.W.Sortable (bs.map (·.2)) ∧ (∀ b ∈ bs, b.2.depth ≤ 40) ∧
  ∀ p, H p = none → Q (.ref p) (upd H p (.lst ((bs.mergeSort (PySem.W.dataLe false (·.2))).map (·.1))))
theorem call_sortT {X : Cx} (hu : X.A.units + 64 < cLine) : CallR X (.builtin "sorted") (rSortT X.K) := by
  intro pins s σ H xs us Q I r h
  obtain ⟨a, bs, rfl, hs, hd, hal, hk, hdep, q⟩ := h
  obtain ⟨its, rv, ht, hz⟩ := I.tuple hs
  rw [Vals.ref1 r]
  have hlen : bs.length = its.length := by have := rv.length; rwa [List.length_map] at this
  have hz' : bs.length ≤ sizeLine := by simpa using hz
  have e1 : PySem.W.EachIs (fun v (b : V × PyData) => RelV b.1 v) its bs := each_of (fun _ _ h => h) rv
  obtain ⟨o, ho, hcl, n, hda⟩ := ht
  refine Calls.call_function_entry kind_sorted plain_sorted entry_sorted (args_sorted1 _) ?_
  unfold Builtin.«sorted»
  refine wpAny_bind (m := checkCount "sorted" 1 1 _) (wpAny_pure (wpAny_bind (wpAny_collect_seq (A := X.A.in1) _ (.inr rfl) ho hcl hda (fun h1 up1 => ?_) (by simp; omega))))
  have I1 : Inv X pins σ H { s with heap := h1 } := I.kept (t' := s.toks) up1
  rw [List.toList_toArray]
  refine wpAny_bind (wpAny_newList ?_ (by omega))
  generalize hL : h1.push (seqObj "list" its.toArray 0) = h2
  have at2 : h2.get? h1.objs.size = some (seqObj "list" its.toArray 0) := hL ▸ Heap.get?_push_size _ rfl
  have up2 : ∀ b ob, h1.get? b = some ob → h2.get? b = some ob := fun b ob e => hL ▸ Heap.get?_push_of_some _ e
  show wpAny _ _ _ _ _ { s with heap := h2 }
  have ne : ∀ b ob, h1.get? b = some ob → b ≠ h1.objs.size := fun b ob e => Nat.ne_of_lt (Heap.lt_size e)
  have rd : ∀ {v : Value} {b : V × PyData}, b ∈ bs → RelV b.1 v → ∃ as, Reads (PySem.W.sortingHeap h2 h1.objs.size its) v b.2 as := fun {v b} hb rv => by
    obtain ⟨as, rr⟩ := Dp.reads I1 b.2 b.1 v (hd b hb) rv
    exact ⟨as, PyProof.Rows.Reads.keeps (fun c oc e => PySem.W.sortingHeap_old (ne c oc e) (up2 c oc e)) rr⟩
  have eD : PySem.W.EachIs (fun v (b : V × PyData) => ∃ as, Reads (PySem.W.sortingHeap h2 h1.objs.size its) v b.2 as) its bs := (PySem.W.each_mem e1).mono fun v b ⟨e, hb⟩ => rd hb e
  have S := PySem.W.SortsAt.data (prog := X.prog) (w := X.w) (A := X.A.in1.in1) (s := { s with heap := PySem.W.sortingHeap h2 h1.objs.size its }) (PySem.W.each_map (R := fun v d => ∃ as, Reads (PySem.W.sortingHeap h2 h1.objs.size its) v d as) (fun b : V × PyData => b.2) eD) hal hk (PySem.W.bound_map (A := X.A.in1.in1) (fun b hb => by have := hdep b hb; show X.A.units + 2 + b.2.depth < cLine; omega))
  refine wpAny_bind (wpAny_holding (wpAny_call_entry slot_list_sort ⟨_, at2, rfl⟩ entry_list_sort (PySem.W.list_sort_vals (s := { s with heap := h2 }) at2 S (by omega) ⟨_, rfl, ?_⟩) (args_list_sort _)))
  have out := PySem.W.sortVals_data false e1 eD hal
  generalize (PySem.W.sortVals (PySem.W.dataKind (PySem.W.sortingHeap h2 h1.objs.size its) (bs.map (·.2))) false its its) = ov at out
  obtain ⟨ep', at3⟩ := sortedHeap_at (vs := its) (out := ov.toArray) at2
  have lenS : ((bs.mergeSort (PySem.W.dataLe false (·.2))).map (·.1)).length ≤ sizeLine := by rw [List.length_map, List.length_mergeSort]; exact hz'
  refine wpAny_pure ⟨_, rfl, .ref h1.objs.size, upd H h1.objs.size (.lst ((bs.mergeSort (PySem.W.dataLe false (·.2))).map (·.1))), I1.laid (t' := s.toks) (fun b ob e => ?_) (Nat.le_refl _) (show ObjOk X.prog X.w _ _ _ (.lst _) from ⟨lenS, _, ep', each_back out, at3⟩), rfl, q _ (I1.hok.fresh (Nat.le_refl _))⟩
  rw [sortedHeap_old (ne b ob e) (Heap.lt_size (up2 b ob e))]
  exact up2 b ob e
/-- sorted of a list or of a tuple of data -/
def rSortA (K : PySem.W.Frag) : List V → Hp → VK → Prop := fun vs H Q => rSortD K vs H Q ∨ rSortT K vs H Q
theorem call_sortA {X : Cx} (hu : X.A.units + 64 < cLine) : CallR X (.builtin "sorted") (rSortA X.K) := by
  intro pins s σ H xs us Q I r h
  rcases h with h | h
  · exact call_sortD hu pins s σ H xs us Q I r h
  · exact call_sortT hu pins s σ H xs us Q I r h
def cSortA (ds : List D) (S : Store) : Res D := match ds with
  | [.tup xs] => match withPy xs with
    | some bs => if alikeB (bs.map (·.2)) = true ∧ sortB (bs.map (·.2)) = true ∧ (bs.all fun b => decide (b.2.depth ≤ 40)) = true then .ok (.lst (sortD bs)) S else .stuck
    | none => .stuck
  | [.tupX xs] => match withPy xs with
    | some bs => if alikeB (bs.map (·.2)) = true ∧ sortB (bs.map (·.2)) = true ∧ (bs.all fun b => decide (b.2.depth ≤ 40)) = true then .ok (.lst (sortD bs)) S else .stuck
    | none => .stuck
  | ds => cSort ds S
theorem sim_sortA {g : G} {E : XK} {K : PySem.W.Frag} : CallSim g E (rSortA K) cSortA := by
  intro l xs H Q ρ S ds rx rs p
  unfold cSortA at p
  split at p
  · rename_i ys
    split at p
    · rename_i bs eb
      split at p
      · rename_i hc
        obtain ⟨v, rfl, r⟩ := rx.one
        cases r with
        | @tup a vs _ h1 n1 r1 =>
          obtain ⟨ts, q1, q2, q3⟩ := with_py r1 eb
          have m2 : (ts.map fun t => (t.1, t.2.2)).map (·.2) = bs.map (·.2) := by rw [← q2]; simp [List.map_map, Function.comp_def]
          have m1 : (ts.map fun t => (t.1, t.2.2)).map (·.1) = vs := by rw [← q1]; simp [List.map_map, Function.comp_def]
          have s1 : (ts.map fun t => (t.1, t.2.2)).mergeSort (PySem.W.dataLe false (·.2)) = (ts.mergeSort fun a b => PySem.W.dataLe false (·.2) (a.1, a.2.2) (b.1, b.2.2)).map fun t => (t.1, t.2.2) := (List.map_mergeSort (f := fun t : V × D × PyData => (t.1, t.2.2)) (fun _ _ _ _ => rfl)).symm
          have s2 : bs.mergeSort (PySem.W.dataLe false (·.2)) = (ts.mergeSort fun a b => PySem.W.dataLe false (·.2) (a.1, a.2.2) (b.1, b.2.2)).map fun t => (t.2.1, t.2.2) := by
            rw [← q2]
            exact (List.map_mergeSort (f := fun t : V × D × PyData => (t.2.1, t.2.2)) (fun _ _ _ _ => rfl)).symm
          refine .inr ⟨a, ts.map fun t => (t.1, t.2.2), rfl, by rw [m1]; exact SqT.of h1, fun b hb => ?_, by rw [m2]; exact alike_of hc.1, by rw [m2]; exact sortable_of hc.2.1, fun b hb => ?_, fun q hq => ?_⟩
          · obtain ⟨t, ht, rfl⟩ := List.mem_map.mp hb
            exact dp_both (q3 t ht).1 _ (q3 t ht).2
          · obtain ⟨t, ht, rfl⟩ := List.mem_map.mp hb
            have : (t.2.1, t.2.2) ∈ bs := by rw [← q2]; exact List.mem_map.mpr ⟨t, ht, rfl⟩
            exact of_decide_eq_true (List.all_eq_true.mp hc.2.2 _ this)
          · refine p ρ _ _ (Ex.new1 hq) (rs.aside hq) (.lst upd_same (rs.fresh hq) ?_)
            unfold sortD
            rw [s1, s2]
            simp only [List.map_map, Function.comp_def]
            have hm : ∀ t ∈ (ts.mergeSort fun a b => PySem.W.dataLe false (·.2) (a.1, a.2.2) (b.1, b.2.2)), RD (g.hide l) ρ H t.1 t.2.1 := fun t ht => (q3 t (List.mem_mergeSort.mp ht)).1
            exact (rds_map hm).mono (Ex.new1 hq)
      · exact p.elim
    · exact p.elim
  · rename_i ys
    split at p
    · rename_i bs eb
      split at p
      · rename_i hc
        obtain ⟨v, rfl, r⟩ := rx.one
        cases r with
        | @tupX a o1 vs _ h1 hd1 n1 r1 =>
          obtain ⟨ts, q1, q2, q3⟩ := with_py r1 eb
          have m2 : (ts.map fun t => (t.1, t.2.2)).map (·.2) = bs.map (·.2) := by rw [← q2]; simp [List.map_map, Function.comp_def]
          have m1 : (ts.map fun t => (t.1, t.2.2)).map (·.1) = vs := by rw [← q1]; simp [List.map_map, Function.comp_def]
          have s1 : (ts.map fun t => (t.1, t.2.2)).mergeSort (PySem.W.dataLe false (·.2)) = (ts.mergeSort fun a b => PySem.W.dataLe false (·.2) (a.1, a.2.2) (b.1, b.2.2)).map fun t => (t.1, t.2.2) := (List.map_mergeSort (f := fun t : V × D × PyData => (t.1, t.2.2)) (fun _ _ _ _ => rfl)).symm
          have s2 : bs.mergeSort (PySem.W.dataLe false (·.2)) = (ts.mergeSort fun a b => PySem.W.dataLe false (·.2) (a.1, a.2.2) (b.1, b.2.2)).map fun t => (t.2.1, t.2.2) := by
            rw [← q2]
            exact (List.map_mergeSort (f := fun t : V × D × PyData => (t.2.1, t.2.2)) (fun _ _ _ _ => rfl)).symm
          refine .inr ⟨a, ts.map fun t => (t.1, t.2.2), rfl, by rw [m1]; exact .inl (.inr ⟨o1, h1⟩), fun b hb => ?_, by rw [m2]; exact alike_of hc.1, by rw [m2]; exact sortable_of hc.2.1, fun b hb => ?_, fun q hq => ?_⟩
          · obtain ⟨t, ht, rfl⟩ := List.mem_map.mp hb
            exact dp_both (q3 t ht).1 _ (q3 t ht).2
          · obtain ⟨t, ht, rfl⟩ := List.mem_map.mp hb
            have : (t.2.1, t.2.2) ∈ bs := by rw [← q2]; exact List.mem_map.mpr ⟨t, ht, rfl⟩
            exact of_decide_eq_true (List.all_eq_true.mp hc.2.2 _ this)
          · refine p ρ _ _ (Ex.new1 hq) (rs.aside hq) (.lst upd_same (rs.fresh hq) ?_)
            unfold sortD
            rw [s1, s2]
            simp only [List.map_map, Function.comp_def]
            have hm : ∀ t ∈ (ts.mergeSort fun a b => PySem.W.dataLe false (·.2) (a.1, a.2.2) (b.1, b.2.2)), RD (g.hide l) ρ H t.1 t.2.1 := fun t ht => (q3 t (List.mem_mergeSort.mp ht)).1
            exact (rds_map hm).mono (Ex.new1 hq)
      · exact p.elim
    · exact p.elim
  · exact .inl (sim_sort l xs H Q ρ S _ rx rs p)
end Lg

namespace Lg
open PySem PySem.Spec L2
section
variable {P : Program} {w : World} {K : PySem.W.Frag} {mg : PySem.Str → Option Value} {base : Heap} {g : G}
/-- a def of the text with defaults -/
abbrev FunF (K : PySem.W.Frag) (x qual : PySem.Str) (st : Stmt) (dvs : List V) (f : Addr) (fd : FuncData) : Prop := FunD K x qual (defArgs st) (defBody st) (defScope st) dvs [] f fd
theorem fn_simD {x qual : PySem.Str} {st : Stmt} {f : Addr} {fd : FuncData} {dvs : List V} {N ps : List PySem.Str} {k : Nat} {m : SM} (F : FunF K x qual st dvs f fd) (Sc : FnScope N ps (defScope st))
    (hb : ∀ (cdv : Value) (A : Around) (outer : List Env) (s : Shared) (H : Hp) (E : XK), Room k (A.deeper (PyProof.Rows.envOfC qual (defScope st) s.heap.objs.size f cdv)) →
      ∃ t, PSs (cxOf (L2.CX P w) P w K mg base N qual (defScope st) f cdv A outer s H E) (defBody st) t ∧ SimS g E t m) :
    FnOk P w K mg base (L2.CX P w) (k + 1) f fd ps (spOf g ps.length (mDef N.length ps.length m)) := by
  refine F.ok Sc (fun vs H Q E ⟨l, ρ, S, ds, hl, _⟩ => hl) fun cdv A outer s H vs Q E hr ⟨l, ρ, S, ds, hl, rd, rs, p⟩ => ?_
  obtain ⟨t, ht, hs⟩ := hb cdv A outer s H E hr
  refine ⟨t, ht, hs l _ _ H ρ S (startE N.length ds) (re_start rd) rs ?_⟩
  unfold mDef at p
  rw [if_pos (by rw [← rd.length]; exact hl)] at p
  cases e : m (startE N.length ds) S <;> rw [e] at p
  · exact fun ρ' H' σ' e1 rs1 re1 => p ρ' H' .non e1 rs1 .non
  · exact p
  · exact p.elim
  · exact p.elim
  · exact p
  · exact p.elim
theorem funF_mk {x qual : PySem.Str} {st : Stmt} {f T : Addr} {oc oT : Value} {od an oD : Option Addr} {osl sT : Array (Option Value)} {kV doc pm cdv ct : Value} {n : Nat} {dvs : List V} {its : List Value}
    (l : K.lookup f = some ⟨oc, od, .func (PySem.W.fnOf x qual (defArgs st) (defBody st) (defScope st) (.ref T) kV doc pm an cdv ct), osl⟩) (lT : K.lookup T = some ⟨oT, oD, .seq its.toArray n, sT⟩) (hv : Vals dvs its) (ne : dvs ≠ [])
    (c : PySem.W.codeIn K cdv qual = true) (k : PySem.W.keepIn K (.ref f) = true) : FunF K x qual st dvs f (PySem.W.fnOf x qual (defArgs st) (defBody st) (defScope st) (.ref T) kV doc pm an cdv ct) :=
  ⟨⟨oc, od, .ref T, kV, doc, pm, an, cdv, ct, osl, rfl, l, c, .inr ⟨ne, T, _, its, n, rfl, lT, rfl, hv⟩, .inl rfl⟩, k⟩
end
end Lg

set_option exponentiation.threshold 600
/-! LgEv: how the plain functions are evaluated; for the facts of any law. -/
namespace Lg
open PySem L2
/-! ### evaluating -/
theorem op_ok {f : D → D → Store → Res D} {a b : EM} {env : En} {S S1 S2 : Store} {x y : D} (ha : a env S = .ok x S1) (hb : b env S1 = .ok y S2) : mOp f a b env S = f x y S2 := by
  show (a env S).bind (fun x S1 => (b env S1).bind fun y S2 => f x y S2) = _
  rw [ha]
  show (b env S1).bind _ = _
  rw [hb]
  rfl
theorem cons_ok {a : EM} {b : AM} {env : En} {S S1 S2 : Store} {x : D} {xs : List D} (ha : a env S = .ok x S1) (hb : b env S1 = .ok xs S2) : mCons a b env S = .ok (x :: xs) S2 := by
  show (a env S).bind (fun x S1 => (b env S1).bind fun y S2 => .ok (x :: y) S2) = _
  rw [ha]
  show (b env S1).bind _ = _
  rw [hb]
  rfl
theorem call_ok {f : List D → Store → Res D} {a : AM} {env : En} {S S1 : Store} {xs : List D} (ha : a env S = .ok xs S1) : mCall f a env S = f xs S1 := by
  show (a env S).bind f = _
  rw [ha]
  rfl
theorem val_ok {a : EM} {env : En} {S S1 : Store} {b : Bool} (ha : a env S = .ok (.bl b) S1) : bVal a env S = .ok b S1 := by
  unfold bVal
  rw [ha]
  rfl
theorem sq {a b : SM} {env env' : En} {S S' : Store} (h : a env S = .next env' S') : sSeq a b env S = b env' S' := by unfold sSeq; rw [h]; rfl
theorem sqr {a b : SM} {env : En} {S S' : Store} {d : D} (h : a env S = .ret d S') : sSeq a b env S = .ret d S' := by unfold sSeq; rw [h]; rfl
theorem asg_ok {a : EM} {i : Nat} {env : En} {S S' : Store} {d : D} (h : a env S = .ok d S') : sAsg a (gmName i) env S = .next (env.set i (some d)) S' := by unfold sAsg; rw [h]; rfl
theorem if_ok {c : BM} {a b : SM} {env : En} {S S' : Store} {k : Bool} (h : c env S = .ok k S') : sIf c a b env S = if k = true then a env S' else b env S' := by unfold sIf; rw [h]; rfl
theorem or_no {a b : BM} {env : En} {S S1 : Store} (h : a env S = .ok false S1) : bOr a b env S = b env S1 := by unfold bOr; rw [h]; rfl
theorem and_v {a b : BM} {env : En} {S S1 : Store} {k : Bool} (h : a env S = .ok k S1) : bAnd a b env S = if k = true then b env S1 else .ok false S1 := by unfold bAnd; rw [h]; rfl
theorem lst_ok {a : AM} {env : En} {S S' : Store} {ds : List D} (h : a env S = .ok ds S') (hl : ds.length ≤ sizeLine) : mLst a env S = .ok (.lst ds) S' := by
  unfold mLst; rw [h]; exact if_pos hl
theorem tup_ok {a : AM} {env : En} {S S' : Store} {ds : List D} (h : a env S = .ok ds S') (hl : ds.length ≤ sizeLine) : mTup a env S = .ok (.tup ds) S' := by
  unfold mTup; rw [h]; exact if_pos hl
theorem var_ok {i : Nat} {env : En} {S : Store} {d : D} (h : env[i]? = some (some d)) : mVar i env S = .ok d S := by unfold mVar; rw [h]
theorem ret_ok {a : EM} {env : En} {S S' : Store} {d : D} (h : a env S = .ok d S') : sRet a env S = .ret d S' := by unfold sRet; rw [h]; rfl
theorem eqI (i j : Int) (S : Store) : dEqA (.int i) (.int j) S = .ok (.bl (decide (i = j))) S := by
  show dEq (.int i) (.int j) S = _
  have h1 : SeqAt.shaped (.int i) = true := rfl
  have h2 : SeqAt.shaped (.int j) = true := rfl
  simp [dEq, dEqB, pyOf, D.py, h1, h2, PyData.eqv]
  by_cases q : i = j <;> simp [q]
/-- all of what a def says of the parts of a tuple -/
theorem neI (i j : Int) (S : Store) : dNeA (.int i) (.int j) S = .ok (.bl (!decide (i = j))) S := by
  show dNe (.int i) (.int j) S = _
  have h1 : SeqAt.shaped (.int i) = true := rfl
  have h2 : SeqAt.shaped (.int j) = true := rfl
  simp [dNe, dEqB, pyOf, D.py, h1, h2, PyData.eqv]
  by_cases q : i = j <;> simp [q]
theorem opv {f : D → D → Store → Res D} {a b : EM} {env : En} {S S1 S2 : Store} {x y : D} {r : Res D} (ha : a env S = .ok x S1) (hb : b env S1 = .ok y S2) (h : f x y S2 = r) : mOp f a b env S = r := (op_ok ha hb).trans h
theorem c_ok {d : D} {env : En} {S : Store} : mC d env S = .ok d S := rfl
theorem nil_ok {env : En} {S : Store} : mNil env S = .ok [] S := rfl
theorem add_i {i j : Int} {S : Store} : dAdd (.int i) (.int j) S = .ok (.int (i + j)) S := rfl
theorem sub_i {i j : Int} {S : Store} : dSub (.int i) (.int j) S = .ok (.int (i - j)) S := rfl
theorem mul_i {i j : Int} {S : Store} (c : CMulW i j) : dMul (.int i) (.int j) S = .ok (.int (i * j)) S := by simp [dInt, c]
theorem div_i {i j : Int} {S : Store} (c : CDivW i j) : dDiv (.int i) (.int j) S = .ok (.int (i / j)) S := by simp [dInt, c]
theorem mod_i {i j : Int} {S : Store} (c : 0 < j) : dMod (.int i) (.int j) S = .ok (.int (i % j)) S := by simp [dInt, c]
theorem pow_i {i j : Int} {S : Store} (c : CPow i j) : dPow (.int i) (.int j) S = .ok (.int (i ^ j.toNat)) S := by simp [dInt, c]
/-! ### numbers -/
theorem lg {x : Int} {k : Nat} (h0 : 0 ≤ x) (h : x < 2 ^ k) (hk : 0 < k) : x.natAbs.log2 < k := by
  have h1 : x.natAbs < 2 ^ k := by
    have : (x.natAbs : Int) = x := Int.natAbs_of_nonneg h0
    have h2 : ((x.natAbs : Nat) : Int) < ((2 ^ k : Nat) : Int) := by rw [this]; simpa using h
    exact_mod_cast h2
  by_cases z : x.natAbs = 0
  · rw [z]; simpa using hk
  · exact (Nat.log2_lt z).mpr h1
theorem cm {i j : Int} (hi0 : 0 ≤ i) (hi : i < 2 ^ 500) (hj0 : 0 ≤ j) (hj : j < 2 ^ 500) : CMulW i j := by
  have a := lg hi0 hi (by decide)
  have b := lg hj0 hj (by decide)
  unfold CMulW
  omega
theorem cd {i j : Int} (h0 : 0 < j) (h : j < 2 ^ 500) : CDivW i j := ⟨h0, Nat.lt_of_lt_of_le (lg (Int.le_of_lt h0) h (by decide)) (by decide)⟩
theorem for_step {g : GM} {b : SM} {d : D} {r : List D} {env env1 env2 : En} {S S1 S2 : Store} (hg : g d env S = .ok env1 S1) (hb : b env1 S1 = .next env2 S2) : sFor g b (d :: r) env S = sFor g b r env2 S2 := by
  simp only [sFor, hg, Res.bindS, hb]
theorem lc_step {g : GM} {e : EM} {d x : D} {r acc : List D} {env env1 : En} {S S3 : Store} (hg : g d env S = .ok env1 S) (he : e env1 S = .ok x S3) (hl : acc.length < sizeLine) : mLcGo g bYes e env (d :: r) acc S = mLcGo g bYes e env r (acc ++ [x]) S3 := by
  simp only [mLcGo, hg, bYes, he, hl, if_true]
theorem lc_map {g : GM} {e : EM} {env : En} {f : D → D} {S : Store} : ∀ (ds acc : List D), (∀ d ∈ ds, ∃ env1, g d env S = .ok env1 S ∧ e env1 S = .ok (f d) S) → acc.length + ds.length ≤ sizeLine → mLcGo g bYes e env ds acc S = .ok (acc ++ ds.map f) S
  | [], acc, _, _ => by simp [mLcGo]
  | d :: ds, acc, h, hl => by
    obtain ⟨env1, h1, h2⟩ := h d List.mem_cons_self
    simp only [List.length_cons] at hl
    simp only [mLcGo, h1, h2, bYes]
    rw [if_pos (by omega), lc_map ds (acc ++ [f d]) (fun d hd => h d (List.mem_cons_of_mem _ hd)) (by simp; omega)]
    simp
theorem bls_map {α : Type} (f : α → Bool) : ∀ xs : List α, bls (xs.map fun x => D.bl (f x)) = some (xs.map f)
  | [] => rfl
  | x :: xs => by simp [bls, bls_map f xs]
theorem def_ret {n np : Nat} {a : EM} {ds : List D} {S S' : Store} {d : D} (hl : ds.length = np) (h : a (startE n ds) S = .ok d S') : mDef n np (sRet a) ds S = .ok d S' := by
  unfold mDef
  rw [if_pos hl, ret_ok h]
theorem def_run {n np : Nat} {m : SM} {ds : List D} {S S' : Store} {d : D} (hl : ds.length = np) (h : m (startE n ds) S = .ret d S') : mDef n np m ds S = .ok d S' := by
  unfold mDef
  rw [if_pos hl, h]
theorem no_if {c : BM} {a b : SM} {env : En} {S S' : Store} (h : c env S = .ok false S') (hb : b env S' = .next env S') : sIf c a b env S = .next env S' := by rw [if_ok h, if_neg (by decide), hb]
theorem ifn {c : BM} {a : SM} {env : En} {S S' : Store} (h : c env S = .ok false S') : sIf c a sNext env S = .next env S' := no_if h rfl
theorem not_v {a : BM} {env : En} {S S' : Store} {k : Bool} (h : a env S = .ok k S') : bNot a env S = .ok (!k) S' := by unfold bNot; rw [h]; rfl
theorem ife {c : BM} {a b : EM} {env : En} {S S' : Store} {k : Bool} (h : c env S = .ok k S') : mIf c a b env S = if k = true then a env S' else b env S' := by unfold mIf; rw [h]; rfl
theorem andV {a b : EM} {env : En} {S S' : Store} {k : Bool} (h : a env S = .ok (.bl k) S') : mAndV a b env S = if k = true then b env S' else .ok (.bl false) S' := by unfold mAndV; rw [h]; rfl
theorem eqS (i j : PySem.Str) (S : Store) : dEqA (.str i) (.str j) S = .ok (.bl (decide (i = j))) S := rfl
theorem neS (i j : PySem.Str) (S : Store) : dNeA (.str i) (.str j) S = .ok (.bl (!decide (i = j))) S := rfl
def isNon : D → Bool
  | .non => true
  | _ => false
theorem isn (d : D) (S : Store) : dIsN d .non S = .ok (.bl (isNon d)) S := by cases d <;> rfl
/-- an object stands in a store that grows -/
theorem at_app {S : Store} {n : Nat} {o : Ob} (X : Store) (h : S[n]? = some o) : (S ++ X)[n]? = some o := by
  have hl : n < S.length := (List.getElem?_eq_some_iff.mp h).1
  rw [List.getElem?_append_left hl]; exact h
/-- comprehensions: the test and the element may let the store grow -/
theorem lc_go {α : Type} {g : GM} {t : BM} {e : EM} {env : En} (P : Store → Prop) (hP : ∀ S X, P S → P (S ++ X)) (inj : α → D) (p : α → Bool) (f : α → D) : ∀ (xs : List α) (acc : List D) (S : Store), P S →
    (∀ x ∈ xs, ∀ S, P S → ∃ env1 X, g (inj x) env S = .ok env1 S ∧ t env1 S = .ok (p x) (S ++ X) ∧ (p x = true → ∃ Y, e env1 (S ++ X) = .ok (f x) (S ++ X ++ Y))) → acc.length + xs.length ≤ sizeLine →
    ∃ X, mLcGo g t e env (xs.map inj) acc S = .ok (acc ++ (xs.filter p).map f) (S ++ X)
  | [], acc, S, _, _, _ => ⟨[], by simp [mLcGo]⟩
  | x :: xs, acc, S, hS, h, hl => by
    obtain ⟨env1, X, h1, h2, h3⟩ := h x List.mem_cons_self S hS
    rw [List.length_cons] at hl
    cases hp : p x with
    | true =>
      obtain ⟨Y, h4⟩ := h3 hp
      obtain ⟨Z, h5⟩ := lc_go P hP inj p f xs (acc ++ [f x]) (S ++ X ++ Y) (hP _ _ (hP _ _ hS)) (fun x hx => h x (List.mem_cons_of_mem _ hx)) (by simp; omega)
      refine ⟨X ++ Y ++ Z, ?_⟩
      simp only [List.map_cons, mLcGo, h1, h2, h4, hp]
      rw [if_pos (by omega), h5]
      simp [hp]
    | false =>
      obtain ⟨Z, h5⟩ := lc_go P hP inj p f xs acc (S ++ X) (hP _ _ hS) (fun x hx => h x (List.mem_cons_of_mem _ hx)) (by omega)
      refine ⟨X ++ Z, ?_⟩
      simp only [List.map_cons, mLcGo, h1, h2, hp]
      rw [h5]
      simp [hp]
theorem lc_of {α : Type} {it : IM} {g : GM} {t : BM} {e : EM} {vs : List Nat} {env : En} {S S1 : Store} (P : Store → Prop) (hP : ∀ S X, P S → P (S ++ X)) (inj : α → D) (p : α → Bool) (f : α → D) {xs : List α} (hi : it env S = .ok (xs.map inj) S1) (hS : P S1)
    (h : ∀ x ∈ xs, ∀ S, P S → ∃ env1 X, g (inj x) (wipeE env vs) S = .ok env1 S ∧ t env1 S = .ok (p x) (S ++ X) ∧ (p x = true → ∃ Y, e env1 (S ++ X) = .ok (f x) (S ++ X ++ Y))) (hl : xs.length ≤ sizeLine) :
    ∃ X, mLc it g t e vs env S = .ok (.lst ((xs.filter p).map f)) (S1 ++ X) := by
  obtain ⟨X, h1⟩ := lc_go P hP inj p f xs [] S1 hS h (by simpa using hl)
  refine ⟨X, ?_⟩
  unfold mLc
  rw [hi]
  simp only [Res.bind, h1, List.nil_append]
/-- no test, the store grows -/
theorem lc_yes {α : Type} {it : IM} {g : GM} {e : EM} {vs : List Nat} {env : En} {S S1 : Store} (P : Store → Prop) (hP : ∀ S X, P S → P (S ++ X)) (inj : α → D) (f : α → D) {xs : List α} (hi : it env S = .ok (xs.map inj) S1) (hS : P S1)
    (h : ∀ x ∈ xs, ∀ S, P S → ∃ env1, g (inj x) (wipeE env vs) S = .ok env1 S ∧ ∃ Y, e env1 S = .ok (f x) (S ++ Y)) (hl : xs.length ≤ sizeLine) :
    ∃ X, mLc it g bYes e vs env S = .ok (.lst (xs.map f)) (S1 ++ X) := by
  obtain ⟨X, h1⟩ := lc_of (t := bYes) (e := e) P hP inj (fun _ => true) f hi hS (fun x hx S hS => by
    obtain ⟨env1, q1, Y, q2⟩ := h x hx S hS
    exact ⟨env1, [], q1, by simp [bYes], fun _ => ⟨Y, by simpa using q2⟩⟩) hl
  refine ⟨X, ?_⟩
  rw [h1, List.filter_eq_self.mpr fun _ _ => rfl]
/-- nothing grows -/
theorem lc_same {α : Type} {it : IM} {g : GM} {t : BM} {e : EM} {vs : List Nat} {env : En} {S S1 : Store} (inj : α → D) (p : α → Bool) (f : α → D) {xs : List α} (hi : it env S = .ok (xs.map inj) S1)
    (h : ∀ x ∈ xs, ∃ env1, g (inj x) (wipeE env vs) S1 = .ok env1 S1 ∧ t env1 S1 = .ok (p x) S1 ∧ (p x = true → e env1 S1 = .ok (f x) S1)) (hl : xs.length ≤ sizeLine) :
    mLc it g t e vs env S = .ok (.lst ((xs.filter p).map f)) S1 := by
  have go : ∀ (xs : List α) (acc : List D), (∀ x ∈ xs, ∃ env1, g (inj x) (wipeE env vs) S1 = .ok env1 S1 ∧ t env1 S1 = .ok (p x) S1 ∧ (p x = true → e env1 S1 = .ok (f x) S1)) → acc.length + xs.length ≤ sizeLine → mLcGo g t e (wipeE env vs) (xs.map inj) acc S1 = .ok (acc ++ (xs.filter p).map f) S1 := by
    intro xs
    induction xs with
    | nil => intro acc _ _; simp [mLcGo]
    | cons x xs ih =>
      intro acc h hl
      obtain ⟨env1, h1, h2, h3⟩ := h x List.mem_cons_self
      rw [List.length_cons] at hl
      cases hp : p x with
      | true =>
        simp only [List.map_cons, mLcGo, h1, h2, h3 hp, hp]
        rw [if_pos (by omega), ih (acc ++ [f x]) (fun x hx => h x (List.mem_cons_of_mem _ hx)) (by simp; omega)]
        simp [hp]
      | false =>
        simp only [List.map_cons, mLcGo, h1, h2, hp]
        rw [ih acc (fun x hx => h x (List.mem_cons_of_mem _ hx)) (by omega)]
        simp [hp]
  unfold mLc
  rw [hi]
  simp only [Res.bind, go xs [] h (by simpa using hl), List.nil_append]
theorem lc_sameY {α : Type} {it : IM} {g : GM} {e : EM} {vs : List Nat} {env : En} {S S1 : Store} (inj : α → D) (f : α → D) {xs : List α} (hi : it env S = .ok (xs.map inj) S1)
    (h : ∀ x ∈ xs, ∃ env1, g (inj x) (wipeE env vs) S1 = .ok env1 S1 ∧ e env1 S1 = .ok (f x) S1) (hl : xs.length ≤ sizeLine) : mLc it g bYes e vs env S = .ok (.lst (xs.map f)) S1 := by
  have := lc_same (t := bYes) (e := e) inj (fun _ => true) f hi (fun x hx => by
    obtain ⟨env1, q1, q2⟩ := h x hx
    exact ⟨env1, q1, rfl, fun _ => q2⟩) hl
  rw [this, List.filter_eq_self.mpr fun _ _ => rfl]
theorem bls_bl : ∀ bs : List Bool, bls (bs.map D.bl) = some bs
  | [] => rfl
  | b :: bs => by simp [bls, bls_bl bs]
theorem any_ok {a : EM} {env : En} {S S' : Store} {bs : List Bool} (h : a env S = .ok (.lst (bs.map D.bl)) S') : mCall cAny (mCons a mNil) env S = .ok (.bl (bs.any id)) S' := by
  rw [call_ok (cons_ok h nil_ok)]
  simp [cAny, asL, bls_bl]
theorem all_ok {a : EM} {env : En} {S S' : Store} {bs : List Bool} (h : a env S = .ok (.lst (bs.map D.bl)) S') : mCall cAll (mCons a mNil) env S = .ok (.bl (bs.all id)) S' := by
  rw [call_ok (cons_ok h nil_ok)]
  simp [cAll, asL, bls_bl]
theorem seq_lst {a : EM} {env : En} {S S' : Store} {ds : List D} (h : a env S = .ok (.lst ds) S') : itSeq a env S = .ok ds S' := by unfold itSeq; rw [h]; rfl
theorem seq_tup {a : EM} {env : En} {S S' : Store} {ds : List D} (h : a env S = .ok (.tup ds) S') : itSeq a env S = .ok ds S' := by unfold itSeq; rw [h]; rfl
theorem seq_tupX {a : EM} {env : En} {S S' : Store} {ds : List D} (h : a env S = .ok (.tupX ds) S') : itSeq a env S = .ok ds S' := by unfold itSeq; rw [h]; rfl
theorem tuple_lst {a : EM} {env : En} {S S' : Store} {ds : List D} (h : a env S = .ok (.lst ds) S') : mCall cTuple (mCons a mNil) env S = .ok (.tup ds) S' := by
  rw [call_ok (cons_ok h nil_ok)]; rfl
def tx (a : Nat) : PySem.Str := PySem.Str.ofString (toString ((a : Nat) : Int))
theorem lgN {x k : Nat} (h : x < 2 ^ k) (hk : 0 < k) : ((x : Nat) : Int).natAbs.log2 < k := by
  show Nat.log2 x < k
  by_cases z : x = 0
  · subst z; simpa using hk
  · exact (Nat.log2_lt z).mpr h
theorem tx_len {a : Nat} (h : a < 2 ^ 500) : (tx a).length ≤ 501 := by
  have e := int_text_length_le (a := (a : Int)) (k := 500) (by decide) (lgN h (by decide))
  unfold tx
  rw [ofString_length]
  exact e
theorem str_ok {a : Nat} {env : En} {S : Store} {e : EM} {S' : Store} (h : e env S = .ok (.int (a : Nat)) S') (ha : a < 2 ^ 500) : mCall cStr (mCons e mNil) env S = .ok (.str (tx a)) S' := by
  rw [call_ok (cons_ok h nil_ok)]
  exact if_pos (Nat.lt_of_lt_of_le (lgN ha (by decide)) (by decide))
theorem fmt_ok {a : Nat} {env : En} {S : Store} {e : EM} {S' : Store} (h : e env S = .ok (.int (a : Nat)) S') (ha : a < 2 ^ 500) : mFmt e env S = .ok (.str (tx a)) S' := by
  unfold mFmt
  rw [h]
  exact if_pos (Nat.lt_of_lt_of_le (lgN ha (by decide)) (by decide))
theorem js_ok {env : En} {S : Store} {e : EM} {es : List EM} {acc y : PySem.Str} {S' : Store} {r : Res D} (h : e env S = .ok (.str y) S') (hl : (acc ++ y).length ≤ sizeLine) (q : mJs es (acc ++ y) env S' = r) : mJs (e :: es) acc env S = r := by
  show (e env S).bind _ = _
  rw [h]
  show (if (acc ++ y).length ≤ sizeLine then mJs es (acc ++ y) env S' else .stuck) = _
  rw [if_pos hl, q]
theorem emp_app (y : PySem.Str) : PySem.Str.empty ++ y = y := Str.append_left_empty rfl
theorem isi_int {e : EM} {env : En} {S S' : Store} {i : Int} (h : e env S = .ok (.int i) S') : bVal (mIsi "bool" e) env S = .ok false S' := by
  refine val_ok ?_
  have k : kitB "int" "bool" = some false := by decide +kernel
  unfold mIsi
  rw [h]
  simp [Res.bind, kindD, k]
/-! ### data of texts -/
def Az (s : PySem.Str) : Prop := ∀ c ∈ s.cps.toList, 97 ≤ c ∧ c ≤ 122
def prD (p : PySem.Str × PySem.Str) : D := .tup [.str p.1, .str p.2]
def prP (p : PySem.Str × PySem.Str) : PyData := .tuple [.str p.1, .str p.2]
def Az2 (p : PySem.Str × PySem.Str) : Prop := Az p.1 ∧ Az p.2
theorem lay_str {s : PySem.Str} (h : Az s) : PyData.canLay0 (.str s) = true := by
  unfold PyData.canLay0 PyData.strOk
  rw [Array.all_eq_true_iff_forall_mem]
  intro c hc
  have := h c (Array.mem_toList_iff.mpr hc)
  simp; omega
theorem lay_pr {p : PySem.Str × PySem.Str} (h : Az2 p) : PyData.canLay0 (prP p) = true := by
  simp [prP, PyData.canLay0, PyData.canLayAll0]
  exact ⟨by simpa [PyData.canLay0] using lay_str h.1, by simpa [PyData.canLay0] using lay_str h.2⟩
theorem lay_map {α : Type} {f : α → PyData} : ∀ l : List α, (∀ x ∈ l, PyData.canLay0 (f x) = true) → PyData.canLayAll0 (l.map f) = true
  | [], _ => rfl
  | x :: l, h => by
    rw [List.map_cons, PyData.canLayAll0, h x List.mem_cons_self, lay_map l fun y hy => h y (List.mem_cons_of_mem _ hy)]; rfl
theorem dep_map {α : Type} {f : α → PyData} {n : Nat} : ∀ l : List α, (∀ x ∈ l, (f x).depth ≤ n) → PyData.depthAll (l.map f) ≤ n
  | [], _ => Nat.zero_le _
  | x :: l, h => by
    rw [List.map_cons, PyData.depthAll]
    exact Nat.max_le.mpr ⟨h x List.mem_cons_self, dep_map l fun y hy => h y (List.mem_cons_of_mem _ hy)⟩
theorem py_map {α : Type} {d : α → D} {f : α → PyData} : ∀ l : List α, (∀ x ∈ l, (d x).py = some (f x)) → pys (l.map d) = some (l.map f)
  | [], _ => rfl
  | x :: l, h => by
    rw [List.map_cons, pys, h x List.mem_cons_self, py_map l fun y hy => h y (List.mem_cons_of_mem _ hy)]; rfl
theorem py_pr (p : PySem.Str × PySem.Str) : (prD p).py = some (prP p) := rfl
theorem dep_pr (p : PySem.Str × PySem.Str) : (prP p).depth ≤ 1 := by simp [prP, PyData.depth, PyData.depthAll]
/-- a thing that reads as data, and may be compared -/
structure Pl (d : D) (p : PyData) : Prop where
  py : d.py = some p
  lay : p.canLay0 = true
  dep : p.depth ≤ 20
theorem Pl.shaped {d : D} {p : PyData} (h : Pl d p) : SeqAt.shaped p = true := by
  unfold SeqAt.shaped
  rw [h.lay, Bool.true_and]
  exact decide_eq_true (by have := h.dep; omega)
theorem Pl.of {d : D} {p : PyData} (h : Pl d p) (S : Store) : pyOf d S = some p := by
  have := h.py
  cases d <;> first | exact this | (simp [D.py] at this)
theorem Pl.str {s : PySem.Str} (h : Az s) : Pl (.str s) (.str s) := ⟨rfl, lay_str h, by simp [PyData.depth]⟩
theorem Pl.int (i : Int) : Pl (.int i) (.int i) := ⟨rfl, rfl, by simp [PyData.depth]⟩
theorem Pl.pr {p : PySem.Str × PySem.Str} (h : Az2 p) : Pl (prD p) (prP p) := ⟨rfl, lay_pr h, Nat.le_trans (dep_pr p) (by decide)⟩
theorem pl_pys {α : Type} {d : α → D} {f : α → PyData} {n : Nat} (l : List α) (h : ∀ x ∈ l, Pl (d x) (f x) ∧ (f x).depth ≤ n) : pys (l.map d) = some (l.map f) ∧ PyData.canLayAll0 (l.map f) = true ∧ PyData.depthAll (l.map f) ≤ n :=
  ⟨py_map l fun x hx => (h x hx).1.py, lay_map l fun x hx => (h x hx).1.lay, dep_map l fun x hx => (h x hx).2⟩
theorem Pl.tup {α : Type} {d : α → D} {f : α → PyData} {n : Nat} (l : List α) (h : ∀ x ∈ l, Pl (d x) (f x) ∧ (f x).depth ≤ n) (hn : n < 20) : Pl (.tup (l.map d)) (.tuple (l.map f)) ∧ (PyData.tuple (l.map f)).depth ≤ n + 1 := by
  obtain ⟨a, b, c⟩ := pl_pys l h
  have e : (PyData.tuple (l.map f)).depth ≤ n + 1 := by rw [PyData.depth]; omega
  exact ⟨⟨by rw [D.py, a]; rfl, by rw [PyData.canLay0]; exact b, by omega⟩, e⟩
theorem Pl.tupX {α : Type} {d : α → D} {f : α → PyData} {n : Nat} (l : List α) (h : ∀ x ∈ l, Pl (d x) (f x) ∧ (f x).depth ≤ n) (hn : n < 20) : Pl (.tupX (l.map d)) (.tuple (l.map f)) ∧ (PyData.tuple (l.map f)).depth ≤ n + 1 := by
  obtain ⟨a, b, c⟩ := pl_pys l h
  have e : (PyData.tuple (l.map f)).depth ≤ n + 1 := by rw [PyData.depth]; omega
  exact ⟨⟨by rw [D.py, a]; rfl, by rw [PyData.canLay0]; exact b, by omega⟩, e⟩
theorem Pl.lst {α : Type} {d : α → D} {f : α → PyData} {n : Nat} (l : List α) (h : ∀ x ∈ l, Pl (d x) (f x) ∧ (f x).depth ≤ n) (hn : n < 20) : Pl (.lst (l.map d)) (.list (l.map f)) ∧ (PyData.list (l.map f)).depth ≤ n + 1 := by
  obtain ⟨a, b, c⟩ := pl_pys l h
  have e : (PyData.list (l.map f)).depth ≤ n + 1 := by rw [PyData.depth]; omega
  exact ⟨⟨by rw [D.py, a]; rfl, by rw [PyData.canLay0]; exact b, by omega⟩, e⟩
theorem Pl.eq {d : D} {p : PyData} (h : Pl d p) (S : Store) : dEqA d d S = .ok (.bl true) S := by
  have e : dEqB d d S = some true := by
    unfold dEqB
    rw [h.of S]
    simp only [h.shaped, and_self, if_true]
    rw [PySem.SeqAt.eqv_refl p h.lay]
  unfold dEqA
  split
  · simp
  · unfold dEq; rw [e]
theorem Pl.ne {d : D} {p : PyData} (h : Pl d p) (S : Store) : dNeA d d S = .ok (.bl false) S := by
  have e : dEqB d d S = some true := by
    unfold dEqB
    rw [h.of S]
    simp only [h.shaped, and_self, if_true]
    rw [PySem.SeqAt.eqv_refl p h.lay]
  unfold dNeA
  split
  · simp
  · unfold dNe; rw [e]; rfl
theorem eqv_str (a b : PySem.Str) : PyData.eqv (.str a) (.str b) = decide (a = b) := by
  rw [PyData.eqv]; exact (Bool.beq_eq_decide_eq a b)
theorem eqv_pr (p q : PySem.Str × PySem.Str) : PyData.eqv (prP p) (prP q) = decide (p = q) := by
  obtain ⟨a, b⟩ := p
  obtain ⟨c, d⟩ := q
  simp [prP, PyData.eqv, PyData.eqvAll, Prod.mk.injEq, Bool.beq_eq_decide_eq]
theorem pyL_map {α : Type} [DecidableEq α] {f : α → PyData} (hf : ∀ x y, PyData.eqv (f x) (f y) = decide (x = y)) (l : List α) (a : α) : pyL (l.map f) (f a) = decide (a ∈ l) := by
  unfold pyL
  induction l with
  | nil => simp
  | cons x l ih =>
    rw [List.map_cons, List.any_cons, hf, ih]
    by_cases h : x = a
    · simp [h]
    · have : ¬ a = x := fun e => h e.symm
      simp [h, this]
theorem in_tup {α : Type} [DecidableEq α] {d : α → D} {f : α → PyData} {n : Nat} (hf : ∀ x y, PyData.eqv (f x) (f y) = decide (x = y)) (l : List α) (h : ∀ x ∈ l, Pl (d x) (f x) ∧ (f x).depth ≤ n) (hn : n < 20) {a : α} (ha : Pl (d a) (f a)) (S : Store) : dIn (d a) (.tup (l.map d)) S = .ok (.bl (decide (a ∈ l))) S := by
  have q := (Pl.tup l h hn).1
  unfold dIn dInB
  rw [ha.of S, q.of S]
  simp only [ha.shaped, q.shaped, and_self, if_true, pyL_map hf]
theorem in_prs {l : List (PySem.Str × PySem.Str)} (h : ∀ x ∈ l, Az2 x) {a : PySem.Str × PySem.Str} (ha : Az2 a) (S : Store) : dIn (prD a) (.tup (l.map prD)) S = .ok (.bl (decide (a ∈ l))) S := by
  have q := in_tup (n := 1) eqv_pr l (fun x hx => ⟨.pr (h x hx), dep_pr x⟩) (by decide) (.pr ha) S
  rw [q]
  congr 2
  exact decide_eq_decide.mpr Iff.rfl
theorem in_strs {l : List PySem.Str} (h : ∀ x ∈ l, Az x) {a : PySem.Str} (ha : Az a) (S : Store) : dIn (.str a) (.tup (l.map D.str)) S = .ok (.bl (decide (a ∈ l))) S :=
  in_tup (n := 1) (f := PyData.str) eqv_str l (fun x hx => ⟨.str (h x hx), by simp [PyData.depth]⟩) (by decide) (.str ha) S
end Lg

namespace Lg
open PySem PySem.Spec L2
def mDcGo (g : GM) (t : BM) (k v : EM) (env : En) : List D → List (Key × D) → Store → Res (List (Key × D))
  | [], acc, S => .ok acc S
  | d :: r, acc, S => match g d env S with
    | .ok env1 S1 => match t env1 S1 with
      | .ok true S2 => match k env1 S2 with
        | .ok x S3 => match v env1 S3 with
          | .ok y S4 => match keyD x with
            | some kk => if acc.length < sizeLine then mDcGo g t k v env r (putKD acc kk y) S4 else .stuck
            | none => .stuck
          | _ => .stuck
        | _ => .stuck
      | .ok false S2 => mDcGo g t k v env r acc S2
      | _ => .stuck
    | _ => .stuck
/-- the new dict is an object of the store -/
def mDcL (it : IM) (g : GM) (t : BM) (k v : EM) (vs : List Nat) : EM := fun env S => (it env S).bind fun ds S1 => (mDcGo g t k v (wipeE env vs) ds [] S1).bind fun xs S2 => .ok (.loc S2.length) (S2 ++ [.dK xs])
theorem dc_it {J : It} {n : Nat} {G' : Hp → Prop} {Y : Nat → Hp → V → Hp → Prop} (w : Walk J n G' Y) {g : TG} {tt : TT} {tk tv : TE} {vs : List Nat} {σ : L2.St} {H1 : Hp} {D : Addr} {Qd : Hp → Prop} (Pv : Nat → Hp → Prop) (h0 : Pv 0 (upd H1 D (.dK []))) (hG : ∀ i H, i ≤ n → Pv i H → G' H)
    (hs : ∀ i x H H', i < n → Pv i H → Y i H x H' → g x (L2.wipe σ vs) H' fun σ2 H2 => L2.wipe σ2 vs = L2.wipe σ vs ∧ tt σ2 H2 fun b H3 =>
      if b = true then tk σ2 H3 fun y H4 => tv σ2 H4 fun z H5 => ∃ kvs k, y = kV k ∧ H5 D = some (.dK kvs) ∧ kvs.length < sizeLine ∧ Pv (i + 1) (upd H5 D (.dK (L2.putK kvs k z))) else Pv (i + 1) H3) (hd : ∀ H, Pv n H → Qd H) :
    ∃ W : Nat → Nat → Hp → Prop, (∃ m, W 0 m (upd H1 D (.dK []))) ∧ ∀ i m H, W i m H →
      (J.stop i H ∧ Qd H) ∨ (J.go i H ∧ ∃ Nx : Hp → Prop, (∀ H', Nx H' → ∃ m', m' < m ∧ W (i + 1) m' H') ∧ ∀ x H', J.yld i H x H' → g x (L2.wipe σ vs) H' fun σ2 H2 => L2.wipe σ2 vs = L2.wipe σ vs ∧ tt σ2 H2 fun b H3 =>
        if b = true then tk σ2 H3 fun y H4 => tv σ2 H4 fun z H5 => ∃ kvs k, y = kV k ∧ H5 D = some (.dK kvs) ∧ kvs.length < sizeLine ∧ Nx (upd H5 D (.dK (L2.putK kvs k z))) else Nx H3) := by
  refine ⟨fun i m H => m = n - i ∧ i ≤ n ∧ Pv i H, ⟨n, by simp, Nat.zero_le _, h0⟩, ?_⟩
  rintro i m H ⟨rfl, hi, p⟩
  have q := hG i H hi p
  by_cases hlt : i < n
  · refine .inr ⟨w.goes i H hlt q, Pv (i + 1), fun H' p' => ⟨n - (i + 1), by omega, rfl, hlt, p'⟩, fun x H' y => hs i x H H' hlt p (w.yields i H x H' hlt q y)⟩
  · have e : i = n := by omega
    subst e
    exact .inl ⟨w.stops H q, hd H p⟩
section
variable {g : G} {E : XK}
theorem RKV.len' {κ : Type} {ρ : List Addr} {H : Hp} {xs : List (κ × V)} {ys : List (κ × D)} (r : RKV g ρ H xs ys) : xs.length = ys.length := Paired.length r
theorem RKV.tr' {κ : Type} {g' : G} {ρ ρ' : List Addr} {H H' : Hp} (hK : g.K = g'.K) (hat : ∀ (n : Nat) (a : Addr), ρ[n]? = some a → ρ'[n]? = some a) (k : ∀ a u, Out g ρ a → H a = some u → Out g' ρ' a ∧ H' a = some u) : ∀ {xs : List (κ × V)} {ys : List (κ × D)}, RKV g ρ H xs ys → RKV g' ρ' H' xs ys
  | _, _, .nil => .nil
  | _, _, .cons h t => .cons ⟨h.1, RD.tr hK hat k h.2⟩ (RKV.tr' hK hat k t)
theorem sim_dcL {wi : TI} {gt : TG} {tt : TT} {tk tv : TE} {it : IM} {gm : GM} {tm : BM} {km vm : EM} {vs : List Nat} (hi : SimI g E wi it) (hg : SimG g E0 gt gm) (ho : Own vs gt) (ht : SimT g E0 tt tm) (hk : SimE g E0 tk km) (he : SimE g E0 tv vm) :
    SimE g E (tDc wi gt tt tk tv vs) (mDcL it gm tm km vm vs) := by
  intro l σ H Q ρ S env re rs p
  have hwi := wipe_wipe σ vs
  refine hi l σ H _ ρ S env re rs ?_
  unfold mDcL at p
  cases e : it env S with
  | err x S' => rw [e] at p; exact p
  | stuck => rw [e] at p; exact p
  | ok ds S1 =>
    rw [e] at p
    have p : PostE (g.hide l) E ρ H Q ((mDcGo gm tm km vm (wipeE env vs) ds [] S1).bind fun xs S2 => .ok (.loc S2.length) (S2 ++ [Ob.dK xs])) := p
    intro ρ1 H1 J e1 rs1 wd0 Dl hD
    have nDl : Dl ∉ l := (rs1.fresh hD).2
    have nDρ1 : Dl ∉ ρ1 := (rs1.fresh hD).1
    have nDρ : Dl ∉ ρ := fun m => by
      obtain ⟨n, hn, en⟩ := List.getElem_of_mem m
      exact nDρ1 (List.mem_of_getElem? (e1.at (show ρ[n]? = some Dl by rw [List.getElem?_eq_getElem hn, en])))
    have hDn : H Dl = none := by
      cases q : H Dl with
      | none => rfl
      | some o => rw [e1.keep Dl o nDρ q] at hD; cases hD
    obtain ⟨G', Y, w, wg, wy⟩ := wd0 (Dl :: l) fun a m => (List.mem_cons.mp m).elim (fun z => .inr (z ▸ hD)) .inl
    refine dc_it w (fun i H' => ∃ ρ' S' acc ws, Ex ρ1 H1 ρ' H' ∧ RS (g.hide (Dl :: l)) ρ' S' H' ∧ H' Dl = some (.dK ws) ∧ RKV (g.hide (Dl :: l)) ρ' H' ws acc ∧
      PostE (g.hide l) E ρ H Q ((mDcGo gm tm km vm (wipeE env vs) (ds.drop i) acc S').bind fun xs S2 => .ok (.loc S2.length) (S2 ++ [Ob.dK xs]))) ?_ ?_ ?_ ?_
    · exact ⟨ρ1, S1, [], [], Ex.new1 hD, rs1.hide hD, upd_same, .nil, p⟩
    · rintro i H' _ ⟨ρ', S', acc, ws, e2, _⟩
      exact wg ρ' H' e2.toH
    · rintro i x H' H'' hi' ⟨ρ', S', acc, ws, e2, rs2, hDw, racc, p2⟩ y
      obtain ⟨d, hd, e3, rs3, rx, kp⟩ := wy i ρ' H' x H'' S' hi' e2.toH rs2 y
      rw [drop_at hd] at p2
      have e23 := e2.trans e3
      have re3 : RE (g.hide (Dl :: l)) ρ' H'' (L2.wipe σ vs) (wipeE env vs) := RE.tr (g := g.hide l) (g' := g.hide (Dl :: l)) rfl (fun _ _ h => e23.at h) (ahead_k hD e23) ((re.mono e1).wipe vs)
      have nD' : Dl ∉ ρ' := (rs3.hd Dl List.mem_cons_self).2
      have hDw3 := kp _ _ hDw
      have racc3 := racc.mono e3
      refine ho x _ H'' _ ?_ |> fun z => by rw [hwi] at z; exact z
      refine hg (Dl :: l) x (L2.wipe σ vs) H'' _ ρ' S' (wipeE env vs) d rx re3 rs3 ?_
      unfold mDcGo at p2
      cases eg : gm d (wipeE env vs) S' with
      | err x S' => rw [eg] at p2; exact p2.elim
      | stuck => rw [eg] at p2; exact p2.elim
      | ok env1 S2 =>
        rw [eg] at p2
        dsimp only at p2
        intro ρ4 H4 σ4 e4 rs4 re4
        refine ht (Dl :: l) σ4 H4 _ ρ4 S2 env1 re4 rs4 ?_
        cases et : tm env1 S2 with
        | err x S' => rw [et] at p2; exact p2.elim
        | stuck => rw [et] at p2; exact p2.elim
        | ok b S3 =>
          rw [et] at p2
          intro ρ5 H5 e5 rs5
          have hDw5 := e5.keep _ _ (rs4.hd Dl List.mem_cons_self).2 (e4.keep _ _ nD' hDw3)
          cases b with
          | false =>
            exact ⟨ρ5, S3, acc, ws, (e23.trans e4).trans e5, rs5, hDw5, (racc3.mono e4).mono e5, p2⟩
          | true =>
            dsimp only at p2
            refine hk (Dl :: l) σ4 H5 _ ρ5 S3 env1 (re4.mono e5) rs5 ?_
            cases ek : km env1 S3 with
            | err x S' => rw [ek] at p2; exact p2.elim
            | stuck => rw [ek] at p2; exact p2.elim
            | ok kd S4 =>
              rw [ek] at p2
              dsimp only at p2
              intro ρ6 H6 v6 e6 rs6 rk
              have hDw6 := e6.keep _ _ (rs5.hd Dl List.mem_cons_self).2 hDw5
              refine he (Dl :: l) σ4 H6 _ ρ6 S4 env1 ((re4.mono e5).mono e6) rs6 ?_
              cases ee : vm env1 S4 with
              | err x S' => rw [ee] at p2; exact p2.elim
              | stuck => rw [ee] at p2; exact p2.elim
              | ok z S5 =>
                rw [ee] at p2
                dsimp only at p2
                intro ρ7 H7 v7 e7 rs7 rz
                have hDw7 := e7.keep _ _ (rs6.hd Dl List.mem_cons_self).2 hDw6
                have racc7 := (((racc3.mono e4).mono e5).mono e6).mono e7
                cases eky : keyD kd with
                | none => rw [eky] at p2; exact p2.elim
                | some kk =>
                  rw [eky] at p2
                  dsimp only at p2
                  by_cases hz : acc.length < sizeLine
                  · rw [if_pos hz] at p2
                    have e17 := (((e23.trans e4).trans e5).trans e6).trans e7
                    refine ⟨ws, kk, key_of_rd rk eky, hDw7, by rw [racc7.len']; exact hz, ρ7, S5, putKD acc kk z, L2.putK ws kk v7, Ex.mut e17 hD, rs7.hidden, upd_same, ?_, p2⟩
                    exact RKV.tr' (g := g.hide (Dl :: l)) (g' := g.hide (Dl :: l)) rfl (fun _ _ h => h) hidden_k (racc7.putK rz)
                  · rw [if_neg hz] at p2; exact p2.elim
    · rintro H' ⟨ρ', S', acc, ws, e2, rs2, hDw, racc, p2⟩
      rw [List.drop_length] at p2
      have p2 : PostE (g.hide l) E ρ H Q (.ok (.loc S'.length) (S' ++ [Ob.dK acc])) := p2
      have e := e1.trans e2
      have nD : Dl ∉ ρ' := (rs2.hd Dl List.mem_cons_self).2
      let H3 : Hp := fun a => if a = Dl then none else H' a
      have k3 : ∀ a, a ≠ Dl → H3 a = H' a := fun a h => if_neg h
      have rs3 : RS (g.hide l) ρ' S' H3 := rs2.unhide nDl k3
      have hD3 : H3 Dl = none := if_pos rfl
      have e3 : Ex ρ H ρ' H3 := ⟨e.new, fun a o n h => by rw [k3 a (ne_of_none h hDn)]; exact e.keep a o n h⟩
      have u3 : upd H3 Dl (.dK ws) = H' := by
        funext a
        by_cases h : a = Dl
        · rw [h, upd_same, hDw]
        · rw [upd_ne h, k3 a h]
      have rx3 : RKV (g.hide l) ρ' H3 ws acc := RKV.tr' (g := g.hide (Dl :: l)) (g' := g.hide l) rfl (fun _ _ h => h) (show_k k3) racc
      obtain ⟨e4, rs4⟩ := rs3.push (o := .dK ws) (ob := .dK acc) hD3 fun ρ'' H'' e' q => ⟨ws, q, rx3.mono e'⟩
      rw [u3] at e4 rs4
      exact p2 _ H' _ (e3.trans e4) rs4 (.loc (by rw [← rs2.len]; simp))
/-! ### starred parts -/
def asSq (d : D) (S : Store) : Option (List D) := match d with
  | .tup ds => some ds
  | .tupX ds => some ds
  | d => asL d S
def mStar (a : EM) (b : AM) : AM := fun env S => (a env S).bind fun d S1 => match asSq d S1 with
  | some xs => (b env S1).bind fun ys S2 => .ok (xs ++ ys) S2
  | none => .stuck
theorem sim_star {te : TE} {t : TA} {a : EM} {b : AM} (ha : SimE g E te a) (hb : SimA g E t b) : SimA g E (StX.tStar g.K te t) (mStar a b) := by
  intro l σ H Q ρ S env re rs p
  unfold mStar at p
  refine ha l σ H _ ρ S env re rs ?_
  cases e : a env S with
  | err x S1 => rw [e] at p; exact p
  | stuck => rw [e] at p; exact p
  | ok d S1 =>
    rw [e] at p
    simp only [Res.bind] at p
    intro ρ1 H1 v e1 rs1 rx
    split at p
    · rename_i xs ex
      have key : ∃ ad vs, v = V.ref ad ∧ (SqT g.K H1 ad vs ∨ SqL g.K H1 ad vs) ∧ RDs (g.hide l) ρ1 H1 vs xs := by
        unfold asSq at ex
        split at ex
        · cases ex
          cases rx with
          | tup h n r => exact ⟨_, _, rfl, .inl (SqT.of h), r⟩
        · cases ex
          cases rx with
          | @tupX ad o vs _ h hd n r => exact ⟨ad, vs, rfl, .inl (.inl (.inr ⟨o, h⟩)), r⟩
        · obtain ⟨ad, vs, q1, q2, q3⟩ := as_l rs1 rx ex
          exact ⟨ad, vs, q1, .inr (SqL.of q2), q3⟩
      obtain ⟨ad, vs, rfl, hs, rv⟩ := key
      refine ⟨ad, vs, rfl, hs, ?_⟩
      refine hb l σ H1 _ ρ1 S1 env (re.mono e1) rs1 ?_
      cases eb : b env S1 with
      | err x S2 => rw [eb] at p; exact p.ex e1
      | stuck => rw [eb] at p; exact p
      | ok ys S2 =>
        rw [eb] at p
        intro ρ2 H2 ws e2 rs2 ry
        exact p ρ2 H2 _ (e1.trans e2) rs2 ((rv.mono e2).append ry)
    · exact p.elim
end
end Lg

namespace Lg
open PySem PySem.Spec L2 PyProof.Rows
theorem adjust_rev (n : Nat) : Builtin.Slice.sliceAdjust none none (-1) (n : Int) = ((n : Int) - 1, -1) := by
  unfold Builtin.Slice.sliceAdjust
  have h1 : ((-1 : Int) < 0) := by omega
  simp only [h1, if_true]
theorem places_rev (n : Nat) : Builtin.Slice.slicePlaces ((n : Int) - 1) (-1) (-1) = n := by
  unfold Builtin.Slice.slicePlaces
  have h1 : ¬ (-1 : Int) > 0 := by omega
  simp only [h1, if_false]
  split
  · simp
    try omega
  · omega
theorem fm_congr {α β : Type} {f g : α → Option β} : ∀ l : List α, (∀ x ∈ l, f x = g x) → l.filterMap f = l.filterMap g
  | [], _ => rfl
  | x :: l, h => by
    rw [List.filterMap_cons, List.filterMap_cons, h x List.mem_cons_self, fm_congr l fun y hy => h y (List.mem_cons_of_mem _ hy)]
theorem pick_rev (xs : Array Value) : ((List.range xs.size).filterMap fun (m : Nat) => xs[(((xs.size : Int) - 1) + (m : Int) * (-1)).toNat]?).toArray = xs.toList.reverse.toArray := by
  have e : (List.range xs.size).filterMap (fun (m : Nat) => xs[(((xs.size : Int) - 1) + (m : Int) * (-1)).toNat]?) = ((List.range xs.size).map fun k => xs.size - 1 - k).filterMap (xs[·]?) := by
    rw [List.filterMap_map]
    refine fm_congr _ fun m hm => ?_
    have := List.mem_range.mp hm
    have e : (((xs.size : Int) - 1) + (m : Int) * (-1)).toNat = xs.size - 1 - m := by omega
    simp only [Function.comp, e]
  rw [e, PySem.W.krv_range, List.filterMap_reverse, PySem.W.krv_all]
section
variable {prog : Program} {w : World} {A : Around} {E : Value → Shared → Prop} {s : Shared}
theorem sliceApplied_rev {sl : Addr} {vl vu vs : Value} {n : Nat} {Q : Int × Int × Nat → Shared → Prop} (hs : s.heap.IsSliceOf sl vl vu vs) (pl : IsPart vl none) (pu : IsPart vu none) (ps : IsPart vs (some (-1)))
    (h : Q ((n : Int) - 1, -1, n) s) : wpAny (model prog w) A (Builtin.Slice.sliceApplied (.ref sl) (pure (n : Int))) Q E s := by
  obtain ⟨os, hos, hcs, hds⟩ := id hs
  unfold Builtin.Slice.sliceApplied Builtin.Slice.sliceFields
  refine wpAny_bind (wpAny_bind (wpAny_field hos hds (x := vl) rfl (wpAny_bind (wpAny_field hos hds (x := vu) rfl (wpAny_bind (wpAny_field hos hds (x := vs) rfl (wpAny_pure ?_)))))))
  refine wpAny_bind (HT.slicePart_ ps ?_)
  show wpAny _ _ (if ((-1 : Int) == 0) = true then _ else _) _ _ s
  rw [if_neg (by decide)]
  refine wpAny_bind (HT.slicePart_ pl (wpAny_bind (HT.slicePart_ pu (wpAny_bind (wpAny_pure ?_)))))
  show wpAny _ _ (match Builtin.Slice.sliceAdjust none none (-1) (n : Int) with | (lo, hi) => pure (lo, (-1 : Int), Builtin.Slice.slicePlaces lo hi (-1))) _ _ s
  rw [adjust_rev n]
  show wpAny _ _ (pure ((n : Int) - 1, (-1 : Int), Builtin.Slice.slicePlaces ((n : Int) - 1) (-1) (-1))) _ _ s
  rw [places_rev]
  exact wpAny_pure h
theorem getItem_tuple_rev {t sl : Addr} {items : Array Value} {vl vu vs : Value} {Q : Value → Shared → Prop} (ht : IsTup s.heap t items) (hs : s.heap.IsSliceOf sl vl vu vs) (pl : IsPart vl none) (pu : IsPart vu none) (ps : IsPart vs (some (-1)))
    (h : Q (.ref s.heap.objs.size) { s with heap := s.heap.push { cls := .type "tuple", data := .seq items.toList.reverse.toArray } })
    (hsz : items.size ≤ sizeLine) : wpAny (model prog w) A (getItem (.ref t) (.ref sl)) Q E s := by
  have htake : sizeOk (.seq items.toList.reverse.toArray) := by
    show items.toList.reverse.toArray.size ≤ sizeLine
    rw [List.size_toArray, List.length_reverse, Array.length_toList]
    exact hsz
  obtain ⟨os, hos, hcs, hds⟩ := id hs
  have hTs : s.TypeIs (.ref sl) "slice" := ⟨os, hos, hcs⟩
  unfold getItem
  try with_reducible refine wpAny_holding ?_
  first | refine wpAny_bind (wpAny_pure ?_) | skip
  refine wpAny_bind (wpAny_sequenceKey ht.typeIs (by decide) ?_)
  refine wpAny_bind (wpAny_callSpecial?_slot (name := Str.ofString "__getitem__") ht.typeIs PyProof.Rows.slot_tuple_getitem
    (wpAny_call_entry PyProof.Rows.slot_tuple_getitem ht.typeIs entry_tuple_getitem ?_ (args_tuple_getitem _ _)))
  show wpAny _ _ (Builtin.Tuple.tupleItemsOf (.ref t) >>= _) _ _ s
  refine wpAny_bind (tupleItemsOf_ ht ?_)
  refine wpAny_bind (wpAny_typeOf hTs ?_)
  rw [if_pos (by decide)]
  refine wpAny_bind (sliceApplied_rev hs pl pu ps ?_)
  have hno : ¬ ((((items.size : Int) - 1) == 0 && (-1 : Int) == 1 && items.size == items.size) = true) := by
    have : ((-1 : Int) == 1) = false := by decide
    rw [this]; simp
  show wpAny _ _ (if (((items.size : Int) - 1) == 0 && (-1 : Int) == 1 && items.size == items.size) = true then _ else _) _ _ s
  rw [if_neg hno, pick_rev]
  first
    | exact wpAny_bind (m := Builtin.Tuple.tupleExact _) (wpAny_newObj_type (wpAny_pure ⟨_, rfl, wpAny_pure h⟩) htake)
    | exact wpAny_bind (m := Builtin.Tuple.tupleExact _) (wpAny_newObj_type (wpAny_bind (wpAny_pure (wpAny_pure ⟨_, rfl, wpAny_pure h⟩))) htake)
    | exact wpAny_bind (wpAny_bind (m := Builtin.Tuple.tupleExact _) (wpAny_newObj_type (wpAny_pure (wpAny_pure ⟨_, rfl, wpAny_pure h⟩)) htake))
    | exact wpAny_bind (wpAny_bind (m := Builtin.Tuple.tupleExact _) (wpAny_newObj_type (wpAny_pure ⟨_, rfl, wpAny_pure h⟩) htake))
end
section
variable {X : Cx}
def tRevA (K : PySem.W.Frag) (te : TE) : TE := fun σ H Q => te σ H fun x H1 => ∃ a xs, x = .ref a ∧ ((SqT K H1 a xs ∧ ∀ p, H1 p = none → Q (.ref p) (upd H1 p (.tup xs.reverse))) ∨ (SqL K H1 a xs ∧ ∀ p, H1 p = none → Q (.ref p) (upd H1 p (.lst xs.reverse))))
theorem pe_revX {e : Expr} {te : TE} {k : Nat} {p1 p2 p3 pos : Pos} (he : PE X e te) : PE X (.Subscript e (.Slice none none (some (.UnaryOp .USub (.Constant (.int 1) k p1) p2)) p3) pos) (tRevA X.K te) := by
  refine ⟨fun pins s σ H Q I h => ?_⟩
  refine Subscript_ (thn (he.run pins s σ H _ I h) fun v s1 ⟨x, H1, I1, r1, q1⟩ => ?_)
  obtain ⟨a, xs, ex, hx⟩ := q1
  subst ex
  cases r1
  have hst : PO X (some (.UnaryOp .USub (.Constant (.int 1) k p1) p2)) (tPart (tUn (rU fun i => .int (-i)) (tC (.int 1)))) := po_some (pe_un un_neg pe_int)
  refine wpAny_Slice (thn (po_none.run pins s1 σ H1 (fun o H2 => o = none ∧ H2 = H1) I1 ⟨rfl, rfl⟩) fun vl s2 ⟨l, H2, I2, pl, el, e2⟩ => ?_)
  subst el e2
  refine thn (po_none.run pins s2 σ H2 (fun o H3 => o = none ∧ H3 = H2) I2 ⟨rfl, rfl⟩) fun vu s3 ⟨u, H3, I3, pu, eu, e3⟩ => ?_
  subst eu e3
  refine thn (hst.run pins s3 σ H3 (fun o H4 => o = some (-1) ∧ H4 = H3) I3 ⟨1, rfl, -1, rfl, rfl, rfl⟩) fun vs s4 ⟨o, H4, I4, ps, eo, e4⟩ => ?_
  subst eo e4
  have I5 : Inv X pins σ H4 { s4 with heap := s4.heap.push { cls := .type "slice", data := .fields #[vl, vu, vs] } } := I4.kept (t' := s4.toks) fun b ob q => Heap.get?_push_of_some _ q
  rcases hx with ⟨hx, q⟩ | ⟨hx, q⟩
  · obtain ⟨its, r, ht, hz⟩ := I5.tuple hx
    have hlen := r.length
    show wpAny (model X.prog X.w) X.A (subscriptTail e (.Slice none none (some (.UnaryOp .USub (.Constant (.int 1) k p1) p2)) p3) (.ref a) (.ref s4.heap.objs.size)) (EP X pins σ Q) X.xe { s4 with heap := s4.heap.push { cls := .type "slice", data := .fields #[vl, vu, vs] } }
    refine tail_any (ops := [.ref a, .ref s4.heap.objs.size]) ht.typeIs (PyProof.Rows.slot_tuple_getitem.lookup) ?_ (by with_unfolding_all rfl)
    refine getItem_tuple_rev ht (Heap.IsSliceOf.new _ vl vu vs) pl pu ps ?_ (by rw [List.size_toArray]; omega)
    refine ⟨.ref _, _, I5.laid (t' := s4.toks) (o := .tup xs.reverse) (fun b ob q => Heap.get?_push_of_some _ q) (Nat.le_refl _) ?_, rfl, q _ (I5.hok.fresh (Nat.le_refl _))⟩
    exact ⟨by rw [List.length_reverse]; omega, its.reverse, r.reverse, IsTup.new _ _⟩
  · obtain ⟨its, r, ht, hz⟩ := I5.list hx
    have hlen := r.length
    show wpAny (model X.prog X.w) X.A (subscriptTail e (.Slice none none (some (.UnaryOp .USub (.Constant (.int 1) k p1) p2)) p3) (.ref a) (.ref s4.heap.objs.size)) (EP X pins σ Q) X.xe { s4 with heap := s4.heap.push { cls := .type "slice", data := .fields #[vl, vu, vs] } }
    refine tail_any (ops := [.ref a, .ref s4.heap.objs.size]) ht.isList.typeIs (PySem.slot_list_getitem.lookup) ?_ (by with_unfolding_all rfl)
    refine wpAny_getItem_list_slice ht.isList (Heap.IsSliceOf.new _ vl vu vs) pl pu ps (by decide) ?_ (by rw [List.size_toArray]; omega)
    rw [PySem.W.krv_pick]
    refine ⟨.ref _, _, I5.laid (t' := s4.toks) (o := .lst xs.reverse) (fun b ob q => Heap.get?_push_of_some _ q) (Nat.le_refl _) ?_, rfl, q _ (I5.hok.fresh (Nat.le_refl _))⟩
    exact ⟨by rw [List.length_reverse]; exact hz, _, 0, r.reverse, Heap.get?_push_size _ rfl⟩
end
def mRev (a : EM) : EM := fun env S => (a env S).bind fun d S1 => match d with
  | .tup ds => .ok (.tup ds.reverse) S1
  | .tupX ds => .ok (.tup ds.reverse) S1
  | d => match asL d S1 with
    | some ds => .ok (.lst ds.reverse) S1
    | none => .stuck
section
variable {g : G} {E : XK}
theorem rds_rev {ρ : List Addr} {H : Hp} : ∀ {vs : List V} {ds : List D}, RDs g ρ H vs ds → RDs g ρ H vs.reverse ds.reverse
  | _, _, .nil => .nil
  | _, _, .cons h t => by
    rw [List.reverse_cons, List.reverse_cons]
    exact (rds_rev t).append (.cons h .nil)
theorem sim_rev {te : TE} {a : EM} (ha : SimE g E te a) : SimE g E (tRevA g.K te) (mRev a) := by
  intro l σ H Q ρ S env re rs p
  refine ha.bind re rs p fun d S1 ρ1 H1 v e1 rs1 rx re1 p1 => ?_
  split at p1
  · cases rx with
    | @tup ad vs _ h n r =>
      exact ⟨ad, vs, rfl, .inl ⟨SqT.of h, fun q hq => p1 ρ1 _ _ (Ex.new1 hq) (rs1.aside hq) (.tup upd_same (rs1.fresh hq) (rds_rev (r.mono (Ex.new1 hq))))⟩⟩
  · cases rx with
    | @tupX ad o vs _ h hd n r =>
      exact ⟨ad, vs, rfl, .inl ⟨.inl (.inr ⟨o, h⟩), fun q hq => p1 ρ1 _ _ (Ex.new1 hq) (rs1.aside hq) (.tup upd_same (rs1.fresh hq) (rds_rev (r.mono (Ex.new1 hq))))⟩⟩
  · split at p1
    · rename_i ds e
      obtain ⟨ad, vs, rfl, h1, r1⟩ := as_l rs1 rx e
      exact ⟨ad, vs, rfl, .inr ⟨SqL.of h1, fun q hq => p1 ρ1 _ _ (Ex.new1 hq) (rs1.aside hq) (.lst upd_same (rs1.fresh hq) (rds_rev (r1.mono (Ex.new1 hq))))⟩⟩
    · exact p1.elim
/-! ### extend -/
def qExtend (d : D) (ds : List D) (S : Store) : Res D := match d, ds with
  | .loc n, [x] => match S[n]?, asL x S with
    | some (.lst xs), some zs => if xs.length + zs.length ≤ sizeLine then .ok .non (S.set n (.lst (xs ++ zs))) else .stuck
    | _, _ => .stuck
  | _, _ => .stuck
theorem sim_extend : MtSim g E rExtend qExtend := by
  intro l x xs H Q ρ S d ds rx rxs rs p
  unfold qExtend at p
  split at p
  · rename_i n y
    obtain ⟨v, rfl, r⟩ := rxs.one
    cases rx with
    | @loc n a hn =>
      split at p
      · rename_i ys zs e ez
        obtain ⟨vs, h1, h2⟩ := rs.ob n a _ hn e
        obtain ⟨b, ws, rfl, h3, h4⟩ := as_l rs r ez
        split at p
        · rename_i hz
          obtain ⟨e3, rs3⟩ := rs.put (o := .lst (vs ++ ws)) (ob := .lst (ys ++ zs)) hn fun H' e' q' => ⟨_, q', (h2.mono e').append (h4.mono e')⟩
          exact ⟨a, b, vs, ws, rfl, rfl, h1, h3, by rw [h2.length, h4.length]; exact hz, p ρ _ _ e3 rs3 .non⟩
        · exact p.elim
      · exact p.elim
  · exact p.elim
end
end Lg

namespace Lg
open PySem PySem.Spec L2
section
variable {X : Cx} {pins : List (Addr × Obj)} {σ : L2.St} {H : Hp} {s : Shared}
theorem cxo_ok {P : Program} {w : World} {H : Hp} {h : Heap} {a C : Addr} {d : Option Addr} {oe : Obj} {vs : Array Value} (he : h.get? a = some oe) (hz : Zc (.ref C) d oe) (hd : oe.data = .fields vs) : ObjOk P w H h a (Cxo a C d) :=
  ⟨⟨oe, vs, he, hz, hd⟩, ⟨_, he⟩, fun _ _ ⟨o, v, q, r⟩ k => ⟨o, v, k o q, r⟩⟩
/-- the suite's state, the exception known -/
theorem suiteT (I : Inv X pins σ H s) {a C : Addr} {oe : Obj} {vs : Array Value} {d : Option Addr} (ha : s.heap.get? a = some oe) (hz : Zc (.ref C) d oe) (hd : oe.data = .fields vs) (na : H a = none) (nL : a ≠ X.env.locals)
    (n0 : a ∉ X.ex → X.s_0.heap.get? a = none) (np : ∀ p ∈ X.pn ++ pins, p.1 ≠ a) : Inv (X.suite a (X.pn ++ pins)) [] σ (upd H a (Cxo a C d)) s := by
  refine ⟨I.ok.suite _ _, I.os, I.bare, ⟨I.base.keep, I.base.slot, fun b o e n hx => ?_, I.base.there, fun b xs e => ?_, fun b o u e => ?_, fun b ps e => ?_⟩, I.loc, I.cell, ?_, fun x c e => ?_, fun p hp => ?_, I.hok.laidN (fun _ _ q => q) na (cxo_ok ha hz hd), I.len⟩
  · rw [upd_ne (fun z => by rw [z] at e hx; rw [n0 hx] at e; cases e)]; exact I.base.free b o e n hx
  · have q := I.base.tups b xs e
    rw [upd_ne (ne_of_none q na)]; exact q
  · have q := I.base.frzs b o u e
    rw [upd_ne (ne_of_none q na)]; exact q
  · obtain ⟨m, q⟩ := I.base.tbls b ps e
    exact ⟨m, by rw [upd_ne (ne_of_none q na)]; exact q⟩
  · rw [upd_ne (Ne.symm nL)]; exact I.free
  · have q := I.freeC x c e
    rw [upd_ne (fun z => ?_)]; exact q
    obtain ⟨v, o, ho, hv⟩ := I.cell x c e
    rw [z, ha] at ho; cases ho
    rw [hd] at hv; cases hv
  · have hp' : p ∈ X.pn ++ pins := by rw [List.append_nil] at hp; exact hp
    obtain ⟨q1, q2, q3, q4, q5⟩ := I.pin p hp'
    exact ⟨q1, by rw [upd_ne (np p hp')]; exact q2, q3, q4, q5⟩
theorem unsuiteT {a : Addr} {pn' : List (Addr × Obj)} (I : Inv (X.suite a (X.pn ++ pins)) pn' σ H s) (ok : X.Ok) : Inv X pins σ H s :=
  ⟨ok, I.os, I.bare, I.base, I.loc, I.cell, I.free, I.freeC, fun p hp => I.pin p (List.mem_append_left _ hp), I.hok, I.len⟩
/-- what the clause wishes: slot i is the exception's -/
def wTryC (K : PySem.W.Frag) (c : Value) (i : Nat) (ts : TS) (Wout : WX) (D : Ends) : WX := fun cls d σ H =>
  ∃ b, PySem.W.exmOne K cls c = some b ∧ (b = true → ∃ C, cls = .ref C ∧ ∀ a, H a = none → ts { nx := fun σ' H' => D.nx (σ'.set i none) H', rt := D.rt, bk := fun σ' H' => D.bk (σ'.set i none) H', ct := fun σ' H' => D.ct (σ'.set i none) H' } (σ.set i (some (.ref a))) (upd H a (Cxo a C d))) ∧
    (b = false → Wout cls d σ H)
end
section
variable {X : Cx} {x n : PySem.Str} {c : Value} {i : Nat} {body suite : List Stmt} {b₀ : Stmt} {np pos pos' : Pos} {tb : WX → TS} {ts : TS} {Wout : WX}
theorem ps_tryC (hs : X.stack = X.env :: X.outer) (hf : X.env.frame = some X.env.locals) (hN : X.N.Nodup) (hi : X.N[i]? = some n) (hln : X.env.kindOf n = some .local) (hc : Names X x c) (tk : Takes X Wout)
    (hb : ∀ (W : WX) (pn : List (Addr × Obj)) (xe : Value → Shared → Prop), Takes (X.tr pn xe) W → PassesOwn (model X.prog X.w) X.A X.env xe → PSs (X.tr pn xe) body (tb W))
    (hsu : ∀ (a : Addr) (pn : List (Addr × Obj)), PSs (X.suite a pn) (b₀ :: suite) ts) :
    PS X (.Try body [.ExceptHandler (some (.Name x np)) (some n) (b₀ :: suite) pos'] [] [] pos) (fun D σ H => tb (wTryC X.K c i ts Wout D) D σ H) := by
  refine ⟨fun pins s σ H D I h => ?_⟩
  have ok := I.ok
  have hfr : X.A.frames = some (X.env :: X.outer) := by rw [ok.frames, hs]
  have hloc : Loc X.env.scope n := .inl hln
  refine wpAny_Try_except ?_
  refine wpAny_mono ((hb (wTryC X.K c i ts Wout D) (X.pn ++ pins) (fun e s₁ => wpAny (model X.prog X.w) X.A (noteFrame e X.env) (fun _ s₂ => wpAny (model X.prog X.w) X.A (setFlight e none) (fun _ s₃ =>
    wpAny (model X.prog X.w) X.A (handleBy e X.env [.ExceptHandler (some (.Name x np)) (some n) (b₀ :: suite) pos']) (SP X pins D) X.xe s₃) X.xe s₂) X.xe s₁) (fun u s' xx => ?_) PassesOwn.looking).run [] s σ H D (I.toTry _) h) (fun f s1 hsp => ?_) (fun e s1 he => he)
  · obtain ⟨a, B, sI, pins', σ', H', cls, d, rfl, J', nb, up, sky, na, os, ag, b, hb1, hyes, hno⟩ := xx
    have J : Inv X pins σ' H' sI := J'.ofTry ok
    have sky' : Sky B (X.env :: X.outer) a (Zc cls d) X.env.locals s'.heap := by rw [← hs]; exact sky
    show wpAny (model X.prog X.w) X.A (noteFrame (.ref a) X.env) _ _ _
    refine Sky.land Zc.steady hfr hf sky' fun h3 fl3 up3 => ?_
    have J3 : Inv X pins σ' H' { s' with heap := h3 } := J.landed nb fl3.1 (up.trans up3) os ag
    obtain ⟨oe3, vs3, he3, hz3, hd3⟩ := fl3.there
    have nfr : a ∉ frs (X.env :: X.outer) := fun hm => by
      obtain ⟨_, o', e', hnf⟩ := fl3.2.2.1.mem hm
      rw [he3] at e'; cases e'
      exact hnf _ hd3
    have nL : a ≠ X.env.locals := fun z => nfr (List.mem_filterMap.mpr ⟨X.env, List.mem_cons_self, by rw [hf, z]⟩)
    have nF : a ∉ X.fs := fun hm => by
      obtain ⟨e, he, q⟩ := List.mem_filterMap.mp hm
      exact nfr (List.mem_filterMap.mpr ⟨e, List.mem_cons_of_mem _ he, q⟩)
    have nsI : ∀ o, sI.heap.get? a = some o → False := fun o e => by
      have := nb a o e (by rw [hs]; exact nfr)
      rw [fl3.2.1] at this; cases this
    have S3 := J3.suite he3 hd3 na nL nF
    refine wpAny_handleBy_cons (codeAny_handlers_test ?_) (by intro q; cases q)
    have LT : PySem.W.Looks (model X.prog X.w) h3 (typeOf (.ref a)) cls := fun A Q E s k q => wpAny_typeOf_ref (k _ _ he3) (by rw [hz3.1]; exact q)
    have LM := PySem.W.exm_one (M := model X.prog X.w) (J3.kIn) LT hb1
    have test : ∀ {Q : Value → Shared → Prop} {E : Value → Shared → Prop}, Q c { s' with heap := h3 } → wpAny (model X.prog X.w) (X.A.mark (some (.ref a))) (eval (.Name x np) X.env) Q E { s' with heap := h3 } := fun {Q E} q => by
      obtain ⟨hg, hdbg, hm | ⟨hm, hv, hnn⟩⟩ := hc
      · exact ld_glob (X := X.suite a ((a, oe3) :: (X.pn ++ pins))) S3 hg hm q hdbg
      · exact ld_blt (X := X.suite a ((a, oe3) :: (X.pn ++ pins))) S3 hg hm hv q hnn hdbg
    refine test (LM.here ?_)
    cases b with
    | true =>
      obtain ⟨C, rfl, go⟩ := hyes rfl
      refine codeAny_handlers_suite_as ?_
      refine HandSPX.lands_againZ fl3 fun h4 fl4 up4 => ?_
      have J4 : Inv X pins σ' H' { s' with heap := h4 } := J.landed nb fl4.1 ((up.trans up3).trans up4) os ag
      obtain ⟨oe4, vs4, he4, hz4, hd4⟩ := fl4.there
      have S4 := suiteT J4 he4 hz4 hd4 na nL (fun hx => by
        cases q : X.s_0.heap.get? a with
        | none => rfl
        | some o =>
          obtain ⟨o', q'⟩ := J.base.there a o q hx
          exact (nsI o' q').elim) (fun p hp z => by
        have := (J.pin p hp).1
        rw [z] at this
        exact nsI _ this)
      refine store_ok (X := X.suite a (X.pn ++ pins)) (v := .ref a) S4 hN hi hloc rfl (fun s5 S5 => ?_) (.inr hln)
      refine wpAny_mono ((hsu a (X.pn ++ pins)).run [] s5 _ _ _ S5 (go a na)) (fun f s6 hsp => ?_) (fun _ _ z => False.elim z)
      have end_ : ∀ {σ6 : L2.St} {H6 : Hp} {Q : Shared → Prop}, Inv (X.suite a (X.pn ++ pins)) [] σ6 H6 s6 → (∀ s7, Inv X pins (σ6.set i none) H6 s7 → Q s7) →
          wpAny (model X.prog X.w) X.A (do bindName X.env n .none; unbindBehindTheSuite X.env n pos') (fun _ s7 => Q s7) X.xe s6 := fun {σ6 H6 Q} S6 hq => gone_ok (unsuiteT S6 ok) hN hi hln hq
      cases f with
      | next =>
        obtain ⟨σ6, H6, S6, q6⟩ := hsp
        exact end_ S6 fun s7 J7 => ⟨_, _, J7, q6⟩
      | brk =>
        obtain ⟨σ6, H6, S6, q6⟩ := hsp
        exact end_ S6 fun s7 J7 => ⟨_, _, J7, q6⟩
      | cont =>
        obtain ⟨σ6, H6, S6, q6⟩ := hsp
        exact end_ S6 fun s7 J7 => ⟨_, _, J7, q6⟩
      | ret u =>
        obtain ⟨v6, σ6, H6, S6, r6, q6⟩ := hsp
        exact end_ S6 fun s7 J7 => ⟨_, _, _, J7, r6, q6⟩
    | false =>
      show wpAny _ X.A (handleBy (.ref a) X.env []) _ _ _
      refine wpAny_handleBy_nil ?_
      obtain ⟨k1, k2, k3, oe, vs, T, oT, ts', he, hz, hd, h1, hr⟩ := id fl3
      unfold PySem.passOn
      refine wpAny_bind (wpAny_field he hd h1 ?_)
      rw [if_neg (show ¬ ((Value.ref T == Value.none) = true) from by simp)]
      have fin : wpAny (model X.prog X.w) X.A (setFlight (.ref a) X.env.frame) (fun _ s4 => wpAny (model X.prog X.w) X.A (throw (.ref a) : Sem Flow) (SP X pins D) X.xe s4) X.xe { s' with heap := h3 } := by
        rw [hf]
        refine HandSPX.setFlight_upZ fl3 fun h4 hh4 up4 => wpAny_throw (tk _ _ ?_)
        exact ⟨a, B, sI, pins, σ', H', cls, d, rfl, J, nb, (up.trans up3).trans up4, .inr (.inr (by rw [hs]; exact hh4)), na, os, ag, hno rfl⟩
      first
        | exact wpAny_bind (wpAny_pure (wpAny_bind fin))
        | exact wpAny_bind fin
  · cases f with
    | next =>
      obtain ⟨σ', H', J', q⟩ := hsp
      exact wpAny_execs_nil ⟨σ', H', J'.ofTry ok, q⟩
    | brk =>
      obtain ⟨σ', H', J', q⟩ := hsp
      exact ⟨σ', H', J'.ofTry ok, q⟩
    | cont =>
      obtain ⟨σ', H', J', q⟩ := hsp
      exact ⟨σ', H', J'.ofTry ok, q⟩
    | ret u =>
      obtain ⟨v, σ', H', J', r, q⟩ := hsp
      exact ⟨v, σ', H', J'.ofTry ok, r, q⟩
end

/-! ### calls that may raise in a try: the wish is at the caller's slots -/
section
variable {X : Cx} {CX : CXT} {k : Nat} {f C : Addr} {fd : FuncData} {ps : List PySem.Str} {sp : Sp} {dvs : List V} {ds : List Value} {E : L2.St → XK} {x m : PySem.Str} {p pos apos : Pos} {e o : Expr} {es : List Expr} {ta : TE} {t : TA}
def tMakeSD (C : Addr) (sp : Sp) (dvs : List V) (E : L2.St → XK) (t : TA) : TE := fun σ H Q => tMake C sp dvs (E σ) t σ H Q
def tMethSD (C : Addr) (m : PySem.Str) (sp : Sp) (dvs : List V) (E : L2.St → XK) (ta : TE) (t : TA) : TE := fun σ H Q => tMeth C m sp dvs (E σ) ta t σ H Q
theorem run_makeSD {pins : List (Addr × Obj)} {σ : L2.St} {H : Hp} {s : Shared} {Q : VK} {us : List Value} {vs : List V} (M : Mk X.K C f) (F : FnOk X.prog X.w X.K X.mg X.base CX k f fd ps sp) (hr : Room (k + 1) X.A) (hb : Binds X.K fd ps ds) (hd : Vals dvs ds)
    (hx : PassesAt CX X σ (E σ)) (I : Inv X pins σ H s) (r : Vals vs us)
    (h : ∀ x dx, H x = none → H dx = none → dx ≠ x → sp (.ref x :: (vs ++ dvs)) (upd (upd H dx (.own x)) x (.ins C dx [])) (fun v H2 => v = .non ∧ Q (.ref x) H2) (E σ)) :
    wpAny (model X.prog X.w) X.A (call (.ref C) us) (EP X pins σ Q) X.xe s := by
  have hq := h (s.heap.objs.size + 1) s.heap.objs.size (I.hok.fresh (Nat.le_succ _)) (I.hok.fresh (Nat.le_refl _)) (Nat.ne_of_lt (Nat.lt_succ_self _))
  have I2 := Inv.made (C := C) I
  have r2 : Vals (V.ref (s.heap.objs.size + 1) :: (vs ++ dvs)) (Value.ref (s.heap.objs.size + 1) :: (us ++ ds)) := .cons rfl (r.append hd)
  have hl : (Value.ref (s.heap.objs.size + 1) :: us ++ ds).length = ps.length := by
    have e := r2.length
    rw [F.len _ _ _ _ hq] at e
    exact e.symm
  refine wpAny_call (make_map (f := f) I.kIn M.makes M.init (beq_iff_eq.mp M.fn) (codeAny_mono (F.run _ X.stack _ _ ⟨Value.ref (s.heap.objs.size + 1) :: us, []⟩ (Value.ref (s.heap.objs.size + 1) :: (us ++ ds)) _ _ (E σ) (hr.make C us [])
    (I2.env0.make C us []) (hb _ (Value.ref (s.heap.objs.size + 1) :: us) I2.kIn hl) r2 hq) fun r s' hq' => ?_))
  cases r with
  | error e => exact hx pins _ _ e s' I2 hq'
  | ok fl =>
    cases fl with
    | ret u =>
      obtain ⟨v, H', I3, rv, ev, q3⟩ := I2.after hq'
      subst ev
      exact ⟨rv, ⟨V.ref (s.heap.objs.size + 1), H', I3, rfl, q3⟩⟩
    | next => exact False.elim hq'
    | brk => exact False.elim hq'
    | cont => exact False.elim hq'
theorem pe_makeSD (M : Mk X.K C f) (F : FnOk X.prog X.w X.K X.mg X.base CX k f fd ps sp) (hr : Room (k + 1) X.A) (hg : Gl X x) (hm : X.mg x = some (.ref C)) (hb : Binds X.K fd ps ds) (hd : Vals dvs ds) (hx : ∀ σ, PassesAt CX X σ (E σ))
    (ha : PA X (e :: es) t) (hdb : (x == ("__debug__" : PySem.Str)) = false := by decide) (he : starEach (e :: es) X.env = (false, eval e X.env) :: starEach es X.env := by rfl) (hpl : (backTo pos (starEach es X.env)).any (·.1) = false := by rfl) :
    PE X (.Call (.Name x p) (e :: es) [] pos) (tMakeSD C sp dvs E t) := by
  refine ⟨fun pins s σ H Q I h => ?_⟩
  refine wpAny_Call_Name_kw (ld_glob I hg hm ?_ hdb)
  refine PySem.W.callWith_K (h₀ := X.base) I.ok.mod.kin M.kp (thn (ha.run pos pins s σ H _ I h) fun us s1 ⟨vs, H1, I1, r, q⟩ => ⟨I1.kIn, ?_⟩) he hpl
  exact run_makeSD M F hr hb hd (hx σ) I1 r q
theorem pe_methSD {pl : Sem Bool} (he : PE X o ta) (c : Cls X.K C) (hm : Meth X.K C m f) (F : FnOk X.prog X.w X.K X.mg X.base CX k f fd ps sp) (hr : Room k X.A) (hb : Binds X.K fd ps ds) (hd : Vals dvs ds) (hx : ∀ σ, PassesAt CX X σ (E σ)) (ha : PA X (e :: es) t)
    (hst : starEach (e :: es) X.env = (false, eval e X.env) :: starEach es X.env := by rfl) (hpl : (backTo pos (starEach es X.env)).any (·.1) = false := by rfl)
    (ht : eval (.Call (.Attribute o m apos) (e :: es) [] pos) X.env = (do
      let ov ← eval o X.env
      standAt apos.atName
      let (f, first) ← holding [ov] (getMethod ov m pl)
      callWith pos f first (backTo pos (starEach (e :: es) X.env)) (backToKw pos (keywordEach [] X.env))) := by rfl) :
    PE X (.Call (.Attribute o m apos) (e :: es) [] pos) (tMethSD C m sp dvs E ta t) := by
  refine ⟨fun pins s σ H Q I h => ?_⟩
  refine PySem.W.methodCall_KW (pl := pl) (thn (he.run pins s σ H _ I h) fun u s1 ⟨x, H1, I1, rx, a, dx, fs, ex, ea, l, q⟩ => ?_) ht
  subst ex
  obtain rfl : u = Value.ref a := rx
  refine getmeth_ok I1 ea c hm l ?_
  refine PySem.W.callWith_K (first := [.ref a]) (h₀ := X.base) I.ok.mod.kin hm.kp (thn (ha.run pos pins s1 σ H1 _ I1 q) fun us s2 ⟨vs, H2, I2, r, q2⟩ => ⟨I2.kIn, ?_⟩) hst hpl
  exact run_fnSD (us := .ref a :: us) (vs := .ref a :: vs) F hr hb hd (hx σ) I2 (.cons rfl r) q2
theorem pe_methSD0 {pl : Sem Bool} (he : PE X o ta) (c : Cls X.K C) (hm : Meth X.K C m f) (F : FnOk X.prog X.w X.K X.mg X.base CX k f fd ps sp) (hr : Room k X.A) (hb : Binds X.K fd ps ds) (hd : Vals dvs ds) (hx : ∀ σ, PassesAt CX X σ (E σ))
    (ht : eval (.Call (.Attribute o m apos) [] [] pos) X.env = (do
      let ov ← eval o X.env
      standAt apos.atName
      let (f, first) ← holding [ov] (getMethod ov m pl)
      callWith pos f first (backTo pos (starEach [] X.env)) (backToKw pos (keywordEach [] X.env))) := by rfl) :
    PE X (.Call (.Attribute o m apos) [] [] pos) (tMethSD C m sp dvs E ta tNil) := by
  refine ⟨fun pins s σ H Q I h => ?_⟩
  refine PySem.W.methodCall_KW (pl := pl) (thn (he.run pins s σ H _ I h) fun u s1 ⟨x, H1, I1, rx, a, dx, fs, ex, ea, l, q⟩ => ?_) ht
  subst ex
  obtain rfl : u = Value.ref a := rx
  refine getmeth_ok I1 ea c hm l ?_
  exact PySem.W.callWith_K0 (first := [.ref a]) I1.kIn hm.kp (run_fnSD (us := [.ref a]) (vs := [.ref a]) F hr hb hd (hx σ) I1 (.cons rfl .nil) q)
end

/-! ### the plain side -/
/-- isx: whether the clause catches an exception of this class; i: the slot of its name -/
def sTryC (isx : Nat → Option Bool) (i : Nat) (b h : SM) : SM := fun env S => match b env S with
  | .err x S1 => match isx x.c with
    | some true => match h (env.set i (some (.loc S1.length))) (S1 ++ [.cxc x.c x.fs]) with
      | .next env2 S2 => .next (env2.set i none) S2
      | .brk env2 S2 => .brk (env2.set i none) S2
      | .cont env2 S2 => .cont (env2.set i none) S2
      | .ret d S2 => .ret d S2
      | _ => .stuck
    | some false => .err x S1
    | none => .stuck
  | r => r
theorem RS.caught {g : G} {l : List Addr} {ρ : List Addr} {S : Store} {H : Hp} {x : Exc} {c : Value} {od : Option Addr} {a : Addr} (rs : RS (g.hide l) ρ S H) (rx : RX (g.hide l) ρ H x c od) (na : H a = none) :
    Ex ρ H (ρ ++ [a]) (upd H a (Cxo a (g.cls x.c) od)) ∧ RS (g.hide l) (ρ ++ [a]) (S ++ [.cxc x.c x.fs]) (upd H a (Cxo a (g.cls x.c) od)) := by
  refine rs.push na fun ρ' H' e q => ?_
  obtain ⟨_, rx⟩ := rx
  cases hx : x.fs with
  | none =>
    rw [hx] at rx
    obtain rfl : od = none := rx
    exact q
  | some fs =>
    rw [hx] at rx
    obtain ⟨dx, fv, rfl, o, hd, kv⟩ := rx
    exact ⟨dx, fv, ⟨e.out hd o.1, o.2⟩, q, e.keep _ _ o.1 hd, kv.mono e⟩
theorem sims_tryC {g : G} {E : XK} {K : PySem.W.Frag} {cv : Value} {isx : Nat → Option Bool} {i : Nat} {tb : WX → TS} {tbE : XK → TS} {ts : TS} {bm hm : SM} (hx : ∀ c b, isx c = some b → PySem.W.exmOne K (.ref (g.cls c)) cv = some b)
    (hq : ∀ (W : WX) D σ H, tb W D σ H = tbE (WE W σ) D σ H) (hb : ∀ E, SimS g E (tbE E) bm) (hh : SimS g E0 ts hm) :
    SimS g E (fun D σ H => tb (wTryC K cv i ts (fun c d _ H => E c d H) D) D σ H) (sTryC isx i bm hm) := by
  intro l D' σ H ρ S env re rs p
  rw [hq]
  refine hb _ l D' σ H ρ S env re rs ?_
  unfold sTryC at p
  cases e : bm env S with
  | err x S1 =>
    rw [e] at p
    dsimp only at p
    intro ρ1 H1 c od e1 rs1 rx
    show wTryC K cv i ts (fun c d _ H => E c d H) D' c od σ H1
    cases hc : isx x.c with
    | none => rw [hc] at p; exact p.elim
    | some b =>
      rw [hc] at p
      have hcv : PySem.W.exmOne K c cv = some b := by rw [show c = .ref (g.cls x.c) from rx.1]; exact hx _ _ hc
      refine ⟨b, hcv, fun hb => ⟨g.cls x.c, rx.1, fun a na => ?_⟩, fun hb => ?_⟩
      · subst hb
        obtain ⟨e2, rs2⟩ := rs1.caught rx na
        refine hh l _ _ _ (ρ1 ++ [a]) (S1 ++ [.cxc x.c x.fs]) (env.set i (some (.loc S1.length))) ((re.mono (e1.trans e2)).set (.loc (by rw [← rs1.len]; simp)) i) rs2 ?_
        have p2 := p
        dsimp only at p2
        cases eh : hm (env.set i (some (.loc S1.length))) (S1 ++ [.cxc x.c x.fs]) with
        | next env2 S2 => rw [eh] at p2; exact fun ρ' H' σ' a b r => p2 ρ' H' _ ((e1.trans e2).trans a) b (r.clear i)
        | brk env2 S2 => rw [eh] at p2; exact fun ρ' H' σ' a b r => p2 ρ' H' _ ((e1.trans e2).trans a) b (r.clear i)
        | cont env2 S2 => rw [eh] at p2; exact fun ρ' H' σ' a b r => p2 ρ' H' _ ((e1.trans e2).trans a) b (r.clear i)
        | ret d S2 => rw [eh] at p2; exact fun ρ' H' v a b r => p2 ρ' H' v ((e1.trans e2).trans a) b r
        | err x S2 => rw [eh] at p2; exact p2.elim
        | stuck => rw [eh] at p2; exact p2.elim
      · subst hb
        exact p ρ1 H1 c od e1 rs1 rx
  | next env1 S1 => rw [e] at p; exact p
  | ret d S1 => rw [e] at p; exact p
  | brk env1 S1 => rw [e] at p; exact p
  | cont env1 S1 => rw [e] at p; exact p
  | stuck => rw [e] at p; exact p
end Lg

namespace Lg
open PySem L2
def qStrip (d : D) (ds : List D) (S : Store) : Res D := match d, ds with
  | .str a, [.str b] => if a.length ≤ sizeLine then .ok (.str (Txt.stripChars a b)) S else .stuck
  | _, _ => .stuck
theorem sim_strip {g : G} {E : XK} : MtSim g E (fun x xs H Q => ∃ a b, x = .str a ∧ xs = [.str b] ∧ a.length ≤ sizeLine ∧ Q (.str (Txt.stripChars a b)) H) qStrip := by
  intro l x xs H Q ρ S d ds rx ry rs p
  unfold qStrip at p
  split at p
  · rename_i a b
    obtain ⟨v, rfl, rv⟩ := ry.one
    cases rx
    cases rv
    by_cases h : a.length ≤ sizeLine
    · rw [if_pos h] at p
      exact ⟨a, b, rfl, rfl, h, p ρ H _ Ex.refl rs (.str _)⟩
    · rw [if_neg h] at p; exact p.elim
  · exact p.elim
def isiBL (K : PySem.W.Frag) (Cs : List Addr) (cs : List Nat) (u : Value) (t : Nat → Option Bool) : Bool := cs.all fun c => decide (PySem.W.kitOne K (.ref (Cs.getD c 0)) u = t c)
theorem isiL_of {K : PySem.W.Frag} {Cs : List Addr} {cs : List Nat} {u : Value} {t : Nat → Option Bool} (hx : (cs.all fun c => excCB K (Cs.getD c 0)) = true) (h : isiBL K Cs cs u t = true) (ht : ∀ c b, t c = some b → cs.contains c = true) : ∀ c b, t c = some b → ExcC K (Cs.getD c 0) ∧ PySem.W.kitOne K (.ref (Cs.getD c 0)) u = some b := by
  intro c b e
  have hc : c ∈ cs := by simpa using ht c b e
  refine ⟨excC_of (List.all_eq_true.mp hx c hc), ?_⟩
  rw [← e]
  exact of_decide_eq_true (List.all_eq_true.mp h c hc)
def exBL (K : PySem.W.Frag) (Cs : List Addr) (cs : List Nat) (u : Value) (t : Nat → Option Bool) : Bool := cs.all fun c => decide (PySem.W.exmOne K (.ref (Cs.getD c 0)) u = t c)
theorem exL_of {K : PySem.W.Frag} {Cs : List Addr} {cs : List Nat} {u : Value} {t : Nat → Option Bool} (h : exBL K Cs cs u t = true) (ht : ∀ c b, t c = some b → cs.contains c = true) : ∀ c b, t c = some b → PySem.W.exmOne K (.ref (Cs.getD c 0)) u = some b := by
  intro c b e
  have hc : c ∈ cs := by simpa using ht c b e
  rw [← e]
  exact of_decide_eq_true (List.all_eq_true.mp h c hc)
def anyBL (K : PySem.W.Frag) (Cs : List Addr) (cs : List Nat) (us : List Value) (t : Nat → Option Bool) : Bool := cs.all fun c => decide (PySem.W.kitAny K (.ref (Cs.getD c 0)) us = t c)
theorem anyL_of {K : PySem.W.Frag} {Cs : List Addr} {cs : List Nat} {us : List Value} {t : Nat → Option Bool} (hx : (cs.all fun c => excCB K (Cs.getD c 0)) = true) (h : anyBL K Cs cs us t = true) (ht : ∀ c b, t c = some b → cs.contains c = true) : ∀ c b, t c = some b → ExcC K (Cs.getD c 0) ∧ PySem.W.kitAny K (.ref (Cs.getD c 0)) us = some b := by
  intro c b e
  have hc : c ∈ cs := by simpa using ht c b e
  refine ⟨excC_of (List.all_eq_true.mp hx c hc), ?_⟩
  rw [← e]
  exact of_decide_eq_true (List.all_eq_true.mp h c hc)
end Lg

namespace Lg
open PySem PySem.Spec L2
def Res.thn {α β : Type} (r : Res α) (k : α → Store → Res β) : Res β := match r with
  | .ok a S => k a S
  | _ => .stuck
def mLcGo2 (g : GM) (t : BM) (it1 : IM) (g1 : GM) (t1 : BM) (e : EM) (vs1 : List Nat) (env : En) : List D → List D → Store → Res (List D)
  | [], acc, S => .ok acc S
  | d :: r, acc, S => match g d env S with
    | .ok env1 S1 => match t env1 S1 with
      | .ok true S2 => match it1 env1 S2 with
        | .ok ds1 S3 => (mLcGo g1 t1 e (wipeE env1 vs1) ds1 acc S3).thn fun acc1 S4 => mLcGo2 g t it1 g1 t1 e vs1 env r acc1 S4
        | _ => .stuck
      | .ok false S2 => mLcGo2 g t it1 g1 t1 e vs1 env r acc S2
      | _ => .stuck
    | _ => .stuck
def mLc2 (it : IM) (g : GM) (t : BM) (it1 : IM) (g1 : GM) (t1 : BM) (e : EM) (vs vs1 : List Nat) : EM := fun env S => (it env S).bind fun ds S1 => (mLcGo2 g t it1 g1 t1 e vs1 (wipeE env vs) ds [] S1).bind fun xs S2 => .ok (.lst xs) S2
def mLc2L (it : IM) (g : GM) (t : BM) (it1 : IM) (g1 : GM) (t1 : BM) (e : EM) (vs vs1 : List Nat) : EM := fun env S => (it env S).bind fun ds S1 => (mLcGo2 g t it1 g1 t1 e vs1 (wipeE env vs) ds [] S1).bind fun xs S2 => .ok (.loc S2.length) (S2 ++ [.lst xs])
theorem lc2_in {J : It} {n : Nat} {G' : Hp → Prop} {Y : Nat → Hp → V → Hp → Prop} (w : Walk J n G' Y) {B : V → Hp → (Hp → Prop) → Prop} {H4 : Hp} {Nx : Hp → Prop} (Pv : Nat → Hp → Prop) (h0 : Pv 0 H4) (hG : ∀ i H, i ≤ n → Pv i H → G' H)
    (hs : ∀ i x H H', i < n → Pv i H → Y i H x H' → B x H' (Pv (i + 1))) (hd : ∀ H, Pv n H → Nx H) :
    ∃ W : Nat → Nat → Hp → Prop, (∃ m, W 0 m H4) ∧ ∀ i m H, W i m H → (J.stop i H ∧ Nx H) ∨ (J.go i H ∧ ∃ Nx1 : Hp → Prop, (∀ H', Nx1 H' → ∃ m', m' < m ∧ W (i + 1) m' H') ∧ ∀ x H', J.yld i H x H' → B x H' Nx1) := by
  refine ⟨fun i m H => m = n - i ∧ i ≤ n ∧ Pv i H, ⟨n, by simp, Nat.zero_le _, h0⟩, ?_⟩
  rintro i m H ⟨rfl, hi, p⟩
  have q := hG i H hi p
  by_cases hlt : i < n
  · refine .inr ⟨w.goes i H hlt q, Pv (i + 1), fun H' p' => ⟨n - (i + 1), by omega, rfl, hlt, p'⟩, fun x H' y => hs i x H H' hlt p (w.yields i H x H' hlt q y)⟩
  · have e : i = n := by omega
    subst e
    exact .inl ⟨w.stops H q, hd H p⟩
section
variable {g : G} {E : XK}
theorem ExH.trans {ρ ρ1 ρ2 : List Addr} {H H1 H2 : Hp} {S1 : Store} (a : ExH g ρ H ρ1 H1) (rs : RS g ρ1 S1 H1) (b : Ex ρ1 H1 ρ2 H2) : ExH g ρ H ρ2 H2 := by
  obtain ⟨l, rfl, hl⟩ := a.new
  obtain ⟨m, rfl, hm⟩ := b.new
  refine ⟨⟨l ++ m, by simp, fun x hx => ?_⟩, fun x o n h => b.keep x o (a.out h n).1 (a.keep x o n h)⟩
  rcases List.mem_append.mp hx with hx | hx
  · exact hl x hx
  · obtain ⟨h1, h2⟩ := hm x hx
    have h3 : x ∉ ρ := fun q => h2 (List.mem_append_left _ q)
    have h4 : x ∉ g.hid := fun q => by
      obtain ⟨⟨o, ho, _⟩, _⟩ := rs.hd x q
      rw [ho] at h1; cases h1
    refine ⟨?_, h3⟩
    cases q : H x with
    | none => rfl
    | some o => rw [a.keep x o ⟨h3, h4⟩ q] at h1; cases h1
theorem ExH.mut {l : List Addr} {p : Addr} {o : HO} {ρ ρ' : List Addr} {H H' : Hp} (e : ExH (g.hide (p :: l)) ρ H ρ' H') : ExH (g.hide (p :: l)) ρ H ρ' (upd H' p o) :=
  ⟨e.new, fun a u n h => by rw [upd_ne fun e => n.2 (by rw [e]; exact List.mem_cons_self)]; exact e.keep a u n h⟩
theorem lc2_turns {wi wi1 : TI} {gt gt1 : TG} {tt tt1 : TT} {te : TE} {it it1 : IM} {gm gm1 : GM} {tm tm1 : BM} {em : EM} {vs vs1 : List Nat} (hi : SimI g E wi it) (hg : SimG g E0 gt gm) (ht : SimT g E0 tt tm) (hi1 : SimI g E0 wi1 it1) (hg1 : SimG g E0 gt1 gm1) (ht1 : SimT g E0 tt1 tm1) (he : SimE g E0 te em)
    (ho : Own vs gt) (ho1 : Own vs1 gt1)
    {l : List Addr} {σ : L2.St} {H : Hp} {Q : VK} {ρ : List Addr} {S : Store} {env : En} {f : List D → Store → Res D} (re : RE (g.hide l) ρ H σ env) (rs : RS (g.hide l) ρ S H)
    (p : PostE (g.hide l) E ρ H Q ((it env S).bind fun ds S1 => (mLcGo2 gm tm it1 gm1 tm1 em vs1 (wipeE env vs) ds [] S1).bind f))
    (k : ∀ Dl xs ws S2 ρ2 H2, Ex ρ H ρ2 H2 → RS (g.hide (Dl :: l)) ρ2 S2 H2 → Dl ∉ l → H2 Dl = some (.lst ws) → RDs (g.hide (Dl :: l)) ρ2 H2 ws xs → PostE (g.hide l) E ρ H Q (f xs S2) → H Dl = none → Dl ∉ ρ → Q (.ref Dl) H2) :
    tLc2 wi gt tt wi1 gt1 tt1 te vs vs1 σ H Q := by
  have hwi := wipe_wipe σ vs
  refine hi l σ H _ ρ S env re rs ?_
  cases e : it env S with
  | err x S' => rw [e] at p; exact p
  | stuck => rw [e] at p; exact p
  | ok ds S1 =>
    rw [e] at p
    have p : PostE (g.hide l) E ρ H Q ((mLcGo2 gm tm it1 gm1 tm1 em vs1 (wipeE env vs) ds [] S1).bind f) := p
    intro ρ1 H1 J e1 rs1 wd0 Dl hD
    have nDl : Dl ∉ l := (rs1.fresh hD).2
    have nDρ1 : Dl ∉ ρ1 := (rs1.fresh hD).1
    have nDρ : Dl ∉ ρ := fun m => by
      obtain ⟨n, hn, en⟩ := List.getElem_of_mem m
      exact nDρ1 (List.mem_of_getElem? (e1.at (show ρ[n]? = some Dl by rw [List.getElem?_eq_getElem hn, en])))
    have hDn : H Dl = none := by
      cases q : H Dl with
      | none => rfl
      | some o => rw [e1.keep Dl o nDρ q] at hD; cases hD
    obtain ⟨G', Y, w, wg, wy⟩ := wd0 (Dl :: l) fun a m => (List.mem_cons.mp m).elim (fun z => .inr (z ▸ hD)) .inl
    refine lc2_in w (fun i H' => ∃ ρ' S' acc ws, Ex ρ1 H1 ρ' H' ∧ RS (g.hide (Dl :: l)) ρ' S' H' ∧ H' Dl = some (.lst ws) ∧ RDs (g.hide (Dl :: l)) ρ' H' ws acc ∧
      PostE (g.hide l) E ρ H Q ((mLcGo2 gm tm it1 gm1 tm1 em vs1 (wipeE env vs) (ds.drop i) acc S').bind f)) ?_ ?_ ?_ ?_
    · exact ⟨ρ1, S1, [], [], Ex.new1 hD, rs1.hide hD, upd_same, .nil, p⟩
    · rintro i H' _ ⟨ρ', S', acc, ws, e2, _⟩
      exact wg ρ' H' e2.toH
    · rintro i x H' H'' hi' ⟨ρ', S', acc, ws, e2, rs2, hDw, racc, p2⟩ y
      obtain ⟨d, hd, e3, rs3, rx, kp⟩ := wy i ρ' H' x H'' S' hi' e2.toH rs2 y
      rw [drop_at hd] at p2
      have e23 := e2.trans e3
      have re3 : RE (g.hide (Dl :: l)) ρ' H'' (L2.wipe σ vs) (wipeE env vs) := RE.tr (g := g.hide l) (g' := g.hide (Dl :: l)) rfl (fun _ _ h => e23.at h) (ahead_k hD e23) ((re.mono e1).wipe vs)
      have nD' : Dl ∉ ρ' := (rs3.hd Dl List.mem_cons_self).2
      have hDw3 := kp _ _ hDw
      have racc3 := racc.mono e3
      refine ho x _ H'' _ ?_ |> fun z => by rw [hwi] at z; exact z
      refine hg (Dl :: l) x (L2.wipe σ vs) H'' _ ρ' S' (wipeE env vs) d rx re3 rs3 ?_
      unfold mLcGo2 at p2
      cases eg : gm d (wipeE env vs) S' with
      | err x S' => rw [eg] at p2; exact p2.elim
      | stuck => rw [eg] at p2; exact p2.elim
      | ok env1 S2 =>
        rw [eg] at p2
        dsimp only at p2
        intro ρ4 H4 σ4 e4 rs4 re4
        refine ht (Dl :: l) σ4 H4 _ ρ4 S2 env1 re4 rs4 ?_
        cases et : tm env1 S2 with
        | err x S' => rw [et] at p2; exact p2.elim
        | stuck => rw [et] at p2; exact p2.elim
        | ok b S3 =>
          rw [et] at p2
          intro ρ5 H5 e5 rs5
          have hDw5 := e5.keep _ _ (rs4.hd Dl List.mem_cons_self).2 (e4.keep _ _ nD' hDw3)
          cases b with
          | false =>
            exact ⟨ρ5, S3, acc, ws, (e23.trans e4).trans e5, rs5, hDw5, (racc3.mono e4).mono e5, p2⟩
          | true =>
            dsimp only at p2
            refine hi1 (Dl :: l) σ4 H5 _ ρ5 S3 env1 (re4.mono e5) rs5 ?_
            cases ei : it1 env1 S3 with
            | err x S' => rw [ei] at p2; exact p2.elim
            | stuck => rw [ei] at p2; exact p2.elim
            | ok ds1 S4 =>
              rw [ei] at p2
              dsimp only at p2
              intro ρ6 H6 J1 e6 rs6 wd1
              obtain ⟨G1, Y1, w1, wg1, wy1⟩ := wd1 (Dl :: l) fun a m => .inl m
              have e16 := ((e23.trans e4).trans e5).trans e6
              have nD6 : Dl ∉ ρ6 := (rs6.hd Dl List.mem_cons_self).2
              have re6 := ((re4.mono e5).mono e6).wipe vs1
              have hDw6 := e6.keep _ _ (rs5.hd Dl List.mem_cons_self).2 hDw5
              have racc6 := ((racc3.mono e4).mono e5).mono e6
              -- the places but Dl stay
              have hwi1 := wipe_wipe σ4 vs1
              refine lc2_in w1 (fun j H' => ∃ ρ' S' acc ws, ExH (g.hide (Dl :: l)) ρ6 H6 ρ' H' ∧ Ex ρ1 H1 ρ' H' ∧ RS (g.hide (Dl :: l)) ρ' S' H' ∧ H' Dl = some (.lst ws) ∧ RDs (g.hide (Dl :: l)) ρ' H' ws acc ∧ RE (g.hide (Dl :: l)) ρ' H' (L2.wipe σ4 vs1) (wipeE env1 vs1) ∧
                PostE (g.hide l) E ρ H Q (((mLcGo gm1 tm1 em (wipeE env1 vs1) (ds1.drop j) acc S').thn fun acc1 S4 => mLcGo2 gm tm it1 gm1 tm1 em vs1 (wipeE env vs) (ds.drop (i + 1)) acc1 S4).bind f)) ?_ ?_ ?_ ?_
              · exact ⟨ρ6, S4, acc, ws, Ex.refl.toH, e16, rs6, hDw6, racc6, re6, p2⟩
              · rintro j H' _ ⟨ρ', S', acc, ws, eo, _⟩
                exact wg1 ρ' H' eo
              · clear hDw racc p2 rs2 e2 hd rx kp e3 rs3 eg et ei hDw3 racc3 re3 e4 rs4 re4 e5 rs5 hDw5 hDw6 racc6 re6 acc ws
                rintro j x1 H7 H8 hj ⟨ρ7, S7, acc, ws, eo, e2, rs2, hDw, racc, re3, p2⟩ y1
                obtain ⟨d1, hd1, e3, rs3, rx, kp⟩ := wy1 j ρ7 H7 x1 H8 S7 hj eo rs2 y1
                rw [drop_at hd1] at p2
                have e23 := e2.trans e3
                have eo3 := eo.trans rs2 e3
                have hDw3 := kp _ _ hDw
                have racc3 := racc.mono e3
                have re3 := re3.mono e3
                refine ho1 x1 _ H8 _ ?_ |> fun z => by rw [hwi1] at z; exact z
                refine hg1 (Dl :: l) x1 (L2.wipe σ4 vs1) H8 _ ρ7 S7 (wipeE env1 vs1) d1 rx re3 rs3 ?_
                unfold mLcGo at p2
                cases eg : gm1 d1 (wipeE env1 vs1) S7 with
                | err x S' => rw [eg] at p2; exact p2.elim
                | stuck => rw [eg] at p2; exact p2.elim
                | ok env2 S8 =>
                  rw [eg] at p2
                  dsimp only at p2
                  intro ρ9 H9 σ9 e9 rs9 re9
                  refine ht1 (Dl :: l) σ9 H9 _ ρ9 S8 env2 re9 rs9 ?_
                  cases et : tm1 env2 S8 with
                  | err x S' => rw [et] at p2; exact p2.elim
                  | stuck => rw [et] at p2; exact p2.elim
                  | ok b S9 =>
                    rw [et] at p2
                    intro ρa Ha ea rsa
                    have hDwa := ea.keep _ _ (rs9.hd Dl List.mem_cons_self).2 (e9.keep _ _ (rs3.hd Dl List.mem_cons_self).2 hDw3)
                    have e9a := e9.trans ea
                    have rea : RE (g.hide (Dl :: l)) ρa Ha (L2.wipe σ4 vs1) (wipeE env1 vs1) := re3.mono e9a
                    cases b with
                    | false =>
                      exact ⟨ρa, S9, acc, ws, eo3.trans rs3 e9a, e23.trans e9a, rsa, hDwa, racc3.mono e9a, rea, p2⟩
                    | true =>
                      dsimp only at p2
                      refine he (Dl :: l) σ9 Ha _ ρa S9 env2 (re9.mono ea) rsa ?_
                      cases ee : em env2 S9 with
                      | err x S' => rw [ee] at p2; exact p2.elim
                      | stuck => rw [ee] at p2; exact p2.elim
                      | ok z Sb =>
                        rw [ee] at p2
                        dsimp only at p2
                        intro ρb Hb vb eb rsb rz
                        have hDwb := eb.keep _ _ (rsa.hd Dl List.mem_cons_self).2 hDwa
                        have e9b := e9a.trans eb
                        have raccb := racc3.mono e9b
                        by_cases hz : acc.length < sizeLine
                        · rw [if_pos hz] at p2
                          refine ⟨ws, hDwb, by rw [raccb.length]; exact hz, ρb, Sb, acc ++ [z], ws ++ [vb], (eo3.trans rs3 e9b).mut, Ex.mut (e23.trans e9b) hD, rsb.hidden, upd_same, ?_, ?_, p2⟩
                          · exact (RDs.tr (g := g.hide (Dl :: l)) (g' := g.hide (Dl :: l)) rfl (fun _ _ h => h) hidden_k (raccb.snoc rz))
                          · exact RE.tr (g := g.hide (Dl :: l)) (g' := g.hide (Dl :: l)) rfl (fun _ _ h => h) hidden_k (rea.mono eb)
                        · rw [if_neg hz] at p2; exact p2.elim
              · rintro H' ⟨ρ', S', acc, ws, eo, e2, rs2, hDw, racc, re3, p2⟩
                rw [List.drop_length] at p2
                exact ⟨ρ', S', acc, ws, e2, rs2, hDw, racc, p2⟩
    · rintro H' ⟨ρ', S', acc, ws, e2, rs2, hDw, racc, p2⟩
      rw [List.drop_length] at p2
      exact k Dl acc ws S' ρ' H' (e1.trans e2) rs2 nDl hDw racc p2 hDn nDρ
theorem sim_lc2 {wi wi1 : TI} {gt gt1 : TG} {tt tt1 : TT} {te : TE} {it it1 : IM} {gm gm1 : GM} {tm tm1 : BM} {em : EM} {vs vs1 : List Nat} (hi : SimI g E wi it) (hg : SimG g E0 gt gm) (ho : Own vs gt) (ht : SimT g E0 tt tm) (hi1 : SimI g E0 wi1 it1) (hg1 : SimG g E0 gt1 gm1) (ho1 : Own vs1 gt1) (ht1 : SimT g E0 tt1 tm1) (he : SimE g E0 te em) :
    SimE g E (tLc2 wi gt tt wi1 gt1 tt1 te vs vs1) (mLc2 it gm tm it1 gm1 tm1 em vs vs1) := by
  intro l σ H Q ρ S env re rs p
  refine lc2_turns hi hg ht hi1 hg1 ht1 he ho ho1 re rs (f := fun xs S2 => .ok (.lst xs) S2) p fun Dl xs ws S2 ρ2 H2 e rs2 hl hD rx p2 hn nρ => ?_
  have nD : Dl ∉ ρ2 := (rs2.hd Dl List.mem_cons_self).2
  refine p2 ρ2 H2 _ e (rs2.unhide hl fun _ _ => rfl) (.lst hD ⟨nD, hl⟩ ?_)
  exact RDs.tr (g := g.hide (Dl :: l)) (g' := g.hide l) rfl (fun _ _ h => h) (show_k fun _ _ => rfl) rx
end
end Lg

namespace Lg
open PySem PySem.Spec L2
def rDInO : R2 := fun x y H Q => ∃ a o, y = .ref a ∧ DGet H a x o ∧ Q (.bl o.isSome) H
def rDNotInO : R2 := fun x y H Q => ∃ a o, y = .ref a ∧ DGet H a x o ∧ Q (.bl (!o.isSome)) H
theorem op_dinO {X : Cx} (hu : X.A.units + 1 < cLine) : OpR X (compareOp .In) rDInO := by
  intro pins s σ H x y v u Q I rx ry h
  obtain ⟨a, o, rfl, g, q⟩ := h
  cases ry
  exact d_in hu I g rx fun s3 I3 => ⟨.bl o.isSome, H, I3, rfl, q⟩
theorem op_dnotInO {X : Cx} (hu : X.A.units + 1 < cLine) : OpR X (compareOp .NotIn) rDNotInO := by
  intro pins s σ H x y v u Q I rx ry h
  obtain ⟨a, o, rfl, g, q⟩ := h
  cases ry
  exact d_notIn hu I g rx fun s3 I3 => ⟨.bl (!o.isSome), H, I3, rfl, q⟩
abbrev rInX (K : PySem.W.Frag) : R2 := fun x y H Q => rInA K x y H Q ∨ rDInO x y H Q
abbrev rNotInX (K : PySem.W.Frag) : R2 := fun x y H Q => rNotInA K x y H Q ∨ rDNotInO x y H Q
theorem op_inX {X : Cx} (hu : X.A.units + 65 < cLine) : OpR X (compareOp .In) (rInX X.K) := (op_inA hu).or (op_dinO (by omega))
theorem op_notInX {X : Cx} (hu : X.A.units + 65 < cLine) : OpR X (compareOp .NotIn) (rNotInX X.K) := (op_notInA hu).or (op_dnotInO (by omega))
def dInX (x y : D) (S : Store) : Res D := match getK y x S with
  | some r => .ok (.bl r.isSome) S
  | none => dIn x y S
def dNotInX (x y : D) (S : Store) : Res D := match getK y x S with
  | some r => .ok (.bl (!r.isSome)) S
  | none => dNotIn x y S
section
variable {g : G} {E : XK} {K : PySem.W.Frag}
theorem sim_inX : OpSim g E (rInX K) dInX := by
  intro l x y H Q ρ S dx dy rx ry rs p
  unfold dInX at p
  split at p
  · rename_i r e
    obtain ⟨a, z, rfl, dg, hs, _⟩ := get_k rs ry rx e
    exact .inr ⟨a, z, rfl, dg, by rw [hs]; exact p ρ H _ Ex.refl rs (.bl _)⟩
  · exact .inl (sim_in l x y H Q ρ S dx dy rx ry rs p)
theorem sim_notInX : OpSim g E (rNotInX K) dNotInX := by
  intro l x y H Q ρ S dx dy rx ry rs p
  unfold dNotInX at p
  split at p
  · rename_i r e
    obtain ⟨a, z, rfl, dg, hs, _⟩ := get_k rs ry rx e
    exact .inr ⟨a, z, rfl, dg, by rw [hs]; exact p ρ H _ Ex.refl rs (.bl _)⟩
  · exact .inl (sim_notIn l x y H Q ρ S dx dy rx ry rs p)
end
/-! ### a dict that is written -/
def mPairs : List (EM × EM) → En → Store → Res (List (Key × D))
  | [], _, S => .ok [] S
  | (k, v) :: r, env, S => match k env S with
    | .ok x S1 => match v env S1 with
      | .ok y S2 => match keyD x with
        | some kk => match mPairs r env S2 with
          | .ok kvs S3 => .ok ((kk, y) :: kvs) S3
          | _ => .stuck
        | none => .stuck
      | _ => .stuck
    | _ => .stuck
def mDisp (ps : List (EM × EM)) : EM := fun env S => match mPairs ps env S with
  | .ok kvs S1 => if kvs.length ≤ 15 then .ok (.loc S1.length) (S1 ++ [.dK (mergeD kvs)]) else .stuck
  | _ => .stuck
section
variable {g : G} {E : XK}
inductive SimPs (g : G) (E : XK) : List (TE × TE) → List (EM × EM) → Prop
  | nil : SimPs g E [] []
  | cons {tk tv : TE} {k v : EM} {ts : List (TE × TE)} {as : List (EM × EM)} (hk : SimE g E tk k) (hv : SimE g E tv v) (r : SimPs g E ts as) : SimPs g E ((tk, tv) :: ts) ((k, v) :: as)
theorem sim_pairs {ts : List (TE × TE)} {as : List (EM × EM)} (h : SimPs g E0 ts as) : ∀ (l : List Addr) (σ : L2.St) (H : Hp) (Q : List (V × V) → Hp → Prop) (ρ : List Addr) (S : Store) (env : En) (kvs : List (Key × D)) (S' : Store), RE (g.hide l) ρ H σ env → RS (g.hide l) ρ S H → mPairs as env S = .ok kvs S' →
    (∀ ρ' H' (ws : List (Key × V)), Ex ρ H ρ' H' → RS (g.hide l) ρ' S' H' → RKV (g.hide l) ρ' H' ws kvs → Q (ws.map fun kv => (kV kv.1, kv.2)) H') → tPairs ts σ H Q := by
  induction h with
  | nil =>
    intro l σ H Q ρ S env kvs S' re rs e q
    cases e
    exact q ρ H [] Ex.refl rs .nil
  | @cons tk tv k v ts as hk hv r ih =>
    intro l σ H Q ρ S env kvs S' re rs e q
    unfold mPairs at e
    show tk σ H fun x H1 => tv σ H1 fun y H2 => tPairs ts σ H2 fun ps H3 => Q ((x, y) :: ps) H3
    split at e
    · rename_i x S1 e1
      refine hk l σ H _ ρ S env re rs ?_
      rw [e1]
      intro ρ1 H1 u ex1 rs1 ru
      split at e
      · rename_i y S2 e2
        refine hv l σ H1 _ ρ1 S1 env (re.mono ex1) rs1 ?_
        rw [e2]
        intro ρ2 H2 w ex2 rs2 rw'
        split at e
        · rename_i kk e3
          split at e
          · rename_i kv3 S3 e4
            cases e
            refine ih l σ H2 _ ρ2 S2 env kv3 S' ((re.mono ex1).mono ex2) rs2 e4 fun ρ3 H3 ws ex3 rs3 rk => ?_
            have := q ρ3 H3 ((kk, w) :: ws) ((ex1.trans ex2).trans ex3) rs3 (.cons ⟨rfl, rw'.mono ex3⟩ rk)
            rw [key_of_rd ru e3]
            exact this
          · cases e
        · cases e
      · cases e
    · cases e
theorem RKV.merge {ρ : List Addr} {H : Hp} {xs : List (Key × V)} {ys : List (Key × D)} (r : RKV g ρ H xs ys) : RKV g ρ H (L2.mergeK [] xs) (mergeD ys) := merge_rkv r .nil
theorem sim_disp {ts : List (TE × TE)} {as : List (EM × EM)} (h : SimPs g E0 ts as) : SimE g E (tDisp ts) (mDisp as) := by
  intro l σ H Q ρ S env re rs p Dl hD
  unfold mDisp at p
  have nDl : Dl ∉ l := (rs.fresh hD).2
  have nDρ : Dl ∉ ρ := (rs.fresh hD).1
  split at p
  · rename_i kvs S1 e
    split at p
    · rename_i hl
      refine sim_pairs h (Dl :: l) σ _ _ ρ S env kvs S1 (RE.tr (g := g.hide l) (g' := g.hide (Dl :: l)) rfl (fun _ _ h => h) (fun a u n h => ⟨⟨n.1, fun m => (List.mem_cons.mp m).elim (ne_of_none h hD) n.2⟩, by rw [upd_ne (ne_of_none h hD)]; exact h⟩) re) (rs.hide hD) e fun ρ' H' ws ex rs2 rk => ?_
      have hDw : H' Dl = some (.dK []) := ex.keep _ _ nDρ upd_same
      refine ⟨hDw, ws, rfl, by have := rk.len'; omega, ?_⟩
      have nD : Dl ∉ ρ' := (rs2.hd Dl List.mem_cons_self).2
      let H3 : Hp := fun a => if a = Dl then none else H' a
      have k3 : ∀ a, a ≠ Dl → H3 a = H' a := fun a h => if_neg h
      have rs3 : RS (g.hide l) ρ' S1 H3 := rs2.unhide nDl k3
      have hD3 : H3 Dl = none := if_pos rfl
      have e3 : Ex ρ H ρ' H3 := by
        refine ⟨?_, fun a o n h => by rw [k3 a (ne_of_none h hD)]; exact ex.keep a o n (by rw [upd_ne (ne_of_none h hD)]; exact h)⟩
        obtain ⟨m, hm, hm2⟩ := ex.new
        refine ⟨m, hm, fun a ha => ⟨?_, (hm2 a ha).2⟩⟩
        have q := (hm2 a ha).1
        by_cases z : a = Dl
        · rw [z]; exact hD
        · rw [upd_ne z] at q; exact q
      have u3 : upd H3 Dl (.dK (L2.mergeK [] ws)) = upd H' Dl (.dK (L2.mergeK [] ws)) := by
        funext a
        by_cases h : a = Dl
        · rw [h, upd_same, upd_same]
        · rw [upd_ne h, upd_ne h, k3 a h]
      have rx3 : RKV (g.hide l) ρ' H3 (L2.mergeK [] ws) (mergeD kvs) := RKV.tr' (g := g.hide (Dl :: l)) (g' := g.hide l) rfl (fun _ _ h => h) (show_k k3) rk.merge
      obtain ⟨e4, rs4⟩ := rs3.push (o := .dK (L2.mergeK [] ws)) (ob := .dK (mergeD kvs)) hD3 fun ρ'' H'' e' q => ⟨_, q, rx3.mono e'⟩
      rw [u3] at e4 rs4
      exact p _ _ _ (e3.trans e4) rs4 (.loc (by rw [← rs2.len]; simp))
    · exact p.elim
  · exact p.elim
end
end Lg

namespace Lg
open PySem PySem.Spec PyProof.Rows L2
theorem sw_trueD {kx vx : Expr} {gs : List Comprehension} {scope : Scope} {pos py : Pos} {y : PySem.Str} {l : Nat} {env : Env} (hk : env.scope.kind = ScopeKind.function) (hy : env.scope.names.lookup y = some NameKind.local) (hl : (py.line == pos.line) = true)
    (ha : (scope.names.any fun x => match x with | (n, k) => n == y && (k == NameKind.local || k == NameKind.cell)) = false) : swapsWith (kx.DictComp vx gs scope pos) (some (Expr.Name y py)) l env = pure true := by
  have h := sw_true (elt := kx) (gs := gs) (scope := scope) (pos := pos) (py := py) (y := y) (l := l) hk hy hl ha
  exact h
theorem ps_setDc {X : Cx} {i : Nat} {y : PySem.Str} {py : Pos} {kx vx tg iter : Expr} {ifs : List Expr} {scope : Scope} {own : List (PySem.Str × Nat)} {pos spos : Pos} {wi : TI} {g : TG} {tt : TT} {tk tv : TE}
    (hc : X.calm = true) (hN : X.N.Nodup) (hy : X.N[i]? = some y) (hyl : X.env.scope.names.lookup y = some NameKind.local)
    (hsw : swapsWith (kx.DictComp vx [⟨tg, iter, ifs, 0⟩] scope pos) (some (Expr.Name y py)) spos.line X.env = pure true)
    (hi : PI X tg iter wi) (ok : BlkOk X.N X.env.scope scope own)
    (hg : ∀ (s : Shared) (H : Hp) (C : Addr) (cl : List (PySem.Str × Addr)) (fp : List Addr), PG (X.blk s H scope (compEnvC scope cl C X.env) fp) tg g)
    (ht : ∀ (s : Shared) (H : Hp) (C : Addr) (cl : List (PySem.Str × Addr)) (fp : List Addr), PTs (X.blk s H scope (compEnvC scope cl C X.env) fp) ifs tt)
    (hk : ∀ (s : Shared) (H : Hp) (C : Addr) (cl : List (PySem.Str × Addr)) (fp : List Addr), PE (X.blk s H scope (compEnvC scope cl C X.env) fp) kx tk)
    (he : ∀ (s : Shared) (H : Hp) (C : Addr) (cl : List (PySem.Str × Addr)) (fp : List Addr), PE (X.blk s H scope (compEnvC scope cl C X.env) fp) vx tv)
    (hs : ∀ x : Value, foldedSetIterable iter X.env x = pure x := by exact fun _ => rfl) :
    PS X (Stmt.Assign [Expr.Name y py] (kx.DictComp vx [⟨tg, iter, ifs, 0⟩] scope pos) spos) (tAsg (tDc wi g tt tk tv (own.map (·.2))) (gName i)) := by
  refine ⟨fun pins s σ H D I h => ?_⟩
  rw [exec_Assign_Name_used y py (kx.DictComp vx [⟨tg, iter, ifs, 0⟩] scope pos) spos hsw]
  refine wpAny_bind (wpAny_standAt (wpAny_bind ?_))
  show wpAny _ _ _ _ _ _
  refine wpAny_bind (thn (dc_core hc hN I hi ok hg ht hk he hs h fun L C s' m H' I' q hn f => ?_) fun x s' hq => wpAny_pure (wpAny_pure hq))
  refine wpAny_assign_Name (store_ok2 (v := .ref L) I' hN hy (.inl hyl) rfl (fun s2 I2 x => ?_) (.inr hyl))
  obtain ⟨a, sb, ha⟩ := x
  obtain ⟨f0, f1, f2, f3, f4, f5⟩ := f
  have haC : C ≠ a := ha.elim (fun z => by rw [z]; exact f1) fun z e => f4 y a z e.symm
  exact ⟨m, hn.sameBut sb haC, fun h3 sb3 => ⟨σ.set i (some (.ref L)), H', I2.turned (fun b o hb e => (sb3.right b hb).trans e) f0 f1 f3 f4 f5, q⟩⟩
end Lg

namespace Lg
open PySem PySem.Spec L2
theorem dict_eq_declines_str (l : Addr) (es : Array DictEntry) (n : Nat) (dd : Option Addr) (sl : Array (Option Value)) (b : PySem.Str) (u : Tok) :
    Meets (Builtin.«dict.__eq__» { pos := [Value.ref l, Value.str b u] }) fun x R s =>
      s.heap.get? l = some { cls := Value.type "dict", dict := dd, data := Data.dict es n, slots := sl } ∧ R (Except.ok (Flow.ret Value.notImplemented)) s := by
  refine Meets.of_wp fun prog w A R s h => ?_
  obtain ⟨hp, g, d, tk, os⟩ := s
  obtain ⟨hl, h⟩ := h
  have f1 : isSubtype (.type "str") (.type "dict") = pure false := by first | exact F.sub_str_dict | rfl | (decide +kernel)
  unfold Builtin.«dict.__eq__»
  refine wpAny_bind ?_
  show wpAny _ _ (Builtin.Dict.dictSlotArgs "__eq__" { pos := [Value.ref l, Value.str b u] }) _ _ _
  unfold Builtin.Dict.dictSlotArgs slotArgs
  refine wpAny_bind ?_
  unfold Builtin.Dict.notOrdered
  refine wpAny_ite_false (by decide +kernel) (wpAny_pure ?_)
  refine wpAny_bind ?_
  refine wpAny_ite_false (by rfl) ?_
  refine wpAny_ite_false (by rfl) ?_
  refine wpAny_pure (wpAny_pure ?_)
  refine wpAny_bind (wpAny_bind ?_)
  refine wpAny_pure (wpAny_of_eq f1 ?_)
  refine wpAny_ite_true (by rfl) ?_
  exact wpAny_bind (wpAny_rule (wpAny_pure ⟨Value.notImplemented, rfl, h⟩))
theorem str_eq_declines_dict (b : PySem.Str) (u : Tok) (l : Addr) (c : Value) (es : Array DictEntry) (n : Nat) (dd : Option Addr) (sl : Array (Option Value)) :
    Meets (Builtin.«str.__eq__» { pos := [Value.str b u, Value.ref l] }) fun x R s =>
      s.heap.get? l = some { cls := c, dict := dd, data := Data.dict es n, slots := sl } ∧ R (Except.ok (Flow.ret Value.notImplemented)) s := by
  refine Meets.of_wp fun prog w A R s h => ?_
  obtain ⟨hp, g, d, tk, os⟩ := s
  obtain ⟨hl, h⟩ := h
  unfold Builtin.«str.__eq__»
  refine wpAny_bind ?_
  refine wpAny_bind ?_
  unfold slotArgs
  refine wpAny_ite_false (by rfl) ?_
  refine wpAny_ite_false (by rfl) ?_
  refine wpAny_pure ?_
  refine wpAny_bind (wpAny_bind (wpAny_pure (wpAny_pure (wpAny_pure ?_))))
  refine wpAny_bind (wpAny_bind (wpAny_load hl (wpAny_pure ?_)))
  exact wpAny_bind (wpAny_rule (wpAny_pure ⟨Value.notImplemented, rfl, h⟩))
def IsDct (h : Heap) (l : Addr) : Prop := ∃ es n dd sl, h.get? l = some { cls := Value.type "dict", dict := dd, data := Data.dict es n, slots := sl }
theorem rc_str_dict {A : Around} {s : Shared} {l : Addr} (b : PySem.Str) (u : Tok) (hl : IsDct s.heap l) (hu : A.units < cLine) : SeqAt.RcAt A s (Value.str b u) (Value.ref l) false := by
  intro prog w E Q h
  obtain ⟨es, n, dd, sl, ho⟩ := hl
  refine SeqAt.rc_eq_decline_or (typeIs_str s b u) ⟨_, ho, rfl⟩ (by decide) F.sub_dict_str F.slot_str_eq F.slot_dict_eq_refl ?_ ?_ ?_ (.inr hu) h
  · intro Q' hq
    exact call_meets F.slot_str_eq (typeIs_str s b u) F.entry_str_eq (F.args_str_eq_2 (Value.str b u) (Value.ref l)) (str_eq_declines_dict b u l _ es n dd sl) ⟨ho, hq⟩
  · intro Q' hq
    exact call_meets F.slot_dict_eq_refl ⟨_, ho, rfl⟩ F.entry_dict_eq (F.args_dict_eq_2 (Value.ref l) (Value.str b u)) (dict_eq_declines_str l es n dd sl b u) ⟨ho, hq⟩
  · exact fun Q' hq => wpAny_of_eq rfl hq
theorem eqat_str_dict {A : Around} {s : Shared} {l : Addr} (b : PySem.Str) (u : Tok) (hl : IsDct s.heap l) (hu : A.units < cLine) : SeqAt.EqAt A s (Value.str b u) (Value.ref l) false := by
  intro prog w E Q h
  refine wpAny_holding (wpAny_ite_split (fun hab => absurd (eq_of_beq hab) fun e => nomatch e) fun _ => ?_)
  exact wpAny_bind (rc_str_dict b u hl hu prog w E (fun a s' => wpAny (model prog w) A (truthOfDropped a) Q E s') (wpAny_truthy_bool h))
/-- looked for in a list of texts -/
def rEmpIn (neg : Bool) (K : PySem.W.Frag) : R2 := fun x y H Q => ∃ (a b : Addr) (ys : List PySem.Str), x = .ref a ∧ y = .ref b ∧ Rd H a (.dK []) ∧ SqL K H b (ys.map V.str) ∧ Q (.bl neg) H
theorem isdct_of {X : Cx} {pins : List (Addr × Obj)} {σ : L2.St} {H : Hp} {s : Shared} (I : Inv X pins σ H s) {a : Addr} (h : Rd H a (.dK [])) : IsDct s.heap a := by
  have hk : ObjOk X.prog X.w H s.heap a (.dK []) := h.ok I.hok
  obtain ⟨_, _, vs, kv, o, es, ep, ho, hx, hd, _⟩ := hk
  obtain ⟨c, dd, da, sl⟩ := o
  have h1 := hx.1
  dsimp only at h1 hd
  subst h1 hd
  exact ⟨es, _, dd, sl, ho⟩
theorem strs_items {X : Cx} {s : Shared} {a : Addr} (hd : IsDct s.heap a) (hu : X.A.in1.units < cLine) : ∀ {ys : List PySem.Str} {its : List Value}, Vals (ys.map V.str) its → ∀ y ∈ its, SeqAt.EqAt X.A.in1 s y (.ref a) false
  | [], _, r, y, hy => by cases r; cases hy
  | t :: ys, _, .cons r rs, y, hy => by
    rcases List.mem_cons.mp hy with rfl | hy
    · obtain ⟨u, e⟩ := (show ∃ u, _ = Value.str t u from r)
      rw [e]
      exact eqat_str_dict t u hd hu
    · exact strs_items hd hu rs y hy
theorem op_empIn {X : Cx} (hu : X.A.units + 1 < cLine) : OpR X (compareOp .In) (rEmpIn false X.K) := by
  intro pins s σ H x y v u Q I rx ry h
  obtain ⟨a, b, ys, rfl, rfl, h1, h2, q⟩ := h
  cases rx; cases ry
  obtain ⟨its, rv, pl, hz⟩ := I.list h2
  refine SeqAt.in_listAt (fun _ => false) pl.isList (fun z hz => strs_items (isdct_of I h1) hu rv z (by simpa using hz)) ?_
  have : (its.toArray.any fun _ => false) = false := by simp
  rw [this]
  exact ⟨.bl false, H, I, rfl, q⟩
theorem op_empNotIn {X : Cx} (hu : X.A.units + 1 < cLine) : OpR X (compareOp .NotIn) (rEmpIn true X.K) := by
  intro pins s σ H x y v u Q I rx ry h
  obtain ⟨a, b, ys, rfl, rfl, h1, h2, q⟩ := h
  cases rx; cases ry
  obtain ⟨its, rv, pl, hz⟩ := I.list h2
  refine SeqAt.notIn_listAt (fun _ => false) pl.isList (fun z hz => strs_items (isdct_of I h1) hu rv z (by simpa using hz)) ?_
  have : (its.toArray.any fun _ => false) = false := by simp
  rw [this]
  exact ⟨.bl true, H, I, rfl, q⟩
abbrev rInE (K : PySem.W.Frag) : R2 := fun x y H Q => rInX K x y H Q ∨ rEmpIn false K x y H Q
abbrev rNotInE (K : PySem.W.Frag) : R2 := fun x y H Q => rNotInX K x y H Q ∨ rEmpIn true K x y H Q
theorem op_inE {X : Cx} (hu : X.A.units + 65 < cLine) : OpR X (compareOp .In) (rInE X.K) := (op_inX hu).or (op_empIn (by omega))
theorem op_notInE {X : Cx} (hu : X.A.units + 65 < cLine) : OpR X (compareOp .NotIn) (rNotInE X.K) := (op_notInX hu).or (op_empNotIn (by omega))
def isEmpD : D → Bool
  | .emp _ => true
  | _ => false
/-- the texts of a list -/
def txsL (y : D) (S : Store) : Option (List PySem.Str) := (asL y S).bind txs
def dInE (x y : D) (S : Store) : Res D := match isEmpD x, txsL y S with
  | true, some _ => .ok (.bl false) S
  | _, _ => dInX x y S
def dNotInE (x y : D) (S : Store) : Res D := match isEmpD x, txsL y S with
  | true, some _ => .ok (.bl true) S
  | _, _ => dNotInX x y S
section
variable {g : G} {E : XK}
theorem emp_of {l : List Addr} {ρ : List Addr} {H : Hp} {x y : V} {dx dy : D} {S : Store} {ys : List PySem.Str} (rs : RS (g.hide l) ρ S H) (rx : RD (g.hide l) ρ H x dx) (ry : RD (g.hide l) ρ H y dy) (h1 : isEmpD dx = true) (h2 : txsL dy S = some ys) : ∃ a b, x = .ref a ∧ y = .ref b ∧ Rd H a (.dK []) ∧ SqL g.K H b (ys.map V.str) := by
  unfold txsL at h2
  rw [Option.bind_eq_some_iff] at h2
  obtain ⟨zs, e1, e2⟩ := h2
  obtain ⟨b, vs, rfl, q1, q2⟩ := as_l rs ry e1
  have e : vs = ys.map V.str := txs_of q2 e2
  cases rx with
  | empF h n => exact ⟨_, b, rfl, rfl, .inr ⟨_, h⟩, by rw [← e]; exact SqL.of q1⟩
  | empU h n => exact ⟨_, b, rfl, rfl, .inl h, by rw [← e]; exact SqL.of q1⟩
  | _ => cases h1
theorem sim_inE : OpSim g E (rInE g.K) dInE := by
  intro l x y H Q ρ S dx dy rx ry rs p
  unfold dInE at p
  split at p
  · rename_i ys e1 e2
    obtain ⟨a, b, rfl, rfl, h1, h2⟩ := emp_of rs rx ry e1 e2
    exact .inr ⟨a, b, ys, rfl, rfl, h1, h2, p ρ H _ Ex.refl rs (.bl _)⟩
  · exact .inl (sim_inX l x y H Q ρ S dx dy rx ry rs p)
theorem sim_notInE : OpSim g E (rNotInE g.K) dNotInE := by
  intro l x y H Q ρ S dx dy rx ry rs p
  unfold dNotInE at p
  split at p
  · rename_i ys e1 e2
    obtain ⟨a, b, rfl, rfl, h1, h2⟩ := emp_of rs rx ry e1 e2
    exact .inr ⟨a, b, ys, rfl, rfl, h1, h2, p ρ H _ Ex.refl rs (.bl _)⟩
  · exact .inl (sim_notInX l x y H Q ρ S dx dy rx ry rs p)
end
end Lg

namespace Lg
open PySem L2
section
open PySem.W PyProof.Rows PySem.Calls
theorem cmp_none {prog : Program} {w : World} {A : Around} {E : Value → Shared → Prop} {s : Shared} {K : Frag} {x C f : Addr} {ox : Obj} {od : Option Obj} {Q : Value → Shared → Prop} (hu : A.units < cLine)
    (X : K.In s.heap) (J : InstAt s.heap x ox C od) (hs : subIn K (.ref C) (.type "NoneType") = some false)
    (h2 : findIn K (.ref C) "__eq__" = some (some (.ref f))) (hf : isFn K (.ref f) = true)
    (q : wpAny (model prog w) A (call (.ref f) [.ref x, .none]) (PySem.W.CmpBack Q) E s) : wpAny (model prog w) A (richCompare .Eq .none (.ref x)) Q E s := by
  have one : wpAny (model prog w) A (tryCompare (.ref x) (cmpInfo .Eq).2.2 .none) (fun r s' => ∃ v, r = some v ∧ Q v s') E s := by
    unfold tryCompare
    refine wpAny_bind (ifBound_K X J h2 hf (wpAny_mono q (fun v s' z => ?_) fun _ _ z => z))
    cases v <;> first | exact wpAny_pure ⟨_, rfl, z⟩ | exact z.elim
  have no : wpAny (model prog w) A (tryCompare .none (cmpInfo .Eq).2.1 (.ref x)) (fun r s' => r = none ∧ s' = s) E s := by
    exact wpAny_tryCompare_declines rfl F.slot_NoneType_eq (call_gives F.slot_NoneType_eq rfl F.entry_NoneType_eq (F.args_NoneType_eq_2 _ _) (SeqAt.NoneType___eq___none_ref_0 x) ⟨rfl, rfl, rfl⟩)
  unfold richCompare
  refine wpAny_holding (wpAny_bind (wpAny_cRoomFor hu ?_))
  show wpAny _ _ (typeOf Value.none >>= _) _ _ _
  refine wpAny_bind (wpAny_pure (wpAny_bind (J.type.here ?_)))
  refine wpAny_ite_true (by rfl) (wpAny_bind ((looks_subIn X hs).here ?_))
  simp only [Bool.false_eq_true, if_false]
  refine wpAny_bind (wpAny_mono no (fun r s' z => ?_) fun _ _ z => z)
  obtain ⟨rfl, rfl⟩ := z
  simp only [Bool.not_false, if_true]
  refine wpAny_bind (wpAny_mono one (fun r s' z => ?_) fun _ _ z => z)
  obtain ⟨v, rfl, z⟩ := z
  exact wpAny_pure z
/-- the list as it stands now, and what its next item asks -/
def Stands (prog : Program) (w : World) (A : Around) (E : Value → Shared → Prop) (x : Value) (l : Addr) (N i : Nat) (T P' : Shared → Prop) (s : Shared) : Prop := ∃ (items : Array Value) (n : Nat) (dd : Option Addr) (sl : Array (Option Value)),
  s.heap.get? l = some { cls := Value.type "list", dict := dd, data := Data.seq items n, slots := sl } ∧ items.size = N ∧ ∀ h : i < items.size, wpAny (model prog w) A.in1 (eqBool items[i] x) (fun b s' => if b = true then T s' else P' s') E s
theorem contains_go {prog : Program} {w : World} {A : Around} {R : Result → Shared → Prop} {l : Addr} {N : Nat} {x : Value} (P : Nat → Shared → Prop)
    (hg : ∀ i s, i ≤ N → P i s → Stands prog w A (fun e s' => R (.error e) s') x l N i (R (.ok (.ret (.bool true)))) (P (i + 1)) s)
    (hd : ∀ s, P N s → R (.ok (.ret (.bool false))) s) : ∀ (k i : Nat) (s : Shared), N - i = k → i ≤ N → P i s → codeAny (model prog w) A (Code.builtin "list.__contains__.loop" { pos := [.ref l, x, rawInt i] }) R s := by
  intro k
  induction k with
  | zero =>
    intro i s hk hi hp
    obtain ⟨items, n, dd, sl, hl, hz, _⟩ := hg i s hi hp
    have e : i = N := by omega
    obtain ⟨hp', g, d, tk, os⟩ := s
    refine codeAny_builtin MeetsSeq.entry_contains_loop ?_
    rw [Around.under_plainId MeetsSeq.plain_contains_loop]
    unfold Builtin.«list.__contains__.loop»
    refine wpAny_bind (wpAny_bind (wpAny_bind (wpAny_load' hl (wpAny_pure (wpAny_pure ?_)))))
    rw [show items[(i : Int).toNat]? = none from Array.getElem?_eq_none (by omega)]
    exact wpAny_pure (hd _ (e ▸ hp))
  | succ k ih =>
    intro i s hk hi hp
    obtain ⟨items, n, dd, sl, hl, hz, hs⟩ := hg i s hi hp
    have hlt : i < items.size := by omega
    have h1 := hs hlt
    obtain ⟨hp', g, d, tk, os⟩ := s
    refine codeAny_builtin MeetsSeq.entry_contains_loop ?_
    rw [Around.under_plainId MeetsSeq.plain_contains_loop]
    unfold Builtin.«list.__contains__.loop»
    refine wpAny_bind (wpAny_bind (wpAny_bind (wpAny_load' hl (wpAny_pure (wpAny_pure ?_)))))
    rw [show items[(i : Int).toNat]? = some items[i] from Array.getElem?_eq_getElem hlt]
    refine wpAny_bind (wpAny_mono h1 (fun b s' hb => ?_) fun _ _ z => z)
    cases b with
    | true => exact wpAny_ite_true (by rfl) (wpAny_pure hb)
    | false =>
      refine wpAny_ite_false (by rfl) (wpAny_pure ?_)
      refine ⟨plainId_quiet MeetsSeq.plain_contains_loop _, ?_⟩
      have := ih (i + 1) s' (by omega) (by omega) hb
      rwa [show rawInt ((i + 1 : Nat) : Int) = rawInt ((i : Int) + 1) from rfl] at this
/-- x in l, l a list that stays while its items are asked -/
theorem in_go {prog : Program} {w : World} {A : Around} {E : Value → Shared → Prop} {s : Shared} {l : Addr} {N : Nat} {x : Value} {Q : Value → Shared → Prop} {neg : Bool} (P : Nat → Shared → Prop)
    (hg : ∀ i s, i ≤ N → P i s → Stands prog w A E x l N i (Q (.bool (!neg))) (P (i + 1)) s)
    (hd : ∀ s, P N s → Q (.bool neg) s) (h0 : P 0 s) : wpAny (model prog w) A (compareOp (if neg = true then .NotIn else .In) x (.ref l)) Q E s := by
  obtain ⟨items, n, dd, sl, ho, _⟩ := hg 0 s (Nat.zero_le _) h0
  have called : ∀ Q' : Value → Shared → Prop, (∀ b s', Q (.bool (if neg = true then !b else b)) s' → Q' (.bool b) s') → wpAny (model prog w) A (call (.builtin "list.__contains__") [.ref l, x]) Q' E s := by
    intro Q' hq
    refine wpAny_call (codeAny_call_builtin F.slot_list_contains.plain F.entry_list_contains (F.slot_list_contains.check _ _ _ _ _ _ _ _ ⟨_, ho, rfl⟩ (F.args_list_contains_2 (.ref l) x) ?_))
    unfold Builtin.«list.__contains__»
    refine wpAny_bind (m := slotArgs "__contains__" 1 _) (wpAny_pure ?_)
    refine wpAny_pure ⟨plainId_quiet MeetsSeq.plain_contains_loop _, ?_⟩
    refine contains_go (N := N) P (fun i s hi hp => ?_) (fun s hp => ?_) N 0 s (by omega) (Nat.zero_le _) h0
    · obtain ⟨items, n, dd, sl, h1, h2, h3⟩ := hg i s hi hp
      refine ⟨items, n, dd, sl, h1, h2, fun h => wpAny_mono (h3 h) (fun b s' z => ?_) fun _ _ z => z⟩
      cases b with
      | true => exact hq true s' (by cases neg <;> exact z)
      | false => exact z
    · exact hq false s (by have := hd s hp; cases neg <;> exact this)
  cases neg with
  | false =>
    show wpAny _ _ (compareOp .In x (.ref l)) _ _ _
    refine wpAny_bind (m := contains (.ref l) x) (wpAny_contains_slot ⟨_, ho, rfl⟩ F.slot_list_contains (called _ fun b s' z => ?_))
    exact wpAny_truthy_bool (wpAny_pure z)
  | true =>
    show wpAny _ _ (compareOp .NotIn x (.ref l)) _ _ _
    refine wpAny_bind (m := contains (.ref l) x) (wpAny_contains_slot ⟨_, ho, rfl⟩ F.slot_list_contains (called _ fun b s' z => ?_))
    exact wpAny_truthy_bool (wpAny_pure z)
end
/-! ### as a rule -/
/-- what the items ask, one behind the other: x (at a) against each -/
def inL (K : PySem.W.Frag) (C : Addr) (sp : Sp) (E : XK) (p a : Addr) (all : List V) : List V → Hp → (Bool → Hp → Prop) → Prop
  | [], H, Q => SqL K H p all ∧ Q false H
  | v :: vs, H, Q => SqL K H p all ∧ (∃ dx fs, H a = some (.ins C dx fs)) ∧ (
      (v = .ref a ∧ Q true H) ∨
      (v = .non ∧ sp [.ref a, .non] H (fun r H' => ∃ b, r = .bl b ∧ if b = true then Q true H' else inL K C sp E p a all vs H' Q) E) ∨
      ∃ b, v = .ref b ∧ b ≠ a ∧ (∃ dx fs t, H b = some (.ins C dx fs) ∧ TyX K H (.ref a) t ∧ PySem.W.notFirst K C t = true) ∧ sp [.ref b, .ref a] H (fun r H' => ∃ b, r = .bl b ∧ if b = true then Q true H' else inL K C sp E p a all vs H' Q) E)
def rInOwn (neg : Bool) (K : PySem.W.Frag) (C : Addr) (sp : Sp) (E : XK) : R2 := fun x y H Q => ∃ a p vs, x = .ref a ∧ y = .ref p ∧ inL K C sp E p a vs vs H fun b H' => Q (.bl (if neg = true then !b else b)) H'
theorem vals_get : ∀ {xs : List V} {us : List Value} {i : Nat} {v : V}, Vals xs us → xs[i]? = some v → ∃ u, us[i]? = some u ∧ RelV v u
  | _, _, _, _, .nil, e => by simp at e
  | _, _, 0, _, .cons r _, e => by simp at e; subst e; exact ⟨_, rfl, r⟩
  | _, _, i + 1, v, .cons _ rs, e => by
    obtain ⟨u, h1, h2⟩ := vals_get (i := i) (v := v) rs (by simpa using e)
    exact ⟨u, by simpa using h1, h2⟩
section
variable {X : Cx} {CX : CXT} {C f : Addr} {fd : FuncData} {n : Nat} {sp : Sp} {E : XK}
theorem op_inOwn {neg : Bool} (F : FnR X.prog X.w X.K X.mg X.base CX n f sp) (d : Dun X.K C "__eq__" f) (hs : PySem.W.subIn X.K (.ref C) (.type "NoneType") = some false) (hr : Room (n + 1) X.A) (hx : Passes CX X E) : OpR X (compareOp (if neg = true then .NotIn else .In)) (rInOwn neg X.K C sp E) := by
  intro pins s σ H x y v u Q I rx ry h
  obtain ⟨a, p, vs, rfl, rfl, h⟩ := h
  cases (show v = Value.ref a from rx)
  cases (show u = Value.ref p from ry)
  refine in_go (N := vs.length) (fun i s => ∃ H', Inv X pins σ H' s ∧ inL X.K C sp E p a vs (vs.drop i) H' fun b H' => Q (.bl (if neg = true then !b else b)) H') (fun i s hi hp => ?_) (fun s hp => ?_) ⟨H, I, h⟩
  · obtain ⟨H1, I1, h1⟩ := hp
    have hl : SqL X.K H1 p vs := by
      cases e : vs.drop i with
      | nil => rw [e] at h1; exact h1.1
      | cons v r => rw [e] at h1; exact h1.1
    obtain ⟨its, rv, pl, hz⟩ := I1.list hl
    obtain ⟨o, ho, hc, m, hd⟩ := pl.isList
    obtain ⟨cls, dd, data, sl⟩ := o
    dsimp only at hc hd
    subst hc hd
    have ln := rv.length
    refine ⟨its.toArray, m, dd, sl, ho, by simp; omega, fun hlt => ?_⟩
    have hlt' : i < vs.length := by simpa [ln] using hlt
    rw [List.drop_eq_getElem_cons hlt'] at h1
    obtain ⟨_, ⟨dx, fs, ha⟩, h1⟩ := h1
    obtain ⟨u, hu1, hu2⟩ := vals_get rv (List.getElem?_eq_getElem hlt')
    have eu : its.toArray[i] = u := by
      have : its.toArray[i]? = some u := by rw [List.getElem?_toArray]; exact hu1
      rw [Array.getElem?_eq_getElem hlt] at this
      exact Option.some.inj this
    rw [eu]
    clear eu hu1
    have un : X.A.in1.units < cLine := hr.in1.units0
    have fin : ∀ (z : V) (w : Value) (s' : Shared), EP X pins σ (fun r H' => ∃ b, r = .bl b ∧ if b = true then Q (.bl (!neg)) H' else inL X.K C sp E p a vs (vs.drop (i + 1)) H' fun b H' => Q (.bl (if neg = true then !b else b)) H') w s' →
        PySem.W.CmpBack (fun v s' => wpAny (model X.prog X.w) X.A.in1 (truthOfDropped v) (fun b s' => if b = true then EP X pins σ Q (.bool (!neg)) s' else ∃ H', Inv X pins σ H' s' ∧ inL X.K C sp E p a vs (vs.drop (i + 1)) H' fun b H' => Q (.bl (if neg = true then !b else b)) H') X.xe s') w s' := by
      intro z w s' h
      obtain ⟨z', H', I', rz, b, rfl, q⟩ := h
      cases (show w = Value.bool b from rz)
      refine wpAny_truthy_bool ?_
      cases b with
      | true => exact ⟨.bl (!neg), H', I', rfl, q⟩
      | false => exact ⟨H', I', q⟩
    have qt : ∀ H' , (Q (.bl (if neg = true then !true else true)) H') = Q (.bl (!neg)) H' := fun H' => by cases neg <;> rfl
    obtain ⟨od, J⟩ := inst_of I1 ha
    rcases h1 with ⟨e, q⟩ | ⟨e, q⟩ | ⟨b, e, hne, ⟨dx', fs', t, hb, ty, hn⟩, q⟩
    · rw [e] at hu2
      cases (show u = Value.ref a from hu2)
      refine wpAny_holding (wpAny_ite_true (by simp) (wpAny_bind (wpAny_rule (wpAny_pure ?_))))
      simp only [if_true]
      rw [qt] at q
      exact ⟨.bl (!neg), H1, I1, rfl, q⟩
    · rw [e] at hu2
      cases (show u = Value.none from hu2)
      simp only [qt] at q
      refine wpAny_holding (wpAny_ite_false (by rfl) ?_)
      refine wpAny_bind (m := richCompare .Eq .none (.ref a)) (cmp_none un I1.kIn J hs d.at_ d.fn ?_)
      refine wpAny_mono (call_below (us := [.ref a, .none]) (ws := [.ref a, .non]) F hr.in1 I1.env0.in1 hx I1 (.cons rfl (.cons rfl .nil)) q) (fun w s' z => ?_) fun _ _ z => z
      exact fin .non w s' z
    · rw [e] at hu2
      cases (show u = Value.ref b from hu2)
      simp only [qt] at q
      obtain ⟨od', J'⟩ := inst_of I1 hb
      obtain ⟨m', hF⟩ := I1.fr
      obtain ⟨P', Z, pz, _⟩ := kit_of I1 (x := .ref a) (u := .ref a) rfl ty
      refine wpAny_holding (wpAny_ite_false (by simp; exact hne) ?_)
      refine wpAny_bind (m := richCompare .Eq (.ref b) (.ref a)) (PySem.W.cmp_K (op := .Eq) (tb := t) un hF I1.ok.mod.kin J' (Z.ty _ _ I1.kIn pz) hn d.at_ d.fn ?_)
      refine wpAny_mono (call_below (us := [.ref b, .ref a]) (ws := [.ref b, .ref a]) F hr.in1 I1.env0.in1 hx I1 (.cons rfl (.cons rfl .nil)) q) (fun w s' z => ?_) fun _ _ z => z
      exact fin .non w s' z
  · obtain ⟨H1, I1, h1⟩ := hp
    rw [List.drop_length] at h1
    cases neg with
    | false => exact ⟨.bl false, H1, I1, rfl, h1.2⟩
    | true => exact ⟨.bl true, H1, I1, rfl, h1.2⟩
end
section
variable {X : Cx} {CX : CXT} {C f : Addr} {fd : FuncData} {n : Nat} {sp : Sp} {E : XK}
theorem op_inO (F : FnR X.prog X.w X.K X.mg X.base CX n f sp) (d : Dun X.K C "__eq__" f) (hs : PySem.W.subIn X.K (.ref C) (.type "NoneType") = some false) (hr : Room (n + 1) X.A) (hx : Passes CX X E) : OpR X (compareOp .In) (rInOwn false X.K C sp E) := op_inOwn (neg := false) F d hs hr hx
theorem op_notInO (F : FnR X.prog X.w X.K X.mg X.base CX n f sp) (d : Dun X.K C "__eq__" f) (hs : PySem.W.subIn X.K (.ref C) (.type "NoneType") = some false) (hr : Room (n + 1) X.A) (hx : Passes CX X E) : OpR X (compareOp .NotIn) (rInOwn true X.K C sp E) := op_inOwn (neg := true) F d hs hr hx
end
/-! ### as a plain function -/
def isLocD (x : D) (k : Nat) : Bool := match x with
  | .loc n => decide (n = k)
  | _ => false
def inLD (c : Nat) (ok : Nat → Bool) (f : List D → Store → Res D) (neg : Bool) (x : D) : List D → Store → Res D
  | [], S => .ok (.bl neg) S
  | d :: ds, S => if insC x S = some c ∧ eqOk ok x S = true then (match d with
    | .non => (f [x, .non] S).bind fun r S' => match r with
      | .bl true => .ok (.bl (!neg)) S'
      | .bl false => inLD c ok f neg x ds S'
      | _ => .stuck
    | .loc k => if isLocD x k = true then .ok (.bl (!neg)) S else if insC (.loc k) S = some c then (f [.loc k, x] S).bind fun r S' => match r with
      | .bl true => .ok (.bl (!neg)) S'
      | .bl false => inLD c ok f neg x ds S'
      | _ => .stuck else .stuck
    | _ => .stuck) else .stuck
def dInO (c : Nat) (ok : Nat → Bool) (f : List D → Store → Res D) (neg : Bool) (base : D → D → Store → Res D) (x y : D) (S : Store) : Res D :=
  if insC x S = some c then (match y with
    | .lst ds => inLD c ok f neg x ds S
    | _ => .stuck) else base x y S
section
variable {g : G} {E : XK} {K : PySem.W.Frag}
theorem inL_sim {c : Nat} {ok : Nat → Bool} {f : List D → Store → Res D} {neg : Bool} (hf : Ar 2 f) (T : EqF g K c ok) {l : List Addr} {n : Nat} {a p : Addr} {all : List V} {Q : VK} : ∀ {vs : List V} {ds : List D} {ρ : List Addr} {S : Store} {H : Hp}, RS (g.hide l) ρ S H → ρ[n]? = some a → H p = some (.lst all) → p ∉ ρ → RDs (g.hide l) ρ H vs ds → PostE (g.hide l) E ρ H Q (inLD c ok f neg (.loc n) ds S) →
    inL K (g.cls c) (fun vs H Q E => spOf g 2 f (vs ++ []) H Q E) E p a all vs H fun b H' => Q (.bl (if neg = true then !b else b)) H'
  | [], _, ρ, S, H, rs, hn, hp, np, .nil, q => ⟨SqL.of hp, by have := q ρ H (.bl neg) Ex.refl rs (.bl _); cases neg <;> exact this⟩
  | v :: vs, _, ρ, S, H, rs, hn, hp, np, .cons (d := d) (ds := ds) r t, q => by
    unfold inLD at q
    by_cases hx : insC (.loc n) S = some c ∧ eqOk ok (.loc n) S = true
    · rw [if_pos hx] at q
      have rx : RD (g.hide l) ρ H (.ref a) (.loc n) := .loc hn
      obtain ⟨a', d1, fv, e, h1⟩ := insc_at rs rx hx.1
      cases e
      have go : ∀ {r : Res D}, PostE (g.hide l) E ρ H Q (r.bind fun r S' => match r with
          | .bl true => .ok (.bl (!neg)) S'
          | .bl false => inLD c ok f neg (.loc n) ds S'
          | _ => .stuck) → PostE (g.hide l) E ρ H (fun r H' => ∃ b, r = .bl b ∧ if b = true then Q (.bl (if neg = true then !true else true)) H' else inL K (g.cls c) (fun vs H Q E => spOf g 2 f (vs ++ []) H Q E) E p a all vs H' fun b H' => Q (.bl (if neg = true then !b else b)) H') r := by
        intro r pq
        refine pq.then fun d S' ρ' H' v e rs' rv z => ?_
        cases rv with
        | bl b =>
          refine ⟨b, rfl, ?_⟩
          cases b with
          | true => have := z ρ' H' _ Ex.refl rs' (.bl _); cases neg <;> exact this
          | false => exact inL_sim hf T rs' (e.at hn) (e.keep _ _ np hp) (e.out hp np) (t.mono e) z
        | _ => exact z.elim
      refine ⟨SqL.of hp, ⟨d1, fv, h1⟩, ?_⟩
      cases r with
      | non =>
        refine .inr (.inl ⟨rfl, ?_⟩)
        show spOf g 2 f ([V.ref a, V.non] ++ []) H _ E
        rw [List.append_nil]
        exact sp_go hf (.cons rx (.cons .non .nil)) rs (go q)
      | @loc k b hk =>
        dsimp only at q
        by_cases e : n = k
        · subst e
          rw [if_pos (show isLocD (.loc n) n = true from decide_eq_true rfl)] at q
          have : a = b := Option.some.inj (hn.symm.trans hk)
          subst this
          exact .inl ⟨rfl, by have := q ρ H _ Ex.refl rs (.bl _); cases neg <;> exact this⟩
        · rw [if_neg (show ¬ isLocD (.loc n) k = true from fun h => e (of_decide_eq_true h))] at q
          by_cases hk2 : insC (.loc k) S = some c
          · rw [if_pos hk2] at q
            obtain ⟨b', d2, fv2, e2, h2⟩ := insc_at rs (.loc hk) hk2
            cases e2
            have nba : b ≠ a := fun z => by
              subst z
              obtain ⟨i1, i2⟩ := List.getElem?_eq_some_iff.mp hn
              obtain ⟨i3, i4⟩ := List.getElem?_eq_some_iff.mp hk
              have nd := rs.nd
              have pw := List.pairwise_iff_getElem.mp nd
              rcases Nat.lt_trichotomy n k with z | z | z
              · exact pw n k i1 i3 z (i2.trans i4.symm)
              · exact e z
              · exact pw k n i3 i1 z (i4.trans i2.symm)
            obtain ⟨tt, ty, nf⟩ := eqok_ty T rs rx hx.2
            refine .inr (.inr ⟨b, rfl, nba, ⟨d2, fv2, tt, h2, ty, nf⟩, ?_⟩)
            show spOf g 2 f ([V.ref b, V.ref a] ++ []) H _ E
            rw [List.append_nil]
            exact sp_go hf (.cons (.loc hk) (.cons rx .nil)) rs (go q)
          · rw [if_neg hk2] at q; exact q.elim
      | _ => exact q.elim
    · rw [if_neg hx] at q; exact q.elim
theorem sim_inO {c : Nat} {ok : Nat → Bool} {f : List D → Store → Res D} {neg : Bool} {base : D → D → Store → Res D} {r : R2} (hf : Ar 2 f) (T : EqF g K c ok) (hb : OpSim g E r base) :
    OpSim g E (fun x y H Q => rInOwn neg K (g.cls c) (fun vs H Q E => spOf g 2 f (vs ++ []) H Q E) E x y H Q ∨ r x y H Q) (dInO c ok f neg base) := by
  intro l x y H Q ρ S dx dy rx ry rs p
  unfold dInO at p
  by_cases hx : insC dx S = some c
  · rw [if_pos hx] at p
    cases ry with
    | @lst q vs ds h1 n1 r1 =>
      cases rx with
      | @loc n a hn => exact .inl ⟨a, q, vs, rfl, rfl, inL_sim hf T rs hn h1 n1.1 r1 p⟩
      | _ => cases hx
    | _ => exact p.elim
  · rw [if_neg hx] at p
    exact .inr (hb l x y H Q ρ S dx dy rx ry rs p)
end
end Lg

namespace Lg
open PySem L2
abbrev XQ := Exc → Store → Prop
def XF : XQ := fun _ _ => False
def Res.wp {α : Type} (r : Res α) (E : XQ) (Q : α → Store → Prop) : Prop := match r with
  | .ok a S => Q a S
  | .err x S => E x S
  | .stuck => False
structure FQ where
  E : XQ
  N : En → Store → Prop
  R : D → Store → Prop
  B : En → Store → Prop := fun _ _ => False
  C : En → Store → Prop := fun _ _ => False
def FRes.wp (r : FRes) (F : FQ) : Prop := match r with
  | .next env S => F.N env S
  | .ret d S => F.R d S
  | .brk env S => F.B env S
  | .cont env S => F.C env S
  | .err x S => F.E x S
  | .stuck => False
section
variable {α β : Type} {E : XQ} {env : En} {S : Store} {F : FQ}
theorem wp_ok {a : α} {Q : α → Store → Prop} : (Res.ok a S).wp E Q = Q a S := rfl
theorem wp_err {x : Exc} {Q : α → Store → Prop} : (Res.err x S : Res α).wp E Q = E x S := rfl
theorem wp_bind {r : Res α} {f : α → Store → Res β} {Q : β → Store → Prop} : (r.bind f).wp E Q = r.wp E fun a S => (f a S).wp E Q := by cases r <;> rfl
theorem wp_bindS {r : Res α} {f : α → Store → FRes} : (r.bindS f).wp F = r.wp F.E fun a S => (f a S).wp F := by cases r <;> rfl
theorem Res.wp.mono {r : Res α} {E' : XQ} {Q Q' : α → Store → Prop} (h : r.wp E Q) (hq : ∀ a S, Q a S → Q' a S) (he : ∀ x S, E x S → E' x S := by exact fun _ _ h => h) : r.wp E' Q' := by
  cases r with
  | ok a S => exact hq a S h
  | err x S => exact he x S h
  | stuck => exact h
theorem wp_of {r : Res α} {a : α} {S' : Store} {Q : α → Store → Prop} (h : r = .ok a S') (q : Q a S') : r.wp E Q := by rw [h]; exact q
/-- what is asked of a function that raises nothing, where something may be raised -/
theorem Res.wp.any {r : Res α} {Q Q' : α → Store → Prop} (h : r.wp XF Q) (hq : ∀ a S, Q a S → Q' a S) : r.wp E Q' := h.mono hq fun _ _ h => h.elim
theorem Res.wp.ex {r : Res α} {Q : α → Store → Prop} (h : r.wp XF Q) : ∃ a S', r = .ok a S' ∧ Q a S' := by
  cases r with
  | ok a S => exact ⟨a, S, rfl, h⟩
  | err x S => exact h.elim
  | stuck => exact h.elim
/-! ### expressions -/
theorem wp_var {i : Nat} {Q : D → Store → Prop} : (mVar i env S).wp E Q = ∃ d, env[i]? = some (some d) ∧ Q d S := by
  unfold mVar
  split
  · rename_i d h; simp [Res.wp, h]
  · rename_i h
    exact (eq_false (by rintro ⟨k, e, _⟩; exact h k e)).symm
theorem wp_c {d : D} {Q : D → Store → Prop} : (mC d env S).wp E Q = Q d S := rfl
theorem wp_op {f : D → D → Store → Res D} {a b : EM} {Q : D → Store → Prop} : (mOp f a b env S).wp E Q = (a env S).wp E fun x S1 => (b env S1).wp E fun y S2 => (f x y S2).wp E Q := by
  unfold mOp; simp only [wp_bind]
theorem wp_un {f : D → Store → Res D} {a : EM} {Q : D → Store → Prop} : (mUn f a env S).wp E Q = (a env S).wp E fun x S1 => (f x S1).wp E Q := by unfold mUn; simp only [wp_bind]
theorem wp_nil {Q : List D → Store → Prop} : (mNil env S).wp E Q = Q [] S := rfl
theorem wp_cons {a : EM} {b : AM} {Q : List D → Store → Prop} : (mCons a b env S).wp E Q = (a env S).wp E fun x S1 => (b env S1).wp E fun y S2 => Q (x :: y) S2 := by
  unfold mCons; simp only [wp_bind, wp_ok]
theorem wp_if2 {c : Prop} [Decidable c] {r r' : Res α} {Q : α → Store → Prop} : (if c then r else r').wp E Q = ((c → r.wp E Q) ∧ (¬c → r'.wp E Q)) := by
  split <;> rename_i h <;> simp [h]
theorem wp_stuck {Q : α → Store → Prop} : (Res.stuck : Res α).wp E Q = False := rfl
theorem wp_ifs {c : Prop} [Decidable c] {r : Res α} {Q : α → Store → Prop} : (if c then r else Res.stuck).wp E Q = (c ∧ r.wp E Q) := by
  split <;> rename_i h <;> simp [h, Res.wp]
theorem wp_tup {a : AM} {Q : D → Store → Prop} : (mTup a env S).wp E Q = (a env S).wp E fun ds S1 => ds.length ≤ sizeLine ∧ Q (.tup ds) S1 := by
  unfold mTup; simp only [wp_bind, wp_ifs, wp_ok]
theorem wp_lst {a : AM} {Q : D → Store → Prop} : (mLst a env S).wp E Q = (a env S).wp E fun ds S1 => ds.length ≤ sizeLine ∧ Q (.lst ds) S1 := by
  unfold mLst; simp only [wp_bind, wp_ifs, wp_ok]
theorem wp_lstL {a : AM} {Q : D → Store → Prop} : (mLstL a env S).wp E Q = (a env S).wp E fun ds S1 => ds.length ≤ sizeLine ∧ Q (.loc S1.length) (S1 ++ [.lst ds]) := by
  unfold mLstL; simp only [wp_bind, wp_ifs, wp_ok]
theorem wp_call {f : List D → Store → Res D} {a : AM} {Q : D → Store → Prop} : (mCall f a env S).wp E Q = (a env S).wp E fun ds S1 => (f ds S1).wp E Q := by unfold mCall; simp only [wp_bind]
theorem wp_if {c : BM} {a b : EM} {Q : D → Store → Prop} : (mIf c a b env S).wp E Q = (c env S).wp E fun k S1 => (k = true → (a env S1).wp E Q) ∧ (k = false → (b env S1).wp E Q) := by
  unfold mIf; simp only [wp_bind, wp_if2, Bool.not_eq_true]
theorem wp_val {a : EM} {Q : Bool → Store → Prop} : (bVal a env S).wp E Q = (a env S).wp E fun x S1 => ∃ k, x = .bl k ∧ Q k S1 := by
  unfold bVal; simp only [wp_bind]
  congr 1; funext x S1
  split
  · rename_i k; simp [Res.wp]
  · rename_i h; exact (eq_false (by rintro ⟨k, e, _⟩; exact h k e)).symm
theorem wp_band {a b : BM} {Q : Bool → Store → Prop} : (bAnd a b env S).wp E Q = (a env S).wp E fun k S1 => (k = true → (b env S1).wp E Q) ∧ (k = false → Q false S1) := by
  unfold bAnd; simp only [wp_bind, wp_if2, wp_ok, Bool.not_eq_true]
theorem wp_bor {a b : BM} {Q : Bool → Store → Prop} : (bOr a b env S).wp E Q = (a env S).wp E fun k S1 => (k = true → Q true S1) ∧ (k = false → (b env S1).wp E Q) := by
  unfold bOr; simp only [wp_bind, wp_if2, wp_ok, Bool.not_eq_true]
theorem wp_bnot {a : BM} {Q : Bool → Store → Prop} : (bNot a env S).wp E Q = (a env S).wp E fun k S1 => Q (!k) S1 := by
  unfold bNot; simp only [wp_bind, wp_ok]
theorem wp_byes {Q : Bool → Store → Prop} : (bYes env S).wp E Q = Q true S := rfl
theorem wp_andV {a b : EM} {Q : D → Store → Prop} : (mAndV a b env S).wp E Q = (a env S).wp E fun x S1 => ∃ k, x = .bl k ∧ (k = true → (b env S1).wp E Q) ∧ (k = false → Q (.bl false) S1) := by
  unfold mAndV; simp only [wp_bind]
  congr 1; funext x S1
  split
  · rename_i k; cases k <;> simp [Res.wp]
  · rename_i h; exact (eq_false (by rintro ⟨k, e, _⟩; exact h k e)).symm
theorem wp_orV {a b : EM} {Q : D → Store → Prop} : (mOrV a b env S).wp E Q = (a env S).wp E fun x S1 => ∃ k, x = .bl k ∧ (k = true → Q (.bl true) S1) ∧ (k = false → (b env S1).wp E Q) := by
  unfold mOrV; simp only [wp_bind]
  congr 1; funext x S1
  split
  · rename_i k; cases k <;> simp [Res.wp]
  · rename_i h; exact (eq_false (by rintro ⟨k, e, _⟩; exact h k e)).symm
theorem wp_notV {a : EM} {Q : D → Store → Prop} : (mNotV a env S).wp E Q = (a env S).wp E fun x S1 => ∃ k, x = .bl k ∧ Q (.bl (!k)) S1 := by
  unfold mNotV; simp only [wp_bind]
  congr 1; funext x S1
  split
  · rename_i k; simp [Res.wp]
  · rename_i h; exact (eq_false (by rintro ⟨k, e, _⟩; exact h k e)).symm
theorem wp_chain {f f' : D → D → Store → Res D} {a b c : EM} {Q : D → Store → Prop} : (mChain f f' a b c env S).wp E Q = (a env S).wp E fun x S1 => (b env S1).wp E fun y S2 => (f x y S2).wp E fun z S3 => ∃ k, z = .bl k ∧ (k = true → (c env S3).wp E fun w S4 => (f' y w S4).wp E Q) ∧ (k = false → Q (.bl false) S3) := by
  unfold mChain; simp only [wp_bind]
  congr 1; funext x S1; congr 1; funext y S2; congr 1; funext z S3
  split
  · rename_i k
    cases k with
    | true =>
      show ((c env S3).bind fun w S4 => f' y w S4).wp E Q = _
      rw [wp_bind]
      exact propext ⟨fun h => ⟨true, rfl, fun _ => h, fun e => nomatch e⟩, fun ⟨k, e, h, _⟩ => by cases e; exact h rfl⟩
    | false => exact propext ⟨fun h => ⟨false, rfl, (fun e => nomatch e), fun _ => h⟩, fun ⟨k, e, _, h⟩ => by cases e; exact h rfl⟩
  · rename_i h; exact (eq_false (by rintro ⟨k, e, _⟩; exact h k e)).symm
theorem wp_rng {f : Bool → Bool} {a : EM} {b : AM} {Q : D → Store → Prop} : (mRng f a b env S).wp E Q = (a env S).wp E fun x S1 => (b env S1).wp E fun ds S2 => ∃ i lo hi, x = .int i ∧ ds = [.int lo, .int hi] ∧ Q (.bl (f (decide (lo ≤ i ∧ i < hi)))) S2 := by
  unfold mRng; simp only [wp_bind]
  congr 1; funext x S1; congr 1; funext ds S2
  split
  · exact propext ⟨fun h => ⟨_, _, _, rfl, rfl, h⟩, fun ⟨_, _, _, e1, e2, h⟩ => by cases e1; cases e2; exact h⟩
  · rename_i h; exact (eq_false (by rintro ⟨i, lo, hi, e1, e2, _⟩; exact h i lo hi e1 e2)).symm
theorem wp_isi {T : String} {a : EM} {Q : D → Store → Prop} : (mIsi T a env S).wp E Q = (a env S).wp E fun d S1 => ∃ k b, kindD d S1 = some k ∧ kitB k T = some b ∧ Q (.bl b) S1 := by
  unfold mIsi; simp only [wp_bind]
  congr 1; funext x S1
  cases h : kindD x S1 with
  | none => exact (eq_false (by rintro ⟨k, b, e, _⟩; cases e)).symm
  | some k =>
    dsimp only
    cases h2 : kitB k T with
    | none => exact (eq_false (by rintro ⟨k, b, e, e2, _⟩; cases e; rw [h2] at e2; cases e2)).symm
    | some b => exact propext ⟨fun q => ⟨k, b, rfl, h2, q⟩, fun ⟨k', b', e, e2, q⟩ => by cases e; rw [h2] at e2; cases e2; exact q⟩
theorem wp_isO {isi : Nat → Option Bool} {a : EM} {Q : D → Store → Prop} : (mIsO isi a env S).wp E Q = (a env S).wp E fun d S1 => ((kindD d S1).isSome = true ∧ Q (.bl false) S1) ∨ ((kindD d S1).isSome = false ∧ ∃ c b, insC d S1 = some c ∧ isi c = some b ∧ Q (.bl b) S1) := by
  unfold mIsO; simp only [wp_bind]
  congr 1; funext x S1
  split
  · rename_i h; exact propext ⟨fun q => .inl ⟨h, q⟩, fun q => q.elim (·.2) fun q => by rw [h] at q; cases q.1⟩
  · rename_i h
    rw [Bool.not_eq_true] at h
    cases h1 : insC x S1 with
    | none => exact (eq_false (by rintro (q | ⟨_, _, _, e, _⟩); rw [h] at q; cases q.1; cases e)).symm
    | some c =>
      dsimp only
      cases h2 : isi c with
      | none => exact (eq_false (by rintro (q | ⟨_, _, _, e, e2, _⟩); rw [h] at q; cases q.1; cases e; rw [h2] at e2; cases e2)).symm
      | some b => exact propext ⟨fun q => .inr ⟨h, c, b, rfl, h2, q⟩, fun q => q.elim (fun q => by rw [h] at q; cases q.1) fun ⟨_, c', b', e, e2, q⟩ => by cases e; rw [h2] at e2; cases e2; exact q⟩
theorem wp_isX {isi : Nat → Option Bool} {a : EM} {Q : D → Store → Prop} : (mIsX isi a env S).wp E Q = (a env S).wp E fun d S1 => ∃ c b, excCls d S1 = some c ∧ isi c = some b ∧ Q (.bl b) S1 := by
  unfold mIsX; simp only [wp_bind]
  congr 1; funext x S1
  cases h : excCls x S1 with
  | none => exact (eq_false (by rintro ⟨k, b, e, _⟩; cases e)).symm
  | some k =>
    dsimp only
    cases h2 : isi k with
    | none => exact (eq_false (by rintro ⟨k, b, e, e2, _⟩; cases e; rw [h2] at e2; cases e2)).symm
    | some b => exact propext ⟨fun q => ⟨k, b, rfl, h2, q⟩, fun ⟨k', b', e, e2, q⟩ => by cases e; rw [h2] at e2; cases e2; exact q⟩
theorem wp_xg {ok : Nat → Bool} {f : PySem.Str} {a : EM} {Q : D → Store → Prop} : (mXg ok f a env S).wp E Q = (a env S).wp E fun d S1 => ∃ x, fldX ok f d S1 = some x ∧ Q x S1 := by
  unfold mXg; simp only [wp_bind]
  congr 1; funext x S1
  cases h : fldX ok f x S1 with
  | none => exact (eq_false (by rintro ⟨k, e, _⟩; cases e)).symm
  | some k => exact propext ⟨fun q => ⟨k, rfl, q⟩, fun ⟨k', e, q⟩ => by cases e; exact q⟩
def fldO (ok : Nat → Bool) (f : PySem.Str) (d : D) (S : Store) : Option D := (insF ok d S).bind (·.lookup f)
theorem wp_fldO {ok : Nat → Bool} {f : PySem.Str} {a : EM} {Q : D → Store → Prop} : (mFldO ok f a env S).wp E Q = (a env S).wp E fun d S1 => ∃ x, fldO ok f d S1 = some x ∧ Q x S1 := by
  unfold mFldO fldO; simp only [wp_bind]
  congr 1; funext x S1
  cases h : insF ok x S1 with
  | none => exact (eq_false (by rintro ⟨b, e, _⟩; cases e)).symm
  | some k =>
    dsimp only [Option.bind]
    cases h2 : k.lookup f with
    | none => exact (eq_false (by rintro ⟨b, e2, _⟩; cases e2)).symm
    | some b => exact propext ⟨fun q => ⟨b, rfl, q⟩, fun ⟨b', e2, q⟩ => by cases e2; exact q⟩
def methOk (c : Nat) (m : PySem.Str) (d : D) (S : Store) : Bool := match insAt c d S with
  | some fs => (fs.lookup m).isNone
  | none => false
theorem wp_meth {c : Nat} {m : PySem.Str} {f : List D → Store → Res D} {dd : List D} {a : EM} {as : AM} {Q : D → Store → Prop} : (mMeth c m f dd a as env S).wp E Q = (a env S).wp E fun d S1 => methOk c m d S1 = true ∧ (as env S1).wp E fun ds S2 => (f (d :: (ds ++ dd)) S2).wp E Q := by
  unfold mMeth methOk; simp only [wp_bind]
  congr 1; funext x S1
  cases h : insAt c x S1 with
  | none => exact (eq_false (by rintro ⟨e, _⟩; cases e)).symm
  | some k =>
    dsimp only
    cases h2 : k.lookup m with
    | some b => exact (eq_false (by rintro ⟨e, _⟩; cases e)).symm
    | none =>
      dsimp only
      rw [wp_bind]
      exact propext ⟨fun q => ⟨rfl, q⟩, fun ⟨_, q⟩ => q⟩
theorem wp_make {c : Nat} {f : List D → Store → Res D} {dd : List D} {as : AM} {Q : D → Store → Prop} : (mMake c f dd as env S).wp E Q = (as env S).wp E fun ds S1 => (f (.loc S1.length :: (ds ++ dd)) (S1 ++ [.ins c []])).wp E fun v S2 => v = .non ∧ Q (.loc S1.length) S2 := by
  unfold mMake; simp only [wp_bind]
  congr 1; funext x S1; congr 1; funext v S2
  split
  · simp [Res.wp]
  · rename_i h; exact (eq_false (by rintro ⟨e, _⟩; exact h e)).symm
theorem wp_fmt {a : EM} {Q : D → Store → Prop} : (mFmt a env S).wp E Q = (a env S).wp E fun d S1 => (∃ y, d = .str y ∧ y.length ≤ sizeLine ∧ Q (.str y) S1) ∨ (∃ i : Int, d = .int i ∧ i.natAbs.log2 < 1920 ∧ Q (.str (toString i)) S1) := by
  unfold mFmt; simp only [wp_bind]
  congr 1; funext x S1
  split
  · simp [wp_ifs, wp_ok]
  · simp [wp_ifs, wp_ok]
  · rename_i h1 h2; exact (eq_false (by rintro (⟨y, e, _⟩ | ⟨i, e, _⟩); exact h1 y e; exact h2 i e)).symm
theorem wp_js0 {acc : PySem.Str} {Q : D → Store → Prop} : (mJs [] acc env S).wp E Q = Q (.str acc) S := rfl
theorem wp_js1 {a : EM} {as : List EM} {acc : PySem.Str} {Q : D → Store → Prop} : (mJs (a :: as) acc env S).wp E Q = (a env S).wp E fun d S1 => ∃ y, d = .str y ∧ (acc ++ y).length ≤ sizeLine ∧ (mJs as (acc ++ y) env S1).wp E Q := by
  show ((a env S).bind _).wp E Q = _
  simp only [wp_bind]
  congr 1; funext x S1
  split
  · simp [wp_ifs, wp_ok]
  · rename_i h; exact (eq_false (by rintro ⟨k, e, _⟩; exact h k e)).symm
theorem wp_sl {a : EM} {lo hi : OM} {Q : D → Store → Prop} : (mSl a lo hi env S).wp E Q = (a env S).wp E fun x S1 => (lo env S1).wp E fun i S2 => (hi env S2).wp E fun j S3 => (dSl x i j S3).wp E Q := by
  unfold mSl; simp only [wp_bind]
theorem wp_onone {Q : Option Int → Store → Prop} : (oNone env S).wp E Q = Q none S := rfl
theorem wp_osome {a : EM} {Q : Option Int → Store → Prop} : (oSome a env S).wp E Q = (a env S).wp E fun d S1 => ∃ i, d = .int i ∧ Q (some i) S1 := by
  unfold oSome; simp only [wp_bind]
  congr 1; funext x S1
  split
  · simp [Res.wp]
  · rename_i h; exact (eq_false (by rintro ⟨k, e, _⟩; exact h k e)).symm
theorem wp_bmt {T : String} {f : D → List D → Store → Res D} {o : EM} {as : AM} {Q : D → Store → Prop} : (mBMt T f o as env S).wp E Q = (o env S).wp E fun d S1 => tyD T d S1 = true ∧ (as env S1).wp E fun ds S2 => (f d ds S2).wp E Q := by
  unfold mBMt; simp only [wp_bind, wp_ifs]
theorem wp_dget {a i : EM} {Q : D → Store → Prop} : (mDGet a i env S).wp E Q = (a env S).wp E fun x S1 => (i env S1).wp E fun y S2 => ∃ d, getK x y S2 = some (some d) ∧ Q d S2 := by
  unfold mDGet; simp only [wp_bind]
  congr 1; funext x S1; congr 1; funext y S2
  split
  · rename_i d h; simp [Res.wp, h]
  · rename_i h; exact (eq_false (by rintro ⟨k, e, _⟩; exact h k e)).symm
theorem wp_star {a : EM} {b : AM} {Q : List D → Store → Prop} : (mStar a b env S).wp E Q = (a env S).wp E fun d S1 => ∃ xs, asSq d S1 = some xs ∧ (b env S1).wp E fun ys S2 => Q (xs ++ ys) S2 := by
  unfold mStar; simp only [wp_bind]
  congr 1; funext x S1
  split
  · rename_i xs h; simp [wp_bind, wp_ok, h]
  · rename_i h; simp [Res.wp, h]
theorem wp_emp {Q : D → Store → Prop} : (mEmp env S).wp E Q = Q (.emp true) S := rfl
theorem wp_newK {Q : D → Store → Prop} : (mNewK env S).wp E Q = Q (.loc S.length) (S ++ [.dK []]) := rfl
theorem wp_newT {Q : D → Store → Prop} : (mNewT env S).wp E Q = Q (.loc S.length) (S ++ [.dT []]) := rfl
/-! iterables -/
def seqD : D → Option (List D)
  | .lst ds => some ds
  | .tup ds => some ds
  | .tupX ds => some ds
  | _ => none
theorem wp_seq {a : EM} {Q : List D → Store → Prop} : (itSeq a env S).wp E Q = (a env S).wp E fun d S1 => ∃ ds, seqD d = some ds ∧ Q ds S1 := by
  unfold itSeq; simp only [wp_bind]
  congr 1; funext x S1
  cases x <;> simp [seqD, Res.wp]
theorem sqd_l (ds : List D) : seqD (.lst ds) = some ds := rfl
theorem sqd_t (ds : List D) : seqD (.tup ds) = some ds := rfl
theorem sqd_x (ds : List D) : seqD (.tupX ds) = some ds := rfl
theorem ass_l (ds : List D) (S : Store) : asSq (.lst ds) S = some ds := rfl
theorem ass_t (ds : List D) (S : Store) : asSq (.tup ds) S = some ds := rfl
theorem ass_x (ds : List D) (S : Store) : asSq (.tupX ds) S = some ds := rfl
theorem kd_non (S : Store) : kindD .non S = some "NoneType" := rfl
theorem kd_bl (b : Bool) (S : Store) : kindD (.bl b) S = some "bool" := rfl
theorem kd_int (i : Int) (S : Store) : kindD (.int i) S = some "int" := rfl
theorem kd_str (s : PySem.Str) (S : Store) : kindD (.str s) S = some "str" := rfl
theorem kd_tup (ds : List D) (S : Store) : kindD (.tup ds) S = some "tuple" := rfl
theorem kd_tupX (ds : List D) (S : Store) : kindD (.tupX ds) S = some "tuple" := rfl
theorem kd_lst (ds : List D) (S : Store) : kindD (.lst ds) S = some "list" := rfl
theorem kd_emp (b : Bool) (S : Store) : kindD (.emp b) S = some "dict" := rfl
theorem inn_loc (n : Nat) : isNon (.loc n) = false := rfl
theorem inn_non : isNon .non = true := rfl
theorem inn_str (s : PySem.Str) : isNon (.str s) = false := rfl
theorem inn_int (i : Int) : isNon (.int i) = false := rfl
theorem inn_bl (b : Bool) : isNon (.bl b) = false := rfl
theorem inn_tup (ds : List D) : isNon (.tup ds) = false := rfl
theorem inn_lst (ds : List D) : isNon (.lst ds) = false := rfl
def tupD : D → Option (List D)
  | .tup ds => some ds
  | .tupX ds => some ds
  | _ => none
theorem tpd_t (ds : List D) : tupD (.tup ds) = some ds := rfl
theorem tpd_x (ds : List D) : tupD (.tupX ds) = some ds := rfl
/-- two of a kind, walked side by side -/
def zipO : List D → Option (List D)
  | [.lst xs, .lst ys] => some (zipD xs ys)
  | [x, y] => match tupD x, tupD y with
    | some xs, some ys => some (zipD xs ys)
    | _, _ => none
  | _ => none
def enumO : List D → Option (List D)
  | [.lst xs] => some (enumD xs)
  | [x] => (tupD x).map enumD
  | _ => none
theorem zpo_l (xs ys : List D) : zipO [.lst xs, .lst ys] = some (zipD xs ys) := rfl
theorem zpo_tt (xs ys : List D) : zipO [.tup xs, .tup ys] = some (zipD xs ys) := rfl
theorem zpo_tx (xs ys : List D) : zipO [.tup xs, .tupX ys] = some (zipD xs ys) := rfl
theorem zpo_xt (xs ys : List D) : zipO [.tupX xs, .tup ys] = some (zipD xs ys) := rfl
theorem zpo_xx (xs ys : List D) : zipO [.tupX xs, .tupX ys] = some (zipD xs ys) := rfl
theorem eno_l (xs : List D) : enumO [.lst xs] = some (enumD xs) := rfl
theorem eno_t (xs : List D) : enumO [.tup xs] = some (enumD xs) := rfl
theorem eno_x (xs : List D) : enumO [.tupX xs] = some (enumD xs) := rfl
theorem wp_zip {a : AM} {Q : List D → Store → Prop} : (itZip a env S).wp E Q = (a env S).wp E fun ds S1 => ∃ xs, zipO ds = some xs ∧ Q xs S1 := by
  unfold itZip; simp only [wp_bind]
  congr 1; funext x S1
  split
  · exact propext ⟨fun q => ⟨_, rfl, q⟩, fun ⟨_, e, q⟩ => by cases e; exact q⟩
  · exact propext ⟨fun q => ⟨_, rfl, q⟩, fun ⟨_, e, q⟩ => by cases e; exact q⟩
  · exact propext ⟨fun q => ⟨_, rfl, q⟩, fun ⟨_, e, q⟩ => by cases e; exact q⟩
  · exact propext ⟨fun q => ⟨_, rfl, q⟩, fun ⟨_, e, q⟩ => by cases e; exact q⟩
  · exact propext ⟨fun q => ⟨_, rfl, q⟩, fun ⟨_, e, q⟩ => by cases e; exact q⟩
  · rename_i h1 h2 h3 h4 h5
    refine (eq_false ?_).symm
    rintro ⟨r, e, _⟩
    unfold zipO at e
    split at e
    · exact h1 _ _ rfl
    · rename_i x y _
      split at e
      · rename_i xs ys e1 e2
        cases x <;> simp only [tupD] at e1 <;> cases y <;> simp only [tupD] at e2 <;> first | (cases e1; done) | (cases e2; done) | exact h2 _ _ rfl | exact h3 _ _ rfl | exact h4 _ _ rfl | exact h5 _ _ rfl
      · cases e
    · cases e
theorem wp_enum {a : AM} {Q : List D → Store → Prop} : (itEnumA a env S).wp E Q = (a env S).wp E fun ds S1 => ∃ xs, enumO ds = some xs ∧ Q xs S1 := by
  unfold itEnumA; simp only [wp_bind]
  congr 1; funext x S1
  split
  · exact propext ⟨fun q => ⟨_, rfl, q⟩, fun ⟨_, e, q⟩ => by cases e; exact q⟩
  · exact propext ⟨fun q => ⟨_, rfl, q⟩, fun ⟨_, e, q⟩ => by cases e; exact q⟩
  · exact propext ⟨fun q => ⟨_, rfl, q⟩, fun ⟨_, e, q⟩ => by cases e; exact q⟩
  · rename_i h1 h2 h3
    refine (eq_false ?_).symm
    rintro ⟨r, e, _⟩
    unfold enumO at e
    split at e
    · exact h1 _ rfl
    · rename_i x _
      cases x <;> simp only [tupD, Option.map] at e <;> first | (cases e; done) | exact h2 _ rfl | exact h3 _ rfl
    · cases e
theorem wp_range1 {a : AM} {Q : List D → Store → Prop} : (itRange1 a env S).wp E Q = (a env S).wp E fun ds S1 => ∃ j, ds = [.int j] ∧ (-(2 ^ 62) ≤ j ∧ j < 2 ^ 62) ∧ Q ((List.range j.toNat).map fun i : Nat => D.int (0 + (i : Int))) S1 := by
  unfold itRange1; simp only [wp_bind]
  congr 1; funext x S1
  split
  · rename_i j; simp only [wp_ifs, wp_ok]; simp
  · rename_i h; exact (eq_false (by rintro ⟨k, e, _⟩; exact h k e)).symm
/-! ### statements -/
theorem wps_next : (sNext env S).wp F = F.N env S := rfl
theorem wps_brk : (sBrk env S).wp F = F.B env S := rfl
theorem wps_cont : (sCont env S).wp F = F.C env S := rfl
theorem wps_seq {a b : SM} : (sSeq a b env S).wp F = (a env S).wp { F with N := fun env1 S1 => (b env1 S1).wp F } := by
  unfold sSeq; cases a env S <;> rfl
theorem wps_ret {a : EM} : (sRet a env S).wp F = (a env S).wp F.E F.R := by unfold sRet; simp only [wp_bindS]; rfl
theorem wps_retN : (sRetN env S).wp F = F.R .non S := rfl
theorem wps_drop {a : EM} : (sDrop a env S).wp F = (a env S).wp F.E fun _ S1 => F.N env S1 := by unfold sDrop; simp only [wp_bindS]; rfl
theorem wps_if {c : BM} {a b : SM} : (sIf c a b env S).wp F = (c env S).wp F.E fun k S1 => (k = true → (a env S1).wp F) ∧ (k = false → (b env S1).wp F) := by
  unfold sIf; simp only [wp_bindS]
  congr 1; funext k S1; cases k <;> simp
theorem wps_asg {a : EM} {g : GM} : (sAsg a g env S).wp F = (a env S).wp F.E fun d S1 => (g d env S1).wp F.E F.N := by unfold sAsg; simp only [wp_bindS]; rfl
theorem wpg_name {i : Nat} {d : D} {Q : En → Store → Prop} : (gmName i d env S).wp E Q = Q (env.set i (some d)) S := rfl
theorem wpg_nil {ds : List D} {Q : En → Store → Prop} : (gmNil ds env S).wp E Q = (ds = [] ∧ Q env S) := by
  unfold gmNil; cases ds <;> simp [Res.wp]
theorem wpg_cons {t : GM} {u : List D → En → Store → Res En} {ds : List D} {Q : En → Store → Prop} : (gmCons t u ds env S).wp E Q = ∃ d r, ds = d :: r ∧ (t d env S).wp E fun env1 S1 => (u r env1 S1).wp E Q := by
  unfold gmCons; cases ds with
  | nil => simp [Res.wp]
  | cons d r => simp only [wp_bind]; exact propext ⟨fun q => ⟨d, r, rfl, q⟩, fun ⟨_, _, e, q⟩ => by cases e; exact q⟩
theorem wpg_nil1 {Q : En → Store → Prop} : (gmNil [] env S).wp E Q = Q env S := rfl
theorem wpg_cons1 {t : GM} {u : List D → En → Store → Res En} {d : D} {r : List D} {Q : En → Store → Prop} : (gmCons t u (d :: r) env S).wp E Q = (t d env S).wp E fun env1 S1 => (u r env1 S1).wp E Q := by
  unfold gmCons; simp only [wp_bind]
theorem wpg_tup {n : Nat} {t : List D → En → Store → Res En} {d : D} {Q : En → Store → Prop} : (gmTup n t d env S).wp E Q = ∃ ds, tupD d = some ds ∧ ds.length = n ∧ (t ds env S).wp E Q := by
  unfold gmTup
  have go : ∀ ds : List D, (if ds.length = n then t ds env S else .stuck).wp E Q = ∃ ds', some ds = some ds' ∧ ds'.length = n ∧ (t ds' env S).wp E Q := fun ds => by
    rw [wp_ifs]
    exact propext ⟨fun q => ⟨ds, rfl, q⟩, fun ⟨_, e, q⟩ => by cases e; exact q⟩
  cases d with
  | tup ds => exact go ds
  | tupX ds => exact go ds
  | _ => exact (eq_false (by rintro ⟨k, e, _⟩; cases e)).symm
theorem wpg_sub {o i : EM} {f : D → D → D → Store → Option Store} {d : D} {Q : En → Store → Prop} : (gmSub o i f d env S).wp E Q = (o env S).wp E fun x S1 => (i env S1).wp E fun y S2 => ∃ S3, f x y d S2 = some S3 ∧ Q env S3 := by
  unfold gmSub; simp only [wp_bind]
  congr 1; funext x S1; congr 1; funext y S2
  split
  · rename_i S3 h; simp [Res.wp, h]
  · rename_i h; simp [Res.wp, h]
def two : List D → Option (D × D)
  | [x, y] => some (x, y)
  | _ => none
theorem two_ok (x y : D) : two [x, y] = some (x, y) := rfl
theorem wps_par {i j : Nat} {a : AM} : (sPar i j a env S).wp F = (a env S).wp F.E fun ds S1 => ∃ q, two ds = some q ∧ F.N ((env.set i (some q.1)).set j (some q.2)) S1 := by
  unfold sPar; simp only [wp_bindS]
  congr 1; funext ds S1
  split
  · exact propext ⟨fun q => ⟨_, rfl, q⟩, fun ⟨_, e, q⟩ => by cases e; exact q⟩
  · rename_i h
    refine (eq_false ?_).symm
    rintro ⟨q, e, _⟩
    unfold two at e
    split at e
    · exact h _ _ rfl
    · cases e
theorem wps_fld {c : Nat} {f : PySem.Str} {o a : EM} : (sFldM c f o a env S).wp F = (a env S).wp F.E fun y S1 => (o env S1).wp F.E fun d S2 => ∃ n fs, d = .loc n ∧ S2[n]? = some (.ins c fs) ∧ fs.length < 1000 ∧ F.N env (S2.set n (.ins c (putD f y fs))) := by
  unfold sFldM; simp only [wp_bindS]
  congr 1; funext y S1; congr 1; funext d S2
  split
  · rename_i n
    split
    · rename_i c' fs h
      split
      · rename_i h2
        obtain ⟨rfl, h3⟩ := h2
        exact propext ⟨fun q => ⟨n, fs, rfl, h, h3, q⟩, fun ⟨_, _, e1, e2, _, q⟩ => by cases e1; rw [h] at e2; cases e2; exact q⟩
      · rename_i h2
        refine (eq_false ?_).symm
        rintro ⟨n', fs', e1, e2, e3, _⟩
        cases e1; rw [h] at e2; cases e2; exact h2 ⟨rfl, e3⟩
    · rename_i h
      refine (eq_false ?_).symm
      rintro ⟨n', fs', e1, e2, e3, _⟩
      cases e1; exact h _ _ e2
  · rename_i h; exact (eq_false (by rintro ⟨x, y, e, _⟩; exact h x e)).symm
theorem wps_forI {it : IM} {g : GM} {b : SM} : (sForI it g b env S).wp F = (it env S).wp F.E fun ds S1 => (sFor g b ds env S1).wp F := by
  unfold sForI; simp only [wp_bindS]
theorem wps_tryC {isx : Nat → Option Bool} {i : Nat} {b h : SM} : (sTryC isx i b h env S).wp F = (b env S).wp { F with E := fun x S1 => (isx x.c = some true ∧ (h (env.set i (some (.loc S1.length))) (S1 ++ [.cxc x.c x.fs])).wp ⟨XF, fun env2 S2 => F.N (env2.set i none) S2, F.R, fun env2 S2 => F.B (env2.set i none) S2, fun env2 S2 => F.C (env2.set i none) S2⟩) ∨ (isx x.c = some false ∧ F.E x S1) } := by
  unfold sTryC
  cases e : b env S with
  | err x S1 =>
    dsimp only [FRes.wp]
    cases h1 : isx x.c with
    | none => exact (eq_false (by rintro (⟨e, _⟩ | ⟨e, _⟩) <;> cases e)).symm
    | some k =>
      cases k with
      | true =>
        dsimp only
        refine propext ⟨fun q => .inl ⟨rfl, ?_⟩, fun q => ?_⟩
        · cases h2 : h (env.set i (some (.loc S1.length))) (S1 ++ [.cxc x.c x.fs]) <;> rw [h2] at q <;> exact q
        · rcases q with ⟨_, q⟩ | ⟨e, _⟩
          · cases h2 : h (env.set i (some (.loc S1.length))) (S1 ++ [.cxc x.c x.fs]) <;> rw [h2] at q <;> exact q
          · cases e
      | false => exact propext ⟨fun q => .inr ⟨rfl, q⟩, fun q => q.elim (fun ⟨e, _⟩ => nomatch e) (·.2)⟩
  | _ => rfl
/-- a def -/
theorem wp_def {n np : Nat} {m : SM} {ds : List D} {Q : D → Store → Prop} (h : ds.length = np) : (mDef n np m ds S).wp E Q = (m (startE n ds) S).wp ⟨E, fun _ S' => Q .non S', Q, fun _ _ => False, fun _ _ => False⟩ := by
  unfold mDef
  rw [if_pos h]
  cases m (startE n ds) S <;> rfl
end
/-! ### loops -/
theorem FRes.wp.mono {r : FRes} {F F' : FQ} (h : r.wp F) (hN : ∀ a S, F.N a S → F'.N a S) (hR : ∀ a S, F.R a S → F'.R a S := by exact fun _ _ h => h) (hE : ∀ a S, F.E a S → F'.E a S := by exact fun _ _ h => h) (hB : ∀ a S, F.B a S → F'.B a S := by exact fun _ _ h => h) (hC : ∀ a S, F.C a S → F'.C a S := by exact fun _ _ h => h) : r.wp F' := by
  cases r with
  | next a S => exact hN a S h
  | ret a S => exact hR a S h
  | brk a S => exact hB a S h
  | cont a S => exact hC a S h
  | err a S => exact hE a S h
  | stuck => exact h
theorem FRes.wp.next {r : FRes} {N : En → Store → Prop} (h : r.wp ⟨XF, N, fun _ _ => False, fun _ _ => False, fun _ _ => False⟩) : ∃ env S, r = .next env S ∧ N env S := by
  cases r with
  | next a S => exact ⟨a, S, rfl, h⟩
  | _ => exact h.elim
theorem next_wp {r : FRes} {env : En} {S : Store} {F : FQ} (h : r = .next env S) (q : F.N env S) : r.wp F := by rw [h]; exact q
theorem ret_wp {r : FRes} {d : D} {S : Store} {F : FQ} (h : r = .ret d S) (q : F.R d S) : r.wp F := by rw [h]; exact q
theorem for_wp {α : Type} {g : GM} {b : SM} {F : FQ} (inj : α → D) (J : Nat → En → Store → Prop) : ∀ (xs : List α) (k : Nat) (env : En) (S : Store), J k env S →
    (∀ i x env S, xs[i]? = some x → J (k + i) env S → (g (inj x) env S).wp F.E fun env1 S1 => (b env1 S1).wp ⟨F.E, J (k + i + 1), F.R, F.N, J (k + i + 1)⟩) → (∀ env S, J (k + xs.length) env S → F.N env S) → (sFor g b (xs.map inj) env S).wp F
  | [], k, env, S, h0, _, hd => hd env S h0
  | x :: xs, k, env, S, h0, hs, hd => by
    have h1 := hs 0 x env S rfl h0
    show ((g (inj x) env S).bindS _).wp F
    rw [wp_bindS]
    refine h1.mono fun env1 S1 h2 => ?_
    have rest : ∀ env2 S2, J (k + 1) env2 S2 → (sFor g b (xs.map inj) env2 S2).wp F := fun env2 S2 h3 =>
      for_wp inj J xs (k + 1) env2 S2 h3 (fun i y env S e hJ => by
        have := hs (i + 1) y env S (by simpa using e) (by rw [show k + (i + 1) = k + 1 + i by omega]; exact hJ)
        rw [show k + (i + 1) = k + 1 + i by omega] at this
        exact this) (fun env S hJ => hd env S (by rw [List.length_cons, show k + (xs.length + 1) = k + 1 + xs.length by omega]; exact hJ))
    cases e : b env1 S1 with
    | next env2 S2 => rw [e] at h2; exact rest env2 S2 h2
    | cont env2 S2 => rw [e] at h2; exact rest env2 S2 h2
    | brk env2 S2 => rw [e] at h2; exact h2
    | ret d S2 => rw [e] at h2; exact h2
    | err x S2 => rw [e] at h2; exact h2
    | stuck => rw [e] at h2; exact h2
/-- a comprehension: J of how many items are done, what is found, the store -/
theorem lcgo_wp {α : Type} {g : GM} {t : BM} {e : EM} {env : En} {E : XQ} {Q : List D → Store → Prop} (inj : α → D) (J : Nat → List D → Store → Prop) : ∀ (xs : List α) (k : Nat) (acc : List D) (S : Store), J k acc S → acc.length ≤ k → k + xs.length ≤ sizeLine →
    (∀ i x acc S, xs[i]? = some x → J (k + i) acc S → (g (inj x) env S).wp XF fun env1 S1 => (t env1 S1).wp XF fun q S2 => (q = true → (e env1 S2).wp XF fun d S3 => J (k + i + 1) (acc ++ [d]) S3) ∧ (q = false → J (k + i + 1) acc S2)) → (∀ acc S, J (k + xs.length) acc S → Q acc S) →
    (mLcGo g t e env (xs.map inj) acc S).wp E Q
  | [], k, acc, S, h0, _, _, _, hd => hd acc S h0
  | x :: xs, k, acc, S, h0, hl, hz, hs, hd => by
    rw [List.length_cons] at hz
    obtain ⟨env1, S1, e1, h1⟩ := (hs 0 x acc S rfl h0).ex
    obtain ⟨q, S2, e2, h2⟩ := h1.ex
    have rest : ∀ acc' S', J (k + 1) acc' S' → acc'.length ≤ k + 1 → (mLcGo g t e env (xs.map inj) acc' S').wp E Q := fun acc' S' h3 hl' =>
      lcgo_wp inj J xs (k + 1) acc' S' h3 hl' (by omega) (fun i y acc S e' hJ => by
        have := hs (i + 1) y acc S (by simpa using e') (by rw [show k + (i + 1) = k + 1 + i by omega]; exact hJ)
        rw [show k + (i + 1) = k + 1 + i by omega] at this
        exact this) (fun acc S hJ => hd acc S (by rw [List.length_cons, show k + (xs.length + 1) = k + 1 + xs.length by omega]; exact hJ))
    cases q with
    | true =>
      obtain ⟨d, S3, e3, h3⟩ := (h2.1 rfl).ex
      simp only [List.map_cons, mLcGo, e1, e2, e3]
      rw [if_pos (by omega)]
      exact rest _ _ h3 (by simp; omega)
    | false =>
      simp only [List.map_cons, mLcGo, e1, e2]
      exact rest _ _ (h2.2 rfl) (by omega)
theorem wp_lc {it : IM} {g : GM} {t : BM} {e : EM} {vs : List Nat} {env : En} {S : Store} {E : XQ} {Q : D → Store → Prop} : (mLc it g t e vs env S).wp E Q = (it env S).wp E fun ds S1 => (mLcGo g t e (wipeE env vs) ds [] S1).wp E fun xs S2 => Q (.lst xs) S2 := by
  unfold mLc; simp only [wp_bind, wp_ok]
theorem wp_lcL {it : IM} {g : GM} {t : BM} {e : EM} {vs : List Nat} {env : En} {S : Store} {E : XQ} {Q : D → Store → Prop} : (mLcL it g t e vs env S).wp E Q = (it env S).wp E fun ds S1 => (mLcGo g t e (wipeE env vs) ds [] S1).wp E fun xs S2 => Q (.loc S2.length) (S2 ++ [.lst xs]) := by
  unfold mLcL; simp only [wp_bind, wp_ok]
/-- each item by itself; K: what the store may become -/
theorem lc_wp {α : Type} {g : GM} {t : BM} {e : EM} {env : En} {E : XQ} {S0 : Store} {Q : List D → Store → Prop} (inj : α → D) (p : α → Bool) (f : α → D) (K : Store → Prop) (xs : List α) (h0 : K S0) (hz : xs.length ≤ sizeLine)
    (hs : ∀ x ∈ xs, ∀ S, K S → (g (inj x) env S).wp XF fun env1 S1 => (t env1 S1).wp XF fun q S2 => q = p x ∧ (p x = true → (e env1 S2).wp XF fun d S3 => d = f x ∧ K S3) ∧ (p x = false → K S2)) (hd : ∀ S, K S → Q ((xs.filter p).map f) S) :
    (mLcGo g t e env (xs.map inj) [] S0).wp E Q := by
  refine lcgo_wp inj (fun k acc S => acc = ((xs.take k).filter p).map f ∧ K S) xs 0 [] S0 ⟨by simp, h0⟩ (by simp) (by simpa using hz) (fun i x acc S hx hJ => ?_) (fun acc S hJ => ?_)
  · rw [Nat.zero_add] at hJ ⊢
    obtain ⟨rfl, hK⟩ := hJ
    have hm : x ∈ xs := List.mem_of_getElem? hx
    have ht : xs.take (i + 1) = xs.take i ++ [x] := by rw [List.take_succ, hx]; rfl
    refine (hs x hm S hK).mono fun env1 S1 h1 => h1.mono fun q S2 h2 => ?_
    obtain ⟨rfl, ha, hb⟩ := h2
    refine ⟨fun hp => (ha hp).mono fun d S3 h3 => ?_, fun hp => ?_⟩
    · obtain ⟨rfl, h3⟩ := h3
      exact ⟨by rw [ht]; simp [hp], h3⟩
    · exact ⟨by rw [ht]; simp [hp], hb hp⟩
  · rw [Nat.zero_add, List.take_length] at hJ
    rw [hJ.1]; exact hd S hJ.2
end Lg

namespace Lg
open PySem L2
abbrev St := PySem.Str
abbrev Pr := PySem.Str × PySem.Str
/-- a strict order of all -/
structure SO {α : Type} (lt : α → α → Prop) : Prop where
  irr : ∀ a, ¬ lt a a
  tr : ∀ a b c, lt a b → lt b c → lt a c
  tri : ∀ a b, lt a b ∨ a = b ∨ lt b a
theorem SO.as {α : Type} {lt : α → α → Prop} (o : SO lt) {a b : α} (h : lt a b) : ¬ lt b a := fun h' => o.irr a (o.tr _ _ _ h h')
theorem SO.ne {α : Type} {lt : α → α → Prop} (o : SO lt) {a b : α} (h : lt a b) : a ≠ b := fun e => o.irr b (e ▸ h)
def sLt (a b : PySem.Str) : Prop := a.cps.toList < b.cps.toList
instance : DecidableRel sLt := fun a b => inferInstanceAs (Decidable (a.cps.toList < b.cps.toList))
theorem cps_inj {a b : PySem.Str} (h : a.cps.toList = b.cps.toList) : a = b := PySem.W.str_of_cps h
theorem sLt_so : SO sLt where
  irr := fun a => List.lt_irrefl _
  tr := fun a b c => List.lt_trans
  tri := fun a b => by
    unfold sLt
    by_cases h1 : a.cps.toList < b.cps.toList
    · exact .inl h1
    · by_cases h2 : b.cps.toList < a.cps.toList
      · exact .inr (.inr h2)
      · exact .inr (.inl (cps_inj (List.le_antisymm (List.not_lt.mp h2) (List.not_lt.mp h1))))
def pLt (p q : Pr) : Prop := sLt p.1 q.1 ∨ (p.1 = q.1 ∧ sLt p.2 q.2)
instance : DecidableRel pLt := fun p q => inferInstanceAs (Decidable (sLt p.1 q.1 ∨ (p.1 = q.1 ∧ sLt p.2 q.2)))
theorem pLt_so : SO pLt where
  irr := fun a h => h.elim (sLt_so.irr _) fun h => sLt_so.irr _ h.2
  tr := fun a b c h1 h2 => by
    rcases h1 with h1 | ⟨e1, h1⟩
    · rcases h2 with h2 | ⟨e2, h2⟩
      · exact .inl (sLt_so.tr _ _ _ h1 h2)
      · exact .inl (e2 ▸ h1)
    · rcases h2 with h2 | ⟨e2, h2⟩
      · exact .inl (e1 ▸ h2)
      · exact .inr ⟨e1.trans e2, sLt_so.tr _ _ _ h1 h2⟩
  tri := fun a b => by
    rcases sLt_so.tri a.1 b.1 with h | h | h
    · exact .inl (.inl h)
    · rcases sLt_so.tri a.2 b.2 with h2 | h2 | h2
      · exact .inl (.inr ⟨h, h2⟩)
      · exact .inr (.inl (Prod.ext h h2))
      · exact .inr (.inr (.inr ⟨h.symm, h2⟩))
    · exact .inr (.inr (.inl h))
theorem lt_str (a b : PySem.Str) : PySem.W.dataLt (.str a) (.str b) = decide (sLt a b) := PySem.W.dataLt_str a b
theorem alike_s (a b : PySem.Str) : PySem.W.alike (.str a) (.str b) = true := by simp [PySem.W.alike]
theorem alike_p (p q : Pr) : PySem.W.alike (prP p) (prP q) = true := by simp [prP, PySem.W.alike, PySem.W.alikeAll]
theorem lt_pr (p q : Pr) : PySem.W.dataLt (prP p) (prP q) = decide (pLt p q) := by
  show PySem.W.dataLt (.tuple [.str p.1, .str p.2]) (.tuple [.str q.1, .str q.2]) = _
  rw [PySem.W.dataLt_pair (alike_s _ _) (alike_s _ _), eqv_str, eqv_str, lt_str, lt_str]
  unfold pLt
  by_cases h1 : p.1 = q.1
  · have n : ¬ sLt p.1 q.1 := by rw [h1]; exact sLt_so.irr _
    by_cases h2 : p.2 = q.2
    · have n2 : ¬ sLt p.2 q.2 := by rw [h2]; exact sLt_so.irr _
      simp [h1, h2, sLt_so.irr]
    · simp [h1, h2, sLt_so.irr]
  · simp [h1]
/-! ### sorted -/
section
variable {α : Type} (lt : α → α → Prop) [DecidableRel lt]
def srt (xs : List α) : List α := xs.mergeSort fun a b => !decide (lt b a)
variable {lt}
theorem srt_perm (xs : List α) : (srt lt xs).Perm xs := List.mergeSort_perm _ _
theorem srt_len (xs : List α) : (srt lt xs).length = xs.length := (srt_perm xs).length_eq
theorem srt_mem (xs : List α) (a : α) : a ∈ srt lt xs ↔ a ∈ xs := (srt_perm xs).mem_iff
theorem srt_pw (o : SO lt) (xs : List α) : (srt lt xs).Pairwise fun a b => ¬ lt b a := by
  have := List.pairwise_mergeSort (le := fun a b => !decide (lt b a)) (fun a b c h1 h2 => by
    simp only [Bool.not_eq_true', decide_eq_false_iff_not] at h1 h2 ⊢
    intro h
    rcases o.tri b c with h3 | h3 | h3
    · exact h1 (o.tr _ _ _ h3 h)
    · exact h1 (h3 ▸ h)
    · exact h2 h3) (fun a b => by
    simp only [Bool.or_eq_true, Bool.not_eq_true', decide_eq_false_iff_not]
    by_cases h : lt b a
    · exact .inr (o.as h)
    · exact .inl h) xs
  exact this.imp fun h => by simpa using h
theorem srt_lt (o : SO lt) {xs : List α} (hn : xs.Nodup) : (srt lt xs).Pairwise lt := by
  have h1 := srt_pw o xs
  have h2 : (srt lt xs).Nodup := (srt_perm xs).nodup_iff.mpr hn
  exact (h1.and h2).imp fun {a b} h => by
    rcases o.tri a b with q | q | q
    · exact q
    · exact absurd q h.2
    · exact absurd q h.1
/-- what rises, and is as many of the same, is the same -/
theorem lt_uniq (o : SO lt) : ∀ {xs ys : List α}, xs.Pairwise lt → ys.Pairwise lt → (∀ a, a ∈ xs ↔ a ∈ ys) → xs = ys
  | [], [], _, _, _ => rfl
  | [], y :: ys, _, _, h => absurd ((h y).mpr List.mem_cons_self) List.not_mem_nil
  | x :: xs, [], _, _, h => absurd ((h x).mp List.mem_cons_self) List.not_mem_nil
  | x :: xs, y :: ys, hx, hy, h => by
    have hx' := List.pairwise_cons.mp hx
    have hy' := List.pairwise_cons.mp hy
    have e : x = y := by
      rcases List.mem_cons.mp ((h x).mp List.mem_cons_self) with e | m
      · exact e
      · rcases List.mem_cons.mp ((h y).mpr List.mem_cons_self) with e | m'
        · exact e.symm
        · exact absurd (hx'.1 y m') (o.as (hy'.1 x m))
    subst e
    congr 1
    refine lt_uniq o hx'.2 hy'.2 fun a => ⟨fun m => ?_, fun m => ?_⟩
    · rcases List.mem_cons.mp ((h a).mp (List.mem_cons_of_mem _ m)) with e | q
      · exact absurd (hx'.1 a m) (by rw [e]; exact o.irr _)
      · exact q
    · rcases List.mem_cons.mp ((h a).mpr (List.mem_cons_of_mem _ m)) with e | q
      · exact absurd (hy'.1 a m) (by rw [e]; exact o.irr _)
      · exact q
theorem lt_nodup (o : SO lt) {xs : List α} (h : xs.Pairwise lt) : xs.Nodup := h.imp fun h => o.ne h
theorem srt_id (o : SO lt) {xs ys : List α} (h : ys.Pairwise lt) (hp : xs.Perm ys) : srt lt xs = ys := by
  refine lt_uniq o (srt_lt o (hp.nodup_iff.mpr (lt_nodup o h))) h fun a => ?_
  rw [srt_mem, hp.mem_iff]
/-- things that are sorted by cSort -/
structure Sr (d : α → D) (p : α → PyData) (lt : α → α → Prop) [DecidableRel lt] : Prop where
  py : ∀ a, (d a).py = some (p a)
  lt : ∀ a b, PySem.W.dataLt (p a) (p b) = decide (lt a b)
  al : ∀ a b, PySem.W.alike (p a) (p b) = true
  so : (∀ a, tupB (p a) = true) ∨ (∀ a, othB (p a) = true)
  dep : ∀ a, (p a).depth ≤ 40
theorem with_map {d : α → D} {p : α → PyData} (h : ∀ a, (d a).py = some (p a)) : ∀ l : List α, withPy (l.map d) = some (l.map fun a => (d a, p a))
  | [] => rfl
  | a :: l => by
    show withPy (d a :: l.map d) = _
    unfold withPy
    rw [h a, with_map h l]
    rfl
theorem alikeB_all {p : α → PyData} (h : ∀ a b, PySem.W.alike (p a) (p b) = true) (l : List α) : alikeB (l.map p) = true := by
  unfold alikeB
  rw [List.all_eq_true]
  intro x hx
  obtain ⟨a, _, rfl⟩ := List.mem_map.mp hx
  rw [List.all_eq_true]
  intro y hy
  obtain ⟨b, _, rfl⟩ := List.mem_map.mp hy
  exact h a b
theorem Sr.conds {d : α → D} {p : α → PyData} (h : Sr d p lt) (xs : List α) : alikeB (xs.map p) = true ∧ sortB (xs.map p) = true ∧ ∀ a, decide ((p a).depth ≤ 40) = true := by
  refine ⟨alikeB_all h.al xs, ?_, fun a => decide_eq_true (h.dep a)⟩
  unfold sortB
  rw [Bool.or_eq_true_iff]
  rcases h.so with q | q
  · left
    rw [List.all_eq_true]
    intro x hx
    obtain ⟨a, _, rfl⟩ := List.mem_map.mp hx
    exact q a
  · right
    rw [List.all_eq_true]
    intro x hx
    obtain ⟨a, _, rfl⟩ := List.mem_map.mp hx
    exact q a
theorem Sr.sort {d : α → D} {p : α → PyData} (h : Sr d p lt) (xs : List α) {S : Store} {x : D} (hx : asL x S = some (xs.map d)) : cSort [x] S = .ok (.lst ((srt lt xs).map d)) S := by
  have em : (xs.map fun a => (d a, p a)).map (·.2) = xs.map p := by rw [List.map_map]; rfl
  obtain ⟨c1, c2, c3⟩ := h.conds xs
  unfold cSort
  simp only [hx, with_map h.py]
  rw [if_pos ⟨by rw [em]; exact c1, by rw [em]; exact c2, by rw [List.all_map, List.all_eq_true]; exact fun a _ => c3 a⟩]
  unfold sortD srt
  congr 2
  rw [← List.map_mergeSort (f := fun a => (d a, p a)) (r := fun a b => !decide (lt b a)) (fun a _ b _ => by rw [PySem.W.dataLe_eq]; show _ = (!PySem.W.dataLt (p b) (p a)); rw [h.lt]), List.map_map]
  rfl
theorem sr_str : Sr D.str PyData.str sLt := ⟨fun _ => rfl, lt_str, alike_s, .inr fun _ => rfl, fun _ => by simp [PyData.depth]⟩
theorem sr_pr : Sr prD prP pLt := ⟨fun _ => rfl, lt_pr, alike_p, .inl fun _ => rfl, fun p => Nat.le_trans (dep_pr p) (by decide)⟩
theorem Sr.sortA {d : α → D} {p : α → PyData} (h : Sr d p lt) (xs : List α) {S : Store} {x : D} (hx : asLT x S = some (xs.map d)) : cSortA [x] S = .ok (.lst ((srt lt xs).map d)) S := by
  cases x with
  | tup ds =>
    cases hx
    exact h.sort xs (x := .lst (xs.map d)) rfl
  | tupX ds =>
    cases hx
    exact h.sort xs (x := .lst (xs.map d)) rfl
  | lst ds => exact h.sort (S := S) (x := .lst ds) xs hx
  | loc n => exact h.sort (S := S) (x := .loc n) xs hx
  | _ => exact nomatch hx
/-- the keys of a dict of pairs, sorted -/
def kPr (p : Pr) : List Key := [.inr p.1, .inr p.2]
theorem sort_keys {S : Store} {n : Nat} {kvs : List (List Key × D)} {ps : List Pr} (hS : S[n]? = some (.dT kvs)) (hk : kvs.map (·.1) = ps.map kPr) : cSortDT [.loc n] S = .ok (.lst ((srt pLt ps).map prD)) S := by
  have em : (kvs.map fun kv => pdT kv.1) = ps.map prP := by
    have := congrArg (List.map pdT) hk
    rw [List.map_map, List.map_map] at this
    exact this
  obtain ⟨c1, c2, c3⟩ := sr_pr.conds ps
  have c3' : (kvs.all fun kv => decide ((pdT kv.1).depth ≤ 40)) = true := by
    have : (kvs.map fun kv => pdT kv.1).all (fun q => decide (q.depth ≤ 40)) = true := by rw [em, List.all_map, List.all_eq_true]; exact fun a _ => c3 a
    rw [List.all_map] at this
    exact this
  unfold cSortDT
  simp only [hS]
  rw [if_pos ⟨by rw [em]; exact c1, by rw [em]; exact c2, c3'⟩]
  unfold sortK srt
  congr 2
  rw [hk, ← List.map_mergeSort (f := kPr) (r := fun a b => !decide (pLt b a)) (fun a _ b _ => by rw [PySem.W.dataLe_eq]; show _ = (!PySem.W.dataLt (prP b) (prP a)); rw [lt_pr]), List.map_map]
  rfl
/-- putting keys: nodup, the members -/
theorem put_keys {kvs : List (List Key × D)} {ps : List Pr} {q : Pr} {v : D} (hk : kvs.map (·.1) = ps.map kPr) (hn : ps.Nodup) : ∃ ps' : List Pr, (putKD kvs (kPr q) v).map (·.1) = ps'.map kPr ∧ ps'.Nodup ∧ (∀ p, p ∈ ps' ↔ p ∈ ps ∨ p = q) ∧ ps'.length ≤ ps.length + 1 := by
  have inj : ∀ a b : Pr, kPr a = kPr b → a = b := fun a b e => by
    simp only [kPr, List.cons.injEq, Sum.inr.injEq, and_true] at e
    exact Prod.ext e.1 e.2
  have mem : (kvs.any fun x => decide (x.1 = kPr q)) = true ↔ q ∈ ps := by
    rw [List.any_eq_true]
    constructor
    · rintro ⟨x, hx, e⟩
      have : x.1 ∈ kvs.map (·.1) := List.mem_map.mpr ⟨x, hx, rfl⟩
      rw [hk, of_decide_eq_true e] at this
      obtain ⟨p, hp, e2⟩ := List.mem_map.mp this
      exact inj _ _ e2 ▸ hp
    · intro hq
      have : kPr q ∈ kvs.map (·.1) := by rw [hk]; exact List.mem_map.mpr ⟨q, hq, rfl⟩
      obtain ⟨x, hx, e⟩ := List.mem_map.mp this
      exact ⟨x, hx, decide_eq_true e⟩
  unfold putKD
  split
  · rename_i h
    have hq := mem.mp h
    refine ⟨ps, ?_, hn, fun p => ⟨.inl, fun z => z.elim id fun e => e ▸ hq⟩, by omega⟩
    rw [← hk, List.map_map]
    refine List.map_congr_left fun x _ => ?_
    simp only [Function.comp]
    split <;> rfl
  · rename_i h
    have hq : q ∉ ps := fun m => h (mem.mpr m)
    refine ⟨ps ++ [q], ?_, ?_, fun p => by simp, by simp⟩
    · rw [List.map_append, List.map_append, hk]; rfl
    · rw [List.nodup_append]
      exact ⟨hn, by simp, fun a ha b hb => by rw [List.mem_singleton.mp hb]; exact fun e => hq (e ▸ ha)⟩
end
end Lg

namespace Lg
open PySem L2
section
variable {E : XQ} {env : En} {S : Store}
theorem wp_lc2 {it : IM} {g : GM} {t : BM} {it1 : IM} {g1 : GM} {t1 : BM} {e : EM} {vs vs1 : List Nat} {Q : D → Store → Prop} : (mLc2 it g t it1 g1 t1 e vs vs1 env S).wp E Q = (it env S).wp E fun ds S1 => (mLcGo2 g t it1 g1 t1 e vs1 (wipeE env vs) ds [] S1).wp E fun xs S2 => Q (.lst xs) S2 := by
  unfold mLc2; simp only [wp_bind, wp_ok]
theorem wp_pairs0 {Q : List (Key × D) → Store → Prop} : (mPairs [] env S).wp E Q = Q [] S := rfl
theorem wp_pairs1 {k v : EM} {r : List (EM × EM)} {Q : List (Key × D) → Store → Prop} : (mPairs ((k, v) :: r) env S).wp E Q = (k env S).wp XF fun x S1 => (v env S1).wp XF fun y S2 => ∃ kk, keyD x = some kk ∧ (mPairs r env S2).wp XF fun kvs S3 => Q ((kk, y) :: kvs) S3 := by
  show (match k env S with
    | .ok x S1 => match v env S1 with
      | .ok y S2 => match keyD x with
        | some kk => match mPairs r env S2 with
          | .ok kvs S3 => .ok ((kk, y) :: kvs) S3
          | _ => .stuck
        | none => .stuck
      | _ => .stuck
    | _ => .stuck : Res (List (Key × D))).wp E Q = _
  cases k env S with
  | err x S1 => rfl
  | stuck => rfl
  | ok x S1 =>
    dsimp only [Res.wp]
    cases v env S1 with
    | err x S1 => rfl
    | stuck => rfl
    | ok y S2 =>
      dsimp only
      cases keyD x with
      | none => exact (eq_false (by rintro ⟨_, e, _⟩; cases e)).symm
      | some kk =>
        dsimp only
        cases mPairs r env S2 with
        | err x S1 => exact (eq_false (by rintro ⟨_, _, e⟩; exact e)).symm
        | stuck => exact (eq_false (by rintro ⟨_, _, e⟩; exact e)).symm
        | ok kvs S3 => exact propext ⟨fun q => ⟨kk, rfl, q⟩, fun ⟨_, e, q⟩ => by cases e; exact q⟩
theorem wp_disp {ps : List (EM × EM)} {Q : D → Store → Prop} : (mDisp ps env S).wp E Q = (mPairs ps env S).wp XF fun kvs S1 => kvs.length ≤ 15 ∧ Q (.loc S1.length) (S1 ++ [.dK (mergeD kvs)]) := by
  unfold mDisp
  cases mPairs ps env S with
  | err x S1 => rfl
  | stuck => rfl
  | ok kvs S1 =>
    show (if kvs.length ≤ 15 then Res.ok (D.loc S1.length) (S1 ++ [Ob.dK (mergeD kvs)]) else .stuck).wp E Q = _
    rw [wp_ifs]; rfl
theorem wp_thn {α β : Type} {r : Res α} {f : α → Store → Res β} {Q : β → Store → Prop} : (r.thn f).wp E Q = r.wp XF fun a S => (f a S).wp E Q := by cases r <;> rfl
/-- a comprehension that goes on from what is there -/
theorem lc_acc {α : Type} {g : GM} {t : BM} {e : EM} {S0 : Store} {Q : List D → Store → Prop} (inj : α → D) (p : α → Bool) (f : α → D) (K : Store → Prop) (xs : List α) (acc0 : List D) (h0 : K S0) (hz : acc0.length + xs.length ≤ sizeLine)
    (hs : ∀ x ∈ xs, ∀ S, K S → (g (inj x) env S).wp XF fun env1 S1 => (t env1 S1).wp XF fun q S2 => q = p x ∧ (p x = true → (e env1 S2).wp XF fun d S3 => d = f x ∧ K S3) ∧ (p x = false → K S2)) (hd : ∀ S, K S → Q (acc0 ++ (xs.filter p).map f) S) :
    (mLcGo g t e env (xs.map inj) acc0 S0).wp E Q := by
  refine lcgo_wp inj (fun k acc S => acc = acc0 ++ ((xs.take (k - acc0.length)).filter p).map f ∧ K S) xs acc0.length acc0 S0 ⟨by simp, h0⟩ (Nat.le_refl _) hz (fun i x acc S hx hJ => ?_) (fun acc S hJ => ?_)
  · rw [Nat.add_sub_cancel_left] at hJ
    rw [show acc0.length + i + 1 - acc0.length = i + 1 by omega]
    obtain ⟨rfl, hK⟩ := hJ
    have hm : x ∈ xs := List.mem_of_getElem? hx
    have ht : xs.take (i + 1) = xs.take i ++ [x] := by rw [List.take_succ, hx]; rfl
    refine (hs x hm S hK).mono fun env1 S1 h1 => h1.mono fun q S2 h2 => ?_
    obtain ⟨rfl, ha, hb⟩ := h2
    refine ⟨fun hp => (ha hp).mono fun d S3 h3 => ?_, fun hp => ?_⟩
    · obtain ⟨rfl, h3⟩ := h3
      exact ⟨by rw [ht]; simp [hp], h3⟩
    · exact ⟨by rw [ht]; simp [hp], hb hp⟩
  · rw [Nat.add_sub_cancel_left, List.take_length] at hJ
    rw [hJ.1]; exact hd S hJ.2
/-- two fors -/
theorem lc2_wp {α : Type} {g : GM} {t : BM} {it1 : IM} {g1 : GM} {t1 : BM} {e : EM} {vs1 : List Nat} {Q : List D → Store → Prop} (inj : α → D) (f : α → List D) (K : Store → Prop) : ∀ (xs : List α) (acc0 : List D) (S0 : Store), K S0 → acc0.length + (xs.flatMap f).length ≤ sizeLine →
    (∀ x ∈ xs, ∀ acc S, K S → acc.length + (f x).length ≤ sizeLine → (g (inj x) env S).wp XF fun env1 S1 => (t env1 S1).wp XF fun q S2 => (q = true → (it1 env1 S2).wp XF fun ds1 S3 => (mLcGo g1 t1 e (wipeE env1 vs1) ds1 acc S3).wp XF fun acc' S4 => acc' = acc ++ f x ∧ K S4) ∧ (q = false → f x = [] ∧ K S2)) → (∀ S, K S → Q (acc0 ++ xs.flatMap f) S) →
    (mLcGo2 g t it1 g1 t1 e vs1 env (xs.map inj) acc0 S0).wp E Q
  | [], acc0, S0, h0, _, _, hd => by
    have := hd S0 h0
    rw [List.flatMap_nil, List.append_nil] at this
    exact this
  | x :: xs, acc0, S0, h0, hz, hs, hd => by
    rw [List.flatMap_cons, List.length_append] at hz
    obtain ⟨env1, S1, e1, h1⟩ := (hs x List.mem_cons_self acc0 S0 h0 (by omega)).ex
    obtain ⟨q, S2, e2, h2⟩ := h1.ex
    have rest : ∀ acc S, K S → acc = acc0 ++ f x → (mLcGo2 g t it1 g1 t1 e vs1 env (xs.map inj) acc S).wp E Q := fun acc S hK ha =>
      lc2_wp inj f K xs acc S hK (by rw [ha, List.length_append]; omega) (fun y hy => hs y (List.mem_cons_of_mem _ hy)) fun S hK => by
        have := hd S hK
        rw [List.flatMap_cons, ← List.append_assoc] at this
        rw [ha]; exact this
    cases q with
    | false =>
      obtain ⟨h3, h4⟩ := h2.2 rfl
      simp only [List.map_cons, mLcGo2, e1, e2]
      exact rest _ _ h4 (by rw [h3, List.append_nil])
    | true =>
      obtain ⟨ds1, S3, e3, h3⟩ := (h2.1 rfl).ex
      obtain ⟨acc', S4, e4, h4⟩ := h3.ex
      simp only [List.map_cons, mLcGo2, e1, e2, e3, e4, Res.thn]
      exact rest _ _ h4.2 h4.1
theorem inX_t {x : D} {ds : List D} {S : Store} : dInX x (.tup ds) S = dIn x (.tup ds) S := rfl
theorem inX_l {x : D} {ds : List D} {S : Store} : dInX x (.lst ds) S = dIn x (.lst ds) S := rfl
theorem inX_s {x : D} {s : PySem.Str} {S : Store} : dInX x (.str s) S = dIn x (.str s) S := rfl
theorem notInX_t {x : D} {ds : List D} {S : Store} : dNotInX x (.tup ds) S = dNotIn x (.tup ds) S := rfl
theorem notInX_l {x : D} {ds : List D} {S : Store} : dNotInX x (.lst ds) S = dNotIn x (.lst ds) S := rfl
theorem notInX_s {x : D} {s : PySem.Str} {S : Store} : dNotInX x (.str s) S = dNotIn x (.str s) S := rfl
theorem inX_x {x : D} {ds : List D} {S : Store} : dInX x (.tupX ds) S = dIn x (.tup ds) S := rfl
theorem notInX_x {x : D} {ds : List D} {S : Store} : dNotInX x (.tupX ds) S = dNotIn x (.tup ds) S := rfl
theorem inn_tupX (ds : List D) : isNon (.tupX ds) = false := rfl
/-- a dict of the store whose keys are texts -/
theorem get_str {n : Nat} {kvs : List (Key × D)} {S : Store} (h : S[n]? = some (.dK kvs)) (s : PySem.Str) : getK (.loc n) (.str s) S = some (valD kvs (.inr s)) := by
  unfold getK; simp only [h]; rfl
theorem inX_str {n : Nat} {kvs : List (Key × D)} {S : Store} (h : S[n]? = some (.dK kvs)) (s : PySem.Str) : dInX (.str s) (.loc n) S = .ok (.bl (valD kvs (.inr s)).isSome) S := by
  unfold dInX; rw [get_str h]
theorem notInX_str {n : Nat} {kvs : List (Key × D)} {S : Store} (h : S[n]? = some (.dK kvs)) (s : PySem.Str) : dNotInX (.str s) (.loc n) S = .ok (.bl (!(valD kvs (.inr s)).isSome)) S := by
  unfold dNotInX; rw [get_str h]
end
end Lg
namespace Lg
open PySem L2
/-! ### tuples, known or not known to have no dict of their own -/
def Tp (d : D) (ds : List D) : Prop := d = .tup ds ∨ d = .tupX ds
section
variable {d : D} {ds : List D} {S : Store}
theorem Tp.t : Tp (.tup ds) ds := .inl rfl
theorem Tp.x : Tp (.tupX ds) ds := .inr rfl
theorem Tp.seq (h : Tp d ds) : seqD d = some ds := by rcases h with rfl | rfl <;> rfl
theorem Tp.tpd (h : Tp d ds) : tupD d = some ds := by rcases h with rfl | rfl <;> rfl
theorem Tp.ass (h : Tp d ds) (S : Store) : asSq d S = some ds := by rcases h with rfl | rfl <;> rfl
theorem Tp.kd (h : Tp d ds) (S : Store) : kindD d S = some "tuple" := by rcases h with rfl | rfl <;> rfl
theorem Tp.non (h : Tp d ds) : isNon d = false := by rcases h with rfl | rfl <;> rfl
theorem Tp.len (h : Tp d ds) (S : Store) : cLen [d] S = .ok (.int ds.length) S := by rcases h with rfl | rfl <;> rfl
theorem Tp.lt (h : Tp d ds) (S : Store) : asLT d S = some ds := by rcases h with rfl | rfl <;> rfl
theorem Tp.und (h : Tp d ds) {n : Nat} (u : unds n ds = true) : d.und n = true := by rcases h with rfl | rfl <;> exact u
theorem Tp.zip {e : D} {es : List D} (h : Tp d ds) (h' : Tp e es) : zipO [d, e] = some (zipD ds es) := by rcases h with rfl | rfl <;> rcases h' with rfl | rfl <;> rfl
theorem Tp.list (h : Tp d ds) (S : Store) : cList [d] S = .ok (.lst ds) S := by rcases h with rfl | rfl <;> rfl
theorem Tp.listL (h : Tp d ds) (S : Store) : cListL [d] S = .ok (.loc S.length) (S ++ [.lst ds]) := by rcases h with rfl | rfl <;> rfl
theorem Tp.tuple (h : Tp d ds) (S : Store) : cTupX [d] S = .ok d S := by rcases h with rfl | rfl <;> rfl
theorem Tp.inX (h : Tp d ds) (x : D) (S : Store) : dInX x d S = dIn x (.tup ds) S := by rcases h with rfl | rfl <;> rfl
theorem Tp.notInX (h : Tp d ds) (x : D) (S : Store) : dNotInX x d S = dNotIn x (.tup ds) S := by rcases h with rfl | rfl <;> rfl
theorem Tp.ix (h : Tp d ds) (i : D) (S : Store) : dIx d i S = dIx (.tup ds) i S := by
  rcases h with rfl | rfl
  · rfl
  · cases i <;> rfl
theorem Tp.py (h : Tp d ds) {ps : List PyData} (e : pys ds = some ps) : d.py = some (.tuple ps) := by rcases h with rfl | rfl <;> (unfold D.py; rw [e]; rfl)
theorem Tp.pd (h : Tp d ds) {ps : List PyData} (e : pds ds = some ps) : d.pd = some (.tuple ps) := by rcases h with rfl | rfl <;> (unfold D.pd; rw [e]; rfl)
theorem Tp.sl (h : Tp d ds) (lo hi : Option Int) (S : Store) : ∃ e, dSl d lo hi S = .ok e S ∧ Tp e (cutD ds lo hi) := by
  rcases h with rfl | rfl
  · exact ⟨_, rfl, .t⟩
  · by_cases w : HT.sIx ds.length 0 lo = 0 ∧ HT.sIx ds.length ds.length hi = ds.length
    · refine ⟨.tupX ds, if_pos w, ?_⟩
      have : cutD ds lo hi = ds := by
        unfold cutD
        rw [w.1, w.2]
        simp
      rw [this]; exact .x
    · exact ⟨_, if_neg w, .t⟩
theorem cat_tp {a b : List D} {x y : D} (hx : Tp x a) (hy : Tp y b) : Tp (catX a b x y) (a ++ b) := by
  cases a with
  | nil => exact hy
  | cons p a =>
    cases b with
    | nil => rw [List.append_nil]; exact hx
    | cons q b => exact .t
theorem Tp.add {e : D} {es : List D} (h : Tp d ds) (h' : Tp e es) (hz : ds.length + es.length ≤ sizeLine) (S : Store) : ∃ z, dAdd d e S = .ok z S ∧ Tp z (ds ++ es) := by
  rcases h with rfl | rfl <;> rcases h' with rfl | rfl
  · exact ⟨_, if_pos hz, .t⟩
  · exact ⟨_, if_pos hz, cat_tp .t .x⟩
  · exact ⟨_, if_pos hz, cat_tp .x .t⟩
  · exact ⟨_, if_pos hz, cat_tp .x .x⟩
/-- tuples of things that may be compared -/
theorem Tp.pl {α : Type} {f : α → D} {p : α → PyData} {n : Nat} {l : List α} (h : Tp d (l.map f)) (g : ∀ x ∈ l, Pl (f x) (p x) ∧ (p x).depth ≤ n) (hn : n < 20) : Pl d (.tuple (l.map p)) ∧ (PyData.tuple (l.map p)).depth ≤ n + 1 := by
  rcases h with rfl | rfl
  · exact Pl.tup l g hn
  · exact Pl.tupX l g hn
theorem Tp.sortA {α : Type} {f : α → D} {p : α → PyData} {lt : α → α → Prop} [DecidableRel lt] (r : Sr f p lt) {l : List α} (h : Tp d (l.map f)) (S : Store) : cSortA [d] S = .ok (.lst ((srt lt l).map f)) S := r.sortA l (h.lt S)
end
theorem tupx_l (ds : List D) (S : Store) : cTupX [.lst ds] S = .ok (.tupX ds) S := rfl
end Lg

namespace Lg
open PySem L2
section
variable {E : XQ} {env : En} {S : Store}
theorem wp_dcL {it : IM} {g : GM} {t : BM} {k v : EM} {vs : List Nat} {Q : D → Store → Prop} : (mDcL it g t k v vs env S).wp E Q = (it env S).wp E fun ds S1 => (mDcGo g t k v (wipeE env vs) ds [] S1).wp E fun xs S2 => Q (.loc S2.length) (S2 ++ [.dK xs]) := by
  unfold mDcL; simp only [wp_bind, wp_ok]
theorem put_len {κ : Type} [DecidableEq κ] (l : List (κ × D)) (k : κ) (v : D) : (putKD l k v).length ≤ l.length + 1 := by
  unfold putKD
  split
  · rw [List.length_map]; omega
  · rw [List.length_append]; exact Nat.le_refl _
theorem dcgo_wp {α : Type} {g : GM} {t : BM} {ke v : EM} {Q : List (Key × D) → Store → Prop} (inj : α → D) (J : Nat → List (Key × D) → Store → Prop) : ∀ (xs : List α) (k : Nat) (acc : List (Key × D)) (S : Store), J k acc S → acc.length ≤ k → k + xs.length ≤ sizeLine →
    (∀ i x acc S, xs[i]? = some x → J (k + i) acc S → (g (inj x) env S).wp XF fun env1 S1 => (t env1 S1).wp XF fun q S2 => (q = true → (ke env1 S2).wp XF fun d S3 => (v env1 S3).wp XF fun y S4 => ∃ kk, keyD d = some kk ∧ J (k + i + 1) (putKD acc kk y) S4) ∧ (q = false → J (k + i + 1) acc S2)) → (∀ acc S, J (k + xs.length) acc S → Q acc S) →
    (mDcGo g t ke v env (xs.map inj) acc S).wp E Q
  | [], k, acc, S, h0, _, _, _, hd => hd acc S h0
  | x :: xs, k, acc, S, h0, hl, hz, hs, hd => by
    rw [List.length_cons] at hz
    obtain ⟨env1, S1, e1, h1⟩ := (hs 0 x acc S rfl h0).ex
    obtain ⟨q, S2, e2, h2⟩ := h1.ex
    have rest : ∀ acc' S', J (k + 1) acc' S' → acc'.length ≤ k + 1 → (mDcGo g t ke v env (xs.map inj) acc' S').wp E Q := fun acc' S' h3 hl' =>
      dcgo_wp inj J xs (k + 1) acc' S' h3 hl' (by omega) (fun i y acc S e' hJ => by
        have := hs (i + 1) y acc S (by simpa using e') (by rw [show k + (i + 1) = k + 1 + i by omega]; exact hJ)
        rw [show k + (i + 1) = k + 1 + i by omega] at this
        exact this) (fun acc S hJ => hd acc S (by rw [List.length_cons, show k + (xs.length + 1) = k + 1 + xs.length by omega]; exact hJ))
    cases q with
    | true =>
      obtain ⟨d, S3, e3, h3⟩ := (h2.1 rfl).ex
      obtain ⟨y, S4, e4, kk, ek, h4⟩ := h3.ex
      simp only [List.map_cons, mDcGo, e1, e2, e3, e4, ek]
      rw [if_pos (by omega)]
      exact rest _ _ h4 (Nat.le_trans (put_len _ _ _) (by omega))
    | false =>
      simp only [List.map_cons, mDcGo, e1, e2]
      exact rest _ _ (h2.2 rfl) (by omega)
theorem merge_snoc (l : List (Key × D)) (kv : Key × D) : mergeD (l ++ [kv]) = putKD (mergeD l) kv.1 kv.2 := by
  unfold mergeD; rw [List.foldl_append]; rfl
/-- each item by itself -/
theorem dc_wp {α : Type} {g : GM} {t : BM} {ke v : EM} {S0 : Store} {Q : List (Key × D) → Store → Prop} (inj : α → D) (p : α → Bool) (f : α → Key × D) (K : Store → Prop) (xs : List α) (h0 : K S0) (hz : xs.length ≤ sizeLine)
    (hs : ∀ x ∈ xs, ∀ S, K S → (g (inj x) env S).wp XF fun env1 S1 => (t env1 S1).wp XF fun q S2 => q = p x ∧ (p x = true → (ke env1 S2).wp XF fun d S3 => (v env1 S3).wp XF fun y S4 => keyD d = some (f x).1 ∧ y = (f x).2 ∧ K S4) ∧ (p x = false → K S2)) (hd : ∀ S, K S → Q (mergeD ((xs.filter p).map f)) S) :
    (mDcGo g t ke v env (xs.map inj) [] S0).wp E Q := by
  refine dcgo_wp inj (fun k acc S => acc = mergeD (((xs.take k).filter p).map f) ∧ K S) xs 0 [] S0 ⟨by simp [mergeD], h0⟩ (Nat.le_refl _) (by simpa using hz) (fun i x acc S hx hJ => ?_) (fun acc S hJ => ?_)
  · rw [Nat.zero_add] at hJ ⊢
    obtain ⟨rfl, hK⟩ := hJ
    have hm : x ∈ xs := List.mem_of_getElem? hx
    have ht : xs.take (i + 1) = xs.take i ++ [x] := by rw [List.take_succ, hx]; rfl
    refine (hs x hm S hK).mono fun env1 S1 h1 => h1.mono fun q S2 h2 => ?_
    obtain ⟨rfl, ha, hb⟩ := h2
    refine ⟨fun hp => (ha hp).mono fun d S3 h3 => h3.mono fun y S4 h4 => ?_, fun hp => ?_⟩
    · obtain ⟨h5, rfl, h6⟩ := h4
      refine ⟨_, h5, ?_, h6⟩
      rw [ht, List.filter_append, List.map_append, show [x].filter p = [x] by simp [hp], List.map_singleton, merge_snoc]
    · exact ⟨by rw [ht]; simp [hp], hb hp⟩
  · rw [Nat.zero_add, List.take_length] at hJ
    rw [hJ.1]; exact hd S hJ.2
end
/-! ### what stands there -/
theorem val_put {κ : Type} [DecidableEq κ] (k k' : κ) (v : D) : ∀ l : List (κ × D), valD (putKD l k v) k' = if k = k' then some v else valD l k' := by
  intro l
  unfold putKD
  split
  · rename_i h
    induction l with
    | nil => simp at h
    | cons a l ih =>
      rw [List.map_cons]
      by_cases ha : a.1 = k
      · rw [if_pos ha]
        by_cases hk : k = k'
        · simp [valD, List.find?_cons, ha, hk]
        · rw [if_neg hk]
          have e1 : valD ((a.1, v) :: l.map fun kv => if kv.1 = k then (kv.1, v) else kv) k' = valD (l.map fun kv => if kv.1 = k then (kv.1, v) else kv) k' := by
            simp [valD, List.find?_cons, ha, hk]
          have e2 : valD (a :: l) k' = valD l k' := by simp [valD, List.find?_cons, ha, hk]
          rw [e1, e2]
          by_cases hl : (l.any fun kv => decide (kv.1 = k)) = true
          · rw [ih hl, if_neg hk]
          · have : (l.map fun kv => if kv.1 = k then (kv.1, v) else kv) = l := by
              refine (List.map_congr_left fun x hx => ?_).trans (List.map_id l)
              rw [if_neg fun e => hl (List.any_eq_true.mpr ⟨x, hx, decide_eq_true e⟩)]
              rfl
            rw [this]
      · rw [if_neg ha]
        rw [List.any_cons, decide_eq_false ha, Bool.false_or] at h
        by_cases hk : a.1 = k'
        · have : k ≠ k' := fun e => ha (hk.trans e.symm)
          simp [valD, List.find?_cons, hk, this]
        · have e1 : valD (a :: l.map fun kv => if kv.1 = k then (kv.1, v) else kv) k' = valD (l.map fun kv => if kv.1 = k then (kv.1, v) else kv) k' := by simp [valD, List.find?_cons, hk]
          have e2 : valD (a :: l) k' = valD l k' := by simp [valD, List.find?_cons, hk]
          rw [e1, e2, ih h]
  · rename_i h
    have no : ∀ x ∈ l, x.1 ≠ k := fun x hx e => h (List.any_eq_true.mpr ⟨x, hx, decide_eq_true e⟩)
    unfold valD
    rw [List.find?_append]
    by_cases hk : k = k'
    · subst hk
      have : l.find? (fun kv => decide (kv.1 = k)) = none := List.find?_eq_none.mpr fun x hx => by simp [no x hx]
      rw [this, if_pos rfl]
      simp
    · rw [if_neg hk]
      have : [(k, v)].find? (fun kv => decide (kv.1 = k')) = none := by simp [hk]
      rw [this, Option.or_none]
theorem val_merge (k : Key) : ∀ l : List (Key × D), valD (mergeD l) k = ((l.reverse.find? fun kv => decide (kv.1 = k)).map (·.2)) := by
  intro l
  suffices h : ∀ (r : List (Key × D)), valD (mergeD r.reverse) k = ((r.find? fun kv => decide (kv.1 = k)).map (·.2)) by
    have := h l.reverse
    rwa [List.reverse_reverse] at this
  intro r
  induction r with
  | nil => rfl
  | cons a r ih =>
    rw [List.reverse_cons, merge_snoc, val_put, List.find?_cons]
    by_cases h : a.1 = k
    · simp [h]
    · simp [h, ih]
theorem val_merge_some (k : Key) (l : List (Key × D)) : (valD (mergeD l) k).isSome = l.any fun kv => decide (kv.1 = k) := by
  rw [val_merge, Option.isSome_map, Bool.eq_iff_iff, List.find?_isSome, List.any_eq_true]
  exact ⟨fun ⟨x, hx, e⟩ => ⟨x, List.mem_reverse.mp hx, e⟩, fun ⟨x, hx, e⟩ => ⟨x, List.mem_reverse.mpr hx, e⟩⟩
/-- keys that differ: what is merged stands as it came -/
theorem put_new {κ : Type} [DecidableEq κ] {acc : List (κ × D)} {k : κ} {v : D} (h : ∀ q ∈ acc, q.1 ≠ k) : putKD acc k v = acc ++ [(k, v)] := by
  unfold putKD
  rw [if_neg fun e => ?_]
  obtain ⟨q, hq, e⟩ := List.any_eq_true.mp e
  exact h q hq (of_decide_eq_true e)
theorem merge_nd {l : List (Key × D)} (h : (l.map (·.1)).Nodup) : mergeD l = l := by
  suffices g : ∀ r : List (Key × D), (r.map (·.1)).Nodup → mergeD r.reverse = r.reverse by
    have := g l.reverse (by rw [List.map_reverse]; exact (List.reverse_perm (l.map (·.1))).nodup_iff.mpr h)
    rwa [List.reverse_reverse] at this
  intro r
  induction r with
  | nil => intro _; rfl
  | cons a r ih =>
    intro hn
    rw [List.map_cons, List.nodup_cons] at hn
    rw [List.reverse_cons, merge_snoc, ih hn.2, put_new fun q hq (e : q.1 = a.1) => hn.1 (e ▸ List.mem_map_of_mem (f := (·.1)) (List.mem_reverse.mp hq))]
theorem val_nd {l : List (Key × D)} (h : (l.map (·.1)).Nodup) {kv : Key × D} (hm : kv ∈ l) : valD l kv.1 = some kv.2 := by
  induction l with
  | nil => cases hm
  | cons a l ih =>
    rw [List.map_cons, List.nodup_cons] at h
    unfold valD
    rw [List.find?_cons]
    rcases List.mem_cons.mp hm with rfl | hm
    · simp
    · have : a.1 ≠ kv.1 := fun e => h.1 (e ▸ List.mem_map_of_mem hm)
      simp only [this, decide_false]
      exact ih h.2 hm
theorem merge_all {q : D → Prop} {l : List (Key × D)} (h : ∀ kv ∈ l, q kv.2) : ∀ kv ∈ mergeD l, q kv.2 := by
  suffices g : ∀ r : List (Key × D), (∀ kv ∈ r, q kv.2) → ∀ kv ∈ mergeD r.reverse, q kv.2 by
    have := g l.reverse fun kv hkv => h kv (List.mem_reverse.mp hkv)
    rwa [List.reverse_reverse] at this
  intro r
  induction r with
  | nil => intro _ kv hkv; cases hkv
  | cons a r ih =>
    intro hr kv hkv
    rw [List.reverse_cons, merge_snoc] at hkv
    have ih := ih fun x hx => hr x (List.mem_cons_of_mem _ hx)
    unfold putKD at hkv
    split at hkv
    · obtain ⟨x, hx, rfl⟩ := List.mem_map.mp hkv
      split
      · exact hr a List.mem_cons_self
      · exact ih x hx
    · rcases List.mem_append.mp hkv with hx | hx
      · exact ih kv hx
      · rw [List.mem_singleton.mp hx]; exact hr a List.mem_cons_self
theorem notin_of {x y : D} {b : Bool} {S : Store} (h : dIn x y S = .ok (.bl b) S) : dNotIn x y S = .ok (.bl (!b)) S := by
  unfold dIn at h
  unfold dNotIn
  split at h
  · cases h
    rfl
  · cases h
/-! ### sizes -/
theorem sz0 : (0 ≤ sizeLine) = True := eq_true (by decide)
theorem sz1 : (1 ≤ sizeLine) = True := eq_true (by decide)
theorem sz2 : (2 ≤ sizeLine) = True := eq_true (by decide)
theorem sz3 : (3 ≤ sizeLine) = True := eq_true (by decide)
theorem sz4 : (4 ≤ sizeLine) = True := eq_true (by decide)
theorem sz5 : (5 ≤ sizeLine) = True := eq_true (by decide)
theorem sz6 : (6 ≤ sizeLine) = True := eq_true (by decide)
theorem sz7 : (7 ≤ sizeLine) = True := eq_true (by decide)
theorem sz8 : (8 ≤ sizeLine) = True := eq_true (by decide)
theorem sz9 : (9 ≤ sizeLine) = True := eq_true (by decide)
theorem sz10 : (10 ≤ sizeLine) = True := eq_true (by decide)
theorem sz11 : (11 ≤ sizeLine) = True := eq_true (by decide)
theorem sz12 : (12 ≤ sizeLine) = True := eq_true (by decide)
theorem sz13 : (13 ≤ sizeLine) = True := eq_true (by decide)
theorem sz14 : (14 ≤ sizeLine) = True := eq_true (by decide)
theorem sz15 : (15 ≤ sizeLine) = True := eq_true (by decide)
theorem sz16 : (16 ≤ sizeLine) = True := eq_true (by decide)
theorem sz17 : (17 ≤ sizeLine) = True := eq_true (by decide)
theorem sz18 : (18 ≤ sizeLine) = True := eq_true (by decide)
theorem sz19 : (19 ≤ sizeLine) = True := eq_true (by decide)
theorem sz20 : (20 ≤ sizeLine) = True := eq_true (by decide)
theorem sz21 : (21 ≤ sizeLine) = True := eq_true (by decide)
theorem sz22 : (22 ≤ sizeLine) = True := eq_true (by decide)
theorem sz23 : (23 ≤ sizeLine) = True := eq_true (by decide)
theorem sz24 : (24 ≤ sizeLine) = True := eq_true (by decide)
end Lg

namespace Lg
open PySem L2
theorem nil_str {x : PySem.Str} : x = "" ↔ x.cps.toList = [] := by
  constructor
  · intro h; rw [h]; decide +kernel
  · intro h; exact cps_inj (h.trans (by decide +kernel))
theorem strip_all (x y : PySem.Str) : Txt.stripChars x y = "" ↔ ∀ c ∈ x.cps.toList, y.cps.contains c = true := by
  unfold Txt.stripChars Txt.stripBy
  have tw : ∀ l : List Nat, (∀ c ∈ l, y.cps.contains c = true) → l.takeWhile y.cps.contains = l := fun l h => by
    induction l with
    | nil => rfl
    | cons c l ih => rw [List.takeWhile_cons_of_pos (h c List.mem_cons_self), ih fun d hd => h d (List.mem_cons_of_mem _ hd)]
  by_cases hs : stripSame y.cps.contains true true x = true
  · rw [if_pos hs, nil_str]
    constructor
    · intro h c hc; rw [h] at hc; exact absurd hc List.not_mem_nil
    · intro h
      unfold stripSame stripLo at hs
      simp only [if_true, Bool.and_eq_true, beq_iff_eq] at hs
      rw [tw _ h] at hs
      exact List.eq_nil_of_length_eq_zero hs.1
  · rw [if_neg hs, nil_str]
    unfold stripped
    rw [PySem.StrLaws.strSub_toList]
    constructor
    · intro h
      unfold stripHi stripLo at h
      simp only [if_true] at h
      have hd : x.cps.toList.drop (x.cps.toList.takeWhile y.cps.contains).length = x.cps.toList.dropWhile y.cps.contains := by
        conv => lhs; rw [← List.takeWhile_append_dropWhile (p := y.cps.contains) (l := x.cps.toList)]
        rw [List.takeWhile_append_dropWhile]
        conv => lhs; arg 2; rw [← List.takeWhile_append_dropWhile (p := y.cps.contains) (l := x.cps.toList)]
        exact List.drop_left
      rw [hd] at h
      have hl : x.length = x.cps.toList.length := by simp [PySem.Str.length]
      have split := congrArg List.length (List.takeWhile_append_dropWhile (p := y.cps.contains) (l := x.cps.toList))
      rw [List.length_append] at split
      cases hw : x.cps.toList.dropWhile y.cps.contains with
      | nil =>
        intro c hc
        have := List.takeWhile_append_dropWhile (p := y.cps.contains) (l := x.cps.toList)
        rw [hw, List.append_nil] at this
        rw [← this] at hc
        exact List.all_eq_true.mp List.all_takeWhile c hc
      | cons a r =>
        exfalso
        have ha : ¬ y.cps.contains a = true := by
          have := List.head_dropWhile_not (p := y.cps.contains) (l := x.cps.toList) (w := by rw [hw]; simp)
          simp only [hw, List.head_cons] at this
          rw [this]; decide
        have lt : ((a :: r).reverse.takeWhile y.cps.contains).length < (a :: r).length := by
          rcases Nat.lt_or_ge ((a :: r).reverse.takeWhile y.cps.contains).length (a :: r).length with q | q
          · exact q
          · exfalso
            have e : (a :: r).reverse.takeWhile y.cps.contains = (a :: r).reverse := by
              have pre := List.takeWhile_prefix (l := (a :: r).reverse) y.cps.contains
              exact pre.eq_of_length_le (by rw [List.length_reverse]; exact q)
            have := List.all_eq_true.mp (List.all_takeWhile (p := y.cps.contains) (l := (a :: r).reverse)) a (by rw [e]; simp)
            exact ha this
        rw [hw] at h split
        have := congrArg List.length h
        rw [List.length_take] at this
        simp only [List.length_nil] at this
        have e1 : (a :: r).length = r.length + 1 := rfl
        omega
    · intro h
      unfold stripLo
      simp only [if_true]
      rw [tw _ h, List.drop_length]
      simp
end Lg

set_option exponentiation.threshold 600
/-! ShA: the pot of k01 to k10 and k79: words, pairs, turned. -/
namespace Lw
open PySem L2 Lg
def m__law_blend : List D → Store → Res D := mDef 4 2 (sSeq (sAsg (mOp dAdd (mOp dAdd (mOp dAdd (mOp dMod (mVar 0) (mC (.int 2305843009213693951))) (mOp dMul (mOp dMul (mC (.int 104729)) (mVar 1)) (mVar 1))) (mOp dMul (mC (.int 17)) (mVar 1))) (mC (.int 5))) (gmName 2)) (sSeq (sAsg (mOp dMod (mOp dMul (mVar 2) (mC (.int 48271))) (mC (.int 2305843009213693921))) (gmName 3)) (sRet (mOp dMod (mOp dAdd (mOp dMul (mVar 3) (mOp dAdd (mOp dMod (mVar 3) (mC (.int 1000003))) (mOp dMul (mC (.int 99991)) (mVar 1)))) (mOp dDiv (mVar 3) (mC (.int 11)))) (mC (.int 2305843009213693907))))))
def m__law_pot : List D → Store → Res D := mDef 1 1 (sRet (mLstL (mCons (mCall cListL (mCons (mVar 0) mNil)) (mCons (mC (.int 0)) (mCons (mC (.int 3)) (mCons (mC (.int 0)) mNil))))))
def m__law_draw : List D → Store → Res D := mDef 4 2 (sSeq (sAsg (mOp dAdd (mOp dIx (mVar 0) (mC (.int 3))) (mC (.int 1))) (gmSub (mVar 0) (mC (.int 3)) dSet)) (sSeq (sIf (bAnd (bVal (mOp dEqA (mOp dIx (mVar 0) (mC (.int 1))) (mC (.int 0)))) (bVal (mOp dNeA (mOp dIx (mVar 0) (mC (.int 0))) (mLst mNil)))) (sSeq (sAsg (mBMt "list" qPopAt (mOp dIx (mVar 0) (mC (.int 0))) (mCons (mC (.int 0)) mNil)) (gmName 2)) (sSeq (sAsg (mCall m__law_blend (mCons (mOp dAdd (mOp dIx (mVar 0) (mC (.int 2))) (mVar 2)) (mCons (mCall cLen (mCons (mOp dIx (mVar 0) (mC (.int 0))) mNil)) mNil))) (gmSub (mVar 0) (mC (.int 2)) dSet)) (sIf (bVal (mOp dGe (mCall cAbs (mCons (mVar 2) mNil)) (mOp dPow (mC (.int 10)) (mC (.int 18))))) (sAsg (mCall cAbs (mCons (mVar 2) mNil)) (gmSub (mVar 0) (mC (.int 1)) dSet)) sNext))) sNext) (sSeq (sIf (bVal (mOp dGt (mOp dIx (mVar 0) (mC (.int 1))) (mC (.int 0)))) (sSeq (sAsg (mOp dMod (mOp dIx (mVar 0) (mC (.int 1))) (mVar 1)) (gmName 3)) (sSeq (sAsg (mOp dDiv (mOp dIx (mVar 0) (mC (.int 1))) (mVar 1)) (gmSub (mVar 0) (mC (.int 1)) dSet)) (sRet (mVar 3)))) sNext) (sRet (mOp dMod (mOp dDiv (mCall m__law_blend (mCons (mOp dIx (mVar 0) (mC (.int 2))) (mCons (mOp dIx (mVar 0) (mC (.int 3))) mNil))) (mC (.int 7))) (mVar 1))))))
def m__law_pick : List D → Store → Res D := mDef 2 2 (sRet (mOp dIx (mVar 1) (mCall m__law_draw (mCons (mVar 0) (mCons (mCall cLen (mCons (mVar 1) mNil)) mNil)))))
def m__law_words : List D → Store → Res D := mDef 9 2 (sSeq (sPar 2 3 (mCons (mCall cListSL (mCons (mC (.str "abcdefghijklmnopqrstuvwxyz")) mNil)) (mCons (mLstL mNil) mNil))) (sSeq (sAsg (mBMt "str" qJoin (mC (.str "")) (mCons (mLc (itRange1 (mCons (mCall m__law_draw (mCons (mVar 0) (mCons (mC (.int 12)) mNil))) mNil)) (gmName 7) bYes (mCall m__law_pick (mCons (mVar 0) (mCons (mC (.str "abxyz")) mNil))) [7]) mNil)) (gmName 4)) (sSeq (sPar 5 6 (mCons (mCall m__law_draw (mCons (mVar 0) (mCons (mOp dAdd (mCall cLen (mCons (mVar 4) mNil)) (mC (.int 1))) mNil))) (mCons (mCall m__law_draw (mCons (mVar 0) (mCons (mC (.int 2)) mNil))) mNil))) (sSeq (sForI (itRange1 (mCons (mVar 1) mNil)) (gmName 7) (sSeq (sAsg (mBMt "list" qPopAt (mVar 2) (mCons (mCall m__law_draw (mCons (mVar 0) (mCons (mCall cLen (mCons (mVar 2) mNil)) mNil))) mNil)) (gmName 8)) (sDrop (mBMt "list" qAppend (mVar 3) (mCons (mOp dIx (mLst (mCons (mOp dAdd (mOp dAdd (mSl (mVar 4) oNone (oSome (mVar 5))) (mVar 8)) (mSl (mVar 4) (oSome (mVar 5)) oNone)) (mCons (mOp dAdd (mVar 8) (mSl (mVar 4) oNone (oSome (mCall m__law_draw (mCons (mVar 0) (mCons (mOp dAdd (mCall cLen (mCons (mVar 4) mNil)) (mC (.int 1))) mNil)))))) mNil))) (mVar 6)) mNil))))) (sRet (mVar 3))))))
def m__law_pairs : List D → Store → Res D := mDef 5 3 (sSeq (sAsg mNewT (gmName 3)) (sSeq (sForI (itRange1 (mCons (mVar 2) mNil)) (gmName 4) (sAsg (mC (.bl true)) (gmSub (mVar 3) (mTup (mCons (mCall m__law_pick (mCons (mVar 0) (mCons (mVar 1) mNil))) (mCons (mCall m__law_pick (mCons (mVar 0) (mCons (mVar 1) mNil))) mNil))) dSetK))) (sRet (mCall cTupX (mCons (mCall cSortDT (mCons (mVar 3) mNil)) mNil)))))
def m__law_turned_round : List D → Store → Res D := mDef 5 2 (sSeq (sPar 2 3 (mCons (mCall cListL (mCons (mVar 1) mNil)) (mCons (mLstL mNil) mNil))) (sSeq (sForI (itSeq (mCall cSortA (mCons (mVar 1) mNil))) (gmName 4) (sDrop (mBMt "list" qAppend (mVar 3) (mCons (mTup (mCons (mVar 4) (mCons (mBMt "list" qPopAt (mVar 2) (mCons (mCall m__law_draw (mCons (mVar 0) (mCons (mCall cLen (mCons (mVar 2) mNil)) mNil))) mNil)) mNil))) mNil)))) (sRet (mCall cTupX (mCons (mVar 3) mNil)))))
abbrev Ps := List (PySem.Str × PySem.Str)
def LET : PySem.Str := "abcdefghijklmnopqrstuvwxyz"
theorem let_iff (c : Nat) : c ∈ LET.cps.toList ↔ 97 ≤ c ∧ c ≤ 122 := by
  rw [show LET.cps.toList = [97,98,99,100,101,102,103,104,105,106,107,108,109,110,111,112,113,114,115,116,117,118,119,120,121,122] from by decide +kernel]
  simp
  omega
/-- a name -/
structure Nm (s : PySem.Str) : Prop where
  az : Az s
  one : 1 ≤ s.length
  top : s.length ≤ 12
theorem Nm.short {s : PySem.Str} (h : Nm s) : s.length ≤ sizeLine := Nat.le_trans h.top (by decide)
def yrD (y : Ps) : D := .tupX (y.map prD)
def yrP (y : Ps) : PyData := .tuple (y.map prP)
abbrev Nam (ms : Ps) : List PySem.Str := ms.map (·.1)
/-- nothing in it is a place -/
def Flat (o : Ob) : Prop := ∀ n, o.und n = true
theorem unds_map {α : Type} {f : α → D} {n : Nat} (h : ∀ a, (f a).und n = true) : ∀ l : List α, unds n (l.map f) = true
  | [] => rfl
  | a :: l => by rw [List.map_cons, unds, h a, unds_map h l]; rfl
theorem flat_lst {α : Type} {f : α → D} (h : ∀ a n, (f a).und n = true) (l : List α) : Flat (.lst (l.map f)) := fun n => unds_map (fun a => h a n) l
theorem und_str (s : PySem.Str) (n : Nat) : (D.str s).und n = true := rfl
theorem und_pr (p : PySem.Str × PySem.Str) (n : Nat) : (prD p).und n = true := rfl
theorem und_yr (y : Ps) (n : Nat) : (yrD y).und n = true := unds_map (fun p => und_pr p n) y
theorem flat_dT {kvs : List (List Key × D)} (h : ∀ kv ∈ kvs, kv.2 = .bl true) : Flat (.dT kvs) := fun n => by
  show undkv n kvs = true
  unfold undkv
  rw [List.all_eq_true]
  intro kv hk
  rw [h kv hk]; rfl
theorem put_true {kvs : List (List Key × D)} {k : List Key} (h : ∀ kv ∈ kvs, kv.2 = .bl true) : ∀ kv ∈ putKD kvs k (.bl true), kv.2 = .bl true := fun kv hk => by
  unfold putKD at hk
  split at hk
  · obtain ⟨q, hq, rfl⟩ := List.mem_map.mp hk
    split
    · rfl
    · exact h q hq
  · rcases List.mem_append.mp hk with hk | hk
    · exact h kv hk
    · rw [List.mem_singleton.mp hk]
def FlatS (R : Store) : Prop := ∀ o ∈ R, Flat o
theorem FlatS.app {R X : Store} (h : FlatS R) (h2 : FlatS X) : FlatS (R ++ X) := fun o ho => (List.mem_append.mp ho).elim (h o) (h2 o)
theorem FlatS.set {R : Store} {k : Nat} {o : Ob} (h : FlatS R) (h2 : Flat o) : FlatS (R.set k o) := fun o' ho => by
  rcases List.mem_or_eq_of_mem_set ho with q | q
  · exact h o' q
  · exact q ▸ h2
theorem flat1 {o : Ob} (h : Flat o) : FlatS [o] := fun o' ho => by rw [List.mem_singleton.mp ho]; exact h
theorem flat2 {o o' : Ob} (h : Flat o) (h' : Flat o') : FlatS [o, o'] := fun x hx => by
  rcases List.mem_cons.mp hx with rfl | hx
  · exact h
  · rw [List.mem_singleton.mp hx]; exact h'
theorem blend (sown turn : Int) (h0 : 0 ≤ turn) (h1 : turn ≤ 1000001) (S : Store) : ∃ r : Int, m__law_blend [.int sown, .int turn] S = .ok (.int r) S ∧ 0 ≤ r ∧ r < 2305843009213693907 := by
  have t2 : turn * turn ≤ 1000001 * 1000001 := Int.mul_le_mul h1 h1 h0 (by decide)
  have t3 : 0 ≤ turn * turn := Int.mul_nonneg h0 h0
  have e1 : 104729 * turn * turn = 104729 * (turn * turn) := by rw [Int.mul_assoc]
  have m1 := Int.emod_nonneg sown (show (2305843009213693951 : Int) ≠ 0 by decide)
  have m2 := Int.emod_lt_of_pos sown (show (0 : Int) < 2305843009213693951 by decide)
  have b : (10000000000000000000000000000000 : Int) < 2 ^ 500 := by decide
  have c1 : CMulW 104729 turn := cm (by decide) (by decide) h0 (by omega)
  have c2 : CMulW (104729 * turn) turn := cm (by omega) (by omega) h0 (by omega)
  have c3 : CMulW 17 turn := cm (by decide) (by decide) h0 (by omega)
  generalize hs : sown % 2305843009213693951 + 104729 * turn * turn + 17 * turn + 5 = seed
  have s1 : 0 ≤ seed ∧ seed < 10000000000000000000 := by omega
  have c4 : CMulW seed 48271 := cm s1.1 (by omega) (by decide) (by decide)
  generalize ho : seed * 48271 % 2305843009213693921 = once
  have o1 : 0 ≤ once ∧ once < 2305843009213693921 := by
    rw [← ho]; exact ⟨Int.emod_nonneg _ (by decide), Int.emod_lt_of_pos _ (by decide)⟩
  have c5 : CMulW 99991 turn := cm (by decide) (by decide) h0 (by omega)
  have m3 := Int.emod_nonneg once (show (1000003 : Int) ≠ 0 by decide)
  have m4 := Int.emod_lt_of_pos once (show (0 : Int) < 1000003 by decide)
  have c6 : CMulW once (once % 1000003 + 99991 * turn) := cm o1.1 (by omega) (by omega) (by omega)
  have c7 : CDivW once 11 := by unfold CDivW; decide
  refine ⟨(once * (once % 1000003 + 99991 * turn) + once / 11) % 2305843009213693907, ?_, Int.emod_nonneg _ (by decide), Int.emod_lt_of_pos _ (by decide)⟩
  have p1 : (0 : Int) < 2305843009213693951 := by decide
  have p2 : (0 : Int) < 2305843009213693921 := by decide
  have p3 : (0 : Int) < 1000003 := by decide
  have p4 : (0 : Int) < 2305843009213693907 := by decide
  simp only [m__law_blend, mDef, startE, sSeq, sAsg, sRet, mOp, mVar, mC, gmName, Res.bind, Res.bindS, FRes.seq, dInt, dAdd, List.length_cons, List.length_nil, List.map_cons, List.map_nil, List.replicate, List.cons_append, List.nil_append, List.append_nil, List.getElem?_cons_zero, List.getElem?_cons_succ, List.set, if_true, p1, p2, p3, p4, c1, c2, c3, hs, c4, ho, c5, c6, c7, Nat.reduceAdd, Nat.reduceSub]

def Pot (R : Store) (cells : List Int) (big seed turn : Int) : Store := .lst (cells.map D.int) :: .lst [.loc 0, .int big, .int seed, .int turn] :: R
theorem pys_ints : ∀ l : List Int, pys (l.map D.int) = some (l.map PyData.int)
  | [] => rfl
  | x :: l => by simp [pys, D.py, pys_ints l]
theorem lay_ints : ∀ l : List Int, PyData.canLayAll0 (l.map PyData.int) = true
  | [] => rfl
  | x :: l => by simp [PyData.canLayAll0, PyData.canLay0, lay_ints l]
theorem dep_ints : ∀ l : List Int, PyData.depthAll (l.map PyData.int) = 0
  | [] => rfl
  | x :: l => by simp [PyData.depthAll, PyData.depth, dep_ints l]
theorem ne0 (R : Store) (cells : List Int) (big seed turn : Int) : dNeA (.loc 0) (.lst []) (Pot R cells big seed turn) = .ok (.bl (!cells.isEmpty)) (Pot R cells big seed turn) := by
  show dNe _ _ _ = _
  have h1 : SeqAt.shaped (.list (cells.map PyData.int)) = true := by
    unfold SeqAt.shaped
    simp [PyData.canLay0, PyData.depth, lay_ints, dep_ints]
  have h2 : SeqAt.shaped (.list []) = true := rfl
  have e1 : pyOf (.loc 0) (Pot R cells big seed turn) = some (.list (cells.map PyData.int)) := by simp [pyOf, Pot, pys_ints]
  have e2 : pyOf (.lst []) (Pot R cells big seed turn) = some (.list []) := rfl
  unfold dNe dEqB
  rw [e1, e2]
  simp only [h1, h2, and_self, if_true]
  cases cells <;> rfl
theorem draw {R : Store} {cells : List Int} {big seed turn size : Int} (hb : 0 ≤ big) (hc : cells.length ≤ 63) (ht0 : 0 ≤ turn) (ht : turn ≤ 1000000) (hs0 : 0 < size) (hs : size < 2 ^ 500) :
    ∃ (r : Int) (cells' : List Int) (big' seed' : Int), m__law_draw [.loc 1, .int size] (Pot R cells big seed turn) = .ok (.int r) (Pot R cells' big' seed' (turn + 1)) ∧ 0 ≤ r ∧ r < size ∧ 0 ≤ big' ∧ cells'.length ≤ 63 := by
  have dv : ∀ i, CDivW i size := fun i => ⟨hs0, Nat.lt_of_lt_of_le (lg (Int.le_of_lt hs0) hs (by decide)) (by decide)⟩
  have d7 : ∀ i, CDivW i 7 := fun i => by unfold CDivW; decide
  have p18 : CPow 10 18 := by unfold CPow; decide
  -- the last part
  have last : ∀ (x y : Option D) (cells : List Int) (big seed : Int), 0 ≤ big → cells.length ≤ 63 → ∃ (r : Int) (big' : Int), (sSeq (sIf (bVal (mOp dGt (mOp dIx (mVar 0) (mC (.int 1))) (mC (.int 0)))) (sSeq (sAsg (mOp dMod (mOp dIx (mVar 0) (mC (.int 1))) (mVar 1)) (gmName 3)) (sSeq (sAsg (mOp dDiv (mOp dIx (mVar 0) (mC (.int 1))) (mVar 1)) (gmSub (mVar 0) (mC (.int 1)) dSet)) (sRet (mVar 3)))) sNext) (sRet (mOp dMod (mOp dDiv (mCall m__law_blend (mCons (mOp dIx (mVar 0) (mC (.int 2))) (mCons (mOp dIx (mVar 0) (mC (.int 3))) mNil))) (mC (.int 7))) (mVar 1)))) [some (.loc 1), some (.int size), x, y] (Pot R cells big seed (turn + 1)) = .ret (.int r) (Pot R cells big' seed (turn + 1)) ∧ 0 ≤ r ∧ r < size ∧ 0 ≤ big' := by
    intro x y cells big seed hb hc
    obtain ⟨q, hq, q0, q1⟩ := blend seed (turn + 1) (by omega) (by omega) (Pot R cells big seed (turn + 1))
    by_cases hz : 0 < big
    · refine ⟨big % size, big / size, ?_, Int.emod_nonneg _ (by omega), Int.emod_lt_of_pos _ hs0, Int.ediv_nonneg hb (by omega)⟩
      simp [sSeq, sIf, sAsg, sRet, bVal, mOp, mVar, mC, gmName, gmSub, Res.bind, Res.bindS, FRes.seq, dInt, dIx, asL, atI, ixN, dSet, Pot, hz, hs0, dv]
    · refine ⟨q / 7 % size, big, ?_, Int.emod_nonneg _ (by omega), Int.emod_lt_of_pos _ hs0, hb⟩
      have hq' := hq
      simp only [Pot] at hq'
      simp [sSeq, sIf, sAsg, sRet, sNext, bVal, mOp, mVar, mC, mCall, mCons, mNil, gmName, gmSub, Res.bind, Res.bindS, FRes.seq, dInt, dIx, asL, atI, ixN, dSet, Pot, hz, hs0, dv, hq', d7]
  have sA : sAsg (mOp dAdd (mOp dIx (mVar 0) (mC (.int 3))) (mC (.int 1))) (gmSub (mVar 0) (mC (.int 3)) dSet) (startE 4 [.loc 1, .int size]) (Pot R cells big seed turn) = .next [some (.loc 1), some (.int size), none, none] (Pot R cells big seed (turn + 1)) := by
    simp [sAsg, mOp, mVar, mC, gmSub, startE, Res.bind, Res.bindS, dAdd, dIx, asL, atI, ixN, dSet, Pot, List.replicate]
  have mid : ∃ (x : Option D) (cells' : List Int) (big' seed' : Int), (sIf (bAnd (bVal (mOp dEqA (mOp dIx (mVar 0) (mC (.int 1))) (mC (.int 0)))) (bVal (mOp dNeA (mOp dIx (mVar 0) (mC (.int 0))) (mLst mNil)))) (sSeq (sAsg (mBMt "list" qPopAt (mOp dIx (mVar 0) (mC (.int 0))) (mCons (mC (.int 0)) mNil)) (gmName 2)) (sSeq (sAsg (mCall m__law_blend (mCons (mOp dAdd (mOp dIx (mVar 0) (mC (.int 2))) (mVar 2)) (mCons (mCall cLen (mCons (mOp dIx (mVar 0) (mC (.int 0))) mNil)) mNil))) (gmSub (mVar 0) (mC (.int 2)) dSet)) (sIf (bVal (mOp dGe (mCall cAbs (mCons (mVar 2) mNil)) (mOp dPow (mC (.int 10)) (mC (.int 18))))) (sAsg (mCall cAbs (mCons (mVar 2) mNil)) (gmSub (mVar 0) (mC (.int 1)) dSet)) sNext))) sNext) [some (.loc 1), some (.int size), none, none] (Pot R cells big seed (turn + 1)) =
      .next [some (.loc 1), some (.int size), x, none] (Pot R cells' big' seed' (turn + 1)) ∧ 0 ≤ big' ∧ cells'.length ≤ 63 := by
    have i0 : ∀ (cells : List Int) (b sd : Int) (x : Option D), mOp dIx (mVar 0) (mC (.int 0)) [some (.loc 1), some (.int size), x, none] (Pot R cells b sd (turn + 1)) = .ok (.loc 0) (Pot R cells b sd (turn + 1)) := fun _ _ _ _ => by simp [mOp, mVar, mC, Res.bind, dIx, asL, atI, ixN, Pot]
    have i1 : mOp dIx (mVar 0) (mC (.int 1)) [some (.loc 1), some (.int size), none, none] (Pot R cells big seed (turn + 1)) = .ok (.int big) (Pot R cells big seed (turn + 1)) := by simp [mOp, mVar, mC, Res.bind, dIx, asL, atI, ixN, Pot]
    have c1 : bVal (mOp dEqA (mOp dIx (mVar 0) (mC (.int 1))) (mC (.int 0))) [some (.loc 1), some (.int size), none, none] (Pot R cells big seed (turn + 1)) = .ok (decide (big = 0)) (Pot R cells big seed (turn + 1)) := by
      exact val_ok ((op_ok i1 rfl).trans (eqI _ _ _))
    have c2 : bVal (mOp dNeA (mOp dIx (mVar 0) (mC (.int 0))) (mLst mNil)) [some (.loc 1), some (.int size), none, none] (Pot R cells big seed (turn + 1)) = .ok (!cells.isEmpty) (Pot R cells big seed (turn + 1)) := by
      exact val_ok ((op_ok (i0 cells big seed none) rfl).trans (ne0 _ _ _ _ _))
    by_cases hz : big = 0
    · subst hz
      cases cells with
      | nil => exact ⟨none, [], 0, seed, by simp [sIf, bAnd, c1, c2, Res.bind, Res.bindS, sNext], hb, hc⟩
      | cons c cs =>
        have hl : cs.length ≤ 62 := by simpa using hc
        obtain ⟨q, hq, q0, q1⟩ := blend (seed + c) (cs.length : Int) (by omega) (by omega) (Pot R cs 0 seed (turn + 1))
        have pop : mBMt "list" qPopAt (mOp dIx (mVar 0) (mC (.int 0))) (mCons (mC (.int 0)) mNil) [some (.loc 1), some (.int size), none, none] (Pot R (c :: cs) 0 seed (turn + 1)) = .ok (.int c) (Pot R cs 0 seed (turn + 1)) := by
          have j := i0 (c :: cs) 0 seed none
          simp only [mBMt, j, Res.bind]
          simp [mCons, mNil, mC, Res.bind, tyD, qPopAt, Pot, seqIndex?]
        have e2 : mOp dIx (mVar 0) (mC (.int 2)) [some (.loc 1), some (.int size), some (.int c), none] (Pot R cs 0 seed (turn + 1)) = .ok (.int seed) (Pot R cs 0 seed (turn + 1)) := by simp [mOp, mVar, mC, Res.bind, dIx, asL, atI, ixN, Pot]
        have ln : mCall cLen (mCons (mOp dIx (mVar 0) (mC (.int 0))) mNil) [some (.loc 1), some (.int size), some (.int c), none] (Pot R cs 0 seed (turn + 1)) = .ok (.int cs.length) (Pot R cs 0 seed (turn + 1)) := by
          have j := i0 cs 0 seed (some (.int c))
          rw [call_ok (cons_ok j rfl)]
          simp [cLen, asL, Pot]
        have st : sAsg (mCall m__law_blend (mCons (mOp dAdd (mOp dIx (mVar 0) (mC (.int 2))) (mVar 2)) (mCons (mCall cLen (mCons (mOp dIx (mVar 0) (mC (.int 0))) mNil)) mNil))) (gmSub (mVar 0) (mC (.int 2)) dSet) [some (.loc 1), some (.int size), some (.int c), none] (Pot R cs 0 seed (turn + 1)) = .next [some (.loc 1), some (.int size), some (.int c), none] (Pot R cs 0 q (turn + 1)) := by
          have ad : mOp dAdd (mOp dIx (mVar 0) (mC (.int 2))) (mVar 2) [some (.loc 1), some (.int size), some (.int c), none] (Pot R cs 0 seed (turn + 1)) = .ok (.int (seed + c)) (Pot R cs 0 seed (turn + 1)) := by
            exact (op_ok e2 (show mVar 2 _ _ = .ok (.int c) _ from rfl)).trans rfl
          have cl : mCall m__law_blend (mCons (mOp dAdd (mOp dIx (mVar 0) (mC (.int 2))) (mVar 2)) (mCons (mCall cLen (mCons (mOp dIx (mVar 0) (mC (.int 0))) mNil)) mNil)) [some (.loc 1), some (.int size), some (.int c), none] (Pot R cs 0 seed (turn + 1)) = .ok (.int q) (Pot R cs 0 seed (turn + 1)) := by
            exact (call_ok (cons_ok ad (cons_ok ln rfl))).trans hq
          simp only [sAsg, cl, Res.bindS]
          simp [gmSub, mVar, mC, Res.bind, dSet, ixN, Pot]
        by_cases hg : (1000000000000000000 : Int) ≤ (if c < 0 then -c else c)
        · refine ⟨some (.int c), cs, (if c < 0 then -c else c), q, ?_, by omega, by omega⟩
          simp only [sIf, bAnd, c1, c2, Res.bind, Res.bindS, eq_self, decide_true, if_true, List.isEmpty_cons, Bool.not_false]
          have pop' : sAsg (mBMt "list" qPopAt (mOp dIx (mVar 0) (mC (.int 0))) (mCons (mC (.int 0)) mNil)) (gmName 2) [some (.loc 1), some (.int size), none, none] (Pot R (c :: cs) 0 seed (turn + 1)) = .next [some (.loc 1), some (.int size), some (.int c), none] (Pot R cs 0 seed (turn + 1)) := by
            simp only [sAsg, pop, Res.bindS, gmName]
            rfl
          rw [sq pop', sq st]
          simp [sIf, bVal, mOp, mCall, mCons, mNil, mVar, mC, cAbs, dInt, p18, hg, sAsg, gmSub, dSet, ixN, Pot, Res.bind, Res.bindS]
        · refine ⟨some (.int c), cs, 0, q, ?_, hb, by omega⟩
          simp only [sIf, bAnd, c1, c2, Res.bind, Res.bindS, eq_self, decide_true, if_true, List.isEmpty_cons, Bool.not_false]
          have pop' : sAsg (mBMt "list" qPopAt (mOp dIx (mVar 0) (mC (.int 0))) (mCons (mC (.int 0)) mNil)) (gmName 2) [some (.loc 1), some (.int size), none, none] (Pot R (c :: cs) 0 seed (turn + 1)) = .next [some (.loc 1), some (.int size), some (.int c), none] (Pot R cs 0 seed (turn + 1)) := by
            simp only [sAsg, pop, Res.bindS, gmName]
            rfl
          rw [sq pop', sq st]
          simp [sIf, bVal, mOp, mCall, mCons, mNil, mVar, mC, cAbs, dInt, p18, hg, sNext, Res.bind, Res.bindS]
    · exact ⟨none, cells, big, seed, by simp [sIf, bAnd, c1, Res.bind, Res.bindS, hz, sNext], hb, hc⟩
  obtain ⟨x, cells', big', seed', m1, m2, m3⟩ := mid
  obtain ⟨r, big'', l1, l2, l3, l4⟩ := last x none cells' big' seed' m2 m3
  refine ⟨r, cells', big'', seed', ?_, l2, l3, l4, m3⟩
  unfold m__law_draw mDef
  rw [if_pos (by rfl), sq sA, sq m1, l1]

/-! ### the pot, and what stands behind it -/
def PO (t : Nat) (R S : Store) : Prop := ∃ (cells : List Int) (big seed turn : Int), S = Pot R cells big seed turn ∧ 0 ≤ big ∧ cells.length ≤ 63 ∧ 0 ≤ turn ∧ turn ≤ t
theorem PO.mono {t t' : Nat} {R S : Store} (h : PO t R S) (ht : t ≤ t') : PO t' R S := by
  obtain ⟨c, b, s, n, h1, h2, h3, h4, h5⟩ := h
  exact ⟨c, b, s, n, h1, h2, h3, h4, by omega⟩
theorem PO.app {t : Nat} {R S : Store} (h : PO t R S) (X : Store) : PO t (R ++ X) (S ++ X) := by
  obtain ⟨c, b, s, n, h1, h2, h3, h4, h5⟩ := h
  exact ⟨c, b, s, n, by rw [h1]; rfl, h2, h3, h4, h5⟩
theorem PO.len {t : Nat} {R S : Store} (h : PO t R S) : S.length = R.length + 2 := by
  obtain ⟨c, b, s, n, rfl, _⟩ := h
  simp [Pot]
theorem PO.at {t : Nat} {R S : Store} (h : PO t R S) (k : Nat) : S[k + 2]? = R[k]? := by
  obtain ⟨c, b, s, n, rfl, _⟩ := h
  simp [Pot]
theorem PO.set {t : Nat} {R S : Store} (h : PO t R S) (k : Nat) (o : Ob) : PO t (R.set k o) (S.set (k + 2) o) := by
  obtain ⟨c, b, s, n, rfl, h2, h3, h4, h5⟩ := h
  exact ⟨c, b, s, n, by simp [Pot], h2, h3, h4, h5⟩
theorem drawn {t : Nat} {R S : Store} {size : Int} (h : PO t R S) (ht : t ≤ 1000000) (h0 : 0 < size) (h1 : size < 2 ^ 500) : ∃ (r : Nat) (S' : Store), m__law_draw [.loc 1, .int size] S = .ok (.int r) S' ∧ PO (t + 1) R S' ∧ (r : Int) < size := by
  obtain ⟨c, b, s, n, rfl, h2, h3, h4, h5⟩ := h
  obtain ⟨r, c', b', s', q1, q2, q3, q4, q5⟩ := draw (R := R) (cells := c) (seed := s) h2 h3 h4 (by omega) h0 h1
  refine ⟨r.toNat, _, ?_, ⟨c', b', s', n + 1, rfl, q4, q5, by omega, by omega⟩, by omega⟩
  rw [q1, Int.toNat_of_nonneg q2]
/-- a drawn number as an expression -/
theorem drawE {t : Nat} {R S S1 : Store} {size : Int} {a b : EM} {env : En} (ha : a env S = .ok (.loc 1) S) (hb : b env S = .ok (.int size) S1) (h : PO t R S1) (ht : t ≤ 1000000) (h0 : 0 < size) (h1 : size < 2 ^ 500) : ∃ (r : Nat) (S' : Store), mCall m__law_draw (mCons a (mCons b mNil)) env S = .ok (.int r) S' ∧ PO (t + 1) R S' ∧ (r : Int) < size := by
  obtain ⟨r, S', q1, q2, q3⟩ := drawn h ht h0 h1
  exact ⟨r, S', (call_ok (cons_ok ha (cons_ok hb nil_ok))).trans q1, q2, q3⟩
/-- things to pick from -/
structure Pk (R : Store) (v : D) (len : Nat) (f : Nat → D) : Prop where
  ln : ∀ t S, PO t R S → cLen [v] S = .ok (.int len) S
  ix : ∀ t S, PO t R S → ∀ r : Nat, r < len → dIx v (.int r) S = .ok (f r) S
theorem picked {t : Nat} {R S : Store} {v : D} {len : Nat} {f : Nat → D} (p : Pk R v len f) (h : PO t R S) (ht : t ≤ 1000000) (h0 : 0 < len) (h1 : len ≤ 1000) : ∃ (r : Nat) (S' : Store), m__law_pick [.loc 1, v] S = .ok (f r) S' ∧ PO (t + 1) R S' ∧ r < len := by
  have b : (1000 : Int) < 2 ^ 500 := by decide
  obtain ⟨r, S', q1, q2, q3⟩ := drawE (a := mVar 0) (b := mCall cLen (mCons (mVar 1) mNil)) (env := [some (.loc 1), some v]) (size := (len : Nat)) (var_ok rfl) ((call_ok (cons_ok (var_ok rfl) nil_ok)).trans (p.ln t S h)) h ht (by omega) (by omega)
  exact ⟨r, S', def_ret rfl (opv (var_ok rfl) q1 (p.ix _ _ q2 r (by omega))), q2, by omega⟩
theorem pickE {t : Nat} {R S : Store} {v : D} {len : Nat} {f : Nat → D} {a b : EM} {env : En} (ha : a env S = .ok (.loc 1) S) (hb : b env S = .ok v S) (p : Pk R v len f) (h : PO t R S) (ht : t ≤ 1000000) (h0 : 0 < len) (h1 : len ≤ 1000) : ∃ (r : Nat) (S' : Store), mCall m__law_pick (mCons a (mCons b mNil)) env S = .ok (f r) S' ∧ PO (t + 1) R S' ∧ r < len := by
  obtain ⟨r, S', q1, q2, q3⟩ := picked p h ht h0 h1
  exact ⟨r, S', (call_ok (cons_ok ha (cons_ok hb nil_ok))).trans q1, q2, q3⟩
theorem atI_nat {α : Type} {xs : List α} {r : Nat} (h : r < xs.length) : atI xs (r : Int) = some xs[r] := by
  unfold atI ixN
  have e : 0 ≤ (r : Int) := by omega
  have e2 : (r : Int) < (xs.length : Int) := by omega
  rw [if_pos e, if_pos e2]
  simp [h]
theorem Pk.lst (R : Store) (ds : List D) : Pk R (.lst ds) ds.length (fun r => ds.getD r .non) := by
  refine ⟨fun t S h => rfl, fun t S h r hr => ?_⟩
  have e : asL (.lst ds) S = some ds := rfl
  unfold dIx
  simp only [e, atI_nat hr]
  simp [hr]
theorem Pk.loc {R : Store} {k : Nat} {ds : List D} (hk : R[k]? = some (.lst ds)) : Pk R (.loc (k + 2)) ds.length (fun r => ds.getD r .non) := by
  have e : ∀ t S, PO t R S → asL (.loc (k + 2)) S = some ds := fun t S h => by
    unfold asL
    simp only [h.at, hk]
  refine ⟨fun t S h => ?_, fun t S h r hr => ?_⟩
  · have := e t S h
    simp only [cLen, this]
  · unfold dIx
    simp only [e t S h, atI_nat hr]
    simp [hr]
theorem Pk.str {R : Store} {z : PySem.Str} (hz : z.length ≤ sizeLine) : Pk R (.str z) z.length (fun r => .str ⟨#[z.cps.toList.getD r 0]⟩) := by
  refine ⟨fun t S h => ?_, fun t S h r hr => ?_⟩
  · show (if z.length ≤ sizeLine then Res.ok (D.int z.length) S else .stuck) = _
    rw [if_pos hz]
  · have hr' : r < z.cps.toList.length := by simpa [PySem.Str.length] using hr
    show (if z.length ≤ sizeLine then _ else _) = _
    rw [if_pos hz]
    unfold strAt
    rw [atI_nat hr']
    have hs : r < z.cps.size := by simpa using hr'
    simp [List.getD, hs]
/-- comprehensions that draw -/
theorem lc_draw {α β : Type} {g : GM} {e : EM} {env : En} (Inv : Nat → Store → Prop) (inj : α → D) (out : α → β → D) (Q : β → Prop) : ∀ (as : List α) (acc : List D) (i : Nat) (S : Store), Inv i S →
    (∀ a ∈ as, ∀ j S, j < i + as.length → Inv j S → ∃ env1 b S', g (inj a) env S = .ok env1 S ∧ e env1 S = .ok (out a b) S' ∧ Inv (j + 1) S' ∧ Q b) → acc.length + as.length ≤ sizeLine →
    ∃ (bs : List β) (S' : Store), mLcGo g bYes e env (as.map inj) acc S = .ok (acc ++ List.zipWith out as bs) S' ∧ bs.length = as.length ∧ (∀ b ∈ bs, Q b) ∧ Inv (i + as.length) S'
  | [], acc, i, S, hS, _, _ => ⟨[], S, by simp [mLcGo], rfl, fun b hb => absurd hb List.not_mem_nil, hS⟩
  | a :: as, acc, i, S, hS, h, hl => by
    rw [List.length_cons] at hl
    obtain ⟨env1, b, S1, h1, h2, h3, h4⟩ := h a List.mem_cons_self i S (by simp) hS
    obtain ⟨bs, S2, q1, q2, q3, q4⟩ := lc_draw Inv inj out Q as (acc ++ [out a b]) (i + 1) S1 h3 (fun a ha j S hj hI => h a (List.mem_cons_of_mem _ ha) j S (by rw [List.length_cons]; omega) hI) (by simp; omega)
    refine ⟨b :: bs, S2, ?_, by simp [q2], fun x hx => ?_, by rw [List.length_cons]; rw [show i + (as.length + 1) = i + 1 + as.length by omega]; exact q4⟩
    · rw [List.map_cons, lc_step h1 h2 (by omega), q1]
      simp
    · rcases List.mem_cons.mp hx with rfl | hx
      · exact h4
      · exact q3 x hx
/-- loops -/
theorem for_inv {g : GM} {b : SM} (Inv : Nat → En → Store → Prop) : ∀ (ds : List D) (i : Nat) (env : En) (S : Store), Inv i env S →
    (∀ d ∈ ds, ∀ j env S, j < i + ds.length → Inv j env S → ∃ env1 env2 S', g d env S = .ok env1 S ∧ b env1 S = .next env2 S' ∧ Inv (j + 1) env2 S') →
    ∃ (env' : En) (S' : Store), sFor g b ds env S = .next env' S' ∧ Inv (i + ds.length) env' S'
  | [], i, env, S, h, _ => ⟨env, S, rfl, h⟩
  | d :: ds, i, env, S, h, hs => by
    obtain ⟨env1, env2, S1, h1, h2, h3⟩ := hs d List.mem_cons_self i env S (by simp) h
    obtain ⟨env', S', q1, q2⟩ := for_inv Inv ds (i + 1) env2 S1 h3 (fun d hd j env S hj hI => hs d (List.mem_cons_of_mem _ hd) j env S (by rw [List.length_cons]; omega) hI)
    refine ⟨env', S', ?_, by rw [List.length_cons]; rw [show i + (ds.length + 1) = i + 1 + ds.length by omega]; exact q2⟩
    rw [for_step h1 h2, q1]

theorem er_map {α β : Type} (f : α → β) : ∀ (l : List α) (i : Nat), (l.map f).eraseIdx i = (l.eraseIdx i).map f
  | [], i => by simp
  | x :: l, 0 => rfl
  | x :: l, i + 1 => by simp [er_map f l i]
theorem er_perm {α : Type} : ∀ (l : List α) (i : Nat) (h : i < l.length), (l[i] :: l.eraseIdx i).Perm l
  | x :: l, 0, _ => List.Perm.refl _
  | x :: l, i + 1, h => by
    have ih := er_perm l i (by simpa using h)
    simp only [List.getElem_cons_succ, List.eraseIdx_cons_succ]
    exact (List.Perm.swap x _ _).trans (ih.cons x)
theorem nd_map {α β : Type} (f : α → β) : ∀ l : List α, (l.map f).Nodup → l.Nodup
  | [], _ => List.nodup_nil
  | x :: l, h => by
    rw [List.map_cons, List.nodup_cons] at h
    rw [List.nodup_cons]
    exact ⟨fun hm => h.1 (List.mem_map.mpr ⟨x, hm, rfl⟩), nd_map f l h.2⟩
theorem map_nd {α β : Type} {f : α → β} (hf : ∀ x y, f x = f y → x = y) : ∀ l : List α, l.Nodup → (l.map f).Nodup
  | [], _ => List.nodup_nil
  | x :: l, h => by
    rw [List.nodup_cons] at h
    rw [List.map_cons, List.nodup_cons]
    refine ⟨fun hm => ?_, map_nd hf l h.2⟩
    obtain ⟨y, hy, e⟩ := List.mem_map.mp hm
    exact h.1 (hf _ _ e ▸ hy)
/-! ### words -/
def ch (c : Nat) : D := .str ⟨#[c]⟩
theorem ofr {α : Type} {a b : Option α} (h : a = b) : b = a := h.symm
theorem popE {k : Nat} {ds : List D} {r t : Nat} {R S S1 : Store} {o a : EM} {env : En} (ho : o env S = .ok (.loc (k + 2)) S) (h : PO t R S) {t1 : Nat} (ha : a env S = .ok (.int r) S1) (h1 : PO t1 R S1) (hk : R[k]? = some (.lst ds)) (hr : r < ds.length) (hs : ds.length ≤ 1000) : mBMt "list" qPopAt o (mCons a mNil) env S = .ok ds[r] (S1.set (k + 2) (.lst (ds.eraseIdx r))) ∧ PO t1 (R.set k (.lst (ds.eraseIdx r))) (S1.set (k + 2) (.lst (ds.eraseIdx r))) := by
  refine ⟨?_, h1.set k _⟩
  have e1 : S[k + 2]? = some (.lst ds) := by rw [h.at, hk]
  have e2 : S1[k + 2]? = some (.lst ds) := by rw [h1.at, hk]
  unfold mBMt
  rw [ho]
  simp only [Res.bind]
  have ty : tyD "list" (.loc (k + 2)) S = true := by
    unfold tyD
    simp only [e1]
    rfl
  rw [if_pos ty, cons_ok ha nil_ok]
  simp only [Res.bind, qPopAt, e2]
  have b : (1000 : Int) < 2 ^ 63 := by decide
  rw [if_pos ⟨by omega, by omega⟩]
  have sx : seqIndex? (r : Int) ds.length = some r := by
    unfold seqIndex?
    have n0 : ¬ (r : Int) < 0 := by omega
    simp only [n0, if_false]
    have c : (decide (0 ≤ (r : Int)) && decide ((r : Int) < (ds.length : Int))) = true := by
      rw [decide_eq_true (by omega), decide_eq_true (by omega)]; rfl
    rw [if_pos c]
    simp
  simp only [sx, List.getElem?_eq_getElem hr]
theorem appE {k : Nat} {ds : List D} {d : D} {t t1 : Nat} {R S S1 : Store} {o a : EM} {env : En} (ho : o env S = .ok (.loc (k + 2)) S) (h : PO t R S) (ha : a env S = .ok d S1) {R1 : Store} (h1 : PO t1 R1 S1) (hk : R[k]? = some (.lst ds)) (hk1 : R1[k]? = some (.lst ds)) (hs : ds.length ≤ 1000) : sDrop (mBMt "list" qAppend o (mCons a mNil)) env S = .next env (S1.set (k + 2) (.lst (ds ++ [d]))) ∧ PO t1 (R1.set k (.lst (ds ++ [d]))) (S1.set (k + 2) (.lst (ds ++ [d]))) := by
  refine ⟨?_, h1.set k _⟩
  have e1 : S[k + 2]? = some (.lst ds) := by rw [h.at, hk]
  have e2 : S1[k + 2]? = some (.lst ds) := by rw [h1.at, hk1]
  have z : 1000 < sizeLine := by decide
  unfold sDrop mBMt
  rw [ho]
  simp only [Res.bind]
  have ty : tyD "list" (.loc (k + 2)) S = true := by
    unfold tyD
    simp only [e1]
    rfl
  rw [if_pos ty, cons_ok ha nil_ok]
  simp only [Res.bind, qAppend, e2]
  rw [if_pos (by omega)]
  rfl
theorem txs_ch : ∀ cs : List Nat, txs (cs.map ch) = some (cs.map fun c => (⟨#[c]⟩ : PySem.Str))
  | [] => rfl
  | c :: cs => by
    show txs (.str ⟨#[c]⟩ :: cs.map ch) = _
    unfold txs
    rw [txs_ch cs]
    rfl
theorem joinL_nil : ∀ l : List (List Nat), TL.joinL [] l = l.flatten
  | [] => rfl
  | [p] => by simp [TL.joinL]
  | p :: q :: r => by
    have := joinL_nil (q :: r)
    simp only [TL.joinL, List.nil_append, this, List.flatten_cons]
theorem join_ch (cs : List Nat) : (Txt.join "" (cs.map fun c => (⟨#[c]⟩ : PySem.Str))).cps.toList = cs := by
  show TL.tl _ = _
  rw [TL.join_eq, TL.tl_join]
  have e : TL.tl "" = [] := by decide +kernel
  rw [e, joinL_nil, List.map_map]
  induction cs with
  | nil => rfl
  | cons c cs ih =>
    rw [List.map_cons, List.flatten_cons, ih]
    rfl
theorem join_ok {env : En} {S S' : Store} {a : EM} {cs : List Nat} (h : a env S = .ok (.lst (cs.map ch)) S') (hl : cs.length ≤ 1000) : mBMt "str" qJoin (mC (.str "")) (mCons a mNil) env S = .ok (.str (Txt.join "" (cs.map fun c => (⟨#[c]⟩ : PySem.Str)))) S' := by
  unfold mBMt
  simp only [mC, Res.bind]
  rw [if_pos (by rfl), cons_ok h nil_ok]
  have e : asLT (.lst (cs.map ch)) S' = some (cs.map ch) := rfl
  simp only [Res.bind, qJoin, e, txs_ch]
  have e0 : ("" : PySem.Str).length = 0 := by decide +kernel
  have sm : ∀ cs : List Nat, ((cs.map fun c => (⟨#[c]⟩ : PySem.Str)).map (·.length)).sum = cs.length := by
    intro cs
    induction cs with
    | nil => rfl
    | cons c cs ih =>
      rw [List.map_cons, List.map_cons, List.sum_cons, ih, List.length_cons]
      show 1 + cs.length = _
      omega
  rw [if_pos (by rw [sm, e0]; omega)]
/-- a cut at the front, behind -/
theorem cut_to (z : PySem.Str) (n : Nat) (h : n ≤ z.length) : (cutS z none (some (n : Int))).cps.toList = z.cps.toList.take n := by
  unfold cutS
  rw [HT.sIx_nat, show HT.sIx z.length 0 none = 0 from rfl, Nat.min_eq_left h]
  simp
theorem cut_from (z : PySem.Str) (n : Nat) (h : n ≤ z.length) : (cutS z (some (n : Int)) none).cps.toList = z.cps.toList.drop n := by
  unfold cutS
  rw [HT.sIx_nat, show HT.sIx z.length z.length none = z.length from rfl, Nat.min_eq_left h]
  have : z.length = z.cps.toList.length := by simp [PySem.Str.length]
  simp [this, List.take_of_length_le]
theorem slE {a : EM} {lo hi : OM} {env : En} {S S1 S2 : Store} {z : PySem.Str} {i j : Option Int} (ha : a env S = .ok (.str z) S) (hl : lo env S = .ok i S1) (hh : hi env S1 = .ok j S2) (hz : z.length ≤ sizeLine) : mSl a lo hi env S = .ok (.str (cutS z i j)) S2 := by
  unfold mSl
  rw [ha]
  simp only [Res.bind, hl, hh, dSl]
  rw [if_pos hz]
theorem someE {a : EM} {env : En} {S S1 : Store} {i : Int} (h : a env S = .ok (.int i) S1) : oSome a env S = .ok (some i) S1 := by
  unfold oSome
  rw [h]
  rfl
theorem addS {a b : PySem.Str} {S : Store} (h : a.length + b.length ≤ sizeLine) : dAdd (.str a) (.str b) S = .ok (.str (a ++ b)) S := if_pos h
theorem lenS {z : PySem.Str} {a : EM} {env : En} {S : Store} (h : a env S = .ok (.str z) S) (hz : z.length ≤ sizeLine) : mCall cLen (mCons a mNil) env S = .ok (.int z.length) S := by
  rw [call_ok (cons_ok h nil_ok)]
  exact if_pos hz
theorem lenL {k : Nat} {ds : List D} {a : EM} {env : En} {S : Store} (h : a env S = .ok (.loc k) S) (hk : S[k]? = some (.lst ds)) : mCall cLen (mCons a mNil) env S = .ok (.int ds.length) S := by
  rw [call_ok (cons_ok h nil_ok)]
  simp only [cLen, asL, hk]
/-- what stands where two lists were laid -/
theorem two_set0 (R : Store) (a b o : Ob) : (R ++ [a, b]).set R.length o = R ++ [o, b] := by simp
theorem two_set1 (R : Store) (a b o : Ob) : (R ++ [a, b]).set (R.length + 1) o = R ++ [a, o] := by simp
theorem two_at0 (R : Store) (a b : Ob) : (R ++ [a, b])[R.length]? = some a := by simp
theorem two_at1 (R : Store) (a b : Ob) : (R ++ [a, b])[R.length + 1]? = some b := by simp
theorem range_okI {a : EM} {env : En} {S S' : Store} {j : Int} (h : a env S = .ok (.int j) S') (h0 : 0 ≤ j) (h1 : j ≤ 1000) : itRange1 (mCons a mNil) env S = .ok ((List.range j.toNat).map fun i : Nat => D.int (0 + (i : Int))) S' := by
  unfold itRange1
  rw [cons_ok h nil_ok]
  simp only [Res.bind]
  rw [if_pos ⟨by have : -(2 ^ 62 : Int) < 0 := by decide
                 omega, by have : (1000 : Int) < 2 ^ 62 := by decide
                           omega⟩]
theorem range_ok {a : EM} {env : En} {S S' : Store} {n : Nat} (h : a env S = .ok (.int n) S') (hn : n ≤ 1000) : itRange1 (mCons a mNil) env S = .ok ((List.range n).map fun i : Nat => D.int (0 + (i : Int))) S' := by
  have e := range_okI h (by omega) (by omega)
  rw [Int.toNat_natCast] at e
  exact e
/-- the word of a letter -/
def keyOf (way at_ : Nat) (w : PySem.Str) : Option Nat := w.cps.toList[if way = 0 then at_ else 0]?
abbrev wordsBody : SM := (sSeq (sAsg (mBMt "list" qPopAt (mVar 2) (mCons (mCall m__law_draw (mCons (mVar 0) (mCons (mCall cLen (mCons (mVar 2) mNil)) mNil))) mNil)) (gmName 8)) (sDrop (mBMt "list" qAppend (mVar 3) (mCons (mOp dIx (mLst (mCons (mOp dAdd (mOp dAdd (mSl (mVar 4) oNone (oSome (mVar 5))) (mVar 8)) (mSl (mVar 4) (oSome (mVar 5)) oNone)) (mCons (mOp dAdd (mVar 8) (mSl (mVar 4) oNone (oSome (mCall m__law_draw (mCons (mVar 0) (mCons (mOp dAdd (mCall cLen (mCons (mVar 4) mNil)) (mC (.int 1))) mNil)))))) mNil))) (mVar 6)) mNil))))
structure WInv (R : Store) (sz : Nat) (stem : PySem.Str) (at_ way t0 : Nat) (j : Nat) (env : En) (S : Store) : Prop where
  ex : ∃ (ls : List Nat) (fs : List PySem.Str) (used : List Nat) (x7 x8 : Option D), env = [some (.loc 1), some (.int sz), some (.loc (R.length + 2)), some (.loc (R.length + 1 + 2)), some (.str stem), some (.int at_), some (.int way), x7, x8] ∧ PO (t0 + 2 * j) (R ++ [.lst (ls.map ch), .lst (fs.map D.str)]) S ∧ ls.length + j = 26 ∧ fs.length = j ∧ (used ++ ls).Nodup ∧ (∀ c ∈ used ++ ls, 97 ≤ c ∧ c ≤ 122) ∧ fs.map (keyOf way at_) = used.map some ∧ ∀ w ∈ fs, Nm w
theorem words_step {R : Store} {sz at_ way t0 : Nat} {stem : PySem.Str} (hz : Az stem) (hl : stem.length ≤ 11) (ha : at_ ≤ stem.length) (hw : way < 2) (ht : t0 ≤ 900000) {d : D} {j : Nat} (hj : j < 26) {env : En} {S : Store} (h : WInv R sz stem at_ way t0 j env S) :
    ∃ env1 env2 S', gmName 7 d env S = .ok env1 S ∧ wordsBody env1 S = .next env2 S' ∧ WInv R sz stem at_ way t0 (j + 1) env2 S' := by
  obtain ⟨ls, fs, used, x7, x8, rfl, hp, h1, h2, h3, h4, h5, h6⟩ := h.ex
  have zs : 1000 ≤ sizeLine := by decide
  have b5 : (1000 : Int) < 2 ^ 500 := by decide
  generalize hE : [some (D.loc 1), some (.int sz), some (.loc (R.length + 2)), some (.loc (R.length + 1 + 2)), some (.str stem), some (.int at_), some (.int way), some d, x8] = E
  have k0 := two_at0 R (.lst (ls.map ch)) (.lst (fs.map D.str))
  -- the letter
  have v2 : mVar 2 E S = .ok (.loc (R.length + 2)) S := var_ok (by rw [← hE]; rfl)
  obtain ⟨r, S1, d1, d2, d3⟩ := drawE (a := mVar 0) (b := mCall cLen (mCons (mVar 2) mNil)) (env := E) (size := ((ls.map ch).length : Nat)) (var_ok (by rw [← hE]; rfl)) (lenL v2 (by rw [hp.at, k0])) hp (by omega) (by rw [List.length_map]; omega) (by rw [List.length_map]; omega)
  rw [List.length_map] at d3
  have hr : r < ls.length := by omega
  obtain ⟨p1, p2⟩ := popE v2 hp d1 d2 k0 (by rw [List.length_map]; exact hr) (by rw [List.length_map]; omega)
  rw [er_map] at p1 p2
  rw [two_set0] at p2
  have hch : (ls.map ch)[r]'(by rw [List.length_map]; exact hr) = ch ls[r] := by simp
  rw [hch] at p1
  have hc : 97 ≤ ls[r] ∧ ls[r] ≤ 122 := h4 _ (List.mem_append_right _ (List.getElem_mem hr))
  generalize hS2 : S1.set (R.length + 2) (.lst ((ls.eraseIdx r).map ch)) = S2 at p1 p2
  generalize hcc : ls[r] = c at p1 hc
  have s1 : sAsg (mBMt "list" qPopAt (mVar 2) (mCons (mCall m__law_draw (mCons (mVar 0) (mCons (mCall cLen (mCons (mVar 2) mNil)) mNil))) mNil)) (gmName 8) E S = .next (E.set 8 (some (ch c))) S2 := asg_ok p1
  generalize hF : E.set 8 (some (ch c)) = F at s1
  have hF' : F = [some (D.loc 1), some (.int sz), some (.loc (R.length + 2)), some (.loc (R.length + 1 + 2)), some (.str stem), some (.int at_), some (.int way), some d, some (ch c)] := by rw [← hF, ← hE]; rfl
  have l1 : (⟨#[c]⟩ : PySem.Str).length = 1 := rfl
  have vs : ∀ S, mVar 4 F S = .ok (.str stem) S := fun S => var_ok (by rw [hF']; rfl)
  have vc : ∀ S, mVar 8 F S = .ok (.str ⟨#[c]⟩) S := fun S => var_ok (by rw [hF']; rfl)
  have va : ∀ S, mVar 5 F S = .ok (.int (at_ : Nat)) S := fun S => var_ok (by rw [hF']; rfl)
  have lc : ∀ i j, (cutS stem i j).length ≤ stem.length := fun i j => by
    have e : (cutS stem i j).length = (cutS stem i j).cps.toList.length := by simp [PySem.Str.length]
    rw [e]
    unfold cutS
    simp [PySem.Str.length]
    omega
  -- the first form
  have q1 : mOp dAdd (mOp dAdd (mSl (mVar 4) oNone (oSome (mVar 5))) (mVar 8)) (mSl (mVar 4) (oSome (mVar 5)) oNone) F S2 = .ok (.str (cutS stem none (some (at_ : Nat)) ++ ⟨#[c]⟩ ++ cutS stem (some (at_ : Nat)) none)) S2 := by
    have y1 := lc none (some (at_ : Nat))
    have y2 := lc (some (at_ : Nat)) none
    refine opv (opv (slE (vs _) rfl (someE (va _)) (by omega)) (vc _) (addS (by rw [l1]; omega))) (slE (vs _) (someE (va _)) rfl (by omega)) (addS ?_)
    rw [Str.length_append, l1]; omega
  obtain ⟨r2, S3, e1, e2, e3⟩ := drawE (a := mVar 0) (b := mOp dAdd (mCall cLen (mCons (mVar 4) mNil)) (mC (.int 1))) (env := F) (size := (stem.length : Int) + 1) (var_ok (by rw [hF']; rfl)) (opv (lenS (vs _) (by omega)) c_ok add_i) p2 (by omega) (by omega) (by omega)
  have q2 : mOp dAdd (mVar 8) (mSl (mVar 4) oNone (oSome (mCall m__law_draw (mCons (mVar 0) (mCons (mOp dAdd (mCall cLen (mCons (mVar 4) mNil)) (mC (.int 1))) mNil))))) F S2 = .ok (.str (⟨#[c]⟩ ++ cutS stem none (some (r2 : Nat)))) S3 := by
    have y1 := lc none (some (r2 : Nat))
    exact opv (vc _) (slE (vs _) rfl (someE e1) (by omega)) (addS (by rw [l1]; omega))
  -- what the word is
  have word : ∃ w : PySem.Str, mOp dIx (mLst (mCons (mOp dAdd (mOp dAdd (mSl (mVar 4) oNone (oSome (mVar 5))) (mVar 8)) (mSl (mVar 4) (oSome (mVar 5)) oNone)) (mCons (mOp dAdd (mVar 8) (mSl (mVar 4) oNone (oSome (mCall m__law_draw (mCons (mVar 0) (mCons (mOp dAdd (mCall cLen (mCons (mVar 4) mNil)) (mC (.int 1))) mNil)))))) mNil))) (mVar 6) F S2 = .ok (.str w) S3 ∧ keyOf way at_ w = some c ∧ Nm w := by
    have v6 : ∀ S, mVar 6 F S = .ok (.int (way : Nat)) S := fun S => var_ok (by rw [hF']; rfl)
    have lst := lst_ok (cons_ok q1 (cons_ok q2 nil_ok)) (show 2 ≤ sizeLine by decide)
    have hs : stem.length = stem.cps.toList.length := by simp [PySem.Str.length]
    by_cases w0 : way = 0
    · refine ⟨_, opv lst (v6 _) (by rw [w0]; rfl), ?_, ?_⟩
      · unfold keyOf
        rw [if_pos w0]
        show (TL.tl _)[at_]? = _
        rw [TL.tl_append, TL.tl_append]
        show ((cutS stem none (some (at_ : Nat))).cps.toList ++ [c] ++ (cutS stem (some (at_ : Nat)) none).cps.toList)[at_]? = _
        rw [cut_to _ _ ha, cut_from _ _ ha, List.append_assoc, List.getElem?_append_right (by simp; omega)]
        simp
        rw [Nat.min_eq_left (by rw [← PySem.Str.length]; exact ha)]
        try simp
      · have e : (cutS stem none (some (at_ : Nat)) ++ ⟨#[c]⟩ ++ cutS stem (some (at_ : Nat)) none).cps.toList = stem.cps.toList.take at_ ++ [c] ++ stem.cps.toList.drop at_ := by
          show TL.tl _ = _
          rw [TL.tl_append, TL.tl_append, show TL.tl (cutS stem none (some (at_ : Nat))) = _ from cut_to _ _ ha, show TL.tl (cutS stem (some (at_ : Nat)) none) = _ from cut_from _ _ ha]
        have el : (cutS stem none (some (at_ : Nat)) ++ ⟨#[c]⟩ ++ cutS stem (some (at_ : Nat)) none).length = stem.length + 1 := by
          rw [TL.len_tl, show TL.tl _ = _ from e, hs]
          simp
          omega
        refine ⟨fun x hx => ?_, by rw [el]; omega, by rw [el]; omega⟩
        rw [e] at hx
        rcases List.mem_append.mp hx with hx | hx
        · rcases List.mem_append.mp hx with hx | hx
          · exact hz x (List.mem_of_mem_take hx)
          · rw [List.mem_singleton.mp hx]; exact hc
        · exact hz x (List.mem_of_mem_drop hx)
    · have w1 : way = 1 := by omega
      have hr2 : r2 ≤ stem.length := by omega
      have e : (⟨#[c]⟩ ++ cutS stem none (some (r2 : Nat)) : PySem.Str).cps.toList = c :: stem.cps.toList.take r2 := by
        show TL.tl _ = _
        rw [TL.tl_append, show TL.tl (cutS stem none (some (r2 : Nat))) = _ from cut_to _ _ hr2]
        rfl
      have el : (⟨#[c]⟩ ++ cutS stem none (some (r2 : Nat)) : PySem.Str).length = r2 + 1 := by
        rw [TL.len_tl, show TL.tl _ = _ from e]
        simp
        rw [← PySem.Str.length]
        omega
      refine ⟨_, opv lst (v6 _) (by rw [w1]; rfl), ?_, fun x hx => ?_, by rw [el]; omega, by rw [el]; omega⟩
      · unfold keyOf
        rw [if_neg w0, e]
        rfl
      · rw [e] at hx
        rcases List.mem_cons.mp hx with rfl | hx
        · exact hc
        · exact hz x (List.mem_of_mem_take hx)
  obtain ⟨w, w1, w2, w3⟩ := word
  have k1 := two_at1 R (.lst ((ls.eraseIdx r).map ch)) (.lst (fs.map D.str))
  obtain ⟨a1, a2⟩ := appE (show mVar 3 F S2 = .ok (.loc (R.length + 1 + 2)) S2 from var_ok (by rw [hF']; rfl)) p2 w1 e2 k1 k1 (by rw [List.length_map]; omega)
  rw [two_set1] at a2
  refine ⟨E, F, S3.set (R.length + 1 + 2) (.lst (fs.map D.str ++ [.str w])), by rw [← hE]; rfl, ?_, ⟨ls.eraseIdx r, fs ++ [w], used ++ [c], some d, some (ch c), hF', ?_, ?_, by simp [h2], ?_, ?_, ?_, ?_⟩⟩
  · unfold wordsBody
    rw [sq s1]
    exact a1
  · rw [List.map_append]
    exact a2.mono (by omega)
  · rw [List.length_eraseIdx, if_pos hr]; omega
  · have pm : (used ++ [c] ++ ls.eraseIdx r).Perm (used ++ ls) := by
      rw [List.append_assoc]
      refine List.Perm.append_left used ?_
      rw [← hcc]
      exact er_perm ls r hr
    exact pm.nodup_iff.mpr h3
  · intro x hx
    refine h4 x ?_
    rcases List.mem_append.mp hx with hx | hx
    · rcases List.mem_append.mp hx with hx | hx
      · exact List.mem_append_left _ hx
      · rw [List.mem_singleton.mp hx, ← hcc]; exact List.mem_append_right _ (List.getElem_mem hr)
    · exact List.mem_append_right _ (List.mem_of_mem_eraseIdx hx)
  · rw [List.map_append, List.map_append, h5, List.map_singleton, List.map_singleton, w2]
  · intro x hx
    rcases List.mem_append.mp hx with hx | hx
    · exact h6 x hx
    · rw [List.mem_singleton.mp hx]; exact w3

theorem zipR {α β : Type} (f : β → D) : ∀ (l : List α) (bs : List β), bs.length = l.length → List.zipWith (fun _ b => f b) l bs = bs.map f
  | [], [], _ => rfl
  | [], b :: bs, h => by simp at h
  | a :: l, [], h => by simp at h
  | a :: l, b :: bs, h => by
    rw [List.zipWith_cons_cons, zipR f l bs (by simpa using h), List.map_cons]
theorem newL {env : En} {S : Store} : mLstL mNil env S = .ok (.loc S.length) (S ++ [.lst []]) := by
  unfold mLstL
  rw [nil_ok]
  simp only [Res.bind]
  rw [if_pos (show ([] : List D).length ≤ sizeLine from Nat.zero_le _)]
theorem let26 : LET.cps.toList.length = 26 ∧ LET.cps.toList.Nodup := by decide +kernel
theorem words {t sz : Nat} {R S : Store} (hp : PO t R S) (ht : t ≤ 800000) (hz : sz ≤ 26) : ∃ (a : Ob) (ws : List PySem.Str) (S' : Store), m__law_words [.loc 1, .int sz] S = .ok (.loc (R.length + 1 + 2)) S' ∧ PO (t + 100) (R ++ [a, .lst (ws.map D.str)]) S' ∧ ws.length = sz ∧ ws.Nodup ∧ (∀ w ∈ ws, Nm w) ∧ Flat a := by
  have zs : 1000 ≤ sizeLine := by decide
  have b5 : (1000 : Int) < 2 ^ 500 := by decide
  have e0 : startE 9 [D.loc 1, .int sz] = [some (.loc 1), some (.int sz), none, none, none, none, none, none, none] := rfl
  -- the lists
  have s1 : sPar 2 3 (mCons (mCall cListSL (mCons (mC (.str "abcdefghijklmnopqrstuvwxyz")) mNil)) (mCons (mLstL mNil) mNil)) [some (.loc 1), some (.int sz), none, none, none, none, none, none, none] S = .next [some (.loc 1), some (.int sz), some (.loc (R.length + 2)), some (.loc (R.length + 1 + 2)), none, none, none, none, none] (S ++ [.lst (LET.cps.toList.map ch), .lst []]) := by
    have c1 : mCall cListSL (mCons (mC (.str "abcdefghijklmnopqrstuvwxyz")) mNil) [some (.loc 1), some (.int sz), none, none, none, none, none, none, none] S = .ok (.loc S.length) (S ++ [.lst (LET.cps.toList.map ch)]) := by
      rw [call_ok (cons_ok c_ok nil_ok)]
      show (if LET.length ≤ sizeLine then Res.ok (D.loc S.length) (S ++ [.lst (signsD LET)]) else .stuck) = _
      rw [if_pos (by decide +kernel)]
      rfl
    have c2 : mLstL mNil [some (.loc 1), some (.int sz), none, none, none, none, none, none, none] (S ++ [.lst (LET.cps.toList.map ch)]) = .ok (.loc (S ++ [Ob.lst (LET.cps.toList.map ch)]).length) (S ++ [.lst (LET.cps.toList.map ch)] ++ [.lst []]) := by
      exact newL
    unfold sPar
    rw [cons_ok c1 (cons_ok c2 nil_ok)]
    have q1 := hp.len
    simp only [Res.bindS]
    rw [List.length_append, q1, show R.length + 2 + [Ob.lst (LET.cps.toList.map ch)].length = R.length + 1 + 2 by simp, List.append_assoc]
    rfl
  have hp1 := hp.app [.lst (LET.cps.toList.map ch), .lst []]
  generalize hS1 : S ++ [Ob.lst (LET.cps.toList.map ch), .lst []] = S1 at s1 hp1
  -- the stem
  obtain ⟨r, S2, d1, d2, d3⟩ := drawE (a := mVar 0) (b := mC (.int 12)) (env := [some (.loc 1), some (.int sz), some (.loc (R.length + 2)), some (.loc (R.length + 1 + 2)), none, none, none, none, none]) (var_ok rfl) c_ok hp1 (by omega) (by decide) (by decide)
  have rg := range_ok d1 (by omega)
  obtain ⟨cs, S3, q1, q2, q3, q4⟩ := lc_draw (g := gmName 7) (e := mCall m__law_pick (mCons (mVar 0) (mCons (mC (.str "abxyz")) mNil))) (env := [some (.loc 1), some (.int sz), some (.loc (R.length + 2)), some (.loc (R.length + 1 + 2)), none, none, none, none, none]) (fun i S => PO (t + 1 + i) (R ++ [.lst (LET.cps.toList.map ch), .lst []]) S) (fun i : Nat => D.int (0 + (i : Int))) (fun _ c => ch c) (fun c => 97 ≤ c ∧ c ≤ 122) (List.range r) [] 0 S2 d2 (fun a _ j S hj hI => by
    rw [List.length_range] at hj
    have l5 : ("abxyz" : PySem.Str).length = 5 := by decide +kernel
    obtain ⟨r, S', z1, z2, z3⟩ := pickE (a := mVar 0) (b := mC (.str "abxyz")) (env := [some (.loc 1), some (.int sz), some (.loc (R.length + 2)), some (.loc (R.length + 1 + 2)), none, none, none, some (.int (0 + (a : Int))), none]) (var_ok rfl) c_ok (Pk.str (R := R ++ [.lst (LET.cps.toList.map ch), .lst []]) (z := "abxyz") (by rw [l5]; omega)) hI (by omega) (by rw [l5]; decide) (by rw [l5]; decide)
    rw [l5] at z3
    refine ⟨_, _, S', rfl, z1, z2, ?_⟩
    have all : ∀ r < 5, 97 ≤ (("abxyz" : PySem.Str).cps.toList.getD r 0) ∧ (("abxyz" : PySem.Str).cps.toList.getD r 0) ≤ 122 := by decide +kernel
    exact all r z3) (by rw [List.length_range]; simp; omega)
  rw [List.length_range] at q2 q4
  have lc : mLc (itRange1 (mCons (mCall m__law_draw (mCons (mVar 0) (mCons (mC (.int 12)) mNil))) mNil)) (gmName 7) bYes (mCall m__law_pick (mCons (mVar 0) (mCons (mC (.str "abxyz")) mNil))) [7] [some (.loc 1), some (.int sz), some (.loc (R.length + 2)), some (.loc (R.length + 1 + 2)), none, none, none, none, none] S1 = .ok (.lst (cs.map ch)) S3 := by
    unfold mLc
    rw [rg]
    simp only [Res.bind]
    rw [show wipeE [some (D.loc 1), some (.int sz), some (.loc (R.length + 2)), some (.loc (R.length + 1 + 2)), none, none, none, none, none] [7] = [some (D.loc 1), some (.int sz), some (.loc (R.length + 2)), some (.loc (R.length + 1 + 2)), none, none, none, none, none] from rfl, q1, zipR ch _ _ (by rw [List.length_range]; exact q2)]
    rfl
  have s2 := asg_ok (i := 4) (join_ok lc (by omega))
  have hst := join_ch cs
  generalize Txt.join "" (cs.map fun c => (⟨#[c]⟩ : PySem.Str)) = stem at s2 hst
  have hl : stem.length ≤ 11 := by
    rw [TL.len_tl, show TL.tl stem = cs from hst]; omega
  have haz : Az stem := fun c hc => q3 c (by rw [hst] at hc; exact hc)
  -- place and way
  obtain ⟨at_, S4, x1, x2, x3⟩ := drawE (a := mVar 0) (b := mOp dAdd (mCall cLen (mCons (mVar 4) mNil)) (mC (.int 1))) (env := [some (.loc 1), some (.int sz), some (.loc (R.length + 2)), some (.loc (R.length + 1 + 2)), some (.str stem), none, none, none, none]) (size := (stem.length : Int) + 1) (var_ok rfl) (opv (lenS (var_ok rfl) (by omega)) c_ok add_i) q4 (by omega) (by omega) (by omega)
  obtain ⟨way, S5, y1, y2, y3⟩ := drawE (a := mVar 0) (b := mC (.int 2)) (env := [some (.loc 1), some (.int sz), some (.loc (R.length + 2)), some (.loc (R.length + 1 + 2)), some (.str stem), none, none, none, none]) (var_ok rfl) c_ok x2 (by omega) (by decide) (by decide)
  have s3 : sPar 5 6 (mCons (mCall m__law_draw (mCons (mVar 0) (mCons (mOp dAdd (mCall cLen (mCons (mVar 4) mNil)) (mC (.int 1))) mNil))) (mCons (mCall m__law_draw (mCons (mVar 0) (mCons (mC (.int 2)) mNil))) mNil)) [some (.loc 1), some (.int sz), some (.loc (R.length + 2)), some (.loc (R.length + 1 + 2)), some (.str stem), none, none, none, none] S3 = .next [some (.loc 1), some (.int sz), some (.loc (R.length + 2)), some (.loc (R.length + 1 + 2)), some (.str stem), some (.int at_), some (.int way), none, none] S5 := by
    unfold sPar
    rw [cons_ok x1 (cons_ok y1 nil_ok)]
    rfl
  -- the loop
  obtain ⟨env', S6, f1, f2⟩ := for_inv (g := gmName 7) (b := wordsBody) (WInv R sz stem at_ way (t + 1 + (0 + r) + 1 + 1)) ((List.range sz).map fun i : Nat => D.int (0 + (i : Int))) 0 [some (.loc 1), some (.int sz), some (.loc (R.length + 2)), some (.loc (R.length + 1 + 2)), some (.str stem), some (.int at_), some (.int way), none, none] S5 ⟨LET.cps.toList, [], [], none, none, rfl, y2, by rw [let26.1], rfl, by rw [List.nil_append]; exact let26.2, fun c hc => (let_iff c).mp (by simpa using hc), rfl, fun w hw => absurd hw List.not_mem_nil⟩ (fun d _ j env S hj hI => words_step haz hl (by omega) (by omega) (by omega) (by simp at hj; omega) hI)
  rw [List.length_map, List.length_range] at f2
  obtain ⟨ls, fs, used, x7, x8, rfl, hp6, g1, g2, g3, g4, g5, g6⟩ := f2.ex
  refine ⟨_, fs, S6, def_run rfl ?_, hp6.mono (by omega), by omega, ?_, g6, flat_lst (fun _ _ => rfl) ls⟩
  · rw [e0, sq s1, sq s2]
    show sSeq _ _ [some (.loc 1), some (.int sz), some (.loc (R.length + 2)), some (.loc (R.length + 1 + 2)), some (.str stem), none, none, none, none] _ = _
    rw [sq s3]
    rw [sq (show sForI _ _ _ _ _ = .next _ S6 by unfold sForI; rw [range_ok (var_ok rfl) (by omega)]; exact f1)]
    exact ret_ok (var_ok rfl)
  · have n1 : (used.map some).Nodup := map_nd (fun x y h => Option.some.inj h) used (List.nodup_append.mp g3).1
    rw [← g5] at n1
    exact nd_map _ fs n1

theorem unmap {α β : Type} (f : α → β) (Q : α → Prop) : ∀ l : List β, (∀ x ∈ l, ∃ a, x = f a ∧ Q a) → ∃ as : List α, l = as.map f ∧ ∀ a ∈ as, Q a
  | [], _ => ⟨[], rfl, fun a h => absurd h List.not_mem_nil⟩
  | x :: l, h => by
    obtain ⟨a, rfl, qa⟩ := h x List.mem_cons_self
    obtain ⟨as, rfl, q⟩ := unmap f Q l fun y hy => h y (List.mem_cons_of_mem _ hy)
    refine ⟨a :: as, rfl, fun b hb => ?_⟩
    rcases List.mem_cons.mp hb with rfl | hb
    · exact qa
    · exact q b hb
theorem one_at (R : Store) (a : Ob) : (R ++ [a])[R.length]? = some a := by simp
theorem one_set (R : Store) (a o : Ob) : (R ++ [a]).set R.length o = R ++ [o] := by simp
theorem pairs {t sz kw : Nat} {R S : Store} {ws : List PySem.Str} (hp : PO t R S) (ht : t ≤ 900000) (hz : sz ≤ 20) (hk : R[kw]? = some (.lst (ws.map D.str))) (hw : 0 < ws.length) (hw2 : ws.length ≤ 26) : ∃ (ps : Ps) (X S' : Store), m__law_pairs [.loc 1, .loc (kw + 2), .int sz] S = .ok (.tupX (ps.map prD)) S' ∧ PO (t + 2 * sz) (R ++ X) S' ∧ ps.length ≤ sz ∧ (∀ p ∈ ps, p.1 ∈ ws ∧ p.2 ∈ ws) ∧ ps.Pairwise pLt ∧ FlatS X := by
  have zs : 1000 ≤ sizeLine := by decide
  have s1 : sAsg mNewT (gmName 3) [some (.loc 1), some (.loc (kw + 2)), some (.int sz), none, none] S = .next [some (.loc 1), some (.loc (kw + 2)), some (.int sz), some (.loc (R.length + 2)), none] (S ++ [.dT []]) := by
    rw [asg_ok (d := .loc S.length) (S' := S ++ [.dT []]) rfl, hp.len]
    rfl
  obtain ⟨env', S', f1, f2⟩ := for_inv (g := gmName 4) (b := sAsg (mC (.bl true)) (gmSub (mVar 3) (mTup (mCons (mCall m__law_pick (mCons (mVar 0) (mCons (mVar 1) mNil))) (mCons (mCall m__law_pick (mCons (mVar 0) (mCons (mVar 1) mNil))) mNil))) dSetK))
    (fun j env S => ∃ (kvs : List (List Key × D)) (x : Option D), env = [some (.loc 1), some (.loc (kw + 2)), some (.int sz), some (.loc (R.length + 2)), x] ∧ PO (t + 2 * j) (R ++ [.dT kvs]) S ∧ kvs.length ≤ j ∧ (∀ kv ∈ kvs, kv.2 = .bl true) ∧ ∃ ps : Ps, kvs.map (·.1) = ps.map kPr ∧ ps.Nodup ∧ ∀ p ∈ ps, p.1 ∈ ws ∧ p.2 ∈ ws)
    ((List.range sz).map fun i : Nat => D.int (0 + (i : Int))) 0 [some (.loc 1), some (.loc (kw + 2)), some (.int sz), some (.loc (R.length + 2)), none] (S ++ [.dT []]) ⟨[], none, rfl, hp.app _, Nat.le_refl _, (fun kv h => absurd h List.not_mem_nil), [], rfl, List.nodup_nil, fun kv h => absurd h List.not_mem_nil⟩ (fun d _ j env S hj hI => by
      obtain ⟨kvs, x, rfl, h1, h2, h25, ps, p1, p2, p3⟩ := hI
      have pl : ps.length = kvs.length := by simpa using (congrArg List.length p1).symm
      rw [List.length_map, List.length_range] at hj
      have hk' : (R ++ [Ob.dT kvs])[kw]? = some (.lst (ws.map D.str)) := at_app _ hk
      have lw : (ws.map D.str).length = ws.length := by simp
      obtain ⟨r1, S1, a1, a2, a3⟩ := pickE (a := mVar 0) (b := mVar 1) (env := [some (.loc 1), some (.loc (kw + 2)), some (.int sz), some (.loc (R.length + 2)), some d]) (var_ok rfl) (var_ok rfl) (Pk.loc hk') h1 (by omega) (by omega) (by omega)
      obtain ⟨r2, S2, b1, b2, b3⟩ := pickE (a := mVar 0) (b := mVar 1) (env := [some (.loc 1), some (.loc (kw + 2)), some (.int sz), some (.loc (R.length + 2)), some d]) (var_ok rfl) (var_ok rfl) (Pk.loc hk') a2 (by omega) (by omega) (by omega)
      rw [lw] at a3 b3
      have g1 : (ws.map D.str).getD r1 .non = .str ws[r1] := by
        rw [List.getD_eq_getElem?_getD, List.getElem?_map, List.getElem?_eq_getElem a3]; rfl
      have g2 : (ws.map D.str).getD r2 .non = .str ws[r2] := by
        rw [List.getD_eq_getElem?_getD, List.getElem?_map, List.getElem?_eq_getElem b3]; rfl
      rw [g1] at a1
      rw [g2] at b1
      have hS2 : S2[R.length + 2]? = some (.dT kvs) := by rw [b2.at, one_at]
      refine ⟨[some (.loc 1), some (.loc (kw + 2)), some (.int sz), some (.loc (R.length + 2)), some d], [some (.loc 1), some (.loc (kw + 2)), some (.int sz), some (.loc (R.length + 2)), some d], S2.set (R.length + 2) (.dT (putKD kvs (kPr (ws[r1], ws[r2])) (.bl true))), rfl, ?_, putKD kvs (kPr (ws[r1], ws[r2])) (.bl true), some d, rfl, ?_, ?_, put_true h25, ?_⟩
      · have st : dSetK (.loc (R.length + 2)) (.tup [.str ws[r1], .str ws[r2]]) (.bl true) S2 = some (S2.set (R.length + 2) (.dT (putKD kvs (kPr (ws[r1], ws[r2])) (.bl true)))) := by
          unfold dSetK
          simp only [hS2, keysD, keyD]
          rw [if_pos (by omega)]
          rfl
        have v3 : ∀ S, mVar 3 [some (.loc 1), some (.loc (kw + 2)), some (.int sz), some (.loc (R.length + 2)), some d] S = .ok (.loc (R.length + 2)) S := fun S => var_ok rfl
        unfold sAsg
        rw [c_ok]
        simp only [Res.bindS, gmSub, v3, Res.bind, tup_ok (cons_ok a1 (cons_ok b1 nil_ok)) (show 2 ≤ sizeLine by decide), st]
      · have := b2.set R.length (.dT (putKD kvs (kPr (ws[r1], ws[r2])) (.bl true)))
        rw [one_set] at this
        exact this.mono (by omega)
      · obtain ⟨ps', e1, e2, e3, e4⟩ := put_keys (q := (ws[r1], ws[r2])) (v := .bl true) p1 p2
        have := congrArg List.length e1
        simp only [List.length_map] at this
        omega
      · obtain ⟨ps', e1, e2, e3, e4⟩ := put_keys (q := (ws[r1], ws[r2])) (v := .bl true) p1 p2
        refine ⟨ps', e1, e2, fun p hp => ?_⟩
        rcases (e3 p).mp hp with hp | rfl
        · exact p3 p hp
        · exact ⟨List.getElem_mem _, List.getElem_mem _⟩)
  rw [List.length_map, List.length_range, Nat.zero_add] at f2
  obtain ⟨kvs, x, rfl, h1, h2, h25, ps, p1, p2, p3⟩ := f2
  have pl : ps.length = kvs.length := by simpa using (congrArg List.length p1).symm
  have g1 := sort_keys (show S'[R.length + 2]? = some (.dT kvs) by rw [h1.at, one_at]) p1
  refine ⟨srt pLt ps, [.dT kvs], S', def_run rfl ?_, h1, by rw [srt_len]; omega, fun p hp => p3 p ((srt_mem ps p).mp hp), srt_lt pLt_so p2, flat1 (flat_dT h25)⟩
  show sSeq _ _ [some (.loc 1), some (.loc (kw + 2)), some (.int sz), none, none] S = _
  rw [sq s1, sq (show sForI _ _ _ _ _ = .next _ S' by unfold sForI; rw [range_ok (var_ok rfl) (by omega)]; exact f1)]
  exact ret_ok ((call_ok (cons_ok ((call_ok (cons_ok (var_ok rfl) nil_ok)).trans g1) nil_ok)).trans (tupx_l _ _))
theorem turned {t : Nat} {R S : Store} {is : List PySem.Str} (hp : PO t R S) (ht : t ≤ 900000) (hz : is.length ≤ 24) : ∃ (ps : Ps) (X S' : Store), m__law_turned_round [.loc 1, .lst (is.map D.str)] S = .ok (.tupX (ps.map prD)) S' ∧ PO (t + 24) (R ++ X) S' ∧ ps.map (·.1) = srt sLt is ∧ (ps.map (·.2)).Perm is ∧ FlatS X := by
  have zs : 1000 ≤ sizeLine := by decide
  have b5 : (1000 : Int) < 2 ^ 500 := by decide
  have s1 : sPar 2 3 (mCons (mCall cListL (mCons (mVar 1) mNil)) (mCons (mLstL mNil) mNil)) [some (.loc 1), some (.lst (is.map D.str)), none, none, none] S = .next [some (.loc 1), some (.lst (is.map D.str)), some (.loc (R.length + 2)), some (.loc (R.length + 1 + 2)), none] (S ++ [.lst (is.map D.str), .lst []]) := by
    have c1 : mCall cListL (mCons (mVar 1) mNil) [some (.loc 1), some (.lst (is.map D.str)), none, none, none] S = .ok (.loc S.length) (S ++ [.lst (is.map D.str)]) := (call_ok (cons_ok (var_ok rfl) nil_ok)).trans rfl
    unfold sPar
    rw [cons_ok c1 (cons_ok newL nil_ok)]
    have q1 := hp.len
    simp only [Res.bindS]
    rw [List.length_append, q1, show R.length + 2 + [Ob.lst (is.map D.str)].length = R.length + 1 + 2 by simp, List.append_assoc]
    rfl
  have hp1 := hp.app [.lst (is.map D.str), .lst []]
  generalize S ++ [Ob.lst (is.map D.str), .lst []] = S1 at s1 hp1
  have j1 := sr_str.sortA is (S := S1) (x := .lst (is.map D.str)) rfl
  have j2 := srt_len (lt := sLt) is
  generalize hjs : srt sLt is = js at j1 j2
  obtain ⟨env', S', f1, f2⟩ := (for_wp (g := gmName 4) (b := sDrop (mBMt "list" qAppend (mVar 3) (mCons (mTup (mCons (mVar 4) (mCons (mBMt "list" qPopAt (mVar 2) (mCons (mCall m__law_draw (mCons (mVar 0) (mCons (mCall cLen (mCons (mVar 2) mNil)) mNil))) mNil)) mNil))) mNil)))
    (F := ⟨XF, fun env S => ∃ (fs : Ps) (x : Option D), env = [some (.loc 1), some (.lst (is.map D.str)), some (.loc (R.length + 2)), some (.loc (R.length + 1 + 2)), x] ∧ (∃ o, Flat o ∧ PO (t + js.length) (R ++ [o, .lst (fs.map prD)]) S) ∧ fs.map (·.1) = js ∧ (fs.map (·.2)).Perm is, fun _ _ => False, fun _ _ => False, fun _ _ => False⟩) D.str
    (fun j env S => ∃ (rs : List PySem.Str) (fs : Ps) (x : Option D), env = [some (.loc 1), some (.lst (is.map D.str)), some (.loc (R.length + 2)), some (.loc (R.length + 1 + 2)), x] ∧ PO (t + j) (R ++ [.lst (rs.map D.str), .lst (fs.map prD)]) S ∧ rs.length + j = is.length ∧ fs.map (·.1) = js.take j ∧ (fs.map (·.2) ++ rs).Perm is)
    js 0 [some (.loc 1), some (.lst (is.map D.str)), some (.loc (R.length + 2)), some (.loc (R.length + 1 + 2)), none] S1 ⟨is, [], none, rfl, hp1, rfl, by simp, .refl _⟩ (fun j s env S hs hI => by
      rw [Nat.zero_add] at hI ⊢
      obtain ⟨rs, fs, x, rfl, h1, h2, h3, h4⟩ := hI
      have hj : j < js.length := (List.getElem?_eq_some_iff.mp hs).1
      rw [j2] at hj
      have hfl : fs.length ≤ j := by
        have := congrArg List.length h3
        simp only [List.length_map, List.length_take] at this
        omega
      refine wp_of (a := [some (D.loc 1), some (.lst (is.map D.str)), some (.loc (R.length + 2)), some (.loc (R.length + 1 + 2)), some (.str s)]) rfl ?_
      generalize hE : [some (D.loc 1), some (.lst (is.map D.str)), some (.loc (R.length + 2)), some (.loc (R.length + 1 + 2)), some (.str s)] = E
      have k0 := two_at0 R (.lst (rs.map D.str)) (.lst (fs.map prD))
      have v2 : mVar 2 E S = .ok (.loc (R.length + 2)) S := var_ok (by rw [← hE]; rfl)
      obtain ⟨r, S2, d1, d2, d3⟩ := drawE (a := mVar 0) (b := mCall cLen (mCons (mVar 2) mNil)) (env := E) (size := ((rs.map D.str).length : Nat)) (var_ok (by rw [← hE]; rfl)) (lenL v2 (by rw [h1.at, k0])) h1 (by omega) (by rw [List.length_map]; omega) (by rw [List.length_map]; omega)
      rw [List.length_map] at d3
      have hr : r < rs.length := by omega
      obtain ⟨p1, p2⟩ := popE v2 h1 d1 d2 k0 (by rw [List.length_map]; exact hr) (by rw [List.length_map]; omega)
      rw [er_map] at p1 p2
      rw [two_set0] at p2
      have hg : (rs.map D.str)[r]'(by rw [List.length_map]; exact hr) = .str rs[r] := by simp
      rw [hg] at p1
      have k1 := two_at1 R (.lst (rs.map D.str)) (.lst (fs.map prD))
      have k2 := two_at1 R (.lst ((rs.eraseIdx r).map D.str)) (.lst (fs.map prD))
      have tp := tup_ok (cons_ok (show mVar 4 E S = .ok (.str s) S from var_ok (by rw [← hE]; rfl)) (cons_ok p1 nil_ok)) (show 2 ≤ sizeLine by decide)
      obtain ⟨a1, a2⟩ := appE (show mVar 3 E S = .ok (.loc (R.length + 1 + 2)) S from var_ok (by rw [← hE]; rfl)) h1 tp p2 k1 k2 (by rw [List.length_map]; omega)
      rw [two_set1] at a2
      refine next_wp a1 ⟨rs.eraseIdx r, fs ++ [(s, rs[r])], some (.str s), hE.symm, by rw [List.map_append]; exact a2, ?_, ?_, ?_⟩
      · rw [List.length_eraseIdx, if_pos hr]; omega
      · rw [List.map_append, h3, List.take_succ, hs]; rfl
      · rw [List.map_append, List.append_assoc]
        refine List.Perm.trans (List.Perm.append_left _ ?_) h4
        exact er_perm rs r hr) (fun env S hI => by
      rw [Nat.zero_add] at hI
      obtain ⟨rs, fs, x, rfl, h1, h2, h3, h4⟩ := hI
      rw [j2] at h2
      obtain rfl : rs = [] := List.eq_nil_of_length_eq_zero (by omega)
      exact ⟨fs, x, rfl, ⟨_, flat_lst und_str [], h1⟩, by rw [h3, List.take_length], by simpa using h4⟩)).next
  obtain ⟨fs, x, rfl, ⟨o, h0, h1⟩, h3, h4⟩ := f2
  refine ⟨fs, [o, .lst (fs.map prD)], S', def_run rfl ?_, h1.mono (by omega), h3, h4, flat2 h0 (flat_lst und_pr fs)⟩
  show sSeq _ _ [some (.loc 1), some (.lst (is.map D.str)), none, none, none] S = _
  rw [sq s1, sq (show sForI _ _ _ _ _ = .next _ S' by unfold sForI; rw [seq_lst ((call_ok (cons_ok (var_ok rfl) nil_ok)).trans j1)]; exact f1)]
  refine ret_ok ?_
  rw [call_ok (cons_ok (var_ok rfl) nil_ok)]
  have e : asL (.loc (R.length + 1 + 2)) S' = some (fs.map Lg.prD) := by
    unfold asL
    simp only [h1.at, two_at1]
  show (match asL (.loc (R.length + 1 + 2)) S' with | some xs => Res.ok (D.tupX xs) S' | none => .stuck) = _
  rw [e]
/-! ### stores that grow -/
def Ext (R R' : Store) : Prop := ∀ (i : Nat) (o : Ob), R[i]? = some o → R'[i]? = some o
theorem Ext.refl (R : Store) : Ext R R := fun _ _ h => h
theorem Ext.app {R R' : Store} (h : Ext R R') (X : Store) : Ext R (R' ++ X) := fun i o q => at_app X (h i o q)
theorem Ext.trans {R R' R'' : Store} (h : Ext R R') (h' : Ext R' R'') : Ext R R'' := fun i o q => h' i o (h i o q)
/-- one of three numbers, then one below it -/
theorem draw3 {t : Nat} {R S : Store} {a b c : Int} {env : En} (hp : PO t R S) (ht : t ≤ 900000) (e0 : env[0]? = some (some (.loc 1))) (ha : 0 < a ∧ a ≤ 14) (hb : 0 < b ∧ b ≤ 14) (hc : 0 < c ∧ c ≤ 14) : ∃ (r : Nat) (S' : Store), mCall m__law_draw (mCons (mVar 0) (mCons (mOp dIx (mLst (mCons (mC (.int a)) (mCons (mC (.int b)) (mCons (mC (.int c)) mNil)))) (mCall m__law_draw (mCons (mVar 0) (mCons (mC (.int 3)) mNil)))) mNil)) env S = .ok (.int r) S' ∧ PO (t + 2) R S' ∧ r < 14 := by
  have b5 : (1000 : Int) < 2 ^ 500 := by decide
  obtain ⟨r, S1, d1, d2, d3⟩ := drawE (a := mVar 0) (b := mC (.int 3)) (env := env) (var_ok e0) c_ok hp (by omega) (by decide) (by decide)
  have hr : r = 0 ∨ r = 1 ∨ r = 2 := by omega
  have ix : ∃ v : Int, 0 < v ∧ v ≤ 14 ∧ mOp dIx (mLst (mCons (mC (.int a)) (mCons (mC (.int b)) (mCons (mC (.int c)) mNil)))) (mCall m__law_draw (mCons (mVar 0) (mCons (mC (.int 3)) mNil))) env S = .ok (.int v) S1 := by
    have l := lst_ok (env := env) (S := S) (cons_ok (c_ok (d := .int a)) (cons_ok (c_ok (d := .int b)) (cons_ok (c_ok (d := .int c)) nil_ok))) (show 3 ≤ sizeLine by decide)
    rcases hr with rfl | rfl | rfl
    · exact ⟨a, ha.1, ha.2, opv l d1 rfl⟩
    · exact ⟨b, hb.1, hb.2, opv l d1 rfl⟩
    · exact ⟨c, hc.1, hc.2, opv l d1 rfl⟩
  obtain ⟨v, v0, v1, hv⟩ := ix
  obtain ⟨r', S2, g1, g2, g3⟩ := drawn d2 (by omega) v0 (by omega)
  exact ⟨r', S2, (call_ok (cons_ok (var_ok e0) (cons_ok hv nil_ok))).trans g1, g2, by omega⟩
theorem zip_out : ∀ (as bs : List PySem.Str), List.zipWith (fun w h => Lg.prD (w, h)) as bs = (List.zip as bs).map Lg.prD
  | [], bs => by simp
  | a :: as, [] => by simp
  | a :: as, b :: bs => by simp [zip_out as bs]
theorem zip_fst : ∀ (as bs : List PySem.Str), bs.length = as.length → Nam (List.zip as bs) = as
  | [], bs, _ => by simp
  | a :: as, [], h => by simp at h
  | a :: as, b :: bs, h => by
    have := zip_fst as bs (by simpa using h)
    simp at this ⊢
    simpa using this
theorem set_ne {R : Store} {k i : Nat} {o : Ob} (h : i ≠ k) : (R.set k o)[i]? = R[i]? := by
  rw [List.getElem?_set]
  rw [if_neg (fun e => h e.symm)]
theorem set_eq {R : Store} {k : Nat} {o o' : Ob} (h : R[k]? = some o') : (R.set k o)[k]? = some o := by
  have hl : k < R.length := (List.getElem?_eq_some_iff.mp h).1
  simp [hl]
theorem cut_drop (xs : List D) (k : Nat) (h : k ≤ xs.length) : cutD xs (some (k : Int)) none = xs.drop k := by
  unfold cutD
  rw [HT.sIx_nat, show HT.sIx xs.length xs.length none = xs.length from rfl, Nat.min_eq_left h, List.take_of_length_le (by simp)]
theorem cut_take (xs : List D) (k : Nat) (h : k ≤ xs.length) : cutD xs none (some (k : Int)) = xs.take k := by
  unfold cutD
  rw [HT.sIx_nat, show HT.sIx xs.length 0 none = 0 from rfl, Nat.min_eq_left h]
  simp
theorem slL {k : Nat} {ds : List D} {a : EM} {lo hi : OM} {env : En} {S : Store} {i j : Option Int} (ha : a env S = .ok (.loc k) S) (hk : S[k]? = some (.lst ds)) (hl : lo env S = .ok i S) (hh : hi env S = .ok j S) : mSl a lo hi env S = .ok (.lst (cutD ds i j)) S := by
  unfold mSl
  rw [ha]
  simp only [Res.bind, hl, hh, dSl, asL, hk]
theorem hs_ok {h : PySem.Str} (n : Nm h) : Az h ∧ h.length ≤ 12 := ⟨n.az, n.top⟩
theorem pow29 {env : En} {S : Store} : mOp dPow (mC (.int 10)) (mC (.int 29)) env S = .ok (.int (10 ^ 29)) S := opv c_ok c_ok (pow_i (by unfold CPow; decide))
theorem fst_rise {ps : Ps} (h : (ps.map (·.1)).Pairwise sLt) : ps.Pairwise pLt := (List.pairwise_map.mp h).imp fun h => .inl h
theorem rise_fst {ps : Ps} (h : ps.Pairwise pLt) (hn : (Nam ps).Nodup) : (Nam ps).Pairwise sLt := by
  have h2 := List.pairwise_map.mp hn
  refine List.pairwise_map.mpr ((h.and h2).imp fun {a b} h => ?_)
  rcases h.1 with q | q
  · exact q
  · exact absurd q.1 h.2
theorem turned_mem {ps : Ps} {is : List PySem.Str} (h1 : ps.map (·.1) = srt sLt is) (h2 : (ps.map (·.2)).Perm is) : ∀ p ∈ ps, p.1 ∈ is ∧ p.2 ∈ is := fun p hp =>
  ⟨(srt_mem (lt := sLt) is _).mp (by rw [← h1]; exact List.mem_map.mpr ⟨p, hp, rfl⟩), h2.mem_iff.mp (List.mem_map.mpr ⟨p, hp, rfl⟩)⟩
end Lw

namespace Lw
open PySem L2 Lg
local macro_rules
  | `(tactic| simp? [$ls,*]) => `(tactic| simp only [wp_ok, wp_var, wp_c, wp_op, wp_un, wp_nil, wp_cons, wp_tup, wp_lst, wp_lstL, wp_call, wp_if, wp_val, wp_band, wp_bor, wp_bnot, wp_byes, wp_andV, wp_orV, wp_notV, wp_chain, wp_rng, wp_isi, wp_isO, wp_isX, wp_xg, wp_fldO, wp_meth, wp_make, wp_js0, wp_js1, wp_sl, wp_onone, wp_osome, wp_bmt, wp_dget, wp_star, wp_emp, wp_newK, wp_newT, wp_seq, wp_zip, wp_enum, wp_range1, wp_lc, wp_lcL, wp_lc2, wp_dcL, wp_pairs0, wp_pairs1, wp_disp, wps_next, wps_brk, wps_cont, wps_seq, wps_ret, wps_retN, wps_drop, wps_if, wps_asg, wpg_name, wpg_nil1, wpg_cons1, wpg_tup, wpg_sub, wps_par, wps_fld, wps_forI, wps_tryC, wp_def, startE, List.length_cons, List.length_nil, List.map_cons, List.map_nil, List.replicate, List.cons_append, List.nil_append, List.append_nil, List.getElem?_cons_zero, List.getElem?_cons_succ, List.set_cons_zero, List.set_cons_succ, wipeE, Option.some.injEq, exists_eq_left', exists_eq_left, exists_eq, exists_eq', D.bl.injEq, D.str.injEq, D.int.injEq, D.loc.injEq, true_and, and_true, forall_const, reduceCtorEq, false_implies, implies_true, Nat.reduceAdd, Nat.reduceSub, Nat.zero_add, sqd_l, sqd_t, sqd_x, tpd_t, tpd_x, ass_l, ass_t, ass_x, kd_non, kd_bl, kd_int, kd_str, kd_tup, kd_tupX, kd_lst, kd_emp, inn_loc, inn_non, inn_str, inn_int, inn_bl, inn_tup, inn_lst, inn_tupX, zpo_l, zpo_tt, zpo_tx, zpo_xt, zpo_xx, eno_l, eno_t, eno_x, inX_t, inX_l, inX_s, inX_x, notInX_t, notInX_l, notInX_s, notInX_x, tupx_l, sz0, sz1, sz2, sz3, sz4, sz5, sz6, sz7, sz8, sz9, sz10, sz11, sz12, sz13, sz14, sz15, sz16, sz17, sz18, sz19, sz20, sz21, sz22, sz23, sz24, decide_true, decide_false, false_and, and_false, false_or, or_false, isn, Option.isSome_none, Option.isSome_some, Bool.true_eq_false, Bool.false_eq_true, Bool.not_true, Bool.not_false, List.cons.injEq, exists_and_left, $ls,*])
def ok_of_members (c : Nat) : Bool := [11].contains c
def ok_of_bars (c : Nat) : Bool := [11].contains c
def ok_of_past (c : Nat) : Bool := [11].contains c
def ok_of_gap (c : Nat) : Bool := [11].contains c
def ok_of_pairs (c : Nat) : Bool := [12].contains c
def m_is_name : List D → Store → Res D := mDef 1 1 (sRet (mAndV (mIsi "str" (mVar 0)) (mAndV (mChain dLeA dLeA (mC (.int 1)) (mCall cLen (mCons (mVar 0) mNil)) (mC (.int 12))) (mOp dEqA (mBMt "str" qStrip (mVar 0) (mCons (mC (.str "abcdefghijklmnopqrstuvwxyz")) mNil)) (mC (.str ""))))))
def mm_copied (f : List D → Store → Res D) : List D → Store → Res D := mDef 4 1 (sSeq (sIf (bVal (mIsi "list" (mVar 0))) (sRet (mLc (itSeq (mVar 0)) (gmName 1) bYes (mCall f (mCons (mVar 1) mNil)) [1])) sNext) (sSeq (sIf (bVal (mIsi "tuple" (mVar 0))) (sRet (mCall cTupX (mCons (mLc (itSeq (mVar 0)) (gmName 1) bYes (mCall f (mCons (mVar 1) mNil)) [1]) mNil))) sNext) (sSeq (sIf (bVal (mIsi "dict" (mVar 0))) (sRet (mDc0 (mVar 0))) sNext) (sRet (mVar 0)))))
def m_copied : Nat → List D → Store → Res D
  | 0 => fun _ _ => .stuck
  | k + 1 => mm_copied (m_copied k)
theorem ar_copied : ∀ k, Ar 1 (m_copied k)
  | 0 => fun _ _ _ => rfl
  | _ + 1 => ar_def
def m_is_rising : List D → Store → Res D := mDef 3 1 (sRet (mCall cAll (mCons (mLc (itZip (mCons (mVar 0) (mCons (mSl (mVar 0) (oSome (mC (.int 1))) oNone) mNil))) (gmTup 2 (gmCons (gmName 1) (gmCons (gmName 2) gmNil))) bYes (mOp dLtA (mVar 1) (mVar 2)) [1, 2]) mNil)))
def m_is_pair : List D → Store → Res D := mDef 1 1 (sRet (mAndV (mIsi "tuple" (mVar 0)) (mAndV (mOp dEqA (mCall cLen (mCons (mVar 0) mNil)) (mC (.int 2))) (mAndV (mCall m_is_name (mCons (mOp dIx (mVar 0) (mC (.int 0))) mNil)) (mCall m_is_name (mCons (mOp dIx (mVar 0) (mC (.int 1))) mNil))))))
def m_are_pairs : List D → Store → Res D := mDef 2 1 (sRet (mAndV (mIsi "tuple" (mVar 0)) (mAndV (mCall cAll (mCons (mLc (itSeq (mVar 0)) (gmName 1) bYes (mCall m_is_pair (mCons (mVar 1) mNil)) [1]) mNil)) (mCall m_is_rising (mCons (mVar 0) mNil)))))
def m_are_drawing : List D → Store → Res D := mDef 5 1 (sSeq (sIf (bNot (bVal (mCall m_are_pairs (mCons (mVar 0) mNil)))) (sRet (mC (.bl false))) sNext) (sSeq (sAsg (mLc (itSeq (mVar 0)) (gmTup 2 (gmCons (gmName 2) (gmCons (gmName 3) gmNil))) bYes (mVar 2) [2, 3]) (gmName 1)) (sRet (mAndV (mCall m_is_rising (mCons (mVar 1) mNil)) (mOp dEqA (mCall cSortA (mCons (mLc (itSeq (mVar 0)) (gmTup 2 (gmCons (gmName 3) (gmCons (gmName 4) gmNil))) bYes (mVar 4) [3, 4]) mNil)) (mVar 1))))))
def m_Circle_init : List D → Store → Res D := mDef 5 5 (sSeq (sFldM 11 "members" (mVar 0) (mVar 1)) (sSeq (sFldM 11 "bars" (mVar 0) (mIf (bVal (mOp dIsN (mVar 2) (mC .non))) (mTup mNil) (mVar 2))) (sSeq (sFldM 11 "past" (mVar 0) (mIf (bVal (mOp dIsN (mVar 3) (mC .non))) (mTup mNil) (mVar 3))) (sFldM 11 "gap" (mVar 0) (mVar 4)))))
def m_Circle_len : List D → Store → Res D := mDef 1 1 (sRet (mCall cLen (mCons (mFldO ok_of_members "members" (mVar 0)) mNil)))
def m_Circle_repr : List D → Store → Res D := mDef 1 1 (sRet (mJs [(mC (.str "Circle(")), (mFmt (mCall cLen (mCons (mFldO ok_of_members "members" (mVar 0)) mNil))), (mC (.str ")"))] PySem.Str.empty))
def m_Circle_names : List D → Store → Res D := mDef 3 1 (sRet (mCall cTupX (mCons (mLc (itSeq (mFldO ok_of_members "members" (mVar 0))) (gmTup 2 (gmCons (gmName 1) (gmCons (gmName 2) gmNil))) bYes (mVar 1) [1, 2]) mNil)))
def m_Circle_has : List D → Store → Res D := mDef 2 2 (sRet (mAndV (mCall m_is_name (mCons (mVar 1) mNil)) (mOp dInX (mVar 1) (mMeth 11 "names" m_Circle_names [] (mVar 0) mNil))))
def m_i_NoMember : List D → Store → Res D := mInit 0 2 2 (sFldX 0 "name" (mVar 0) (mCall (m_copied 4) (mCons (mVar 1) mNil)))
def m_i_NoDrawing : List D → Store → Res D := mInit 1 2 2 (sFldX 1 "thing" (mVar 0) (mCall (m_copied 4) (mCons (mVar 1) mNil)))
def m_i_Twice : List D → Store → Res D := mInit 5 2 2 (sFldX 5 "name" (mVar 0) (mCall (m_copied 4) (mCons (mVar 1) mNil)))
def m_Drawing_init : List D → Store → Res D := mDef 2 2 (sSeq (sIf (bNot (bVal (mCall m_are_drawing (mCons (mVar 1) mNil)))) (sRaiseX 1 m_i_NoDrawing (mCons (mVar 1) mNil)) sNext) (sFldM 12 "pairs" (mVar 0) (mVar 1)))
def m_Drawing_names : List D → Store → Res D := mDef 3 1 (sRet (mCall cTupX (mCons (mLc (itSeq (mFldO ok_of_pairs "pairs" (mVar 0))) (gmTup 2 (gmCons (gmName 1) (gmCons (gmName 2) gmNil))) bYes (mVar 1) [1, 2]) mNil)))
def m_Drawing_len : List D → Store → Res D := mDef 1 1 (sRet (mCall cLen (mCons (mFldO ok_of_pairs "pairs" (mVar 0)) mNil)))
def m_Drawing_repr : List D → Store → Res D := mDef 1 1 (sRet (mJs [(mC (.str "Drawing(")), (mFmt (mCall cLen (mCons (mFldO ok_of_pairs "pairs" (mVar 0)) mNil))), (mC (.str ")"))] PySem.Str.empty))
def m_Drawing_str : List D → Store → Res D := mDef 3 1 (sRet (mBMt "str" qJoin (mC (.str "\n")) (mCons (mLc (itSeq (mFldO ok_of_pairs "pairs" (mVar 0))) (gmTup 2 (gmCons (gmName 1) (gmCons (gmName 2) gmNil))) bYes (mJs [(mFmt (mVar 1)), (mC (.str " > ")), (mFmt (mVar 2))] PySem.Str.empty) [1, 2]) mNil)))
theorem eqe_wp {α : Type} {r : Res α} {x : Exc} {S : Store} (h : r.wp (fun y S' => y = x ∧ S' = S) fun _ _ => False) : r = .err x S := by
  cases r with
  | ok a S => exact h.elim
  | err y S' => obtain ⟨rfl, rfl⟩ := h; rfl
  | stuck => exact h.elim
theorem err_wp {r : FRes} {x : Exc} {S : Store} {F : FQ} (h : r = .err x S) (q : F.E x S) : r.wp F := by rw [h]; exact q
theorem eq_wp {α : Type} {r : Res α} {v : α} {S : Store} (h : r.wp XF fun a S' => a = v ∧ S' = S) : r = .ok v S := by
  obtain ⟨a, S', e, rfl, rfl⟩ := h.ex
  exact e
/-! ### names -/
def nameB (s : PySem.Str) : Bool := decide (1 ≤ s.length ∧ s.length ≤ 12) && decide (Txt.stripChars s LET = "")
theorem nm_iff (s : PySem.Str) : nameB s = true ↔ Nm s := by
  unfold nameB
  rw [Bool.and_eq_true, decide_eq_true_eq, decide_eq_true_eq, strip_all]
  have e : ∀ c, LET.cps.contains c = true ↔ 97 ≤ c ∧ c ≤ 122 := fun c => by
    rw [← let_iff, Array.contains_iff_mem]
    exact Array.mem_toList_iff.symm
  constructor
  · rintro ⟨⟨h1, h2⟩, h3⟩; exact ⟨fun c hc => (e c).mp (h3 c hc), h1, h2⟩
  · rintro ⟨h1, h2, h3⟩; exact ⟨⟨h2, h3⟩, fun c hc => (e c).mpr (h1 c hc)⟩
theorem strip_len (s : PySem.Str) (hs : s.length ≤ sizeLine) {S : Store} : qStrip (.str s) [.str LET] S = .ok (.str (Txt.stripChars s LET)) S := if_pos hs
theorem isname_str (s : PySem.Str) (hs : s.length ≤ sizeLine) (S : Store) : m_is_name [.str s] S = .ok (.bl (nameB s)) S := by
  refine eq_wp ?_
  have k : kitB "str" "str" = some true := by decide +kernel
  have ln : cLen [.str s] S = .ok (.int s.length) S := if_pos hs
  have e1 : ∀ i j : Int, dLeA (.int i) (.int j) S = .ok (.bl (decide (i ≤ j))) S := fun _ _ => rfl
  have st : qStrip (.str s) [.str "abcdefghijklmnopqrstuvwxyz"] S = .ok (.str (Txt.stripChars s LET)) S := if_pos hs
  have ty : tyD "str" (.str s) S = true := rfl
  unfold m_is_name
  simp? [k, ln, e1, st, ty, eqS]
  unfold nameB
  by_cases h1 : 1 ≤ s.length
  · by_cases h2 : s.length ≤ 12
    · have a : (1 : Int) ≤ (s.length : Int) := by omega
      have b : (s.length : Int) ≤ 12 := by omega
      simp [h1, h2, a, b]
    · have a : (1 : Int) ≤ (s.length : Int) := by omega
      have b : ¬ (s.length : Int) ≤ 12 := by omega
      simp [h1, h2, a, b]
  · have a : ¬ (1 : Int) ≤ (s.length : Int) := by omega
    simp [h1, a]
theorem isname_no {d : D} {S : Store} {k : String} (h : kindD d S = some k) (hk : kitB k "str" = some false) : m_is_name [d] S = .ok (.bl false) S := by
  refine eq_wp ?_
  unfold m_is_name
  simp? [h, hk]
/-! ### circles -/
def CiO (m b p g : D) : Ob := .ins 11 [("members", m), ("bars", b), ("past", p), ("gap", g)]
section
variable {n : Nat} {S : Store} {m b p g : D}
theorem ci_m (h : S[n]? = some (CiO m b p g)) : fldO ok_of_members "members" (.loc n) S = some m := by simp only [fldO, insF, h, CiO]; rfl
theorem ci_b (h : S[n]? = some (CiO m b p g)) : fldO ok_of_bars "bars" (.loc n) S = some b := by simp only [fldO, insF, h, CiO]; rfl
theorem ci_p (h : S[n]? = some (CiO m b p g)) : fldO ok_of_past "past" (.loc n) S = some p := by simp only [fldO, insF, h, CiO]; rfl
theorem ci_g (h : S[n]? = some (CiO m b p g)) : fldO ok_of_gap "gap" (.loc n) S = some g := by simp only [fldO, insF, h, CiO]; rfl
theorem ci_o (h : S[n]? = some (CiO m b p g)) {f : PySem.Str} (hf : List.lookup f [(("members" : PySem.Str), m), ("bars", b), ("past", p), ("gap", g)] = none) : methOk 11 f (.loc n) S = true := by
  simp only [methOk, insAt, h, CiO, if_true, hf, Option.isNone]
theorem ci_c (h : S[n]? = some (CiO m b p g)) : insC (.loc n) S = some 11 := by simp only [insC, h, CiO]
theorem ci_k (h : S[n]? = some (CiO m b p g)) : kindD (.loc n) S = none := by simp only [kindD, h, CiO]
theorem set_last (S : Store) (o o' : Ob) : (S ++ [o]).set S.length o' = S ++ [o'] := by simp
theorem at_last (S : Store) (o : Ob) : (S ++ [o])[S.length]? = some o := by simp
/-- a circle is made -/
theorem circle_init (m b p g : D) (hb : isNon b = false) (hp : isNon p = false) (S : Store) : m_Circle_init [.loc S.length, m, b, p, g] (S ++ [.ins 11 []]) = .ok .non (S ++ [CiO m b p g]) := by
  refine eq_wp ?_
  unfold m_Circle_init
  have e1 : ∀ m : D, putD "members" m [] = [(("members" : PySem.Str), m)] := fun _ => rfl
  have e2 : ∀ m b : D, putD "bars" b [("members", m)] = [(("members" : PySem.Str), m), ("bars", b)] := fun _ _ => rfl
  have e3 : ∀ m b p : D, putD "past" p [("members", m), ("bars", b)] = [(("members" : PySem.Str), m), ("bars", b), ("past", p)] := fun _ _ _ => rfl
  have e4 : ∀ m b p g : D, putD "gap" g [("members", m), ("bars", b), ("past", p)] = [(("members" : PySem.Str), m), ("bars", b), ("past", p), ("gap", g)] := fun _ _ _ _ => rfl
  simp? [isn, hb, hp]
  refine ⟨_, at_last _ _, by simp, ?_⟩
  rw [set_last, e1]
  refine ⟨_, at_last _ _, by simp, ?_⟩
  rw [set_last, e2]
  refine ⟨_, at_last _ _, by simp, ?_⟩
  rw [set_last, e3]
  refine ⟨_, at_last _ _, by simp, ?_⟩
  rw [set_last, e4]
  rfl

theorem nam_az {ms : Ps} (nm : ∀ m ∈ ms, Nm m.1) {a : PySem.Str} (ha : a ∈ Nam ms) : Nm a := by
  obtain ⟨m, hm, rfl⟩ := List.mem_map.mp ha
  exact nm m hm
theorem names_ok {ms : Ps} (h : S[n]? = some (CiO m b p g)) (tm : Tp m (ms.map Lg.prD)) (hl : ms.length ≤ 1000) : m_Circle_names [.loc n] S = .ok (.tupX ((Nam ms).map D.str)) S := by
  refine eq_wp ?_
  unfold m_Circle_names
  simp? [ci_m h, tm.seq]
  refine lc_wp Lg.prD (fun _ => true) (fun p => .str p.1) (fun S' => S' = S) ms rfl (Nat.le_trans hl (by decide)) (fun p _ S' hS => ?_) (fun S' hS => ?_)
  · subst hS
    have e : tupD (Lg.prD p) = some [.str p.1, .str p.2] := rfl
    simp? [e]
  · subst hS
    rw [List.filter_eq_self.mpr fun _ _ => rfl]
    simp? [tupx_l]
    rw [List.map_map]; rfl
def hasB (ms : Ps) (d : D) : Bool := match d with
  | .str s => decide (s ∈ Nam ms)
  | _ => false
/-- a text of a fair length, or no text at all -/
def Fair (d : D) (S : Store) : Prop := (∃ k, kindD d S = some k ∧ kitB k "str" = some false) ∨ ∃ s, d = .str s ∧ s.length ≤ sizeLine
theorem hasB_no {ms : Ps} {d : D} {k : String} (h : kindD d S = some k) (hk : kitB k "str" = some false) : hasB ms d = false := by
  cases d with
  | str s =>
    cases h
    rw [show kitB "str" "str" = some true from by decide +kernel] at hk
    cases hk
  | _ => rfl
theorem has_ok {ms : Ps} {d : D} (h : S[n]? = some (CiO m b p g)) (tm : Tp m (ms.map Lg.prD)) (hl : ms.length ≤ 1000) (nm : ∀ m ∈ ms, Nm m.1) (hd : Fair d S) : m_Circle_has [.loc n, d] S = .ok (.bl (hasB ms d)) S := by
  refine eq_wp ?_
  unfold m_Circle_has
  have mo : methOk 11 "names" (.loc n) S = true := ci_o h rfl
  rcases hd with ⟨k, h1, h2⟩ | ⟨s, rfl, hs⟩
  · simp? [isname_no h1 h2, mo, hasB_no h1 h2]
  · by_cases hb : nameB s = true
    · have ns := (nm_iff s).mp hb
      simp? [isname_str s hs S, mo, hb, names_ok h tm hl, Tp.x.inX, in_strs (fun a ha => (nam_az nm ha).az) ns.az]
      rfl
    · have hb' : nameB s = false := by simpa using hb
      have no : s ∉ Nam ms := fun hm => hb ((nm_iff s).mpr (nam_az nm hm))
      simp? [isname_str s hs S, mo, hb']
      simp [hasB, no]
end
/-! ### copies of things -/
structure Thg (k : Nat) (d d' : D) (p : PyData) (N : Nat) : Prop where
  cp : ∀ j S, m_copied (k + j) [d] S = .ok d' S
  und : ∀ n, d.und n = true
  und' : ∀ n, d'.und n = true
  pd : d.pd = some p
  pd' : d'.pd = some p
  sh : p.showable = true
  ln : p.shown.length ≤ N
  dp : p.depth ≤ k
theorem Thg.r {k N : Nat} {d d' : D} {p : PyData} (h : Thg k d d' p N) (hk : k ≤ 40) (hN : N ≤ sizeLine) (S : Store) : cRepr [d] S = .ok (.str p.shown) S := by
  unfold cRepr
  simp only [h.pd]
  exact if_pos ⟨h.sh, Nat.le_trans h.ln hN, Nat.le_trans h.dp hk⟩
theorem Thg.r' {k N : Nat} {d d' : D} {p : PyData} (h : Thg k d d' p N) (hk : k ≤ 40) (hN : N ≤ sizeLine) (S : Store) : cRepr [d'] S = .ok (.str p.shown) S := by
  unfold cRepr
  simp only [h.pd']
  exact if_pos ⟨h.sh, Nat.le_trans h.ln hN, Nat.le_trans h.dp hk⟩
theorem Thg.c4 {k N : Nat} {d d' : D} {p : PyData} (h : Thg k d d' p N) (hk : k ≤ 4) (S : Store) : m_copied 4 [d] S = .ok d' S := by
  have := h.cp (4 - k) S
  rwa [show k + (4 - k) = 4 by omega] at this
theorem Thg.mono {k k' N N' : Nat} {d d' : D} {p : PyData} (h : Thg k d d' p N) (hk : k ≤ k') (hN : N ≤ N') : Thg k' d d' p N' :=
  ⟨fun j S => by have := h.cp (k' - k + j) S; rwa [show k + (k' - k + j) = k' + j by omega] at this, h.und, h.und', h.pd, h.pd', h.sh, Nat.le_trans h.ln hN, Nat.le_trans h.dp hk⟩
theorem copied_flat {d : D} {k : String} (hk : ∀ S, kindD d S = some k) (h1 : kitB k "list" = some false) (h2 : kitB k "tuple" = some false) (h3 : kitB k "dict" = some false) (j : Nat) (S : Store) : m_copied (1 + j) [d] S = .ok d S := by
  refine eq_wp ?_
  rw [show 1 + j = j + 1 by omega]
  show (mm_copied (m_copied j) [d] S).wp _ _
  unfold mm_copied
  simp? [hk, h1, h2, h3]
theorem thg_non : Thg 1 .non .non .none 4 := ⟨copied_flat (k := "NoneType") (fun _ => rfl) (by decide +kernel) (by decide +kernel) (by decide +kernel), fun _ => rfl, fun _ => rfl, rfl, rfl, rfl, by decide +kernel, by decide +kernel⟩
theorem thg_bl (b : Bool) : Thg 1 (.bl b) (.bl b) (.bool b) 5 := ⟨copied_flat (k := "bool") (fun _ => rfl) (by decide +kernel) (by decide +kernel) (by decide +kernel), fun _ => rfl, fun _ => rfl, rfl, rfl, rfl, by cases b <;> decide +kernel, Nat.zero_le _⟩
theorem thg_int {i : Int} (h : (PyData.int i).showable = true) {N : Nat} (hn : (PyData.int i).shown.length ≤ N) : Thg 1 (.int i) (.int i) (.int i) N := ⟨copied_flat (k := "int") (fun _ => rfl) (by decide +kernel) (by decide +kernel) (by decide +kernel), fun _ => rfl, fun _ => rfl, rfl, rfl, h, hn, Nat.zero_le _⟩
theorem thg_str (s : PySem.Str) (hs : ∀ c ∈ s.cps.toList, c < 16 ^ 8) : Thg 1 (.str s) (.str s) (.str s) (10 * s.length + 2) := ⟨copied_flat (k := "str") (fun _ => rfl) (by decide +kernel) (by decide +kernel) (by decide +kernel), fun _ => rfl, fun _ => rfl, rfl, rfl, rfl, PySem.StrLaws.reprText_len s hs, Nat.zero_le _⟩
theorem thg_emp : Thg 1 (.emp true) (.emp false) (.dict []) 2 := by
  refine ⟨fun j S => eq_wp ?_, fun _ => rfl, fun _ => rfl, rfl, rfl, rfl, by decide +kernel, by decide +kernel⟩
  rw [show 1 + j = j + 1 by omega]
  show (mm_copied (m_copied j) [.emp true] S).wp _ _
  have h1 : kitB "dict" "list" = some false := by decide +kernel
  have h2 : kitB "dict" "tuple" = some false := by decide +kernel
  have h3 : kitB "dict" "dict" = some true := by decide +kernel
  have h4 : ∀ env : En, env[0]? = some (some (.emp true)) → mDc0 (mVar 0) env S = .ok (.emp false) S := fun env e => by
    unfold mDc0; rw [var_ok e]; rfl
  unfold mm_copied
  simp? [h1, h2, h3, h4]
theorem az_small {s : PySem.Str} (h : Az s) : ∀ c ∈ s.cps.toList, c < 16 ^ 8 := fun c hc => Nat.lt_of_le_of_lt (h c hc).2 (by decide)

/-! ### things of things -/
structure Th3 where
  d : D
  d' : D
  p : PyData
theorem shownAll_map {α : Type} (f : α → PyData) : ∀ l : List α, PyData.shownAll (l.map f) = l.map fun a => (f a).shown
  | [] => by simp [PyData.shownAll]
  | a :: l => by simp [PyData.shownAll, shownAll_map f l]
theorem showableAll_map {α : Type} {f : α → PyData} : ∀ l : List α, (∀ a ∈ l, (f a).showable = true) → PyData.showableAll (l.map f) = true
  | [], _ => by simp [PyData.showableAll]
  | a :: l, h => by
    rw [List.map_cons, PyData.showableAll, h a List.mem_cons_self, showableAll_map l fun b hb => h b (List.mem_cons_of_mem _ hb)]; rfl
theorem sum_le {l : List Nat} {N : Nat} (h : ∀ x ∈ l, x ≤ N) : l.sum ≤ l.length * N := by
  induction l with
  | nil => simp
  | cons x l ih =>
    rw [List.sum_cons, List.length_cons, Nat.add_mul, Nat.one_mul]
    have a := h x List.mem_cons_self
    have b := ih fun y hy => h y (List.mem_cons_of_mem _ hy)
    omega
theorem pds_map {α : Type} {f : α → D} {q : α → PyData} : ∀ l : List α, (∀ a ∈ l, (f a).pd = some (q a)) → pds (l.map f) = some (l.map q)
  | [], _ => rfl
  | a :: l, h => by
    rw [List.map_cons, pds, h a List.mem_cons_self, pds_map l fun b hb => h b (List.mem_cons_of_mem _ hb)]; rfl
theorem unds_mem {α : Type} {f : α → D} {n : Nat} : ∀ l : List α, (∀ a ∈ l, (f a).und n = true) → unds n (l.map f) = true
  | [], _ => rfl
  | a :: l, h => by
    rw [List.map_cons, unds, h a List.mem_cons_self, unds_mem l fun b hb => h b (List.mem_cons_of_mem _ hb)]; rfl
section
variable {k N : Nat} {ts : List Th3}
theorem copied_each (h : ∀ t ∈ ts, Thg k t.d t.d' t.p N) (hz : ts.length ≤ sizeLine) (j : Nat) {e : En} (he : 1 < e.length) {E : XQ} {Q : List D → Store → Prop} {S : Store} (q : Q (ts.map (·.d')) S) : (mLcGo (gmName 1) bYes (mCall (m_copied (k + j)) (mCons (mVar 1) mNil)) e (ts.map (·.d)) [] S).wp E Q := by
  refine lc_wp (fun t : Th3 => t.d) (fun _ => true) (fun t => t.d') (fun S' => S' = S) ts rfl hz (fun t ht S' hS => ?_) (fun S' hS => ?_)
  · subst hS
    have c := (h t ht).cp j S'
    have ev : (e.set 1 (some t.d))[1]? = some (some t.d) := List.getElem?_set_self he
    simp? [ev, c]
  · subst hS
    rw [List.filter_eq_self.mpr fun _ _ => rfl]
    exact q
theorem thg_tup {d : D} (td : Tp d (ts.map (·.d))) (h : ∀ t ∈ ts, Thg k t.d t.d' t.p N) (hz : ts.length ≤ sizeLine) {M : Nat} (hM : ts.length * (N + 2) + 2 ≤ M) : Thg (k + 1) d (.tupX (ts.map (·.d'))) (.tuple (ts.map (·.p))) M := by
  refine ⟨fun j S => eq_wp ?_, fun n => td.und (unds_mem ts fun t ht => (h t ht).und n), fun n => unds_mem ts fun t ht => (h t ht).und' n, ?_, ?_, showableAll_map ts fun t ht => (h t ht).sh, ?_, ?_⟩
  · rw [show k + 1 + j = (k + j) + 1 by omega]
    show (mm_copied (m_copied (k + j)) [_] S).wp _ _
    have h1 : kitB "tuple" "list" = some false := by decide +kernel
    have h2 : kitB "tuple" "tuple" = some true := by decide +kernel
    unfold mm_copied
    simp? [td.kd, td.seq, h1, h2]
    refine copied_each h hz j (by simp) ?_
    simp? [tupx_l]
  · exact td.pd (pds_map ts fun t ht => (h t ht).pd)
  · rw [D.pd, pds_map ts fun t ht => (h t ht).pd']; rfl
  · rw [PyData.shown, shownAll_map]
    have e1 := fmt_text (ts.map fun t => t.p.shown)
    have e2 : piled (ts.map fun t => t.p.shown) ≤ ts.length * (N + 2) := by
      unfold piled
      have := sum_le (l := ((ts.map fun t => t.p.shown).map fun t => t.length + 2)) (N := N + 2) (fun x hx => by
        obtain ⟨y, hy, rfl⟩ := List.mem_map.mp hx
        obtain ⟨t, ht, rfl⟩ := List.mem_map.mp hy
        have := (h t ht).ln
        omega)
      simpa using this
    omega
  · rw [PyData.depth]
    have := dep_map (f := fun t : Th3 => t.p) (n := k) ts fun t ht => (h t ht).dp
    omega
theorem thg_lst (h : ∀ t ∈ ts, Thg k t.d t.d' t.p N) (hz : ts.length ≤ sizeLine) {M : Nat} (hM : ts.length * (N + 2) + 3 ≤ M) : Thg (k + 1) (.lst (ts.map (·.d))) (.lst (ts.map (·.d'))) (.list (ts.map (·.p))) M := by
  refine ⟨fun j S => eq_wp ?_, fun n => unds_mem ts fun t ht => (h t ht).und n, fun n => unds_mem ts fun t ht => (h t ht).und' n, ?_, ?_, showableAll_map ts fun t ht => (h t ht).sh, ?_, ?_⟩
  · rw [show k + 1 + j = (k + j) + 1 by omega]
    show (mm_copied (m_copied (k + j)) [_] S).wp _ _
    have h1 : kitB "list" "list" = some true := by decide +kernel
    unfold mm_copied
    simp? [h1]
    exact copied_each h hz j (by simp) ⟨rfl, rfl⟩
  · rw [D.pd, pds_map ts fun t ht => (h t ht).pd]; rfl
  · rw [D.pd, pds_map ts fun t ht => (h t ht).pd']; rfl
  · rw [PyData.shown, shownAll_map]
    have e1 := listText_len_le (ts.map fun t => t.p.shown)
    have e2 := sum_le (l := ((ts.map fun t => t.p.shown).map (·.length))) (N := N) (fun x hx => by
      obtain ⟨y, hy, rfl⟩ := List.mem_map.mp hx
      obtain ⟨t, ht, rfl⟩ := List.mem_map.mp hy
      exact (h t ht).ln)
    simp only [List.length_map] at e1 e2
    rw [Nat.mul_add] at hM
    omega
  · rw [PyData.depth]
    have := dep_map (f := fun t : Th3 => t.p) (n := k) ts fun t ht => (h t ht).dp
    omega
end
/-- a pair of texts | pairs of texts -/
def th_str (s : PySem.Str) : Th3 := ⟨.str s, .str s, .str s⟩
/-- a pair's copy -/
def prX (p : Pr) : D := .tupX [.str p.1, .str p.2]
def th_pr (p : Pr) : Th3 := ⟨Lg.prD p, prX p, prP p⟩
theorem thg_pr {p : Pr} (h1 : ∀ c ∈ p.1.cps.toList, c < 16 ^ 8) (h2 : ∀ c ∈ p.2.cps.toList, c < 16 ^ 8) (l1 : p.1.length ≤ 14) (l2 : p.2.length ≤ 14) : Thg 2 (Lg.prD p) (prX p) (prP p) 300 := by
  have := thg_tup (k := 1) (N := 142) (ts := [th_str p.1, th_str p.2]) (d := Lg.prD p) .t (fun t ht => by
    rcases List.mem_cons.mp ht with rfl | ht
    · exact (thg_str p.1 h1).mono (Nat.le_refl _) (by omega)
    · rw [List.mem_singleton.mp ht]; exact (thg_str p.2 h2).mono (Nat.le_refl _) (by omega)) (show 2 ≤ sizeLine by decide) (M := 300) (show 2 * (142 + 2) + 2 ≤ 300 by decide)
  exact this
theorem thg_prs {d : D} {ps : Ps} (td : Tp d (ps.map Lg.prD)) (h : ∀ p ∈ ps, Thg 2 (Lg.prD p) (prX p) (prP p) 300) (hl : ps.length ≤ 1000) : Thg 3 d (.tupX (ps.map prX)) (.tuple (ps.map prP)) 400000 := by
  have := thg_tup (d := d) (k := 2) (N := 300) (ts := ps.map th_pr) (by rw [List.map_map]; exact td) (fun t ht => by
    obtain ⟨p, hp, rfl⟩ := List.mem_map.mp ht
    exact h p hp) (by rw [List.length_map]; exact Nat.le_trans hl (by decide)) (M := 400000) (by rw [List.length_map]; omega)
  simpa [List.map_map, Function.comp_def, th_pr] using this
/-! ### refusals -/
theorem init1 {c : Nat} {f : PySem.Str} {h : List D → Store → Res D} {d d' : D} (hg : ∀ S, h [d] S = .ok d' S) (S : Store) :
    mInit c 2 2 (sFldX c f (mVar 0) (mCall h (mCons (mVar 1) mNil))) [.loc S.length, d] (S ++ [.exc c none]) = .ok .non (S ++ [.exc c (some (S.length + 1)), .xd [(f, d')]]) := by
  simp [mInit, mDef, sFldX, startE, mVar, mCall, mCons, mNil, Res.bind, Res.bindS, putX, hg]
def WfS (S : Store) : Prop := ∀ o ∈ S, o.und S.length = true
theorem raise1 {c : Nat} {f : PySem.Str} {h : List D → Store → Res D} {d d' : D} (hg : ∀ S, h [d] S = .ok d' S) {as : AM} {env : En} {S S1 : Store} (ha : as env S = .ok [d] S1) (hw : WfS S1) (hu : d'.und S1.length = true) :
    sRaiseX c (mInit c 2 2 (sFldX c f (mVar 0) (mCall h (mCons (mVar 1) mNil)))) as env S = .err ⟨c, some [(f, d')]⟩ S1 := by
  have i := init1 (c := c) (f := f) hg S1
  have un : S1.all (Ob.und S1.length) = true := List.all_eq_true.mpr hw
  unfold sRaiseX
  rw [ha]
  simp [Res.bindS, i, un, List.take_left', undkv, hu]
theorem PO.wf {t : Nat} {R S : Store} (h : PO t R S) (hf : FlatS R) : WfS S := by
  obtain ⟨c, b, s, n, rfl, _⟩ := h
  intro o ho
  unfold Pot at ho ⊢
  rcases List.mem_cons.mp ho with rfl | ho
  · exact flat_lst (fun _ _ => rfl) c _
  · rcases List.mem_cons.mp ho with rfl | ho
    · simp [Ob.und, unds, D.und]
    · exact hf o ho _
theorem flat_ci {m b p : D} {ms bs : Ps} {ys : List Ps} (tm : Tp m (ms.map Lg.prD)) (tb : Tp b (bs.map Lg.prD)) (ty : Tp p (ys.map yrD)) (g : Int) : Flat (CiO m b p (.int g)) := fun n => by
  have a : unds n (ms.map Lg.prD) = true := unds_map (fun p => und_pr p n) ms
  have b : unds n (bs.map Lg.prD) = true := unds_map (fun p => und_pr p n) bs
  have c : unds n (ys.map yrD) = true := unds_map (fun p => und_yr p n) ys
  simp [CiO, Ob.und, undkv, tm.und a, tb.und b, ty.und c, show (D.int g).und n = true from rfl]
end Lw

set_option exponentiation.threshold 600
/-! ShP: the parts of a circle, drawn. -/
namespace Lw
open PySem L2 Lg
def m__law_parts : List D → Store → Res D := mDef 12 2 (sSeq (sAsg (mCall m__law_words (mCons (mVar 0) (mCons (mOp dAdd (mC (.int 2)) (mCall m__law_draw (mCons (mVar 0) (mCons (mOp dAdd (mVar 1) (mC (.int 1))) mNil)))) mNil))) (gmName 2)) (sSeq (sPar 3 4 (mCons (mSl (mVar 2) (oSome (mC (.int 2))) oNone) (mCons (mSl (mVar 2) oNone (oSome (mC (.int 2)))) mNil))) (sSeq (sAsg (mLst (mCons (mC (.str "")) (mCons (mC (.str "")) (mCons (mC (.str "")) (mCons (mOp dIx (mVar 4) (mC (.int 0))) (mCons (mOp dIx (mVar 2) (mUn dNeg (mC (.int 1)))) (mCons (mC (.str "h")) mNil))))))) (gmName 5)) (sSeq (sAsg (mCall cTupX (mCons (mCall cSortA (mCons (mLc (itSeq (mVar 3)) (gmName 11) bYes (mTup (mCons (mVar 11) (mCons (mCall m__law_pick (mCons (mVar 0) (mCons (mVar 5) mNil))) mNil))) [11]) mNil)) mNil)) (gmName 6)) (sSeq (sPar 7 8 (mCons (mCall m__law_pairs (mCons (mVar 0) (mCons (mVar 2) (mCons (mCall m__law_draw (mCons (mVar 0) (mCons (mOp dIx (mLst (mCons (mC (.int 1)) (mCons (mC (.int 4)) (mCons (mC (.int 14)) mNil)))) (mCall m__law_draw (mCons (mVar 0) (mCons (mC (.int 3)) mNil)))) mNil))) mNil)))) (mCons (mLstL mNil) mNil))) (sSeq (sForI (itRange1 (mCons (mCall m__law_draw (mCons (mVar 0) (mCons (mOp dIx (mLst (mCons (mC (.int 2)) (mCons (mC (.int 4)) (mCons (mC (.int 11)) mNil)))) (mCall m__law_draw (mCons (mVar 0) (mCons (mC (.int 3)) mNil)))) mNil))) mNil)) (gmName 9) (sDrop (mBMt "list" qAppend (mVar 8) (mCons (mOp dIx (mLst (mCons (mCall m__law_turned_round (mCons (mVar 0) (mCons (mVar 3) mNil))) (mCons (mCall m__law_pairs (mCons (mVar 0) (mCons (mVar 2) (mCons (mCall m__law_draw (mCons (mVar 0) (mCons (mC (.int 5)) mNil))) mNil)))) mNil))) (mOp dDiv (mCall m__law_draw (mCons (mVar 0) (mCons (mC (.int 4)) mNil))) (mC (.int 3)))) mNil)))) (sSeq (sAsg (mOp dIx (mLst (mCons (mC (.int 0)) (mCons (mC (.int 1)) (mCons (mC (.int 1)) (mCons (mC (.int 2)) (mCons (mCall cLen (mCons (mVar 8) mNil)) (mCons (mOp dAdd (mCall cLen (mCons (mVar 8) mNil)) (mC (.int 1))) (mCons (mCall m__law_draw (mCons (mVar 0) (mCons (mOp dPow (mC (.int 10)) (mC (.int 29))) mNil))) mNil)))))))) (mCall m__law_draw (mCons (mVar 0) (mCons (mC (.int 7)) mNil)))) (gmName 10)) (sRet (mTup (mCons (mVar 6) (mCons (mVar 7) (mCons (mCall cTupX (mCons (mVar 8) mNil)) (mCons (mVar 10) (mCons (mVar 4) mNil))))))))))))))
/-- what the parts of a circle are -/
structure Ok (ms bs : Ps) (ys : List Ps) (gap : Int) : Prop where
  nm : ∀ m ∈ ms, Nm m.1
  ho : ∀ m ∈ ms, Az m.2 ∧ m.2.length ≤ 12
  nd : (ms.map (·.1)).Nodup
  lm : ms.length ≤ 100
  lb : bs.length ≤ 1000
  ly : ys.length ≤ 1000
  az : ∀ b ∈ bs, Az2 b
  ay : ∀ y ∈ ys, ∀ p ∈ y, Az2 p
  g0 : 0 ≤ gap
  rise : (Nam ms).Pairwise sLt
  rb : bs.Pairwise pLt
  ry : ∀ y ∈ ys, y.Pairwise pLt
  g1 : gap < 10 ^ 29 + 100
  yl : ∀ y ∈ ys, y.length ≤ 100
  nb : ∀ b ∈ bs, Nm b.1 ∧ Nm b.2
  ny : ∀ y ∈ ys, ∀ p ∈ y, Nm p.1 ∧ Nm p.2
  hn : ∀ m ∈ ms, m.2 = "" ∨ Nm m.2
  lb1 : bs.length ≤ 14
  ly1 : ys.length ≤ 13
  yl1 : ∀ y ∈ ys, y.length ≤ 24
structure PaOk (most : Nat) (ms : Ps) (w0 w1 : PySem.Str) : Prop where
  l0 : ms.length ≤ most
  l1 : most ≤ 24
  n0 : Nm w0
  n1 : Nm w1
  ne : w0 ≠ w1
  o0 : w0 ∉ Nam ms
  o1 : w1 ∉ Nam ms
def PaD (ms bs : Ps) (ys : List Ps) (gap : Int) (w0 w1 : PySem.Str) : D := .tup [.tupX (ms.map Lg.prD), .tupX (bs.map Lg.prD), .tupX (ys.map yrD), .int gap, .lst [.str w0, .str w1]]
abbrev yearBody : SM := (sDrop (mBMt "list" qAppend (mVar 8) (mCons (mOp dIx (mLst (mCons (mCall m__law_turned_round (mCons (mVar 0) (mCons (mVar 3) mNil))) (mCons (mCall m__law_pairs (mCons (mVar 0) (mCons (mVar 2) (mCons (mCall m__law_draw (mCons (mVar 0) (mCons (mC (.int 5)) mNil))) mNil)))) mNil))) (mOp dDiv (mCall m__law_draw (mCons (mVar 0) (mCons (mC (.int 4)) mNil))) (mC (.int 3)))) mNil)))
theorem year_step {t kw kp : Nat} {R S : Store} {ws is : List PySem.Str} {yrs : List Ps} {env : En} (e0 : env[0]? = some (some (.loc 1))) (e2 : env[2]? = some (some (.loc (kw + 2)))) (e3 : env[3]? = some (some (.lst (is.map D.str)))) (e8 : env[8]? = some (some (.loc (kp + 2)))) (hp : PO t R S) (ht : t ≤ 800000) (hw : 0 < ws.length) (hw2 : ws.length ≤ 26) (hi : ∀ i ∈ is, i ∈ ws) (hil : is.length ≤ 24) (hnd : is.Nodup) (hfl : FlatS R)
    (hk : R[kw]? = some (.lst (ws.map D.str))) (hy : R[kp]? = some (.lst (yrs.map yrD))) (hne : kw ≠ kp) (hyl : yrs.length ≤ 900) : ∃ (y : Ps) (R' S' : Store), yearBody env S = .next env S' ∧ PO (t + 40) R' S' ∧ R'[kp]? = some (.lst ((yrs ++ [y]).map yrD)) ∧ (∀ (i : Nat) (o : Ob), i ≠ kp → R[i]? = some o → R'[i]? = some o) ∧ (∀ p ∈ y, p.1 ∈ ws ∧ p.2 ∈ ws) ∧ (y.Pairwise pLt ∧ y.length ≤ 24) ∧ FlatS R' := by
  have b5 : (1000 : Int) < 2 ^ 500 := by decide
  obtain ⟨y1, X1, S1, a1, a2, a31, a32, a33⟩ := turned hp (by omega) hil
  have a3 := turned_mem a31 a32
  have a4 : y1.Pairwise pLt ∧ y1.length ≤ 24 := ⟨fst_rise (by rw [a31]; exact srt_lt sLt_so hnd), by have := congrArg List.length a31; rw [List.length_map, srt_len] at this; omega⟩
  obtain ⟨r1, S2, b1, b2, b3⟩ := drawE (a := mVar 0) (b := mC (.int 5)) (env := env) (var_ok e0) c_ok a2 (by omega) (by decide) (by decide)
  obtain ⟨y2, X2, S3, c1, c2, c3, c4, c5, c6⟩ := pairs (sz := r1) b2 (by omega) (by omega) (at_app X1 hk) hw hw2
  obtain ⟨r2, S4, d1, d2, d3⟩ := drawE (a := mVar 0) (b := mC (.int 4)) (env := env) (var_ok e0) c_ok c2 (by omega) (by decide) (by decide)
  have l := lst_ok (cons_ok ((call_ok (cons_ok (var_ok e0) (cons_ok (var_ok e3) nil_ok))).trans a1) (cons_ok ((call_ok (cons_ok (var_ok e0) (cons_ok (var_ok e2) (cons_ok b1 nil_ok)))).trans c1) nil_ok)) (show 2 ≤ sizeLine by decide)
  have dv : mOp dDiv (mCall m__law_draw (mCons (mVar 0) (mCons (mC (.int 4)) mNil))) (mC (.int 3)) env S3 = .ok (.int ((r2 : Int) / 3)) S4 := opv d1 c_ok (div_i (cd (by decide) (by decide)))
  have ye : ∃ y : Ps, (mOp dIx (mLst (mCons (mCall m__law_turned_round (mCons (mVar 0) (mCons (mVar 3) mNil))) (mCons (mCall m__law_pairs (mCons (mVar 0) (mCons (mVar 2) (mCons (mCall m__law_draw (mCons (mVar 0) (mCons (mC (.int 5)) mNil))) mNil)))) mNil))) (mOp dDiv (mCall m__law_draw (mCons (mVar 0) (mCons (mC (.int 4)) mNil))) (mC (.int 3)))) env S = .ok (yrD y) S4 ∧ (∀ p ∈ y, p.1 ∈ ws ∧ p.2 ∈ ws) ∧ y.Pairwise pLt ∧ y.length ≤ 24 := by
    by_cases h3 : r2 < 3
    · refine ⟨y1, opv l dv ?_, fun p hp => ⟨hi _ (a3 p hp).1, hi _ (a3 p hp).2⟩, a4⟩
      rw [show (r2 : Int) / 3 = 0 by omega]
      rfl
    · refine ⟨y2, opv l dv ?_, c4, c5, by omega⟩
      rw [show (r2 : Int) / 3 = 1 by omega]
      rfl
  obtain ⟨y, y3, y4⟩ := ye
  have hy4 : (R ++ X1 ++ X2)[kp]? = some (.lst (yrs.map yrD)) := at_app X2 (at_app X1 hy)
  obtain ⟨f1, f2⟩ := appE (show mVar 8 env S = .ok (.loc (kp + 2)) S from var_ok e8) hp y3 d2 hy hy4 (by rw [List.length_map]; omega)
  refine ⟨y, _, _, f1, f2.mono (by omega), ?_, fun i o hi ho => ?_, y4.1, y4.2, ((hfl.app a33).app c6).set (by rw [show yrs.map yrD ++ [yrD y] = (yrs ++ [y]).map yrD by simp]; exact flat_lst und_yr _)⟩
  · rw [set_eq hy4, List.map_append]
    rfl
  · rw [set_ne hi]
    exact at_app X2 (at_app X1 ho)
theorem parts {t most : Nat} {R S : Store} (hp : PO t R S) (ht : t ≤ 700000) (hm : most ≤ 24) (hfl : FlatS R) : ∃ (ms bs : Ps) (ys : List Ps) (gap : Int) (w0 w1 : PySem.Str) (R' S' : Store), m__law_parts [.loc 1, .int most] S = .ok (PaD ms bs ys gap w0 w1) S' ∧ PO (t + 800) R' S' ∧ Ext R R' ∧ Ok ms bs ys gap ∧ PaOk most ms w0 w1 ∧ FlatS R' := by
  have b5 : (1000 : Int) < 2 ^ 500 := by decide
  have zs : 1000 ≤ sizeLine := by decide
  -- words
  obtain ⟨r0, S1, d1, d2, d3⟩ := drawE (a := mVar 0) (b := mOp dAdd (mVar 1) (mC (.int 1))) (env := [some (.loc 1), some (.int most), none, none, none, none, none, none, none, none, none, none]) (size := (most : Int) + 1) (var_ok rfl) (opv (var_ok rfl) c_ok add_i) hp (by omega) (by omega) (by omega)
  obtain ⟨a0, ws, S2, w1, w2, w3, w4, w5, w6⟩ := words (sz := 2 + r0) d2 (by omega) (by omega)
  have s1 : sAsg (mCall m__law_words (mCons (mVar 0) (mCons (mOp dAdd (mC (.int 2)) (mCall m__law_draw (mCons (mVar 0) (mCons (mOp dAdd (mVar 1) (mC (.int 1))) mNil)))) mNil))) (gmName 2) [some (.loc 1), some (.int most), none, none, none, none, none, none, none, none, none, none] S = .next [some (.loc 1), some (.int most), some (.loc (R.length + 1 + 2)), none, none, none, none, none, none, none, none, none] S2 := by
    rw [asg_ok (d := .loc (R.length + 1 + 2)) (S' := S2)]
    · rfl
    · rw [call_ok (cons_ok (var_ok rfl) (cons_ok (opv c_ok d1 add_i) nil_ok)), show (2 : Int) + (r0 : Int) = ((2 + r0 : Nat) : Int) by omega]
      exact w1
  generalize hkw : R.length + 1 = kw at w1 s1
  have k1 : (R ++ [a0, Ob.lst (ws.map D.str)])[kw]? = some (.lst (ws.map D.str)) := by rw [← hkw]; exact two_at1 _ _ _
  have x1 : Ext R (R ++ [a0, Ob.lst (ws.map D.str)]) := (Ext.refl R).app _
  have kwl : kw < (R ++ [a0, Ob.lst (ws.map D.str)]).length := by rw [← hkw]; simp
  have fl1 : FlatS (R ++ [a0, Ob.lst (ws.map D.str)]) := hfl.app (flat2 w6 (flat_lst und_str ws))
  generalize R ++ [a0, Ob.lst (ws.map D.str)] = R1 at w2 k1 x1 kwl fl1
  have hS2 : S2[kw + 2]? = some (.lst (ws.map D.str)) := by rw [w2.at, k1]
  have wl : (ws.map D.str).length = ws.length := by simp
  -- those within, strangers
  have s2 : sPar 3 4 (mCons (mSl (mVar 2) (oSome (mC (.int 2))) oNone) (mCons (mSl (mVar 2) oNone (oSome (mC (.int 2)))) mNil)) [some (.loc 1), some (.int most), some (.loc (kw + 2)), none, none, none, none, none, none, none, none, none] S2 = .next [some (.loc 1), some (.int most), some (.loc (kw + 2)), some (.lst ((ws.drop 2).map D.str)), some (.lst ((ws.take 2).map D.str)), none, none, none, none, none, none, none] S2 := by
    unfold sPar
    rw [cons_ok (slL (var_ok rfl) hS2 (someE c_ok) rfl) (cons_ok (slL (var_ok rfl) hS2 rfl (someE c_ok)) nil_ok)]
    rw [show (2 : Int) = ((2 : Nat) : Int) from rfl, cut_drop _ 2 (by omega), cut_take _ 2 (by omega), List.map_drop, List.map_take]
    rfl
  have tk : ∃ w0 w1, ws.take 2 = [w0, w1] := by
    match ws, w3 with
    | w0 :: w1 :: _, _ => exact ⟨w0, w1, rfl⟩
    | [], h => simp at h; omega
    | [_], h => simp at h; omega
  obtain ⟨sw0, sw1, tk⟩ := tk
  generalize hst : D.lst ((ws.take 2).map D.str) = st at s2
  -- houses
  have s3 : ∃ hs : List PySem.Str, hs.length = 6 ∧ (∀ h ∈ hs, Az h ∧ h.length ≤ 12 ∧ (h = "" ∨ Nm h)) ∧ sAsg (mLst (mCons (mC (.str "")) (mCons (mC (.str "")) (mCons (mC (.str "")) (mCons (mOp dIx (mVar 4) (mC (.int 0))) (mCons (mOp dIx (mVar 2) (mUn dNeg (mC (.int 1)))) (mCons (mC (.str "h")) mNil))))))) (gmName 5) [some (.loc 1), some (.int most), some (.loc (kw + 2)), some (.lst ((ws.drop 2).map D.str)), some st, none, none, none, none, none, none, none] S2 = .next [some (.loc 1), some (.int most), some (.loc (kw + 2)), some (.lst ((ws.drop 2).map D.str)), some st, some (.lst (hs.map D.str)), none, none, none, none, none, none] S2 := by
    have h0 : 0 < ws.length := by omega
    have hl : ws.length - 1 < ws.length := by omega
    have i4 : mOp dIx (mVar 4) (mC (.int 0)) [some (.loc 1), some (.int most), some (.loc (kw + 2)), some (.lst ((ws.drop 2).map D.str)), some st, none, none, none, none, none, none, none] S2 = .ok (.str ws[0]) S2 := by
      refine opv (var_ok rfl) c_ok ?_
      rw [← hst]
      have e : asL (.lst ((ws.take 2).map D.str)) S2 = some ((ws.take 2).map D.str) := rfl
      have l2 : 0 < ((ws.take 2).map D.str).length := by simp; omega
      unfold dIx
      simp only [e]
      rw [show (0 : Int) = ((0 : Nat) : Int) from rfl, atI_nat l2]
      simp
    have i2 : mOp dIx (mVar 2) (mUn dNeg (mC (.int 1))) [some (.loc 1), some (.int most), some (.loc (kw + 2)), some (.lst ((ws.drop 2).map D.str)), some st, none, none, none, none, none, none, none] S2 = .ok (.str ws[ws.length - 1]) S2 := by
      refine opv (var_ok rfl) (show mUn dNeg (mC (.int 1)) _ S2 = .ok (.int (-1)) S2 from rfl) ?_
      have e : asL (.loc (kw + 2)) S2 = some (ws.map D.str) := by
        unfold asL
        simp only [hS2]
      have at1 : atI (ws.map D.str) (-1) = some (.str ws[ws.length - 1]) := by
        unfold atI ixN
        rw [if_neg (by decide), if_pos (by omega), wl]
        have : (-1 + (ws.length : Int)).toNat = ws.length - 1 := by omega
        simp only [Option.bind, this]
        rw [List.getElem?_map, List.getElem?_eq_getElem hl]
        rfl
      unfold dIx
      simp only [e, at1]
    refine ⟨["", "", "", ws[0], ws[ws.length - 1], "h"], rfl, ?_, ?_⟩
    · have ez : Az "" ∧ ("" : PySem.Str).length ≤ 12 ∧ (("" : PySem.Str) = "" ∨ Nm "") := by
        refine ⟨fun c hc => ?_, by decide +kernel, .inl rfl⟩
        rw [show ("" : PySem.Str).cps.toList = [] from by decide +kernel] at hc
        exact absurd hc List.not_mem_nil
      have eh0 : Az "h" := by
        refine fun c hc => ?_
        rw [show ("h" : PySem.Str).cps.toList = [104] from by decide +kernel] at hc
        rw [List.mem_singleton.mp hc]
        decide
      have eh : Az "h" ∧ ("h" : PySem.Str).length ≤ 12 ∧ (("h" : PySem.Str) = "" ∨ Nm "h") := ⟨eh0, by decide +kernel, .inr ⟨eh0, by decide +kernel, by decide +kernel⟩⟩
      intro h hh
      simp only [List.mem_cons, List.not_mem_nil, or_false] at hh
      rcases hh with rfl | rfl | rfl | rfl | rfl | rfl
      · exact ez
      · exact ez
      · exact ez
      · exact ⟨(hs_ok (w5 _ (List.getElem_mem _))).1, (hs_ok (w5 _ (List.getElem_mem _))).2, .inr (w5 _ (List.getElem_mem _))⟩
      · exact ⟨(hs_ok (w5 _ (List.getElem_mem _))).1, (hs_ok (w5 _ (List.getElem_mem _))).2, .inr (w5 _ (List.getElem_mem _))⟩
      · exact eh
    · rw [asg_ok (lst_ok (cons_ok c_ok (cons_ok c_ok (cons_ok c_ok (cons_ok i4 (cons_ok i2 (cons_ok c_ok nil_ok)))))) (show 6 ≤ sizeLine by decide))]
      rfl
  obtain ⟨hs, hs1, hs2, s3⟩ := s3
  -- members
  have dl : (ws.drop 2).length = r0 := by rw [List.length_drop]; omega
  obtain ⟨hh, S3, q1, q2, q3, q4⟩ := lc_draw (g := gmName 11) (e := mTup (mCons (mVar 11) (mCons (mCall m__law_pick (mCons (mVar 0) (mCons (mVar 5) mNil))) mNil))) (env := [some (.loc 1), some (.int most), some (.loc (kw + 2)), some (.lst ((ws.drop 2).map D.str)), some st, some (.lst (hs.map D.str)), none, none, none, none, none, none]) (fun i S => PO (t + 1 + 100 + i) R1 S) D.str (fun w h => Lg.prD (w, h)) (fun h => Az h ∧ h.length ≤ 12 ∧ (h = "" ∨ Nm h)) (ws.drop 2) [] 0 S2 w2 (fun a _ j S hj hI => by
    have l6 : (hs.map D.str).length = 6 := by simp [hs1]
    obtain ⟨r, S', z1, z2, z3⟩ := pickE (a := mVar 0) (b := mVar 5) (env := [some (.loc 1), some (.int most), some (.loc (kw + 2)), some (.lst ((ws.drop 2).map D.str)), some st, some (.lst (hs.map D.str)), none, none, none, none, none, some (.str a)]) (var_ok rfl) (var_ok rfl) (Pk.lst R1 (hs.map D.str)) hI (by omega) (by omega) (by omega)
    have hr : r < hs.length := by simpa using z3
    have g1 : (hs.map D.str).getD r .non = .str hs[r] := by
      rw [List.getD_eq_getElem?_getD, List.getElem?_map, List.getElem?_eq_getElem hr]; rfl
    rw [g1] at z1
    exact ⟨_, hs[r], S', rfl, tup_ok (cons_ok (var_ok rfl) (cons_ok z1 nil_ok)) (show 2 ≤ sizeLine by decide), z2, hs2 _ (List.getElem_mem _)⟩) (by rw [dl]; simp; omega)
  have ndd : (ws.drop 2).Nodup := by
    have e := w4
    rw [← List.take_append_drop 2 ws] at e
    exact (List.nodup_append.mp e).2.1
  have nd0 : (Nam (List.zip (ws.drop 2) hh)).Nodup := by
    rw [zip_fst _ _ q2]
    have e := w4
    rw [← List.take_append_drop 2 ws] at e
    exact (List.nodup_append.mp e).2.1
  have m1 := sr_pr.sortA (List.zip (ws.drop 2) hh) (S := S3) (x := .lst ((List.zip (ws.drop 2) hh).map Lg.prD)) rfl
  have m2 := srt_len (lt := pLt) (List.zip (ws.drop 2) hh)
  have m3 : ∀ p ∈ srt pLt (List.zip (ws.drop 2) hh), p ∈ List.zip (ws.drop 2) hh := fun p hp => (srt_mem _ p).mp hp
  have m4 : (Nam (srt pLt (List.zip (ws.drop 2) hh))).Nodup := ((srt_perm (lt := pLt) (List.zip (ws.drop 2) hh)).map _).nodup_iff.mpr nd0
  have m5 := srt_pw pLt_so (List.zip (ws.drop 2) hh)
  generalize srt pLt (List.zip (ws.drop 2) hh) = ms at m1 m2 m3 m4 m5
  have s4 : sAsg (mCall cTupX (mCons (mCall cSortA (mCons (mLc (itSeq (mVar 3)) (gmName 11) bYes (mTup (mCons (mVar 11) (mCons (mCall m__law_pick (mCons (mVar 0) (mCons (mVar 5) mNil))) mNil))) [11]) mNil)) mNil)) (gmName 6) [some (.loc 1), some (.int most), some (.loc (kw + 2)), some (.lst ((ws.drop 2).map D.str)), some st, some (.lst (hs.map D.str)), none, none, none, none, none, none] S2 = .next [some (.loc 1), some (.int most), some (.loc (kw + 2)), some (.lst ((ws.drop 2).map D.str)), some st, some (.lst (hs.map D.str)), some (.tupX (ms.map Lg.prD)), none, none, none, none, none] S3 := by
    have lc : mLc (itSeq (mVar 3)) (gmName 11) bYes (mTup (mCons (mVar 11) (mCons (mCall m__law_pick (mCons (mVar 0) (mCons (mVar 5) mNil))) mNil))) [11] [some (.loc 1), some (.int most), some (.loc (kw + 2)), some (.lst ((ws.drop 2).map D.str)), some st, some (.lst (hs.map D.str)), none, none, none, none, none, none] S2 = .ok (.lst ((List.zip (ws.drop 2) hh).map Lg.prD)) S3 := by
      unfold mLc
      rw [seq_lst (var_ok (d := .lst ((ws.drop 2).map D.str)) rfl)]
      simp only [Res.bind]
      rw [show wipeE [some (D.loc 1), some (.int most), some (.loc (kw + 2)), some (.lst ((ws.drop 2).map D.str)), some st, some (.lst (hs.map D.str)), none, none, none, none, none, none] [11] = [some (D.loc 1), some (.int most), some (.loc (kw + 2)), some (.lst ((ws.drop 2).map D.str)), some st, some (.lst (hs.map D.str)), none, none, none, none, none, none] from rfl, q1, zip_out]
      rfl
    rw [asg_ok ((call_ok (cons_ok ((call_ok (cons_ok lc nil_ok)).trans m1) nil_ok)).trans (show cTupX [.lst (ms.map Lg.prD)] S3 = .ok (.tupX (ms.map Lg.prD)) S3 from rfl))]
    rfl
  have zl : (List.zip (ws.drop 2) hh).length = r0 := by rw [List.length_zip, q2, dl]; omega
  have okm : (∀ m ∈ ms, Nm m.1) ∧ (∀ m ∈ ms, Az m.2 ∧ m.2.length ≤ 12 ∧ (m.2 = "" ∨ Nm m.2)) := by
    refine ⟨fun m hm => ?_, fun m hm => ?_⟩
    · have := List.of_mem_zip (show (m.1, m.2) ∈ List.zip (ws.drop 2) hh from m3 m hm)
      exact w5 _ (List.mem_of_mem_drop this.1)
    · have := List.of_mem_zip (show (m.1, m.2) ∈ List.zip (ws.drop 2) hh from m3 m hm)
      exact q3 _ this.2
  -- bars
  obtain ⟨r1, S4, u1, u2, u3⟩ := draw3 (a := 1) (b := 4) (c := 14) (env := [some (.loc 1), some (.int most), some (.loc (kw + 2)), some (.lst ((ws.drop 2).map D.str)), some st, some (.lst (hs.map D.str)), some (.tupX (ms.map Lg.prD)), none, none, none, none, none]) q4 (by omega) rfl (by decide) (by decide) (by decide)
  obtain ⟨bs, X1, S5, v1, v2, v3, v4, v45, v46⟩ := pairs (sz := r1) u2 (by omega) (by omega) k1 (by omega) (by omega)
  have s5 : sPar 7 8 (mCons (mCall m__law_pairs (mCons (mVar 0) (mCons (mVar 2) (mCons (mCall m__law_draw (mCons (mVar 0) (mCons (mOp dIx (mLst (mCons (mC (.int 1)) (mCons (mC (.int 4)) (mCons (mC (.int 14)) mNil)))) (mCall m__law_draw (mCons (mVar 0) (mCons (mC (.int 3)) mNil)))) mNil))) mNil)))) (mCons (mLstL mNil) mNil)) [some (.loc 1), some (.int most), some (.loc (kw + 2)), some (.lst ((ws.drop 2).map D.str)), some st, some (.lst (hs.map D.str)), some (.tupX (ms.map Lg.prD)), none, none, none, none, none] S3 = .next [some (.loc 1), some (.int most), some (.loc (kw + 2)), some (.lst ((ws.drop 2).map D.str)), some st, some (.lst (hs.map D.str)), some (.tupX (ms.map Lg.prD)), some (.tupX (bs.map Lg.prD)), some (.loc ((R1 ++ X1).length + 2)), none, none, none] (S5 ++ [.lst []]) := by
    unfold sPar
    rw [cons_ok ((call_ok (cons_ok (var_ok rfl) (cons_ok (var_ok rfl) (cons_ok u1 nil_ok)))).trans v1) (cons_ok newL nil_ok), v2.len]
    rfl
  have v5 := v2.app [.lst []]
  have k5 : (R1 ++ X1 ++ [Ob.lst []])[kw]? = some (.lst (ws.map D.str)) := at_app _ (at_app _ k1)
  have k6 : (R1 ++ X1 ++ [Ob.lst []])[(R1 ++ X1).length]? = some (.lst (([] : List Ps).map yrD)) := one_at _ _
  have x5 : Ext R (R1 ++ X1 ++ [Ob.lst []]) := (x1.app _).app _
  have hne : kw ≠ (R1 ++ X1).length := by rw [List.length_append]; omega
  have hRl : R.length < (R1 ++ X1).length := by rw [List.length_append]; omega
  generalize (R1 ++ X1).length = kp at s5 k6 hne hRl
  have fl5 : FlatS (R1 ++ X1 ++ [Ob.lst []]) := (fl1.app v46).app (flat1 (flat_lst und_str []))
  generalize R1 ++ X1 ++ [Ob.lst []] = R5 at v5 k5 k6 x5 fl5
  generalize S5 ++ [Ob.lst []] = S6 at s5 v5
  -- years
  obtain ⟨r2, S7, o1, o2, o3⟩ := draw3 (a := 2) (b := 4) (c := 11) (env := [some (.loc 1), some (.int most), some (.loc (kw + 2)), some (.lst ((ws.drop 2).map D.str)), some st, some (.lst (hs.map D.str)), some (.tupX (ms.map Lg.prD)), some (.tupX (bs.map Lg.prD)), some (.loc (kp + 2)), none, none, none]) v5 (by omega) rfl (by decide) (by decide) (by decide)
  obtain ⟨env', S8, f1, f2⟩ := for_inv (g := gmName 9) (b := yearBody)
    (fun j env S => ∃ (yrs : List Ps) (R' : Store) (x : Option D), env = [some (.loc 1), some (.int most), some (.loc (kw + 2)), some (.lst ((ws.drop 2).map D.str)), some st, some (.lst (hs.map D.str)), some (.tupX (ms.map Lg.prD)), some (.tupX (bs.map Lg.prD)), some (.loc (kp + 2)), x, none, none] ∧ PO (t + 1 + 100 + (0 + (ws.drop 2).length) + 2 + 2 * r1 + 2 + 40 * j) R' S ∧ R'[kp]? = some (.lst (yrs.map yrD)) ∧ R'[kw]? = some (.lst (ws.map D.str)) ∧ Ext R R' ∧ FlatS R' ∧ yrs.length = j ∧ ∀ y ∈ yrs, (∀ p ∈ y, p.1 ∈ ws ∧ p.2 ∈ ws) ∧ y.Pairwise pLt ∧ y.length ≤ 24)
    ((List.range r2).map fun i : Nat => D.int (0 + (i : Int))) 0 [some (.loc 1), some (.int most), some (.loc (kw + 2)), some (.lst ((ws.drop 2).map D.str)), some st, some (.lst (hs.map D.str)), some (.tupX (ms.map Lg.prD)), some (.tupX (bs.map Lg.prD)), some (.loc (kp + 2)), none, none, none] S7 ⟨[], R5, none, rfl, o2, k6, k5, x5, fl5, rfl, fun y h => absurd h List.not_mem_nil⟩ (fun d _ j env S hj hI => by
      obtain ⟨yrs, R', x, rfl, i1, i2, i3, i4, i45, i5, i6⟩ := hI
      rw [List.length_map, List.length_range] at hj
      obtain ⟨y, R'', S', g1, g2, g3, g4, g5, g6, g7⟩ := year_step (env := [some (.loc 1), some (.int most), some (.loc (kw + 2)), some (.lst ((ws.drop 2).map D.str)), some st, some (.lst (hs.map D.str)), some (.tupX (ms.map Lg.prD)), some (.tupX (bs.map Lg.prD)), some (.loc (kp + 2)), some d, none, none]) rfl rfl rfl rfl i1 (by omega) (by omega) (by omega) (fun i hi => List.mem_of_mem_drop hi) (by omega) ndd i45 i3 i2 hne (by omega)
      refine ⟨_, _, S', rfl, g1, yrs ++ [y], R'', some d, rfl, g2.mono (by omega), g3, g4 kw _ hne i3, fun i o ho => ?_, g7, by simp [i5], fun z hz => ?_⟩
      · have hl : i < R.length := (List.getElem?_eq_some_iff.mp ho).1
        exact g4 i o (by omega) (i4 i o ho)
      · rcases List.mem_append.mp hz with hz | hz
        · exact i6 z hz
        · rw [List.mem_singleton.mp hz]; exact ⟨g5, g6⟩)
  obtain ⟨yrs, R', x, rfl, i1, i2, i3, i4, i45, i5, i6⟩ := f2
  rw [List.length_map, List.length_range] at i1 i5
  have s6 : sForI (itRange1 (mCons (mCall m__law_draw (mCons (mVar 0) (mCons (mOp dIx (mLst (mCons (mC (.int 2)) (mCons (mC (.int 4)) (mCons (mC (.int 11)) mNil)))) (mCall m__law_draw (mCons (mVar 0) (mCons (mC (.int 3)) mNil)))) mNil))) mNil)) (gmName 9) yearBody [some (.loc 1), some (.int most), some (.loc (kw + 2)), some (.lst ((ws.drop 2).map D.str)), some st, some (.lst (hs.map D.str)), some (.tupX (ms.map Lg.prD)), some (.tupX (bs.map Lg.prD)), some (.loc (kp + 2)), none, none, none] S6 = .next [some (.loc 1), some (.int most), some (.loc (kw + 2)), some (.lst ((ws.drop 2).map D.str)), some st, some (.lst (hs.map D.str)), some (.tupX (ms.map Lg.prD)), some (.tupX (bs.map Lg.prD)), some (.loc (kp + 2)), x, none, none] S8 := by
    unfold sForI
    rw [range_ok o1 (by omega)]
    exact f1
  have hS8 : S8[kp + 2]? = some (.lst (yrs.map yrD)) := by rw [i1.at, i2]
  -- the gap
  obtain ⟨r3, S9, l1, l2, l3⟩ := drawE (a := mVar 0) (b := mOp dPow (mC (.int 10)) (mC (.int 29))) (env := [some (.loc 1), some (.int most), some (.loc (kw + 2)), some (.lst ((ws.drop 2).map D.str)), some st, some (.lst (hs.map D.str)), some (.tupX (ms.map Lg.prD)), some (.tupX (bs.map Lg.prD)), some (.loc (kp + 2)), x, none, none]) (var_ok rfl) pow29 i1 (by omega) (by decide) (by decide)
  obtain ⟨r4, S10, n1, n2, n3⟩ := drawE (a := mVar 0) (b := mC (.int 7)) (env := [some (.loc 1), some (.int most), some (.loc (kw + 2)), some (.lst ((ws.drop 2).map D.str)), some st, some (.lst (hs.map D.str)), some (.tupX (ms.map Lg.prD)), some (.tupX (bs.map Lg.prD)), some (.loc (kp + 2)), x, none, none]) (var_ok rfl) c_ok l2 (by omega) (by decide) (by decide)
  have s7 : ∃ gap : Int, (0 ≤ gap ∧ gap < 10 ^ 29 + 100) ∧ sAsg (mOp dIx (mLst (mCons (mC (.int 0)) (mCons (mC (.int 1)) (mCons (mC (.int 1)) (mCons (mC (.int 2)) (mCons (mCall cLen (mCons (mVar 8) mNil)) (mCons (mOp dAdd (mCall cLen (mCons (mVar 8) mNil)) (mC (.int 1))) (mCons (mCall m__law_draw (mCons (mVar 0) (mCons (mOp dPow (mC (.int 10)) (mC (.int 29))) mNil))) mNil)))))))) (mCall m__law_draw (mCons (mVar 0) (mCons (mC (.int 7)) mNil)))) (gmName 10) [some (.loc 1), some (.int most), some (.loc (kw + 2)), some (.lst ((ws.drop 2).map D.str)), some st, some (.lst (hs.map D.str)), some (.tupX (ms.map Lg.prD)), some (.tupX (bs.map Lg.prD)), some (.loc (kp + 2)), x, none, none] S8 = .next [some (.loc 1), some (.int most), some (.loc (kw + 2)), some (.lst ((ws.drop 2).map D.str)), some st, some (.lst (hs.map D.str)), some (.tupX (ms.map Lg.prD)), some (.tupX (bs.map Lg.prD)), some (.loc (kp + 2)), x, some (.int gap), none] S10 := by
    have ly := lenL (a := mVar 8) (env := [some (.loc 1), some (.int most), some (.loc (kw + 2)), some (.lst ((ws.drop 2).map D.str)), some st, some (.lst (hs.map D.str)), some (.tupX (ms.map Lg.prD)), some (.tupX (bs.map Lg.prD)), some (.loc (kp + 2)), x, none, none]) (var_ok rfl) hS8
    have l := lst_ok (cons_ok (c_ok (d := .int 0)) (cons_ok (c_ok (d := .int 1)) (cons_ok (c_ok (d := .int 1)) (cons_ok (c_ok (d := .int 2)) (cons_ok ly (cons_ok (opv ly (c_ok (d := .int 1)) add_i) (cons_ok l1 nil_ok))))))) (show 7 ≤ sizeLine by decide)
    have hr : r4 = 0 ∨ r4 = 1 ∨ r4 = 2 ∨ r4 = 3 ∨ r4 = 4 ∨ r4 = 5 ∨ r4 = 6 := by omega
    rcases hr with rfl | rfl | rfl | rfl | rfl | rfl | rfl
    · exact ⟨0, by omega, by rw [asg_ok (opv l n1 (show _ = Res.ok (D.int 0) S10 from rfl))]; rfl⟩
    · exact ⟨1, by omega, by rw [asg_ok (opv l n1 (show _ = Res.ok (D.int 1) S10 from rfl))]; rfl⟩
    · exact ⟨1, by omega, by rw [asg_ok (opv l n1 (show _ = Res.ok (D.int 1) S10 from rfl))]; rfl⟩
    · exact ⟨2, by omega, by rw [asg_ok (opv l n1 (show _ = Res.ok (D.int 2) S10 from rfl))]; rfl⟩
    · exact ⟨((yrs.map yrD).length : Nat), by rw [List.length_map]; omega, by rw [asg_ok (opv l n1 (show _ = Res.ok (D.int ((yrs.map yrD).length : Nat)) S10 from rfl))]; rfl⟩
    · exact ⟨((yrs.map yrD).length : Nat) + 1, by rw [List.length_map]; omega, by rw [asg_ok (opv l n1 (show _ = Res.ok (D.int (((yrs.map yrD).length : Nat) + 1)) S10 from rfl))]; rfl⟩
    · exact ⟨(r3 : Nat), by omega, by rw [asg_ok (opv l n1 (show _ = Res.ok (D.int (r3 : Nat)) S10 from rfl))]; rfl⟩
  obtain ⟨gap, g0, s7⟩ := s7
  have az2 : ∀ p : PySem.Str × PySem.Str, p.1 ∈ ws ∧ p.2 ∈ ws → Az2 p := fun p h => ⟨(w5 _ h.1).az, (w5 _ h.2).az⟩
  have msN : ∀ m ∈ ms, m.1 ∈ ws.drop 2 := fun m hm => (List.of_mem_zip (show (m.1, m.2) ∈ List.zip (ws.drop 2) hh from m3 m hm)).1
  have wsd : ∀ x ∈ ws.take 2, x ∉ Nam ms := fun x hx hm => by
    obtain ⟨m, hm', rfl⟩ := List.mem_map.mp hm
    have e := w4
    rw [← List.take_append_drop 2 ws] at e
    exact (List.nodup_append.mp e).2.2 _ hx _ (msN m hm') rfl
  have tks : ∀ x ∈ ws.take 2, Nm x := fun x hx => w5 x (List.mem_of_mem_take hx)
  rw [tk] at wsd tks
  have ne01 : sw0 ≠ sw1 := by
    have e := w4
    rw [← List.take_append_drop 2 ws] at e
    have := (List.nodup_append.mp e).1
    rw [tk] at this
    simpa using this
  have hst2 : st = .lst [.str sw0, .str sw1] := by rw [← hst, tk]; rfl
  have m6 : ms.Pairwise pLt := by
    have h2 := List.pairwise_map.mp m4
    refine (m5.and h2).imp fun {a b} h => ?_
    rcases pLt_so.tri a b with q | q | q
    · exact q
    · exact absurd (by rw [q]) h.2
    · exact absurd q h.1
  refine ⟨ms, bs, yrs, gap, sw0, sw1, R', S10, def_run rfl ?_, n2.mono (by omega), i4, ⟨okm.1, fun m hm => ⟨(okm.2 m hm).1, (okm.2 m hm).2.1⟩, m4, by omega, by omega, by omega, fun b hb => az2 b (v4 b hb), fun y hy p hp => az2 p ((i6 y hy).1 p hp), g0.1, rise_fst m6 m4, v45, fun y hy => (i6 y hy).2.1, by omega, fun y hy => Nat.le_trans (i6 y hy).2.2 (by decide), fun b hb => ⟨w5 _ (v4 b hb).1, w5 _ (v4 b hb).2⟩, fun y hy p hp => ⟨w5 _ ((i6 y hy).1 p hp).1, w5 _ ((i6 y hy).1 p hp).2⟩, fun m hm => (okm.2 m hm).2.2, by omega, by omega, fun y hy => (i6 y hy).2.2⟩, ⟨by omega, by omega, tks _ (by simp), tks _ (by simp), ne01, wsd _ (by simp), wsd _ (by simp)⟩, i45⟩
  rw [show PaD ms bs yrs gap sw0 sw1 = .tup [.tupX (ms.map Lg.prD), .tupX (bs.map Lg.prD), .tupX (yrs.map yrD), .int gap, st] by rw [hst2]; rfl]
  show sSeq _ _ [some (.loc 1), some (.int most), none, none, none, none, none, none, none, none, none, none] S = _
  rw [sq s1, sq s2, sq s3, sq s4, sq s5, sq s6, sq s7]
  have hS10 : S10[kp + 2]? = some (.lst (yrs.map yrD)) := by rw [n2.at, i2]
  have ct : mCall cTupX (mCons (mVar 8) mNil) [some (.loc 1), some (.int most), some (.loc (kw + 2)), some (.lst ((ws.drop 2).map D.str)), some st, some (.lst (hs.map D.str)), some (.tupX (ms.map Lg.prD)), some (.tupX (bs.map Lg.prD)), some (.loc (kp + 2)), x, some (.int gap), none] S10 = .ok (.tupX (yrs.map yrD)) S10 := by
    rw [call_ok (cons_ok (var_ok rfl) nil_ok)]
    have e : asL (.loc (kp + 2)) S10 = some (yrs.map yrD) := by
      unfold asL
      simp only [hS10]
    show (match asL (.loc (kp + 2)) S10 with | some xs => Res.ok (D.tupX xs) S10 | none => .stuck) = _
    rw [e]
  exact ret_ok (tup_ok (cons_ok (var_ok rfl) (cons_ok (var_ok rfl) (cons_ok ct (cons_ok (var_ok rfl) (cons_ok (var_ok rfl) nil_ok))))) (show 5 ≤ sizeLine by decide))
end Lw

namespace Lw
open PySem L2 Lg
theorem pl_prs {d : D} {ps : Ps} (td : Tp d (ps.map Lg.prD)) (h : ∀ p ∈ ps, Az2 p) : Pl d (.tuple (ps.map prP)) ∧ (PyData.tuple (ps.map prP)).depth ≤ 2 := td.pl (fun p hp => ⟨.pr (h p hp), dep_pr p⟩) (by decide)
theorem pl_yrs {d : D} {ys : List Ps} (td : Tp d (ys.map yrD)) (h : ∀ y ∈ ys, ∀ p ∈ y, Az2 p) : Pl d (.tuple (ys.map yrP)) ∧ (PyData.tuple (ys.map yrP)).depth ≤ 3 := td.pl (fun y hy => pl_prs .x (h y hy)) (by decide)
/-- a few things of any kind -/
structure Few where
  d : D
  p : PyData
theorem pl_few {n : Nat} (l : List Few) (h : ∀ x ∈ l, Pl x.d x.p ∧ x.p.depth ≤ n) (hn : n < 20) : Pl (.tup (l.map (·.d))) (.tuple (l.map (·.p))) ∧ (PyData.tuple (l.map (·.p))).depth ≤ n + 1 := Pl.tup l h hn
theorem pl_four {m b p : D} {ms bs : Ps} {ys : List Ps} {g : Int} (tm : Tp m (ms.map Lg.prD)) (tb : Tp b (bs.map Lg.prD)) (tp : Tp p (ys.map yrD)) (h1 : ∀ p ∈ ms, Az2 p) (h2 : ∀ p ∈ bs, Az2 p) (h3 : ∀ y ∈ ys, ∀ p ∈ y, Az2 p) :
    Pl (.tup [m, b, p, .int g]) (.tuple [.tuple (ms.map prP), .tuple (bs.map prP), .tuple (ys.map yrP), .int g]) := by
  have := pl_few (n := 3) [⟨m, .tuple (ms.map prP)⟩, ⟨b, .tuple (bs.map prP)⟩, ⟨p, .tuple (ys.map yrP)⟩, ⟨.int g, .int g⟩] (fun x hx => by
    simp only [List.mem_cons, List.not_mem_nil, or_false] at hx
    rcases hx with rfl | rfl | rfl | rfl
    · exact ⟨(pl_prs tm h1).1, Nat.le_trans (pl_prs tm h1).2 (by decide)⟩
    · exact ⟨(pl_prs tb h2).1, Nat.le_trans (pl_prs tb h2).2 (by decide)⟩
    · exact pl_yrs tp h3
    · exact ⟨.int g, by simp [PyData.depth]⟩) (by decide)
  exact this.1
theorem ne_pr {p q : Pr} (hp : Az2 p) (hq : Az2 q) (S : Store) : dNeA (Lg.prD p) (Lg.prD q) S = .ok (.bl (!decide (p = q))) S := by
  have e : dEqB (Lg.prD p) (Lg.prD q) S = some (decide (p = q)) := by
    unfold dEqB
    rw [(Pl.pr hp).of S, (Pl.pr hq).of S]
    simp only [(Pl.pr hp).shaped, (Pl.pr hq).shaped, and_self, if_true]
    rw [eqv_pr]
  show dNe (Lg.prD p) (Lg.prD q) S = _
  unfold dNe; rw [e]
theorem eq_pr {p q : Pr} (hp : Az2 p) (hq : Az2 q) (S : Store) : dEqA (Lg.prD p) (Lg.prD q) S = .ok (.bl (decide (p = q))) S := by
  have e : dEqB (Lg.prD p) (Lg.prD q) S = some (decide (p = q)) := by
    unfold dEqB
    rw [(Pl.pr hp).of S, (Pl.pr hq).of S]
    simp only [(Pl.pr hp).shaped, (Pl.pr hq).shaped, and_self, if_true]
    rw [eqv_pr]
  show dEq (Lg.prD p) (Lg.prD q) S = _
  unfold dEq; rw [e]
/-- how often a law turns: lo to hi times -/
theorem turns {lo hi : Nat} (lh : lo ≤ hi) {ns : List Int} (hn : ns.length ≤ 63) {env : En} (h0 : env[0]? = some (some (.scr ns))) (S : Store) : ∃ m : Nat, m ≤ hi ∧ mCall cMax2 (mCons (mC (.int lo)) (mCons (mCall cMin2 (mCons (mCall cLen (mCons (mVar 0) mNil)) (mCons (mC (.int hi)) mNil))) mNil)) env S = .ok (.int m) S := by
  have z63 : ns.length ≤ sizeLine := Nat.le_trans hn (by decide)
  have ln : mCall cLen (mCons (mVar 0) mNil) env S = .ok (.int ns.length) S := (call_ok (cons_ok (var_ok h0) nil_ok)).trans rfl
  have mn : mCall cMin2 (mCons (mCall cLen (mCons (mVar 0) mNil)) (mCons (mC (.int hi)) mNil)) env S = .ok (.int (if (hi : Int) < (ns.length : Int) then (hi : Int) else (ns.length : Int))) S := (call_ok (cons_ok ln (cons_ok c_ok nil_ok))).trans rfl
  have mx := (call_ok (f := cMax2) (cons_ok (c_ok (d := .int lo)) (cons_ok mn nil_ok)))
  have mx2 : ∀ v : Int, cMax2 [.int lo, .int v] S = .ok (.int (if v > (lo : Int) then v else lo)) S := fun _ => rfl
  rw [mx2] at mx
  by_cases h6 : (hi : Int) < (ns.length : Int)
  · rw [if_pos h6] at mx
    by_cases h7 : (hi : Int) > lo
    · rw [if_pos h7] at mx; exact ⟨hi, Nat.le_refl _, mx⟩
    · rw [if_neg h7] at mx; exact ⟨lo, lh, mx⟩
  · rw [if_neg h6] at mx
    by_cases h3 : (ns.length : Int) > lo
    · rw [if_pos h3] at mx; exact ⟨ns.length, by omega, mx⟩
    · rw [if_neg h3] at mx; exact ⟨lo, lh, mx⟩
theorem pot0 (ns : List Int) (hn : ns.length ≤ 63) : PO 0 [] (Pot [] ns 0 3 0) := ⟨ns, 0, 3, 0, rfl, by decide, hn, by decide, by decide⟩
end Lw

namespace Lw
open PySem L2 Lg
def Lo (s : PySem.Str) : Prop := ∀ c ∈ s.cps.toList, c < 128
theorem Lo.az {s : PySem.Str} (h : Az s) : Lo s := fun c hc => Nat.lt_of_le_of_lt (h c hc).2 (by decide)
theorem Lo.small {s : PySem.Str} (h : Lo s) : ∀ c ∈ s.cps.toList, c < 16 ^ 8 := fun c hc => Nat.lt_trans (h c hc) (by decide)
theorem app_cps (a b : PySem.Str) : (a ++ b).cps.toList = a.cps.toList ++ b.cps.toList := by
  show (a.cps ++ b.cps).toList = _
  simp
theorem len_cps (a : PySem.Str) : a.length = a.cps.toList.length := by simp [PySem.Str.length]
theorem app_len (a b : PySem.Str) : (a ++ b).length = a.length + b.length := by rw [len_cps, len_cps, len_cps, app_cps, List.length_append]
theorem Lo.app {a b : PySem.Str} (ha : Lo a) (hb : Lo b) : Lo (a ++ b) := fun c hc => by
  rw [app_cps] at hc
  exact (List.mem_append.mp hc).elim (ha c) (hb c)
theorem Lo.cut {z : PySem.Str} (h : Lo z) (i j : Option Int) : Lo (cutS z i j) := fun c hc => by
  unfold cutS at hc
  exact h c (List.mem_of_mem_drop (List.mem_of_mem_take (by simpa using hc)))
theorem cut_len (z : PySem.Str) (i j : Option Int) : (cutS z i j).length ≤ z.length := by
  rw [len_cps, len_cps]
  unfold cutS
  simp only [List.length_take, List.length_drop]
  omega
theorem up_cps {z : PySem.Str} (h : Lo z) : (Txt.upper z).cps.toList = z.cps.toList.map PyProof.Rows.up1 := by
  rw [PyProof.Rows.upper_ascii h]
  simp
theorem Lo.up {z : PySem.Str} (h : Lo z) : Lo (Txt.upper z) := fun c hc => by
  rw [up_cps h] at hc
  obtain ⟨x, hx, rfl⟩ := List.mem_map.mp hc
  have := h x hx
  unfold PyProof.Rows.up1
  split <;> omega
theorem up_len {z : PySem.Str} (h : Lo z) : (Txt.upper z).length = z.length := by rw [len_cps, len_cps, up_cps h, List.length_map]
theorem lay_lo {s : PySem.Str} (h : Lo s) : PyData.canLay0 (.str s) = true := by
  unfold PyData.canLay0 PyData.strOk
  rw [Array.all_eq_true_iff_forall_mem]
  intro c hc
  have := h c (Array.mem_toList_iff.mpr hc)
  simp; omega
theorem pl_lo {s : PySem.Str} (h : Lo s) : Pl (.str s) (.str s) := ⟨rfl, lay_lo h, by simp [PyData.depth]⟩
/-! ### in a list of texts -/
section
variable {l : List PySem.Str} {S : Store}
theorem in_lst {d : D} {p : PyData} (hp : Pl d p) (az : ∀ a ∈ l, Lo a) (S : Store) : dIn d (.lst (l.map D.str)) S = .ok (.bl (l.any fun a => PyData.eqv (.str a) p)) S := by
  have q := (Pl.lst (n := 0) (d := D.str) (f := PyData.str) l (fun a ha => ⟨pl_lo (az a ha), by simp [PyData.depth]⟩) (by decide)).1
  unfold dIn dInB
  rw [hp.of S, q.of S]
  simp only [hp.shaped, q.shaped, and_self, if_true]
  unfold pyL
  rw [List.any_map]
  rfl
theorem notE {d : D} {p : PyData} (hp : Pl d p) (he : isEmpD d = false) (az : ∀ a ∈ l, Lo a) (S : Store) : dNotInE d (.lst (l.map D.str)) S = .ok (.bl (!l.any fun a => PyData.eqv (.str a) p)) S := by
  have h := notin_of (in_lst hp az S)
  unfold dNotInE
  rw [he]
  exact h
theorem notE_str {s : PySem.Str} (hs : Lo s) (az : ∀ a ∈ l, Lo a) (S : Store) : dNotInE (.str s) (.lst (l.map D.str)) S = .ok (.bl (!decide (s ∈ l))) S := by
  rw [notE (pl_lo hs) rfl az]
  congr 3
  rw [Bool.eq_iff_iff, List.any_eq_true, decide_eq_true_iff]
  constructor
  · rintro ⟨a, ha, e⟩
    rw [eqv_str] at e
    exact of_decide_eq_true e ▸ ha
  · intro h
    exact ⟨s, h, by rw [eqv_str]; exact decide_eq_true rfl⟩
theorem notX_str {s : PySem.Str} (hs : Lo s) (az : ∀ a ∈ l, Lo a) (S : Store) : dNotInX (.str s) (.lst (l.map D.str)) S = .ok (.bl (!decide (s ∈ l))) S := notE_str hs az S
theorem txs_strs : ∀ l : List PySem.Str, txs (l.map D.str) = some l
  | [] => rfl
  | a :: l => by
    rw [List.map_cons, txs, txs_strs l]; rfl
theorem notE_emp (b : Bool) (S : Store) : dNotInE (.emp b) (.lst (l.map D.str)) S = .ok (.bl true) S := by
  have e : txsL (.lst (l.map D.str)) S = some l := by
    show (some (l.map D.str)).bind txs = _
    exact txs_strs l
  unfold dNotInE
  rw [e]
  rfl
end
end Lw

namespace Lw
open PySem L2 Lg
local macro_rules
  | `(tactic| simp? [$ls,*]) => `(tactic| simp only [wp_ok, wp_var, wp_c, wp_op, wp_un, wp_nil, wp_cons, wp_tup, wp_lst, wp_lstL, wp_call, wp_if, wp_val, wp_band, wp_bor, wp_bnot, wp_byes, wp_andV, wp_orV, wp_notV, wp_chain, wp_rng, wp_isi, wp_isO, wp_isX, wp_xg, wp_fldO, wp_meth, wp_make, wp_js0, wp_js1, wp_sl, wp_onone, wp_osome, wp_bmt, wp_dget, wp_star, wp_emp, wp_newK, wp_newT, wp_seq, wp_zip, wp_enum, wp_range1, wp_lc, wp_lcL, wp_lc2, wp_dcL, wp_pairs0, wp_pairs1, wp_disp, wps_next, wps_brk, wps_cont, wps_seq, wps_ret, wps_retN, wps_drop, wps_if, wps_asg, wpg_name, wpg_nil1, wpg_cons1, wpg_tup, wpg_sub, wps_par, wps_fld, wps_forI, wps_tryC, wp_def, startE, List.length_cons, List.length_nil, List.map_cons, List.map_nil, List.replicate, List.cons_append, List.nil_append, List.append_nil, List.getElem?_cons_zero, List.getElem?_cons_succ, List.set_cons_zero, List.set_cons_succ, wipeE, Option.some.injEq, exists_eq_left', exists_eq_left, exists_eq, exists_eq', D.bl.injEq, D.str.injEq, D.int.injEq, D.loc.injEq, true_and, and_true, forall_const, reduceCtorEq, false_implies, implies_true, Nat.reduceAdd, Nat.reduceSub, Nat.zero_add, sqd_l, sqd_t, sqd_x, tpd_t, tpd_x, ass_l, ass_t, ass_x, kd_non, kd_bl, kd_int, kd_str, kd_tup, kd_tupX, kd_lst, kd_emp, inn_loc, inn_non, inn_str, inn_int, inn_bl, inn_tup, inn_lst, inn_tupX, zpo_l, zpo_tt, zpo_tx, zpo_xt, zpo_xx, eno_l, eno_t, eno_x, inX_t, inX_l, inX_s, inX_x, notInX_t, notInX_l, notInX_s, notInX_x, tupx_l, sz0, sz1, sz2, sz3, sz4, sz5, sz6, sz7, sz8, sz9, sz10, sz11, sz12, sz13, sz14, sz15, sz16, sz17, sz18, sz19, sz20, sz21, sz22, sz23, sz24, decide_true, decide_false, false_and, and_false, false_or, or_false, isn, Option.isSome_none, Option.isSome_some, Bool.true_eq_false, Bool.false_eq_true, Bool.not_true, Bool.not_false, List.cons.injEq, exists_and_left, $ls,*])
/-! ### rising -/
theorem ltA_sr {α : Type} {d : α → D} {p : α → PyData} {lt : α → α → Prop} [DecidableRel lt] (r : Sr d p lt) (ni : ∀ a i, d a ≠ .int i) (a b : α) (S : Store) : dLtA (d a) (d b) S = .ok (.bl (decide (lt a b))) S := by
  have nb : noneB (p a) = false := by
    rcases r.so with h | h
    · have := h a
      cases e : p a <;> rw [e] at this <;> first | rfl | simp [tupB] at this
    · have := h a
      cases e : p a <;> rw [e] at this <;> first | rfl | simp [othB] at this
  have key : ∀ x y : D, x.py = some (p a) → y.py = some (p b) → (match pyOf x S, pyOf y S with
    | some p, some q => if PySem.W.alike p q = true ∧ noneB p = false ∧ min p.depth q.depth ≤ 40 then Res.ok (D.bl (PySem.W.dataLt p q)) S else .stuck
    | _, _ => .stuck) = Res.ok (D.bl (decide (lt a b))) S := by
    intro x y hx hy
    have e1 : pyOf x S = some (p a) := by cases x <;> first | exact hx | (simp [D.py] at hx)
    have e2 : pyOf y S = some (p b) := by cases y <;> first | exact hy | (simp [D.py] at hy)
    rw [e1, e2]
    show (if _ then _ else _) = _
    rw [if_pos ⟨r.al a b, nb, Nat.le_trans (Nat.min_le_left _ _) (r.dep a)⟩, r.lt]
  have k := key (d a) (d b) (r.py a) (r.py b)
  unfold dLtA
  split
  · rename_i i j e1 e2
    exact absurd e1 (ni a i)
  · exact k
def isRise {α : Type} (lt : α → α → Prop) [DecidableRel lt] (xs : List α) : Bool := (List.zip xs (xs.drop 1)).all fun q => decide (lt q.1 q.2)
theorem pw_rise {α : Type} {lt : α → α → Prop} [DecidableRel lt] : ∀ {xs : List α}, xs.Pairwise lt → isRise lt xs = true
  | [], _ => rfl
  | [x], _ => rfl
  | x :: y :: xs, h => by
    have ih := pw_rise (List.pairwise_cons.mp h).2
    have hxy := (List.pairwise_cons.mp h).1 y List.mem_cons_self
    unfold isRise at ih ⊢
    simp only [List.drop_succ_cons, List.drop_zero, List.zip_cons_cons, List.all_cons, Bool.and_eq_true, decide_eq_true_iff] at ih ⊢
    exact ⟨hxy, ih⟩
theorem rise_pw {α : Type} {lt : α → α → Prop} [DecidableRel lt] (o : SO lt) : ∀ {xs : List α}, isRise lt xs = true → xs.Pairwise lt
  | [], _ => .nil
  | [x], _ => by simp
  | x :: y :: xs, h => by
    unfold isRise at h
    simp only [List.drop_succ_cons, List.drop_zero, List.zip_cons_cons, List.all_cons, Bool.and_eq_true, decide_eq_true_iff] at h
    have ih := rise_pw o (xs := y :: xs) h.2
    refine List.pairwise_cons.mpr ⟨fun z hz => ?_, ih⟩
    rcases List.mem_cons.mp hz with rfl | hz
    · exact h.1
    · exact o.tr _ _ _ h.1 ((List.pairwise_cons.mp ih).1 z hz)
theorem zip_tup {α : Type} (inj : α → D) : ∀ xs ys : List α, zipD (xs.map inj) (ys.map inj) = (List.zip xs ys).map fun q => D.tup [inj q.1, inj q.2]
  | [], _ => by simp [zipD]
  | _ :: _, [] => by simp [zipD]
  | x :: xs, y :: ys => by
    have := zip_tup inj xs ys
    unfold zipD at this ⊢
    simp only [List.map_cons, List.zipWith_cons_cons, List.zip_cons_cons, this]
theorem all_wp {bs : List Bool} {S : Store} : cAll [.lst (bs.map D.bl)] S = .ok (.bl (bs.all id)) S := by
  unfold cAll; simp only [asL, bls_bl]
theorem cut_drop1 (xs : List D) : cutD xs (some 1) none = xs.drop 1 := by
  cases xs with
  | nil => rfl
  | cons x xs => exact cut_drop _ 1 (by simp)
/-- a tuple or a list -/
def Sq (d : D) (ds : List D) : Prop := Tp d ds ∨ d = .lst ds
theorem Sq.seq {d : D} {ds : List D} (h : Sq d ds) : seqD d = some ds := by
  rcases h with h | rfl
  · exact h.seq
  · rfl
theorem Sq.tail {d : D} {ds : List D} (h : Sq d ds) (S : Store) : ∃ e, dSl d (some 1) none S = .ok e S ∧ zipO [d, e] = some (zipD ds (ds.drop 1)) := by
  rcases h with h | rfl
  · obtain ⟨e, h1, h2⟩ := h.sl (some 1) none S
    rw [cut_drop1] at h2
    exact ⟨e, h1, h.zip h2⟩
  · exact ⟨.lst (ds.drop 1), by show Res.ok (D.lst (cutD ds (some 1) none)) S = _; rw [cut_drop1], rfl⟩
theorem rising_ok {α : Type} {d : D} {inj : α → D} {p : α → PyData} {lt : α → α → Prop} [DecidableRel lt] (r : Sr inj p lt) (ni : ∀ a i, inj a ≠ .int i) {xs : List α} (h : Sq d (xs.map inj)) (hl : xs.length ≤ sizeLine) (S : Store) : m_is_rising [d] S = .ok (.bl (isRise lt xs)) S := by
  refine eq_wp ?_
  obtain ⟨e, e1, e2⟩ := h.tail S
  unfold m_is_rising
  simp? [e1, e2]
  rw [← List.map_drop, zip_tup]
  refine lc_wp (fun q : α × α => D.tup [inj q.1, inj q.2]) (fun _ => true) (fun q => .bl (decide (lt q.1 q.2))) (fun S' => S' = S) (List.zip xs (xs.drop 1)) rfl (by rw [List.length_zip]; omega) (fun q _ S' hS => ?_) (fun S' hS => ?_)
  · subst hS
    simp? [ltA_sr r ni]
  · subst hS
    rw [List.filter_eq_self.mpr fun _ _ => rfl]
    have := all_wp (bs := (List.zip xs (xs.drop 1)).map fun q => decide (lt q.1 q.2)) (S := S')
    rw [List.map_map] at this
    simp? [show cAll [.lst ((List.zip xs (xs.drop 1)).map fun q => D.bl (decide (lt q.1 q.2)))] S' = _ from this]
    unfold isRise
    rw [List.all_map]; rfl
/-! ### drawings -/
structure Dr (ps : Ps) : Prop where
  n1 : ∀ q ∈ ps, Nm q.1
  n2 : ∀ q ∈ ps, Nm q.2
  rise : (Nam ps).Pairwise sLt
  perm : (ps.map (·.2)).Perm (Nam ps)
  len : ps.length ≤ 1000
theorem Dr.nd {ps : Ps} (h : Dr ps) : (Nam ps).Nodup := lt_nodup sLt_so h.rise
theorem Dr.az {ps : Ps} (h : Dr ps) : ∀ q ∈ ps, Az2 q := fun q hq => ⟨(h.n1 q hq).az, (h.n2 q hq).az⟩
def DrO (p : D) : Ob := .ins 12 [("pairs", p)]
theorem pair_ok {q : Pr} (h1 : Nm q.1) (h2 : Nm q.2) (S : Store) : m_is_pair [Lg.prD q] S = .ok (.bl true) S := by
  refine eq_wp ?_
  have k : kindD (Lg.prD q) S = some "tuple" := rfl
  have kt : kitB "tuple" "tuple" = some true := by decide +kernel
  have l2 : cLen [Lg.prD q] S = .ok (.int 2) S := rfl
  have i0 : dIx (Lg.prD q) (.int 0) S = .ok (.str q.1) S := rfl
  have i1 : dIx (Lg.prD q) (.int 1) S = .ok (.str q.2) S := rfl
  unfold m_is_pair
  simp? [k, kt, l2, eqI, i0, i1, isname_str _ h1.short, isname_str _ h2.short, (nm_iff _).mpr h1, (nm_iff _).mpr h2]
theorem pairs_ok {d : D} {ps : Ps} (td : Tp d (ps.map Lg.prD)) (h1 : ∀ q ∈ ps, Nm q.1 ∧ Nm q.2) (hl : ps.length ≤ 1000) (S : Store) : m_are_pairs [d] S = .ok (.bl (isRise pLt ps)) S := by
  refine eq_wp ?_
  have kt : kitB "tuple" "tuple" = some true := by decide +kernel
  unfold m_are_pairs
  simp? [td.kd, td.seq, kt]
  refine lc_wp Lg.prD (fun _ => true) (fun _ => .bl true) (fun S' => S' = S) ps rfl (Nat.le_trans hl (by decide)) (fun q hq S' hS => ?_) (fun S' hS => ?_)
  · subst hS
    simp? [pair_ok (h1 q hq).1 (h1 q hq).2]
  · subst hS
    rw [List.filter_eq_self.mpr fun _ _ => rfl]
    have := all_wp (bs := ps.map fun _ => true) (S := S')
    rw [List.map_map] at this
    simp? [show cAll [.lst (ps.map fun _ => D.bl true)] S' = _ from this]
    have t : (ps.map fun _ => true).all id = true := by simp
    simp? [t, rising_ok sr_pr (fun _ _ => nofun) (.inl td) (Nat.le_trans hl (by decide))]
theorem drawing_ok {d : D} {ps : Ps} (td : Tp d (ps.map Lg.prD)) (h : Dr ps) (S : Store) : m_are_drawing [d] S = .ok (.bl true) S := by
  refine eq_wp ?_
  have hp := pairs_ok td (fun q hq => ⟨h.n1 q hq, h.n2 q hq⟩) h.len S
  rw [pw_rise (fst_rise h.rise)] at hp
  have e : ∀ q : Pr, tupD (Lg.prD q) = some [.str q.1, .str q.2] := fun _ => rfl
  unfold m_are_drawing
  simp? [hp, td.seq]
  refine lc_wp Lg.prD (fun _ => true) (fun q => .str q.1) (fun S' => S' = S) ps rfl (Nat.le_trans h.len (by decide)) (fun q hq S' hS => ?_) (fun S' hS => ?_)
  · subst hS
    simp? [e]
  · subst hS
    rw [List.filter_eq_self.mpr fun _ _ => rfl]
    have r := rising_ok (inj := D.str) (p := PyData.str) (lt := sLt) (d := .lst (ps.map fun q => .str q.1)) (xs := Nam ps) sr_str (fun _ _ => nofun) (.inr (by rw [List.map_map]; rfl)) (by rw [List.length_map]; exact Nat.le_trans h.len (by decide)) S'
    rw [pw_rise h.rise] at r
    simp? [r, td.seq]
    refine lc_wp Lg.prD (fun _ => true) (fun q => .str q.2) (fun S => S = S') ps rfl (Nat.le_trans h.len (by decide)) (fun q hq S' hS => ?_) (fun S hS => ?_)
    · subst hS
      simp? [e]
    · subst hS
      rw [List.filter_eq_self.mpr fun _ _ => rfl]
      have so := sr_str.sortA (ps.map (·.2)) (S := S) (x := .lst (ps.map fun q => .str q.2)) (by rw [List.map_map]; rfl)
      rw [srt_id sLt_so h.rise h.perm] at so
      have pe := (Pl.lst (n := 0) (d := D.str) (f := PyData.str) (Nam ps) (fun a ha => ⟨.str (nam_az h.n1 ha).az, by simp [PyData.depth]⟩) (by decide)).1.eq S
      rw [List.map_map] at so pe
      simp? [so]
      simp? [show dEqA (.lst (ps.map (D.str ∘ fun x => x.1))) (.lst (ps.map fun q => .str q.1)) S = _ from pe]
theorem drawing_init {d : D} {ps : Ps} (td : Tp d (ps.map Lg.prD)) (h : Dr ps) (S : Store) : m_Drawing_init [.loc S.length, d] (S ++ [.ins 12 []]) = .ok .non (S ++ [DrO d]) := by
  refine eq_wp ?_
  unfold m_Drawing_init
  simp? [drawing_ok td h]
  refine ⟨_, at_last _ _, by simp, ?_⟩
  rw [set_last]; rfl
section
variable {n : Nat} {S : Store} {p : D} {ps : Ps}
theorem dr_p (h : S[n]? = some (DrO p)) : fldO ok_of_pairs "pairs" (.loc n) S = some p := by simp only [fldO, insF, h, DrO]; rfl
theorem dr_o (h : S[n]? = some (DrO p)) {f : PySem.Str} (hf : List.lookup f [(("pairs" : PySem.Str), p)] = none) : methOk 12 f (.loc n) S = true := by
  simp only [methOk, insAt, h, DrO, if_true, hf, Option.isNone]
theorem dr_c (h : S[n]? = some (DrO p)) : insC (.loc n) S = some 12 := by simp only [insC, h, DrO]
theorem dr_k (h : S[n]? = some (DrO p)) : kindD (.loc n) S = none := by simp only [kindD, h, DrO]
theorem dnames_ok (h : S[n]? = some (DrO p)) (tp : Tp p (ps.map Lg.prD)) (hl : ps.length ≤ 1000) : m_Drawing_names [.loc n] S = .ok (.tupX ((Nam ps).map D.str)) S := by
  refine eq_wp ?_
  unfold m_Drawing_names
  simp? [dr_p h, tp.seq]
  refine lc_wp Lg.prD (fun _ => true) (fun q => .str q.1) (fun S' => S' = S) ps rfl (Nat.le_trans hl (by decide)) (fun q _ S' hS => ?_) (fun S' hS => ?_)
  · subst hS
    have e : tupD (Lg.prD q) = some [.str q.1, .str q.2] := rfl
    simp? [e]
  · subst hS
    rw [List.filter_eq_self.mpr fun _ _ => rfl]
    simp? [tupx_l]
    rw [List.map_map]; rfl
/-- who is given to by this one, who gives to this one -/
def takOf (ps : Ps) (a : PySem.Str) : PySem.Str := ((ps.find? fun q => decide (q.1 = a)).map (·.2)).getD ""
def givOf (ps : Ps) (a : PySem.Str) : PySem.Str := ((ps.find? fun q => decide (q.2 = a)).map (·.1)).getD ""
theorem pairsD_prs : ∀ ps : Ps, pairsD (ps.map Lg.prD) = some (ps.map fun q => (.inr q.1, .str q.2))
  | [] => rfl
  | q :: ps => by
    show pairsD (.tup [.str q.1, .str q.2] :: ps.map Lg.prD) = _
    unfold pairsD
    rw [pairsD_prs ps]
    rfl
theorem find_kv {f : Pr → PySem.Str} {v : Pr → PySem.Str} (a : PySem.Str) : ∀ ps : Ps, ((ps.map fun q => ((Sum.inr (f q) : Key), D.str (v q))).find? fun kv => decide (kv.1 = .inr a)).map (·.2) = ((ps.find? fun q => decide (f q = a)).map fun q => D.str (v q))
  | [] => rfl
  | q :: ps => by
    rw [List.map_cons, List.find?_cons, List.find?_cons]
    by_cases h : f q = a
    · have : (Sum.inr (f q) : Key) = .inr a := by rw [h]
      simp [h]
    · have : ¬ (Sum.inr (f q) : Key) = .inr a := fun e => h (Sum.inr.inj e)
      simp only [h, this, decide_false]
      exact find_kv a ps
theorem val_kv {f : Pr → PySem.Str} {v : Pr → PySem.Str} {a : PySem.Str} {ps : Ps} (nd : (ps.map f).Nodup) (ha : a ∈ ps.map f) : valD (mergeD (ps.map fun q => ((Sum.inr (f q) : Key), D.str (v q)))) (.inr a) = some (.str (((ps.find? fun q => decide (f q = a)).map v).getD "")) := by
  rw [merge_nd (by rw [List.map_map]; exact map_nd (f := fun s : PySem.Str => (Sum.inr s : Key)) (fun _ _ e => Sum.inr.inj e) _ nd |> fun h => by rwa [List.map_map] at h)]
  unfold valD
  rw [find_kv]
  obtain ⟨q, hq, rfl⟩ := List.mem_map.mp ha
  cases e : ps.find? (fun x => decide (f x = f q)) with
  | none => exact absurd (decide_eq_true rfl) (List.find?_eq_none.mp e q hq)
  | some x => rfl
theorem flat_dr {d : D} {ps : Ps} (td : Tp d (ps.map Lg.prD)) : Flat (DrO d) := fun n => by
  have a : unds n (ps.map Lg.prD) = true := unds_map (fun p => und_pr p n) ps
  simp [DrO, Ob.und, undkv, td.und a]
theorem flat_dK {kvs : List (Key × D)} (h : ∀ kv ∈ kvs, (kv.2 = .bl true ∨ ∃ s, kv.2 = .str s)) : Flat (.dK kvs) := fun n => by
  have e : undkv n kvs = true := List.all_eq_true.mpr fun kv hkv => by rcases h kv hkv with e | ⟨s, e⟩ <;> rw [e] <;> rfl
  exact e
end
end Lw

namespace Lw
open PySem L2 Lg
local macro_rules
  | `(tactic| simp? [$ls,*]) => `(tactic| simp only [wp_ok, wp_var, wp_c, wp_op, wp_un, wp_nil, wp_cons, wp_tup, wp_lst, wp_lstL, wp_call, wp_if, wp_val, wp_band, wp_bor, wp_bnot, wp_byes, wp_andV, wp_orV, wp_notV, wp_chain, wp_rng, wp_isi, wp_isO, wp_isX, wp_xg, wp_fldO, wp_meth, wp_make, wp_fmt, exists_false, wp_js0, wp_js1, wp_sl, wp_onone, wp_osome, wp_bmt, wp_dget, wp_star, wp_emp, wp_newK, wp_newT, wp_seq, wp_zip, wp_enum, wp_range1, wp_lc, wp_lcL, wp_lc2, wp_dcL, wp_pairs0, wp_pairs1, wp_disp, wps_next, wps_brk, wps_cont, wps_seq, wps_ret, wps_retN, wps_drop, wps_if, wps_asg, wpg_name, wpg_nil1, wpg_cons1, wpg_tup, wpg_sub, wps_par, two_ok, wps_fld, wps_forI, wps_tryC, wp_def, startE, List.length_cons, List.length_nil, List.map_cons, List.map_nil, List.replicate, List.cons_append, List.nil_append, List.append_nil, List.getElem?_cons_zero, List.getElem?_cons_succ, List.set_cons_zero, List.set_cons_succ, wipeE, Option.some.injEq, exists_eq_left', exists_eq_left, exists_eq, exists_eq', D.bl.injEq, D.str.injEq, D.int.injEq, D.loc.injEq, true_and, and_true, forall_const, reduceCtorEq, false_implies, implies_true, Nat.reduceAdd, Nat.reduceSub, Nat.zero_add, sqd_l, sqd_t, sqd_x, tpd_t, tpd_x, ass_l, ass_t, ass_x, kd_non, kd_bl, kd_int, kd_str, kd_tup, kd_tupX, kd_lst, kd_emp, inn_loc, inn_non, inn_str, inn_int, inn_bl, inn_tup, inn_lst, inn_tupX, zpo_l, zpo_tt, zpo_tx, zpo_xt, zpo_xx, eno_l, eno_t, eno_x, inX_t, inX_l, inX_s, inX_x, notInX_t, notInX_l, notInX_s, notInX_x, tupx_l, sz0, sz1, sz2, sz3, sz4, sz5, sz6, sz7, sz8, sz9, sz10, sz11, sz12, sz13, sz14, sz15, sz16, sz17, sz18, sz19, sz20, sz21, sz22, sz23, sz24, decide_true, decide_false, false_and, and_false, false_or, or_false, isn, Option.isSome_none, Option.isSome_some, Bool.true_eq_false, Bool.false_eq_true, Bool.not_true, Bool.not_false, List.cons.injEq, exists_and_left, $ls,*])
def m_member_rows : List D → Store → Res D := mDef 3 1 (sRet (mLc (itSeq (mVar 0)) (gmTup 2 (gmCons (gmName 1) (gmCons (gmName 2) gmNil))) bYes (mIf (bVal (mOp dEqA (mVar 2) (mC (.str "")))) (mJs [(mC (.str "member ")), (mFmt (mVar 1))] PySem.Str.empty) (mJs [(mC (.str "member ")), (mFmt (mVar 1)), (mC (.str " ")), (mFmt (mVar 2))] PySem.Str.empty)) [1, 2]))
def m_year_rows : List D → Store → Res D := mDef 5 1 (sSeq (sAsg (mLstL mNil) (gmName 1)) (sSeq (sForI (itSeq (mVar 0)) (gmName 2) (sSeq (sDrop (mBMt "list" qAppend (mVar 1) (mCons (mC (.str "year")) mNil))) (sDrop (mBMt "list" qExtend (mVar 1) (mCons (mLc (itSeq (mVar 2)) (gmTup 2 (gmCons (gmName 3) (gmCons (gmName 4) gmNil))) bYes (mJs [(mC (.str "  ")), (mFmt (mVar 3)), (mC (.str " > ")), (mFmt (mVar 4))] PySem.Str.empty) [3, 4]) mNil))))) (sRet (mVar 1))))
def m_circle_rows : List D → Store → Res D := mDef 7 4 (sSeq (sAsg (mLc (itSeq (mVar 1)) (gmTup 2 (gmCons (gmName 5) (gmCons (gmName 6) gmNil))) bYes (mJs [(mC (.str "bar ")), (mFmt (mVar 5)), (mC (.str " ")), (mFmt (mVar 6))] PySem.Str.empty) [5, 6]) (gmName 4)) (sRet (mLst (mCons (mJs [(mC (.str "circle ")), (mFmt (mVar 3))] PySem.Str.empty) (mStar (mCall m_member_rows (mCons (mVar 0) mNil)) (mStar (mVar 4) (mStar (mCall m_year_rows (mCons (mVar 2) mNil)) mNil)))))))
def m_Circle_str : List D → Store → Res D := mDef 1 1 (sRet (mBMt "str" qJoin (mC (.str "\n")) (mCons (mCall m_circle_rows (mCons (mFldO ok_of_members "members" (mVar 0)) (mCons (mFldO ok_of_bars "bars" (mVar 0)) (mCons (mFldO ok_of_past "past" (mVar 0)) (mCons (mFldO ok_of_gap "gap" (mVar 0)) mNil))))) mNil)))
/-! ### texts put together -/
theorem js_l {env : En} {S : Store} : ∀ (ps : List (EM × PySem.Str)) (acc : PySem.Str), (∀ q ∈ ps, q.1 env S = .ok (.str q.2) S) → acc.length + (ps.map (·.2.length)).sum ≤ sizeLine → mJs (ps.map (·.1)) acc env S = .ok (.str (ps.foldl (fun a q => a ++ q.2) acc)) S
  | [], _, _, _ => rfl
  | q :: ps, acc, h, hl => by
    rw [List.map_cons, List.sum_cons] at hl
    refine js_ok (h q List.mem_cons_self) (by rw [app_len]; omega) ?_
    exact js_l ps (acc ++ q.2) (fun x hx => h x (List.mem_cons_of_mem _ hx)) (by rw [app_len]; omega)
theorem fmt_s {e : EM} {env : En} {S : Store} {s : PySem.Str} (h : e env S = .ok (.str s) S) (hl : s.length ≤ sizeLine) : mFmt e env S = .ok (.str s) S := by
  unfold mFmt
  rw [h]
  show (if s.length ≤ sizeLine then _ else _) = _
  rw [if_pos hl]
theorem fmt_i {e : EM} {env : En} {S : Store} {g : Int} (h : e env S = .ok (.int g) S) (h0 : 0 ≤ g) (h1 : g < 2 ^ 500) : mFmt e env S = .ok (.str (tx g.toNat)) S := by
  have : g = ((g.toNat : Nat) : Int) := by omega
  rw [this] at h
  exact fmt_ok h (by omega)
def memT (p : Pr) : PySem.Str := if p.2 = "" then "member " ++ p.1 else "member " ++ p.1 ++ " " ++ p.2
def barT (p : Pr) : PySem.Str := "bar " ++ p.1 ++ " " ++ p.2
def yrT (p : Pr) : PySem.Str := "  " ++ p.1 ++ " > " ++ p.2
def drT (p : Pr) : PySem.Str := p.1 ++ " > " ++ p.2
def yrR (y : Ps) : List PySem.Str := "year" :: y.map yrT
def rowsT (ms bs : Ps) (ys : List Ps) (g : Int) : List PySem.Str := ("circle " ++ tx g.toNat) :: (ms.map memT ++ (bs.map barT ++ ys.flatMap yrR))
def circleT (ms bs : Ps) (ys : List Ps) (g : Int) : PySem.Str := Txt.join "\n" (rowsT ms bs ys g)
def drawT (ps : Ps) : PySem.Str := Txt.join "\n" (ps.map drT)
/-- of at most so many signs -/
def Sh2 (p : Pr) : Prop := p.1.length ≤ 14 ∧ p.2.length ≤ 14
section
variable {n : Nat} {m b p : D} {ms bs : Ps} {ys : List Ps} {g : Int} {S : Store}
theorem len7 : ("member " : PySem.Str).length = 7 ∧ (" " : PySem.Str).length = 1 ∧ ("bar " : PySem.Str).length = 4 ∧ ("  " : PySem.Str).length = 2 ∧ (" > " : PySem.Str).length = 3 ∧ ("year" : PySem.Str).length = 4 ∧ ("circle " : PySem.Str).length = 7 ∧ ("\n" : PySem.Str).length = 1 := by decide +kernel
theorem member_rows_ok (tm : Tp m (ms.map Lg.prD)) (h : ∀ p ∈ ms, Sh2 p) (hl : ms.length ≤ 1000) : m_member_rows [m] S = .ok (.lst ((ms.map memT).map D.str)) S := by
  refine eq_wp ?_
  unfold m_member_rows
  simp? [tm.seq]
  refine lc_wp Lg.prD (fun _ => true) (fun p => .str (memT p)) (fun S' => S' = S) ms rfl (Nat.le_trans hl (by decide)) (fun q hq S' hS => ?_) (fun S' hS => ?_)
  · subst hS
    obtain ⟨l1, l2⟩ := h q hq
    obtain ⟨c1, c2, _⟩ := len7
    have z : 100 ≤ sizeLine := by decide
    have eq : ∀ S, dEqA (.str q.2) (.str "") S = .ok (.bl (decide (q.2 = ""))) S := fun _ => rfl
    simp? [show tupD (Lg.prD q) = some [.str q.1, .str q.2] from rfl, eq, wp_fmt, emp_app, app_len, c1, c2]
    refine ⟨fun h0 => ?_, fun h0 => ?_⟩
    · rw [memT, if_pos (of_decide_eq_true h0)]
      refine ⟨by omega, by omega, rfl⟩
    · rw [memT, if_neg (of_decide_eq_false h0)]
      refine ⟨by omega, by omega, by omega, by omega, by omega, rfl⟩
  · subst hS
    rw [List.filter_eq_self.mpr fun _ _ => rfl, List.map_map]
    exact ⟨rfl, rfl⟩
theorem bar_js {env : En} {S : Store} {q : Pr} {i j : Nat} (h : Sh2 q) (h1 : env[i]? = some (some (.str q.1))) (h2 : env[j]? = some (some (.str q.2))) : mJs [(mC (.str "bar ")), (mFmt (mVar i)), (mC (.str " ")), (mFmt (mVar j))] PySem.Str.empty env S = .ok (.str (barT q)) S := by
  obtain ⟨l1, l2⟩ := h
  obtain ⟨c1, c2, c3, _⟩ := len7
  have z : 100 ≤ sizeLine := by decide
  refine (js_l [(_, "bar "), (_, q.1), (_, " "), (_, q.2)] _ (fun x hx => ?_) (by simp [c2, c3]; show 0 + _ ≤ _; omega)).trans ?_
  · simp only [List.mem_cons, List.not_mem_nil, or_false] at hx
    rcases hx with rfl | rfl | rfl | rfl
    · rfl
    · exact fmt_s (var_ok h1) (by show q.1.length ≤ _; omega)
    · rfl
    · exact fmt_s (var_ok h2) (by show q.2.length ≤ _; omega)
  · show Res.ok (D.str (PySem.Str.empty ++ "bar " ++ q.1 ++ " " ++ q.2)) S = _
    rw [emp_app]; rfl
theorem yr_js {env : En} {S : Store} {q : Pr} {i j : Nat} (h : Sh2 q) (h1 : env[i]? = some (some (.str q.1))) (h2 : env[j]? = some (some (.str q.2))) : mJs [(mC (.str "  ")), (mFmt (mVar i)), (mC (.str " > ")), (mFmt (mVar j))] PySem.Str.empty env S = .ok (.str (yrT q)) S := by
  obtain ⟨l1, l2⟩ := h
  obtain ⟨c1, c2, c3, c4, c5, _⟩ := len7
  have z : 100 ≤ sizeLine := by decide
  refine (js_l [(_, "  "), (_, q.1), (_, " > "), (_, q.2)] _ (fun x hx => ?_) (by simp [c4, c5]; show 0 + _ ≤ _; omega)).trans ?_
  · simp only [List.mem_cons, List.not_mem_nil, or_false] at hx
    rcases hx with rfl | rfl | rfl | rfl
    · rfl
    · exact fmt_s (var_ok h1) (by show q.1.length ≤ _; omega)
    · rfl
    · exact fmt_s (var_ok h2) (by show q.2.length ≤ _; omega)
  · show Res.ok (D.str (PySem.Str.empty ++ "  " ++ q.1 ++ " > " ++ q.2)) S = _
    rw [emp_app]; rfl
theorem dr_js {env : En} {S : Store} {q : Pr} {i j : Nat} (h : Sh2 q) (h1 : env[i]? = some (some (.str q.1))) (h2 : env[j]? = some (some (.str q.2))) : mJs [(mFmt (mVar i)), (mC (.str " > ")), (mFmt (mVar j))] PySem.Str.empty env S = .ok (.str (drT q)) S := by
  obtain ⟨l1, l2⟩ := h
  obtain ⟨c1, c2, c3, c4, c5, _⟩ := len7
  have z : 100 ≤ sizeLine := by decide
  refine (js_l [(_, q.1), (_, " > "), (_, q.2)] _ (fun x hx => ?_) (by simp [c5]; show 0 + _ ≤ _; omega)).trans ?_
  · simp only [List.mem_cons, List.not_mem_nil, or_false] at hx
    rcases hx with rfl | rfl | rfl
    · exact fmt_s (var_ok h1) (by show q.1.length ≤ _; omega)
    · rfl
    · exact fmt_s (var_ok h2) (by show q.2.length ≤ _; omega)
  · show Res.ok (D.str (PySem.Str.empty ++ q.1 ++ " > " ++ q.2)) S = _
    rw [emp_app]; rfl
/-- a row for each pair -/
theorem lc_rows {e : EM} {f : Pr → PySem.Str} {i j : Nat} {env : En} {xs : Ps} {E : XQ} {Q : List D → Store → Prop} (hij : i ≠ j) (hi : i < env.length) (hj : j < env.length)
    (he : ∀ q ∈ xs, ∀ env1 : En, env1[i]? = some (some (.str q.1)) → env1[j]? = some (some (.str q.2)) → e env1 S = .ok (.str (f q)) S) (hl : xs.length ≤ sizeLine) (hd : Q ((xs.map f).map D.str) S) :
    (mLcGo (gmTup 2 (gmCons (gmName i) (gmCons (gmName j) gmNil))) bYes e env (xs.map Lg.prD) [] S).wp E Q := by
  refine lc_wp Lg.prD (fun _ => true) (fun q => .str (f q)) (fun S' => S' = S) xs rfl hl (fun q hq S' hS => ?_) (fun S' hS => ?_)
  · subst hS
    have e1 := he q hq ((env.set i (some (.str q.1))).set j (some (.str q.2))) (by rw [List.getElem?_set_ne (Ne.symm hij), List.getElem?_set_self hi]) (by rw [List.getElem?_set_self (by rw [List.length_set]; exact hj)])
    simp? [show tupD (Lg.prD q) = some [.str q.1, .str q.2] from rfl, e1]
  · subst hS
    rw [List.filter_eq_self.mpr fun _ _ => rfl]
    rw [List.map_map] at hd
    exact hd
theorem yrs_len : ∀ {l : List Ps}, (∀ y ∈ l, y.length ≤ 100) → (l.flatMap yrR).length ≤ 101 * l.length := by
  intro l
  induction l with
  | nil => intro _; simp
  | cons a l ih =>
    intro h
    have h1 := ih fun y hy => h y (List.mem_cons_of_mem _ hy)
    have h2 := h a List.mem_cons_self
    rw [List.flatMap_cons, List.length_append, List.length_cons]
    have : (yrR a).length = a.length + 1 := by simp [yrR]
    omega
theorem year_rows_ok (tp : Tp p (ys.map yrD)) (h : ∀ y ∈ ys, ∀ q ∈ y, Sh2 q) (hl : ys.length ≤ 1000) (hy : ∀ y ∈ ys, y.length ≤ 100) : m_year_rows [p] S = .ok (.loc S.length) (S ++ [.lst ((ys.flatMap yrR).map D.str)]) := by
  refine eq_wp ?_
  unfold m_year_rows
  simp? [tp.seq]
  refine for_wp yrD (fun i env S' => ∃ x2, env = [some p, some (.loc S.length), x2, none, none] ∧ S' = S ++ [.lst (((ys.take i).flatMap yrR).map D.str)]) ys 0 _ _ ⟨_, rfl, by simp⟩ (fun i y env S' hi hJ => ?_) (fun env S' hJ => ?_)
  · rw [Nat.zero_add] at hJ
    obtain ⟨x2, rfl, rfl⟩ := hJ
    have hm := List.mem_of_getElem? hi
    have hil := (List.getElem?_eq_some_iff.mp hi).1
    have ht : ys.take (i + 1) = ys.take i ++ [y] := by rw [List.take_succ, hi]; rfl
    have z : 200000 ≤ sizeLine := by decide
    have len : (((ys.take i).flatMap yrR).map D.str).length ≤ 101 * i := by
      rw [List.length_map]
      have := yrs_len (l := ys.take i) fun y hy' => hy y (List.mem_of_mem_take hy')
      rw [List.length_take] at this
      omega
    have k1 : ∀ X : List D, (S ++ [Ob.lst X])[S.length]? = some (.lst X) := fun X => by simp
    have k2 : ∀ X Y : Ob, (S ++ [X]).set S.length Y = S ++ [Y] := fun X Y => by simp
    have a1 : ∀ X : List D, X.length + 1 ≤ sizeLine → qAppend (.loc S.length) [.str "year"] (S ++ [.lst X]) = .ok .non (S ++ [.lst (X ++ [.str "year"])]) := fun X hX => by
      unfold qAppend
      simp only [k1, k2]
      rw [if_pos (by omega)]
    have a2 : ∀ (X : List D) (Z : List D), X.length + Z.length ≤ sizeLine → qExtend (.loc S.length) [.lst Z] (S ++ [.lst X]) = .ok .non (S ++ [.lst (X ++ Z)]) := fun X Z hX => by
      unfold qExtend
      simp only [k1, k2, asL]
      rw [if_pos hX]
    have tl : ∀ X : List D, tyD "list" (.loc S.length) (S ++ [.lst X]) = true := fun X => by
      unfold tyD; simp only [kindD, k1]; rfl
    have hyl := hy y hm
    simp? [a1 _ (show (((ys.take i).flatMap yrR).map D.str).length + 1 ≤ sizeLine by omega), tl, show seqD (yrD y) = some (y.map Lg.prD) from rfl]
    refine lc_rows (f := yrT) (by decide) (show 3 < 5 by decide) (show 4 < 5 by decide) (fun q hq env1 h1 h2 => yr_js (h y hm q hq) h1 h2) (by omega) ?_
    have ly : ((y.map yrT).map D.str).length = y.length := by simp
    rw [a2 _ _ (by rw [List.length_append, ly]; have : [D.str "year"].length = 1 := rfl; omega)]
    simp? [wp_ok]
    rw [ht, List.flatMap_append, List.map_append]
    simp [yrR]
  · rw [Nat.zero_add, List.take_length] at hJ
    obtain ⟨x2, rfl, rfl⟩ := hJ
    simp? [wp_ok]
theorem circle_rows_ok (tm : Tp m (ms.map Lg.prD)) (tb : Tp b (bs.map Lg.prD)) (tp : Tp p (ys.map yrD)) (h1 : ∀ q ∈ ms, Sh2 q) (h2 : ∀ q ∈ bs, Sh2 q) (h3 : ∀ y ∈ ys, ∀ q ∈ y, Sh2 q) (l1 : ms.length ≤ 1000) (l2 : bs.length ≤ 1000) (l3 : ys.length ≤ 1000) (hy : ∀ y ∈ ys, y.length ≤ 100) (g0 : 0 ≤ g) (g1 : g < 2 ^ 500) :
    m_circle_rows [m, b, p, .int g] S = .ok (.lst ((rowsT ms bs ys g).map D.str)) (S ++ [.lst ((ys.flatMap yrR).map D.str)]) := by
  refine eq_wp ?_
  unfold m_circle_rows
  have z : 200000 ≤ sizeLine := by decide
  have tl := tx_len (a := g.toNat) (by omega)
  obtain ⟨_, _, _, _, _, _, c7, _⟩ := len7
  have lg : g.natAbs.log2 < 1920 := by
    have := lgN (x := g.toNat) (k := 500) (by omega) (by decide)
    rw [show ((g.toNat : Nat) : Int) = g by omega] at this
    omega
  have tg : PySem.Str.ofString (toString g) = tx g.toNat := by
    unfold tx
    rw [show ((g.toNat : Nat) : Int) = g by omega]
  have yr := year_rows_ok (S := S) tp h3 l3 hy
  have yl : (S ++ [Ob.lst ((ys.flatMap yrR).map D.str)])[S.length]? = some (.lst ((ys.flatMap yrR).map D.str)) := by simp
  have ay : asSq (.loc S.length) (S ++ [Ob.lst ((ys.flatMap yrR).map D.str)]) = some ((ys.flatMap yrR).map D.str) := by
    unfold asSq; simp only [asL, yl]
  simp? [tb.seq]
  refine lc_rows (f := barT) (by decide) (show 5 < 7 by decide) (show 6 < 7 by decide) (fun q hq env1 e1 e2 => bar_js (h2 q hq) e1 e2) (by omega) ?_
  simp? [lg, tg, emp_app, app_len, c7, member_rows_ok tm h1 l1, yr, ay]
  have yl2 := yrs_len hy
  refine ⟨by omega, by simp; simp at yl2; omega, ?_⟩
  simp [rowsT]
theorem sum_len {l : List PySem.Str} {k : Nat} (h : ∀ s ∈ l, s.length ≤ k) : (l.map (·.length)).sum ≤ k * l.length := by
  induction l with
  | nil => simp
  | cons a l ih =>
    have h1 := ih fun y hy => h y (List.mem_cons_of_mem _ hy)
    have h2 := h a List.mem_cons_self
    rw [List.map_cons, List.sum_cons, List.length_cons, Nat.mul_add]
    omega
theorem memT_len {q : Pr} (h : Sh2 q) : (memT q).length ≤ 36 ∧ (barT q).length ≤ 36 ∧ (yrT q).length ≤ 36 ∧ (drT q).length ≤ 36 := by
  obtain ⟨l1, l2⟩ := h
  obtain ⟨c1, c2, c3, c4, c5, _⟩ := len7
  refine ⟨?_, ?_, ?_, ?_⟩
  · unfold memT; split <;> simp only [app_len, c1, c2] <;> omega
  · simp only [barT, app_len, c2, c3]; omega
  · simp only [yrT, app_len, c4, c5]; omega
  · simp only [drT, app_len, c5]; omega
theorem circle_text (h1 : ∀ q ∈ ms, Sh2 q) (h2 : ∀ q ∈ bs, Sh2 q) (h3 : ∀ y ∈ ys, ∀ q ∈ y, Sh2 q) (l1 : ms.length ≤ 1000) (l2 : bs.length ≤ 1000) (l3 : ys.length ≤ 1000) (hy : ∀ y ∈ ys, y.length ≤ 100) (g0 : 0 ≤ g) (g1 : g < 2 ^ 500) :
    ((rowsT ms bs ys g).map (·.length)).sum + (rowsT ms bs ys g).length * ("\n" : PySem.Str).length ≤ 16777216 := by
  obtain ⟨c1, c2, c3, c4, c5, c6, c7, c8⟩ := len7
  have tl := tx_len (a := g.toNat) (by omega)
  have yl2 := yrs_len hy
  have e1 := sum_len (l := ms.map memT ++ (bs.map barT ++ ys.flatMap yrR)) (k := 36) (fun s hs => by
    rcases List.mem_append.mp hs with hs | hs
    · obtain ⟨q, hq, rfl⟩ := List.mem_map.mp hs
      exact (memT_len (h1 q hq)).1
    · rcases List.mem_append.mp hs with hs | hs
      · obtain ⟨q, hq, rfl⟩ := List.mem_map.mp hs
        exact (memT_len (h2 q hq)).2.1
      · obtain ⟨y, hy', hs⟩ := List.mem_flatMap.mp hs
        rcases List.mem_cons.mp hs with rfl | hs
        · rw [c6]; decide
        · obtain ⟨q, hq, rfl⟩ := List.mem_map.mp hs
          exact (memT_len (h3 y hy' q hq)).2.2.1)
  have e2 : (ms.map memT ++ (bs.map barT ++ ys.flatMap yrR)).length = ms.length + (bs.length + (ys.flatMap yrR).length) := by simp only [List.length_append, List.length_map]
  rw [e2] at e1
  unfold rowsT
  rw [List.map_cons, List.sum_cons, List.length_cons, e2, c8, app_len, c7]
  omega
theorem join_rows {l : List PySem.Str} {d : D} (h : asLT d S = some (l.map D.str)) (hl : (l.map (·.length)).sum + l.length * ("\n" : PySem.Str).length ≤ 16777216) : qJoin (.str "\n") [d] S = .ok (.str (Txt.join "\n" l)) S := by
  unfold qJoin
  simp only [h, txs_strs]
  rw [if_pos hl]
theorem circle_str (h : S[n]? = some (CiO m b p (.int g))) (tm : Tp m (ms.map Lg.prD)) (tb : Tp b (bs.map Lg.prD)) (tp : Tp p (ys.map yrD)) (h1 : ∀ q ∈ ms, Sh2 q) (h2 : ∀ q ∈ bs, Sh2 q) (h3 : ∀ y ∈ ys, ∀ q ∈ y, Sh2 q) (l1 : ms.length ≤ 1000) (l2 : bs.length ≤ 1000) (l3 : ys.length ≤ 1000) (hy : ∀ y ∈ ys, y.length ≤ 100) (g0 : 0 ≤ g) (g1 : g < 2 ^ 500) :
    m_Circle_str [.loc n] S = .ok (.str (circleT ms bs ys g)) (S ++ [.lst ((ys.flatMap yrR).map D.str)]) := by
  refine eq_wp ?_
  unfold m_Circle_str
  have f1 := ci_m h
  have f2 := ci_b h
  have f3 := ci_p h
  have f4 := ci_g h
  simp? [f1, f2, f3, f4, circle_rows_ok (S := S) tm tb tp h1 h2 h3 l1 l2 l3 hy g0 g1, show ∀ s S, tyD "str" (.str s) S = true from fun s S => rfl, join_rows (d := .lst ((rowsT ms bs ys g).map D.str)) (l := rowsT ms bs ys g) rfl (circle_text h1 h2 h3 l1 l2 l3 hy g0 g1)]
  rfl
theorem drawing_str {ps : Ps} (h : S[n]? = some (DrO p)) (tp : Tp p (ps.map Lg.prD)) (h1 : ∀ q ∈ ps, Sh2 q) (hl : ps.length ≤ 1000) : m_Drawing_str [.loc n] S = .ok (.str (drawT ps)) S := by
  refine eq_wp ?_
  unfold m_Drawing_str
  obtain ⟨c1, c2, c3, c4, c5, c6, c7, c8⟩ := len7
  have z : 200000 ≤ sizeLine := by decide
  simp? [dr_p h, tp.seq, show ∀ s S, tyD "str" (.str s) S = true from fun s S => rfl]
  refine lc_rows (f := drT) (by decide) (show 1 < 3 by decide) (show 2 < 3 by decide) (fun q hq env1 e1 e2 => dr_js (h1 q hq) e1 e2) (by omega) ?_
  have e1 := sum_len (l := ps.map drT) (k := 36) (fun s hs => by
    obtain ⟨q, hq, rfl⟩ := List.mem_map.mp hs
    exact (memT_len (h1 q hq)).2.2.2)
  rw [List.length_map] at e1
  rw [join_rows (d := .lst ((ps.map drT).map D.str)) (S := S) (l := ps.map drT) rfl (by rw [c8, List.length_map]; omega)]
  exact ⟨rfl, rfl⟩
theorem circle_len_ok (h : S[n]? = some (CiO m b p (.int g))) (tm : Tp m (ms.map Lg.prD)) : m_Circle_len [.loc n] S = .ok (.int ms.length) S := by
  refine eq_wp ?_
  unfold m_Circle_len
  have lt := tm.len S
  rw [List.length_map] at lt
  have f1 := ci_m h
  simp? [f1, lt]
theorem drawing_len_ok {ps : Ps} (h : S[n]? = some (DrO p)) (tp : Tp p (ps.map Lg.prD)) : m_Drawing_len [.loc n] S = .ok (.int ps.length) S := by
  refine eq_wp ?_
  unfold m_Drawing_len
  have lt := tp.len S
  rw [List.length_map] at lt
  have f1 := dr_p h
  simp? [f1, lt]
def reT (a : PySem.Str) (k : Nat) : PySem.Str := a ++ tx k ++ ")"
theorem len8 : ("Circle(" : PySem.Str).length = 7 ∧ ("Drawing(" : PySem.Str).length = 8 ∧ (")" : PySem.Str).length = 1 := by decide +kernel
theorem re_js {e : EM} {env : En} {a : PySem.Str} {k : Nat} (h : e env S = .ok (.int k) S) (ha : a.length ≤ 100) (hk : k < 2 ^ 500) : mJs [(mC (.str a)), (mFmt e), (mC (.str ")"))] PySem.Str.empty env S = .ok (.str (reT a k)) S := by
  have z : 1000 ≤ sizeLine := by decide
  have tl := tx_len hk
  obtain ⟨_, _, c3⟩ := len8
  refine (js_l [(_, a), (_, tx k), (_, ")")] _ (fun x hx => ?_) (by simp [c3]; show 0 + _ ≤ _; omega)).trans ?_
  · simp only [List.mem_cons, List.not_mem_nil, or_false] at hx
    rcases hx with rfl | rfl | rfl
    · rfl
    · exact fmt_i (g := k) h (by omega) (by omega)
    · rfl
  · show Res.ok (D.str (PySem.Str.empty ++ a ++ tx k ++ ")")) S = _
    rw [emp_app]
    rfl
theorem circle_repr_ok (h : S[n]? = some (CiO m b p (.int g))) (tm : Tp m (ms.map Lg.prD)) (hl : ms.length < 2 ^ 500) : m_Circle_repr [.loc n] S = .ok (.str (reT "Circle(" ms.length)) S := by
  refine eq_wp ?_
  unfold m_Circle_repr
  have lt := tm.len S
  rw [List.length_map] at lt
  have f1 := ci_m h
  have ln : mCall cLen (mCons (mFldO ok_of_members "members" (mVar 0)) mNil) [some (.loc n)] S = .ok (.int ms.length) S := by
    refine eq_wp ?_
    simp? [f1, lt]
  have js := re_js ln (a := "Circle(") (by rw [len8.1]; decide) hl
  simp only [wp_def, List.length_cons, List.length_nil, startE, List.map_cons, List.map_nil, List.replicate, List.cons_append, List.nil_append, wps_ret, Nat.reduceAdd, Nat.reduceSub, js, wp_ok, true_and, and_self]
theorem drawing_repr_ok {ps : Ps} (h : S[n]? = some (DrO p)) (tp : Tp p (ps.map Lg.prD)) (hl : ps.length < 2 ^ 500) : m_Drawing_repr [.loc n] S = .ok (.str (reT "Drawing(" ps.length)) S := by
  refine eq_wp ?_
  unfold m_Drawing_repr
  have lt := tp.len S
  rw [List.length_map] at lt
  have f1 := dr_p h
  have ln : mCall cLen (mCons (mFldO ok_of_pairs "pairs" (mVar 0)) mNil) [some (.loc n)] S = .ok (.int ps.length) S := by
    refine eq_wp ?_
    simp? [f1, lt]
  have js := re_js ln (a := "Drawing(") (by rw [len8.2.1]; decide) hl
  simp only [wp_def, List.length_cons, List.length_nil, startE, List.map_cons, List.map_nil, List.replicate, List.cons_append, List.nil_append, wps_ret, Nat.reduceAdd, Nat.reduceSub, js, wp_ok, true_and, and_self]
end
end Lw

namespace Lw
open PySem L2 Lg
local macro_rules
  | `(tactic| simp? [$ls,*]) => `(tactic| simp only [wp_ok, wp_var, wp_c, wp_op, wp_un, wp_nil, wp_cons, wp_tup, wp_lst, wp_lstL, wp_call, wp_if, wp_val, wp_band, wp_bor, wp_bnot, wp_byes, wp_andV, wp_orV, wp_notV, wp_chain, wp_rng, wp_isi, wp_isO, wp_isX, wp_xg, wp_fldO, wp_meth, wp_make, wp_js0, wp_js1, wp_sl, wp_onone, wp_osome, wp_bmt, wp_dget, wp_star, wp_emp, wp_newK, wp_newT, wp_seq, wp_zip, wp_enum, wp_range1, wp_lc, wp_lcL, wp_lc2, wp_dcL, wp_pairs0, wp_pairs1, wp_disp, wps_next, wps_brk, wps_cont, wps_seq, wps_ret, wps_retN, wps_drop, wps_if, wps_asg, wpg_name, wpg_nil1, wpg_cons1, wpg_tup, wpg_sub, wps_par, wps_fld, wps_forI, wps_tryC, wp_def, startE, List.length_cons, List.length_nil, List.map_cons, List.map_nil, List.replicate, List.cons_append, List.nil_append, List.append_nil, List.getElem?_cons_zero, List.getElem?_cons_succ, List.set_cons_zero, List.set_cons_succ, wipeE, Option.some.injEq, exists_eq_left', exists_eq_left, exists_eq, exists_eq', D.bl.injEq, D.str.injEq, D.int.injEq, D.loc.injEq, true_and, and_true, forall_const, reduceCtorEq, false_implies, implies_true, Nat.reduceAdd, Nat.reduceSub, Nat.zero_add, sqd_l, sqd_t, sqd_x, tpd_t, tpd_x, ass_l, ass_t, ass_x, kd_non, kd_bl, kd_int, kd_str, kd_tup, kd_tupX, kd_lst, kd_emp, inn_loc, inn_non, inn_str, inn_int, inn_bl, inn_tup, inn_lst, inn_tupX, zpo_l, zpo_tt, zpo_tx, zpo_xt, zpo_xx, eno_l, eno_t, eno_x, inX_t, inX_l, inX_s, inX_x, notInX_t, notInX_l, notInX_s, notInX_x, tupx_l, sz0, sz1, sz2, sz3, sz4, sz5, sz6, sz7, sz8, sz9, sz10, sz11, sz12, sz13, sz14, sz15, sz16, sz17, sz18, sz19, sz20, sz21, sz22, sz23, sz24, decide_true, decide_false, false_and, and_false, false_or, or_false, isn, Option.isSome_none, Option.isSome_some, Bool.true_eq_false, Bool.false_eq_true, Bool.not_true, Bool.not_false, List.cons.injEq, exists_and_left, $ls,*])
def m_Circle_house_of : List D → Store → Res D := mDef 4 2 (sSeq (sIf (bVal (mCall m_is_name (mCons (mVar 1) mNil))) (sForI (itSeq (mFldO ok_of_members "members" (mVar 0))) (gmTup 2 (gmCons (gmName 2) (gmCons (gmName 3) gmNil))) (sIf (bVal (mOp dEqA (mVar 2) (mVar 1))) (sRet (mVar 3)) sNext)) sNext) (sRaiseX 0 m_i_NoMember (mCons (mVar 1) mNil)))
def m_last_of : List D → Store → Res D := mDef 2 2 (sRet (mSl (mVar 0) (oSome (mCall cMax2 (mCons (mC (.int 0)) (mCons (mOp dSub (mCall cLen (mCons (mVar 0) mNil)) (mVar 1)) mNil)))) oNone))
def m_Circle_barred : List D → Store → Res D := mDef 3 1 (sRet (mLst (mStar (mFldO ok_of_bars "bars" (mVar 0)) (mStar (mLc2 (itSeq (mCall m_last_of (mCons (mFldO ok_of_past "past" (mVar 0)) (mCons (mFldO ok_of_gap "gap" (mVar 0)) mNil)))) (gmName 1) bYes (itSeq (mVar 1)) (gmName 2) bYes (mVar 2) [1, 2] [2]) mNil))))
def m_others_of : List D → Store → Res D := mDef 6 4 (sRet (mCall cTupX (mCons (mLc (itSeq (mVar 0)) (gmTup 2 (gmCons (gmName 4) (gmCons (gmName 5) gmNil))) (bAnd (bVal (mOp dNeA (mVar 4) (mVar 1))) (bAnd (bOr (bVal (mOp dEqA (mVar 2) (mC (.str "")))) (bVal (mOp dNeA (mVar 5) (mVar 2)))) (bVal (mOp dNotInX (mVar 4) (mVar 3))))) (mVar 4) [4, 5]) mNil)))
def m_Circle_takers : List D → Store → Res D := mDef 6 2 (sSeq (sAsg (mMeth 11 "house_of" m_Circle_house_of [] (mVar 0) (mCons (mVar 1) mNil)) (gmName 2)) (sSeq (sAsg (mDcL (itSeq (mMeth 11 "barred" m_Circle_barred [] (mVar 0) mNil)) (gmTup 2 (gmCons (gmName 4) (gmCons (gmName 5) gmNil))) (bVal (mOp dEqA (mVar 4) (mVar 1))) (mVar 5) (mC (.bl true)) [4, 5]) (gmName 3)) (sRet (mCall m_others_of (mCons (mFldO ok_of_members "members" (mVar 0)) (mCons (mVar 1) (mCons (mVar 2) (mCons (mVar 3) mNil))))))))
def m_Circle_givers : List D → Store → Res D := mDef 6 2 (sSeq (sAsg (mMeth 11 "house_of" m_Circle_house_of [] (mVar 0) (mCons (mVar 1) mNil)) (gmName 2)) (sSeq (sAsg (mDcL (itSeq (mMeth 11 "barred" m_Circle_barred [] (mVar 0) mNil)) (gmTup 2 (gmCons (gmName 4) (gmCons (gmName 5) gmNil))) (bVal (mOp dEqA (mVar 5) (mVar 1))) (mVar 4) (mC (.bl true)) [4, 5]) (gmName 3)) (sRet (mCall m_others_of (mCons (mFldO ok_of_members "members" (mVar 0)) (mCons (mVar 1) (mCons (mVar 2) (mCons (mVar 3) mNil))))))))
/-- the house of a name, an empty text where there is none -/
def hou (ms : Ps) (a : PySem.Str) : PySem.Str := ((ms.find? fun p => decide (p.1 = a)).map (·.2)).getD ""
/-- the last years -/
def lastY (ys : List Ps) (g : Int) : List Ps := ys.drop (ys.length - g.toNat)
def barL (bs : Ps) (ys : List Ps) (g : Int) : Ps := bs ++ (lastY ys g).flatMap id
def takL (ms bs : Ps) (ys : List Ps) (g : Int) (a : PySem.Str) : List PySem.Str := (ms.filter fun q => decide (q.1 ≠ a) && ((decide (hou ms a = "") || decide (q.2 ≠ hou ms a)) && !decide ((a, q.1) ∈ barL bs ys g))).map (·.1)
def givL (ms bs : Ps) (ys : List Ps) (g : Int) (a : PySem.Str) : List PySem.Str := (ms.filter fun q => decide (q.1 ≠ a) && ((decide (hou ms a = "") || decide (q.2 ≠ hou ms a)) && !decide ((q.1, a) ∈ barL bs ys g))).map (·.1)
section
variable {n : Nat} {S : Store} {m b p g : D} {ms bs : Ps} {ys : List Ps} {gap : Int}
theorem house_ok {a : PySem.Str} (h : S[n]? = some (CiO m b p g)) (tm : Tp m (ms.map Lg.prD)) (nm : ∀ m ∈ ms, Nm m.1) (ha : a ∈ Nam ms) : m_Circle_house_of [.loc n, .str a] S = .ok (.str (hou ms a)) S := by
  refine eq_wp ?_
  have na := nam_az nm ha
  have nb := (nm_iff a).mpr na
  unfold m_Circle_house_of
  simp? [isname_str a na.short, nb, ci_m h, tm.seq]
  refine for_wp Lg.prD (fun i env S' => S' = S ∧ (∃ x2 x3, env = [some (.loc n), some (.str a), x2, x3]) ∧ ∀ q ∈ ms.take i, q.1 ≠ a) ms 0 _ _ ⟨rfl, ⟨_, _, rfl⟩, by simp⟩ (fun i q env S' hq hJ => ?_) (fun env S' hJ => ?_)
  · obtain ⟨rfl, ⟨x2, x3, rfl⟩, h3⟩ := hJ
    have e : tupD (Lg.prD q) = some [.str q.1, .str q.2] := rfl
    have e1 : ∀ x y : PySem.Str, ∀ S, dEqA (.str x) (.str y) S = .ok (.bl (decide (x = y))) S := fun _ _ _ => rfl
    rw [Nat.zero_add] at h3 ⊢
    simp? [e, e1]
    by_cases hqa : q.1 = a
    · have f : ms.find? (fun p => decide (p.1 = a)) = some q := by
        rw [← List.take_append_drop i ms, List.find?_append]
        rw [List.find?_eq_none.mpr fun x hx => by simp [h3 x hx]]
        have : ms.drop i = q :: ms.drop (i + 1) := drop_at hq
        rw [this]
        simp [hqa]
      simp [hqa, hou, f]
    · simp [hqa]
      intro c d hc
      rw [List.take_succ, hq] at hc
      rcases List.mem_append.mp hc with hc | hc
      · exact h3 _ hc
      · simp at hc
        rw [← hc] at hqa
        exact hqa
  · obtain ⟨rfl, ⟨x2, x3, rfl⟩, h3⟩ := hJ
    rw [Nat.zero_add, List.take_length] at h3
    obtain ⟨q, hq, rfl⟩ := List.mem_map.mp ha
    exact absurd rfl (h3 q hq)
theorem house_no {d d' : D} (h : S[n]? = some (CiO m b p g)) (tm : Tp m (ms.map Lg.prD)) (nm : ∀ m ∈ ms, Nm m.1) (hd : Fair d S) (hno : hasB ms d = false) (hc : ∀ S, m_copied 4 [d] S = .ok d' S) (hw : WfS S) (hu : d'.und S.length = true) :
    m_Circle_house_of [.loc n, d] S = .err ⟨0, some [("name", d')]⟩ S := by
  refine eqe_wp ?_
  unfold m_Circle_house_of
  rcases hd with ⟨k, h1, h2⟩ | ⟨s, rfl, hs⟩
  · simp? [isname_no h1 h2]
    exact err_wp (raise1 hc (cons_ok (var_ok rfl) nil_ok) hw hu) ⟨rfl, rfl⟩
  · by_cases nb : nameB s = true
    · simp? [isname_str s hs, nb, ci_m h, tm.seq]
      have no : s ∉ Nam ms := of_decide_eq_false hno
      refine for_wp Lg.prD (fun i env S' => S' = S ∧ (∃ x2 x3, env = [some (.loc n), some (.str s), x2, x3])) ms 0 _ _ ⟨rfl, _, _, rfl⟩ (fun i q env S' hq hJ => ?_) (fun env S' hJ => ?_)
      · obtain ⟨rfl, x2, x3, rfl⟩ := hJ
        have e : tupD (Lg.prD q) = some [.str q.1, .str q.2] := rfl
        have e1 : ∀ x y : PySem.Str, ∀ S, dEqA (.str x) (.str y) S = .ok (.bl (decide (x = y))) S := fun _ _ _ => rfl
        have hqa : q.1 ≠ s := fun e => no (e ▸ List.mem_map_of_mem (List.mem_of_getElem? hq))
        simp? [e, e1]
        simp [hqa]
      · obtain ⟨rfl, x2, x3, rfl⟩ := hJ
        exact err_wp (raise1 hc (cons_ok (var_ok rfl) nil_ok) hw hu) ⟨rfl, rfl⟩
    · have nb' : nameB s = false := by simpa using nb
      simp? [isname_str s hs, nb']
      exact err_wp (raise1 hc (cons_ok (var_ok rfl) nil_ok) hw hu) ⟨rfl, rfl⟩
theorem last_ok (tp : Tp p (ys.map yrD)) (hg : 0 ≤ gap) (hl : ys.length ≤ 1000) : ∃ e, m_last_of [p, .int gap] S = .ok e S ∧ Tp e ((lastY ys gap).map yrD) := by
  have hk : ∃ k : Nat, (k : Int) = (if ((ys.map yrD).length : Int) - gap > 0 then ((ys.map yrD).length : Int) - gap else 0) ∧ k = ys.length - gap.toNat := by
    refine ⟨ys.length - gap.toNat, ?_, rfl⟩
    rw [List.length_map]
    split <;> omega
  obtain ⟨k, hk1, hk2⟩ := hk
  obtain ⟨e, e1, e2⟩ := tp.sl (some (k : Int)) none S
  rw [cut_drop _ _ (by rw [List.length_map]; omega)] at e2
  refine ⟨e, eq_wp ?_, by unfold lastY; rw [← hk2, ← List.map_drop] at *; exact e2⟩
  have mx : cMax2 [.int 0, .int (((ys.map yrD).length : Int) - gap)] S = .ok (.int k) S := by rw [hk1]; rfl
  have sb : ∀ i j : Int, dSub (.int i) (.int j) S = .ok (.int (i - j)) S := fun _ _ => rfl
  unfold m_last_of
  simp? [tp.len, sb, mx, e1]
theorem barred_ok (h : S[n]? = some (CiO m b p (.int gap))) (tb : Tp b (bs.map Lg.prD)) (tp : Tp p (ys.map yrD)) (hg : 0 ≤ gap) (lb : bs.length ≤ 1000) (ly : ys.length ≤ 1000) (lyy : ∀ y ∈ ys, y.length ≤ 100) : m_Circle_barred [.loc n] S = .ok (.lst ((barL bs ys gap).map Lg.prD)) S ∧ (barL bs ys gap).length ≤ 200000 := by
  obtain ⟨e, e1, e2⟩ := last_ok (S := S) tp hg ly
  have z : 1000000 ≤ sizeLine := by decide
  have ll : ((lastY ys gap).flatMap id).length ≤ 100000 := by
    rw [List.length_flatMap]
    have := sum_le (l := (lastY ys gap).map fun y : Ps => (id y).length) (N := 100) (fun x hx => by
      obtain ⟨y, hy, rfl⟩ := List.mem_map.mp hx
      exact lyy y (List.mem_of_mem_drop hy))
    have l2 : (lastY ys gap).length ≤ 1000 := by unfold lastY; rw [List.length_drop]; omega
    rw [List.length_map] at this
    refine Nat.le_trans this ?_
    omega
  refine ⟨eq_wp ?_, by unfold barL; rw [List.length_append]; omega⟩
  unfold m_Circle_barred
  simp? [ci_b h, ci_p h, ci_g h, tb.ass, e1, e2.seq]
  refine lc2_wp yrD (fun y => y.map Lg.prD) (fun S' => S' = S) (lastY ys gap) [] _ rfl ?_ (fun y hy acc S' hS hz => ?_) (fun S' hS => ?_)
  · have : ((lastY ys gap).flatMap fun y => y.map Lg.prD).length = ((lastY ys gap).flatMap id).length := by simp [List.length_flatMap]
    rw [this]; exact Nat.le_trans (by rw [List.length_nil, Nat.zero_add]; exact ll) (by omega)
  · subst hS
    have es : seqD (yrD y) = some (y.map Lg.prD) := rfl
    simp? [es]
    refine lc_acc Lg.prD (fun _ => true) Lg.prD (fun S => S = S') y acc rfl (by rw [List.length_map] at hz; exact hz) (fun q hq S hS => ?_) (fun S hS => ?_)
    · subst hS; simp? [wp_ok]
    · rw [List.filter_eq_self.mpr fun _ _ => rfl]; exact ⟨rfl, hS⟩
  · subst hS
    have ed : (lastY ys gap).flatMap (fun y => y.map Lg.prD) = ((lastY ys gap).flatMap id).map Lg.prD := by rw [List.map_flatMap]; rfl
    rw [ed]
    simp? [List.length_append, List.length_map]
    refine ⟨by omega, ?_⟩
    unfold barL
    rw [List.map_append]
theorem others_ok {k : Nat} {a : PySem.Str} {hs : PySem.Str} {kvs : List (Key × D)} (tm : Tp m (ms.map Lg.prD)) (hl : ms.length ≤ 1000) (hk : S[k]? = some (.dK kvs)) :
    m_others_of [m, .str a, .str hs, .loc k] S = .ok (.tupX (((ms.filter fun q => decide (q.1 ≠ a) && ((decide (hs = "") || decide (q.2 ≠ hs)) && !(valD kvs (.inr q.1)).isSome)).map (·.1)).map D.str)) S := by
  refine eq_wp ?_
  have e1 : ∀ x y : PySem.Str, ∀ S, dEqA (.str x) (.str y) S = .ok (.bl (decide (x = y))) S := fun _ _ _ => rfl
  unfold m_others_of
  simp? [tm.seq]
  refine lc_wp Lg.prD (fun q => decide (q.1 ≠ a) && ((decide (hs = "") || decide (q.2 ≠ hs)) && !(valD kvs (.inr q.1)).isSome)) (fun q => .str q.1) (fun S' => S' = S) ms rfl (Nat.le_trans hl (by decide)) (fun q hq S' hS => ?_) (fun S' hS => ?_)
  · subst hS
    have e : tupD (Lg.prD q) = some [.str q.1, .str q.2] := rfl
    simp? [e, e1, neS, notInX_str hk]
    by_cases h1 : q.1 = a <;> by_cases h2 : hs = "" <;> by_cases h3 : q.2 = hs <;> by_cases h4 : (valD kvs (.inr q.1)).isSome = true <;> simp [h1, h2, h3, h4]
  · subst hS
    simp? [tupx_l]
    rw [List.map_map]; rfl
theorem key_str (s : PySem.Str) : keyD (.str s) = some (.inr s) := rfl
theorem inr_eq {a b : PySem.Str} : ((Sum.inr a : Key) = .inr b) = (a = b) := by simp
theorem takers_ok {a : PySem.Str} (h : S[n]? = some (CiO m b p (.int gap))) (tm : Tp m (ms.map Lg.prD)) (tb : Tp b (bs.map Lg.prD)) (tp : Tp p (ys.map yrD)) (nm : ∀ m ∈ ms, Nm m.1) (ha : a ∈ Nam ms) (lm : ms.length ≤ 1000) (hg : 0 ≤ gap) (lb : bs.length ≤ 1000) (ly : ys.length ≤ 1000) (lyy : ∀ y ∈ ys, y.length ≤ 100) :
    ∃ kvs, m_Circle_takers [.loc n, .str a] S = .ok (.tupX ((takL ms bs ys gap a).map D.str)) (S ++ [.dK kvs]) ∧ ∀ kv ∈ kvs, kv.2 = .bl true := by
  obtain ⟨b1, b2⟩ := barred_ok h tb tp hg lb ly lyy
  have hh := house_ok h tm nm ha
  have e1 : ∀ x y : PySem.Str, ∀ S, dEqA (.str x) (.str y) S = .ok (.bl (decide (x = y))) S := fun _ _ _ => rfl
  have z : 1000000 ≤ sizeLine := by decide
  refine ⟨mergeD (((barL bs ys gap).filter fun q => decide (q.1 = a)).map fun q => (.inr q.2, .bl true)), eq_wp ?_, merge_all (q := fun d => d = .bl true) fun kv hkv => by obtain ⟨q, _, rfl⟩ := List.mem_map.mp hkv; rfl⟩
  unfold m_Circle_takers
  simp? [ci_o h (f := "house_of") rfl, ci_o h (f := "barred") rfl, hh, b1]
  refine dc_wp Lg.prD (fun q => decide (q.1 = a)) (fun q => (.inr q.2, .bl true)) (fun S' => S' = S) (barL bs ys gap) rfl (by omega) (fun q hq S' hS => ?_) (fun S' hS => ?_)
  · subst hS
    have e : tupD (Lg.prD q) = some [.str q.1, .str q.2] := rfl
    simp? [e, e1, key_str]
  · subst hS
    have oo := others_ok (a := a) (hs := hou ms a) (S := S' ++ [.dK (mergeD (((barL bs ys gap).filter fun q => decide (q.1 = a)).map fun q => (.inr q.2, .bl true)))]) (k := S'.length) tm lm (at_last _ _)
    simp? [ci_m (at_app _ h), oo]
    unfold takL
    congr 3
    refine List.filter_congr fun q hq => ?_
    congr 2
    rw [val_merge_some]
    congr 1
    rw [Bool.eq_iff_iff, List.any_eq_true, decide_eq_true_iff]
    constructor
    · rintro ⟨x, hx, e⟩
      obtain ⟨y, hy, rfl⟩ := List.mem_map.mp hx
      obtain ⟨h1, h2⟩ := List.mem_filter.mp hy
      have e3 : y.2 = q.1 := Sum.inr.inj (of_decide_eq_true e)
      have e4 : y.1 = a := of_decide_eq_true h2
      rw [← e3, ← e4]; exact h1
    · intro hm
      exact ⟨_, List.mem_map.mpr ⟨(a, q.1), List.mem_filter.mpr ⟨hm, decide_eq_true rfl⟩, rfl⟩, decide_eq_true rfl⟩
theorem givers_ok {a : PySem.Str} (h : S[n]? = some (CiO m b p (.int gap))) (tm : Tp m (ms.map Lg.prD)) (tb : Tp b (bs.map Lg.prD)) (tp : Tp p (ys.map yrD)) (nm : ∀ m ∈ ms, Nm m.1) (ha : a ∈ Nam ms) (lm : ms.length ≤ 1000) (hg : 0 ≤ gap) (lb : bs.length ≤ 1000) (ly : ys.length ≤ 1000) (lyy : ∀ y ∈ ys, y.length ≤ 100) :
    ∃ kvs, m_Circle_givers [.loc n, .str a] S = .ok (.tupX ((givL ms bs ys gap a).map D.str)) (S ++ [.dK kvs]) ∧ ∀ kv ∈ kvs, kv.2 = .bl true := by
  obtain ⟨b1, b2⟩ := barred_ok h tb tp hg lb ly lyy
  have hh := house_ok h tm nm ha
  have e1 : ∀ x y : PySem.Str, ∀ S, dEqA (.str x) (.str y) S = .ok (.bl (decide (x = y))) S := fun _ _ _ => rfl
  have z : 1000000 ≤ sizeLine := by decide
  refine ⟨mergeD (((barL bs ys gap).filter fun q => decide (q.2 = a)).map fun q => (.inr q.1, .bl true)), eq_wp ?_, merge_all (q := fun d => d = .bl true) fun kv hkv => by obtain ⟨q, _, rfl⟩ := List.mem_map.mp hkv; rfl⟩
  unfold m_Circle_givers
  simp? [ci_o h (f := "house_of") rfl, ci_o h (f := "barred") rfl, hh, b1]
  refine dc_wp Lg.prD (fun q => decide (q.2 = a)) (fun q => (.inr q.1, .bl true)) (fun S' => S' = S) (barL bs ys gap) rfl (by omega) (fun q hq S' hS => ?_) (fun S' hS => ?_)
  · subst hS
    have e : tupD (Lg.prD q) = some [.str q.1, .str q.2] := rfl
    simp? [e, e1, key_str]
  · subst hS
    have oo := others_ok (a := a) (hs := hou ms a) (S := S' ++ [.dK (mergeD (((barL bs ys gap).filter fun q => decide (q.2 = a)).map fun q => (.inr q.1, .bl true)))]) (k := S'.length) tm lm (at_last _ _)
    simp? [ci_m (at_app _ h), oo]
    unfold givL
    congr 3
    refine List.filter_congr fun q hq => ?_
    congr 2
    rw [val_merge_some]
    congr 1
    rw [Bool.eq_iff_iff, List.any_eq_true, decide_eq_true_iff]
    constructor
    · rintro ⟨x, hx, e⟩
      obtain ⟨y, hy, rfl⟩ := List.mem_map.mp hx
      obtain ⟨h1, h2⟩ := List.mem_filter.mp hy
      have e3 : y.1 = q.1 := Sum.inr.inj (of_decide_eq_true e)
      have e4 : y.2 = a := of_decide_eq_true h2
      rw [← e3, ← e4]; exact h1
    · intro hm
      exact ⟨_, List.mem_map.mpr ⟨(q.1, a), List.mem_filter.mpr ⟨hm, decide_eq_true rfl⟩, rfl⟩, decide_eq_true rfl⟩
/-- refused: a name of nobody -/
theorem takers_no {d d' : D} (h : S[n]? = some (CiO m b p g)) (tm : Tp m (ms.map Lg.prD)) (nm : ∀ m ∈ ms, Nm m.1) (hd : Fair d S) (hno : hasB ms d = false) (hc : ∀ S, m_copied 4 [d] S = .ok d' S) (hw : WfS S) (hu : d'.und S.length = true) :
    m_Circle_takers [.loc n, d] S = .err ⟨0, some [("name", d')]⟩ S := by
  refine eqe_wp ?_
  unfold m_Circle_takers
  simp? [ci_o h (f := "house_of") rfl, house_no h tm nm hd hno hc hw hu, wp_err]
theorem givers_no {d d' : D} (h : S[n]? = some (CiO m b p g)) (tm : Tp m (ms.map Lg.prD)) (nm : ∀ m ∈ ms, Nm m.1) (hd : Fair d S) (hno : hasB ms d = false) (hc : ∀ S, m_copied 4 [d] S = .ok d' S) (hw : WfS S) (hu : d'.und S.length = true) :
    m_Circle_givers [.loc n, d] S = .err ⟨0, some [("name", d')]⟩ S := by
  refine eqe_wp ?_
  unfold m_Circle_givers
  simp? [ci_o h (f := "house_of") rfl, house_no h tm nm hd hno hc hw hu, wp_err]
end
end Lw

namespace Lw
open PySem L2 Lg
local macro_rules
  | `(tactic| simp? [$ls,*]) => `(tactic| simp only [wp_ok, wp_var, wp_c, wp_op, wp_un, wp_nil, wp_cons, wp_tup, wp_lst, wp_lstL, wp_call, wp_if, wp_val, wp_band, wp_bor, wp_bnot, wp_byes, wp_andV, wp_orV, wp_notV, wp_chain, wp_rng, wp_isi, wp_isO, wp_isX, wp_xg, wp_fldO, wp_meth, wp_make, wp_fmt, exists_false, wp_js0, wp_js1, wp_sl, wp_onone, wp_osome, wp_bmt, wp_dget, wp_star, wp_emp, wp_newK, wp_newT, wp_seq, wp_zip, wp_enum, wp_range1, wp_lc, wp_lcL, wp_lc2, wp_dcL, wp_pairs0, wp_pairs1, wp_disp, wps_next, wps_brk, wps_cont, wps_seq, wps_ret, wps_retN, wps_drop, wps_if, wps_asg, wpg_name, wpg_nil1, wpg_cons1, wpg_tup, wpg_sub, wps_par, two_ok, wps_fld, wps_forI, wps_tryC, wp_def, startE, List.length_cons, List.length_nil, List.map_cons, List.map_nil, List.replicate, List.cons_append, List.nil_append, List.append_nil, List.getElem?_cons_zero, List.getElem?_cons_succ, List.set_cons_zero, List.set_cons_succ, wipeE, Option.some.injEq, exists_eq_left', exists_eq_left, exists_eq, exists_eq', D.bl.injEq, D.str.injEq, D.int.injEq, D.loc.injEq, true_and, and_true, forall_const, reduceCtorEq, false_implies, implies_true, Nat.reduceAdd, Nat.reduceSub, Nat.zero_add, sqd_l, sqd_t, sqd_x, tpd_t, tpd_x, ass_l, ass_t, ass_x, kd_non, kd_bl, kd_int, kd_str, kd_tup, kd_tupX, kd_lst, kd_emp, inn_loc, inn_non, inn_str, inn_int, inn_bl, inn_tup, inn_lst, inn_tupX, zpo_l, zpo_tt, zpo_tx, zpo_xt, zpo_xx, eno_l, eno_t, eno_x, inX_t, inX_l, inX_s, inX_x, notInX_t, notInX_l, notInX_s, notInX_x, tupx_l, sz0, sz1, sz2, sz3, sz4, sz5, sz6, sz7, sz8, sz9, sz10, sz11, sz12, sz13, sz14, sz15, sz16, sz17, sz18, sz19, sz20, sz21, sz22, sz23, sz24, decide_true, decide_false, false_and, and_false, false_or, or_false, isn, Option.isSome_none, Option.isSome_some, Bool.true_eq_false, Bool.false_eq_true, Bool.not_true, Bool.not_false, List.cons.injEq, exists_and_left, $ls,*])
/-! ### slices -/
def cutA {α : Type} (xs : List α) (lo hi : Option Int) : List α := (xs.drop (HT.sIx xs.length 0 lo)).take (HT.sIx xs.length xs.length hi - HT.sIx xs.length 0 lo)
theorem cut_map {α : Type} (f : α → D) (xs : List α) (lo hi : Option Int) : cutD (xs.map f) lo hi = (cutA xs lo hi).map f := by
  unfold cutD cutA
  rw [List.length_map, ← List.map_drop, ← List.map_take]
theorem mem_cutA {α : Type} {xs : List α} {lo hi : Option Int} {a : α} (h : a ∈ cutA xs lo hi) : a ∈ xs := List.mem_of_mem_drop (List.mem_of_mem_take h)
theorem cutA_len {α : Type} (xs : List α) (lo hi : Option Int) : (cutA xs lo hi).length ≤ xs.length := by
  unfold cutA
  rw [List.length_take, List.length_drop]
  omega
theorem az_cut {z : PySem.Str} (h : Az z) (i j : Option Int) : Az (cutS z i j) := fun c hc => by
  unfold cutS at hc
  exact h c (List.mem_of_mem_drop (List.mem_of_mem_take (by simpa using hc)))
theorem az_app {a b : PySem.Str} (ha : Az a) (hb : Az b) : Az (a ++ b) := fun c hc => by
  rw [app_cps] at hc
  exact (List.mem_append.mp hc).elim (ha c) (hb c)
theorem az_h : Az "h" := fun c hc => by
  rw [show ("h" : PySem.Str).cps.toList = [104] from by decide +kernel] at hc
  rw [List.mem_singleton.mp hc]
  decide
/-- a slice of a tuple, and two slices put together -/
theorem sl_tp {α : Type} {f : α → D} {d : D} {xs : List α} (h : Tp d (xs.map f)) (lo hi : Option Int) (S : Store) : ∃ e, dSl d lo hi S = .ok e S ∧ Tp e ((cutA xs lo hi).map f) := by
  obtain ⟨e, h1, h2⟩ := h.sl lo hi S
  rw [cut_map] at h2
  exact ⟨e, h1, h2⟩
theorem add_tp {α : Type} {f : α → D} {d e : D} {xs ys : List α} (h : Tp d (xs.map f)) (h' : Tp e (ys.map f)) (hz : xs.length + ys.length ≤ sizeLine) (S : Store) : ∃ z, dAdd d e S = .ok z S ∧ Tp z ((xs ++ ys).map f) := by
  obtain ⟨z, h1, h2⟩ := h.add h' (by rw [List.length_map, List.length_map]; exact hz) S
  rw [← List.map_append] at h2
  exact ⟨z, h1, h2⟩
/-- one thing left out -/
theorem out_tp {α : Type} {f : α → D} {d : D} {xs : List α} (h : Tp d (xs.map f)) (hl : xs.length ≤ 1000) (a : Int) (S : Store) : ∃ x y z, dSl d none (some a) S = .ok x S ∧ dSl d (some (a + 1)) none S = .ok y S ∧ dAdd x y S = .ok z S ∧ ∃ zs : List α, Tp z (zs.map f) ∧ ∀ q ∈ zs, q ∈ xs := by
  obtain ⟨x, h1, h2⟩ := sl_tp h none (some a) S
  obtain ⟨y, h3, h4⟩ := sl_tp h (some (a + 1)) none S
  have l1 := cutA_len xs none (some a)
  have l2 := cutA_len xs (some (a + 1)) none
  obtain ⟨z, h5, h6⟩ := add_tp h2 h4 (Nat.le_trans (show _ ≤ 2000 by omega) (by decide)) S
  exact ⟨x, y, z, h1, h3, h5, _, h6, fun q hq => (List.mem_append.mp hq).elim mem_cutA mem_cutA⟩
theorem cutA_one {α : Type} {xs : List α} {k : Nat} (h : k ≤ xs.length) : cutA xs (some (k : Int)) (some ((k : Int) + 1)) = (xs.drop k).take 1 := by
  unfold cutA
  rw [show ((k : Int) + 1) = ((k + 1 : Nat) : Int) from rfl, HT.sIx_nat, HT.sIx_nat, Nat.min_eq_left h]
  by_cases e : k < xs.length
  · rw [Nat.min_eq_left (by omega)]; congr 1; omega
  · rw [List.drop_eq_nil_of_le (by omega)]; simp
end Lw

namespace Lw
open PySem L2 Lg
def m_place_of : List D → Store → Res D := mDef 5 2 (sSeq (sAsg (mC (.int 0)) (gmName 2)) (sSeq (sAsg (mCall cLen (mCons (mVar 0) mNil)) (gmName 3)) (sSeq (sWhile (bVal (mOp dLtA (mVar 2) (mVar 3))) (sSeq (sAsg (mOp dDiv (mOp dAdd (mVar 2) (mVar 3)) (mC (.int 2))) (gmName 4)) (sIf (bVal (mOp dLtA (mOp dIx (mVar 0) (mVar 4)) (mVar 1))) (sAsg (mOp dAdd (mVar 4) (mC (.int 1))) (gmName 2)) (sAsg (mVar 4) (gmName 3)))) 2000) (sRet (mVar 2)))))
def m_reason_of : List D → Store → Res D := mDef 6 5 (sSeq (sIf (bVal (mOp dEqA (mVar 0) (mVar 1))) (sRet (mC (.str "self"))) sNext) (sSeq (sIf (bAnd (bVal (mOp dNeA (mDGet (mVar 2) (mVar 0)) (mC (.str "")))) (bVal (mOp dEqA (mDGet (mVar 2) (mVar 0)) (mDGet (mVar 2) (mVar 1))))) (sRet (mC (.str "house"))) sNext) (sSeq (sIf (bVal (mOp dInX (mTup (mCons (mVar 0) (mCons (mVar 1) mNil))) (mVar 3))) (sRet (mC (.str "bar"))) sNext) (sSeq (sForI (itSeq (mVar 4)) (gmName 5) (sIf (bVal (mOp dInX (mTup (mCons (mVar 0) (mCons (mVar 1) mNil))) (mVar 5))) (sRet (mC (.str "past"))) sNext)) (sRet (mC .non))))))
def m_Circle_reason : List D → Store → Res D := mDef 7 3 (sSeq (sAsg (mMeth 11 "house_of" m_Circle_house_of [] (mVar 0) (mCons (mVar 1) mNil)) (gmName 3)) (sSeq (sAsg (mMeth 11 "house_of" m_Circle_house_of [] (mVar 0) (mCons (mVar 2) mNil)) (gmName 4)) (sSeq (sAsg (mCall m_place_of (mCons (mFldO ok_of_bars "bars" (mVar 0)) (mCons (mTup (mCons (mVar 1) (mCons (mVar 2) mNil))) mNil))) (gmName 5)) (sSeq (sAsg (mDisp [((mVar 1), (mVar 3)), ((mVar 2), (mVar 4))]) (gmName 6)) (sRet (mCall m_reason_of (mCons (mVar 1) (mCons (mVar 2) (mCons (mVar 6) (mCons (mSl (mFldO ok_of_bars "bars" (mVar 0)) (oSome (mVar 5)) (oSome (mOp dAdd (mVar 5) (mC (.int 1))))) (mCons (mCall m_last_of (mCons (mFldO ok_of_past "past" (mVar 0)) (mCons (mFldO ok_of_gap "gap" (mVar 0)) mNil))) mNil)))))))))))
local macro_rules
  | `(tactic| simp? [$ls,*]) => `(tactic| simp only [wp_ok, wp_var, wp_c, wp_op, wp_un, wp_nil, wp_cons, wp_tup, wp_lst, wp_lstL, wp_call, wp_if, wp_val, wp_band, wp_bor, wp_bnot, wp_byes, wp_andV, wp_orV, wp_notV, wp_chain, wp_rng, wp_isi, wp_isO, wp_isX, wp_xg, wp_fldO, wp_meth, wp_make, wp_fmt, exists_false, wp_js0, wp_js1, wp_sl, wp_onone, wp_osome, wp_bmt, wp_dget, wp_star, wp_emp, wp_newK, wp_newT, wp_seq, wp_zip, wp_enum, wp_range1, wp_lc, wp_lcL, wp_lc2, wp_dcL, wp_pairs0, wp_pairs1, wp_disp, wps_next, wps_brk, wps_cont, wps_seq, wps_ret, wps_retN, wps_drop, wps_if, wps_asg, wpg_name, wpg_nil1, wpg_cons1, wpg_tup, wpg_sub, wps_par, two_ok, wps_fld, wps_forI, wps_tryC, wp_def, startE, List.length_cons, List.length_nil, List.map_cons, List.map_nil, List.replicate, List.cons_append, List.nil_append, List.append_nil, List.getElem?_cons_zero, List.getElem?_cons_succ, List.set_cons_zero, List.set_cons_succ, wipeE, Option.some.injEq, exists_eq_left', exists_eq_left, exists_eq, exists_eq', D.bl.injEq, D.str.injEq, D.int.injEq, D.loc.injEq, true_and, and_true, forall_const, reduceCtorEq, false_implies, implies_true, Nat.reduceAdd, Nat.reduceSub, Nat.zero_add, sqd_l, sqd_t, sqd_x, tpd_t, tpd_x, ass_l, ass_t, ass_x, kd_non, kd_bl, kd_int, kd_str, kd_tup, kd_tupX, kd_lst, kd_emp, inn_loc, inn_non, inn_str, inn_int, inn_bl, inn_tup, inn_lst, inn_tupX, zpo_l, zpo_tt, zpo_tx, zpo_xt, zpo_xx, eno_l, eno_t, eno_x, inX_t, inX_l, inX_s, inX_x, notInX_t, notInX_l, notInX_s, notInX_x, tupx_l, sz0, sz1, sz2, sz3, sz4, sz5, sz6, sz7, sz8, sz9, sz10, sz11, sz12, sz13, sz14, sz15, sz16, sz17, sz18, sz19, sz20, sz21, sz22, sz23, sz24, decide_true, decide_false, false_and, and_false, false_or, or_false, isn, Option.isSome_none, Option.isSome_some, Bool.true_eq_false, Bool.false_eq_true, Bool.not_true, Bool.not_false, List.cons.injEq, exists_and_left, $ls,*])
/-! ### a loop with a measure -/
theorem while_wp {c : BM} {b : SM} {F : FQ} (J : Nat → En → Store → Prop)
    (hs : ∀ m env S, J m env S → (c env S).wp F.E fun k S1 => (k = true → (b env S1).wp ⟨F.E, fun e2 S2 => ∃ m', m' < m ∧ J m' e2 S2, F.R, F.N, fun e2 S2 => ∃ m', m' < m ∧ J m' e2 S2⟩) ∧ (k = false → F.N env S1)) :
    ∀ (n m : Nat) (env : En) (S : Store), m < n → J m env S → (sWhile c b n env S).wp F
  | 0, m, _, _, h, _ => absurd h (Nat.not_lt_zero m)
  | n + 1, m, env, S, h, hJ => by
    have h1 := hs m env S hJ
    show ((c env S).bindS _).wp F
    rw [wp_bindS]
    refine h1.mono fun k S1 h2 => ?_
    cases k with
    | false => exact h2.2 rfl
    | true =>
      have h3 := h2.1 rfl
      rw [if_pos rfl]
      cases e : b env S1 with
      | next env2 S2 => rw [e] at h3; obtain ⟨m', l, j⟩ := h3; exact while_wp J hs n m' env2 S2 (by omega) j
      | cont env2 S2 => rw [e] at h3; obtain ⟨m', l, j⟩ := h3; exact while_wp J hs n m' env2 S2 (by omega) j
      | brk env2 S2 => rw [e] at h3; exact h3
      | ret d S2 => rw [e] at h3; exact h3
      | err x S2 => rw [e] at h3; exact h3
      | stuck => rw [e] at h3; exact h3
theorem pr_ni (a : Pr) (i : Int) : Lg.prD a ≠ .int i := fun e => by cases e
theorem ltI (i j : Int) (S : Store) : dLtA (.int i) (.int j) S = .ok (.bl (decide (i < j))) S := rfl
theorem ix_tp {α : Type} {f : α → D} {d : D} {xs : List α} (h : Tp d (xs.map f)) {k : Nat} {x : α} (hx : xs[k]? = some x) (S : Store) : dIx d (.int k) S = .ok (f x) S := by
  obtain ⟨h1, h2⟩ := List.getElem?_eq_some_iff.mp hx
  have hl : k < (xs.map f).length := by rw [List.length_map]; exact h1
  have e := atI_nat hl
  rw [h.ix]
  unfold dIx
  simp only [e]
  rw [List.getElem_map, h2]
/-- how many stand ahead of it -/
theorem place_ok {b : D} {bs : Ps} (tb : Tp b (bs.map Lg.prD)) (lb : bs.length ≤ 1000) (rb : bs.Pairwise pLt) (q : Pr) (S : Store) : ∃ k : Nat, m_place_of [b, Lg.prD q] S = .ok (.int k) S ∧ k ≤ bs.length ∧ (∀ i p, i < k → bs[i]? = some p → pLt p q) ∧ (∀ i p, k ≤ i → bs[i]? = some p → ¬ pLt p q) := by
  have pw : ∀ (i j : Nat) (p r : Pr), i < j → bs[i]? = some p → bs[j]? = some r → pLt p r := fun i j p r h h1 h2 => by
    obtain ⟨l1, e1⟩ := List.getElem?_eq_some_iff.mp h1
    obtain ⟨l2, e2⟩ := List.getElem?_eq_some_iff.mp h2
    rw [← e1, ← e2]
    exact List.pairwise_iff_getElem.mp rb i j l1 l2 h
  have key : (m_place_of [b, Lg.prD q] S).wp XF fun d S' => S' = S ∧ ∃ k : Nat, d = .int k ∧ k ≤ bs.length ∧ (∀ i p, i < k → bs[i]? = some p → pLt p q) ∧ (∀ i p, k ≤ i → bs[i]? = some p → ¬ pLt p q) := by
    have ln := tb.len S
    rw [List.length_map] at ln
    have ad : ∀ (i j : Int) S, dAdd (.int i) (.int j) S = .ok (.int (i + j)) S := fun _ _ _ => rfl
    have dv : ∀ (i : Int) S, dDiv (.int i) (.int 2) S = .ok (.int (i / 2)) S := fun i S => div_i (by unfold CDivW; decide)
    unfold m_place_of
    simp? [ln]
    refine while_wp (fun m env S' => S' = S ∧ ∃ (lo hi : Nat) (x4 : Option D), env = [some b, some (Lg.prD q), some (.int lo), some (.int hi), x4] ∧ m = hi - lo ∧ lo ≤ hi ∧ hi ≤ bs.length ∧ (∀ i p, i < lo → bs[i]? = some p → pLt p q) ∧ (∀ i p, hi ≤ i → bs[i]? = some p → ¬ pLt p q)) (fun m env S' hJ => ?_) 2000 bs.length _ _ (by omega) ⟨rfl, 0, bs.length, none, rfl, rfl, Nat.zero_le _, Nat.le_refl _, fun i p h => absurd h (Nat.not_lt_zero i), fun i p h e => absurd (List.getElem?_eq_some_iff.mp e).1 (by omega)⟩
    obtain ⟨rfl, lo, hi, x4, rfl, rfl, h1, h2, h3, h4⟩ := hJ
    have md : ((lo : Int) + (hi : Int)) / 2 = (((lo + hi) / 2 : Nat) : Int) := by omega
    simp? [ltI, ad, dv, md]
    refine ⟨fun hlt => ?_, fun hge => ?_⟩
    · have hlt : lo < hi := by have := of_decide_eq_true hlt; omega
      have hm : (lo + hi) / 2 < bs.length := by omega
      have hx : bs[(lo + hi) / 2]? = some bs[(lo + hi) / 2] := List.getElem?_eq_getElem hm
      generalize bs[(lo + hi) / 2] = p0 at hx
      have ix := ix_tp tb hx S'
      have lt := ltA_sr sr_pr pr_ni p0 q S'
      generalize hmid : (lo + hi) / 2 = mid at hx ix hm
      simp? [ix, lt]
      refine ⟨fun hp => ?_, fun hp => ?_⟩
      · have hp := of_decide_eq_true hp
        refine ⟨_, ?_, mid + 1, hi, _, ⟨rfl, rfl, rfl⟩, rfl, by omega, h2, fun i p hi' e => ?_, h4⟩
        · omega
        · rcases Nat.lt_or_ge i mid with h | h
          · exact pLt_so.tr _ _ _ (pw i mid p p0 h e hx) hp
          · have : i = mid := by omega
            subst this
            rw [hx] at e
            cases e
            exact hp
      · have hp := of_decide_eq_false hp
        refine ⟨_, ?_, lo, mid, _, ⟨rfl, rfl, rfl⟩, rfl, by omega, by omega, h3, fun i p hi' e => ?_⟩
        · omega
        · rcases Nat.lt_or_ge mid i with h | h
          · exact fun hq => hp (pLt_so.tr _ _ _ (pw mid i p0 p h hx e) hq)
          · have : i = mid := by omega
            subst this
            rw [hx] at e
            cases e
            exact hp
    · have hge := of_decide_eq_false hge
      have : lo = hi := by omega
      subst this
      exact ⟨lo, rfl, h2, h3, h4⟩
  obtain ⟨d, S', e, rfl, k, rfl, h1, h2, h3⟩ := key.ex
  exact ⟨k, e, h1, h2, h3⟩
theorem one_in {bs : Ps} (rb : bs.Pairwise pLt) {q : Pr} {k : Nat} (hk : k ≤ bs.length) (h1 : ∀ i p, i < k → bs[i]? = some p → pLt p q) (h2 : ∀ i p, k ≤ i → bs[i]? = some p → ¬ pLt p q) : q ∈ (bs.drop k).take 1 ↔ q ∈ bs := by
  refine ⟨fun h => List.mem_of_mem_drop (List.mem_of_mem_take h), fun h => ?_⟩
  obtain ⟨i, hi, e⟩ := List.getElem_of_mem h
  have e' : bs[i]? = some q := by rw [List.getElem?_eq_getElem hi, e]
  have hki : k ≤ i := Nat.le_of_not_lt fun hlt => pLt_so.irr q (h1 i q hlt e')
  have hik : i = k := by
    refine Nat.le_antisymm (Nat.le_of_not_lt fun hlt => ?_) hki
    have hk' : k < bs.length := by omega
    have := List.pairwise_iff_getElem.mp rb k i hk' hi hlt
    rw [e] at this
    exact h2 k _ (Nat.le_refl _) (List.getElem?_eq_getElem hk') this
  subst hik
  rw [List.drop_eq_getElem_cons hi, e]
  simp
/-- a reason as a value -/
def rD : Option PySem.Str → D
  | none => .non
  | some s => .str s
def rsn4 (e h : Bool) (B Y : Bool) : Option PySem.Str := if e = true then some "self" else if h = true then some "house" else if B = true then some "bar" else if Y = true then some "past" else none
theorem reason_of_ok {α : Type} {a b ha hb : PySem.Str} {bd yd : D} {hn : Nat} {kvs : List (Key × D)} {B : Bool} {yl : List α} {yi : α → D} {inY : α → Bool} {S : Store} (h : S[hn]? = some (.dK kvs)) (va : valD kvs (.inr a) = some (.str ha)) (vb : valD kvs (.inr b) = some (.str hb))
    (hB : dInX (.tup [.str a, .str b]) bd S = .ok (.bl B) S) (hs : seqD yd = some (yl.map yi)) (hy : ∀ y ∈ yl, dInX (.tup [.str a, .str b]) (yi y) S = .ok (.bl (inY y)) S) :
    m_reason_of [.str a, .str b, .loc hn, bd, yd] S = .ok (rD (rsn4 (decide (a = b)) (decide (ha ≠ "") && decide (ha = hb)) B (yl.any inY))) S := by
  refine eq_wp ?_
  have ga := get_str h a
  have gb := get_str h b
  rw [va] at ga
  rw [vb] at gb
  have loop : (sFor (gmName 5) (sIf (bVal (mOp dInX (mTup (mCons (mVar 0) (mCons (mVar 1) mNil))) (mVar 5))) (sRet (mC (.str "past"))) sNext) (yl.map yi) [some (.str a), some (.str b), some (.loc hn), some bd, some yd, none] S).wp ⟨XF, fun env S' => S' = S ∧ yl.any inY = false, fun d S' => d = .str "past" ∧ S' = S ∧ yl.any inY = true, fun _ _ => False, fun _ _ => False⟩ := by
    refine for_wp yi (fun i env S' => S' = S ∧ (∃ x5, env = [some (.str a), some (.str b), some (.loc hn), some bd, some yd, x5]) ∧ ∀ y ∈ yl.take i, inY y = false) yl 0 _ _ ⟨rfl, ⟨_, rfl⟩, by simp⟩ (fun i y env S' hx hJ => ?_) (fun env S' hJ => ?_)
    · obtain ⟨rfl, ⟨x5, rfl⟩, h3⟩ := hJ
      have hm := List.mem_of_getElem? hx
      rw [Nat.zero_add] at h3 ⊢
      simp? [hy y hm]
      refine ⟨fun hq => ?_, fun hq => ?_⟩
      · exact List.any_eq_true.mpr ⟨y, hm, hq⟩
      · intro z hz
        rw [List.take_succ, hx] at hz
        rcases List.mem_append.mp hz with hz | hz
        · exact h3 _ hz
        · simp at hz
          rw [hz]; exact hq
    · obtain ⟨rfl, ⟨x5, rfl⟩, h3⟩ := hJ
      rw [Nat.zero_add, List.take_length] at h3
      exact ⟨rfl, List.any_eq_false.mpr fun y hy => by simp [h3 y hy]⟩
  have n0 : ∀ S, dEqA (.str a) (.str b) S = .ok (.bl (decide (a = b))) S := fun _ => rfl
  have n1 : ∀ S, dNeA (.str ha) (.str "") S = .ok (.bl (decide (ha ≠ ""))) S := fun S => by rw [neS]; simp
  have n2 : ∀ S, dEqA (.str ha) (.str hb) S = .ok (.bl (decide (ha = hb))) S := fun _ => rfl
  have fin : (sFor (gmName 5) (sIf (bVal (mOp dInX (mTup (mCons (mVar 0) (mCons (mVar 1) mNil))) (mVar 5))) (sRet (mC (.str "past"))) sNext) (yl.map yi) [some (.str a), some (.str b), some (.loc hn), some bd, some yd, none] S).wp { E := XF, N := fun x S' => D.non = rD (rsn4 false false false (yl.any inY)) ∧ S' = S, R := fun d S' => d = rD (rsn4 false false false (yl.any inY)) ∧ S' = S } :=
    loop.mono (fun env S' q => ⟨by rw [q.2]; rfl, q.1⟩) (fun d S' q => ⟨by rw [q.2.2]; exact q.1, q.2.1⟩)
  generalize decide (a = b) = b0 at n0 ⊢
  generalize decide (ha ≠ "") = b1 at n1 ⊢
  generalize decide (ha = hb) = b2 at n2 ⊢
  unfold m_reason_of
  simp? [n0, n1, n2, ga, gb, hB, hs]
  generalize yl.any inY = Y at fin ⊢
  cases b0
  · cases b1 <;> cases b2 <;> cases B <;> cases Y <;> simp [rsn4, rD] <;> simpa [rsn4, rD] using fin
  · simp [rsn4, rD]
section
variable {n : Nat} {m b p : D} {ms bs : Ps} {ys : List Ps} {gap : Int} {S : Store}
def rsn (ms bs : Ps) (ys : List Ps) (g : Int) (a b : PySem.Str) : Option PySem.Str :=
  rsn4 (decide (a = b)) (decide (hou ms a ≠ "") && decide (hou ms a = hou ms b)) (decide ((a, b) ∈ bs)) ((lastY ys g).any fun y => decide ((a, b) ∈ y))
theorem in_tp {d : D} {l : Ps} (h : Tp d (l.map Lg.prD)) (az : ∀ x ∈ l, Az2 x) {q : Pr} (hq : Az2 q) (S : Store) : dInX (Lg.prD q) d S = .ok (.bl (decide (q ∈ l))) S := by
  rw [h.inX]
  exact in_prs az hq S
theorem circle_reason_ok {a c : PySem.Str} (h : S[n]? = some (CiO m b p (.int gap))) (tm : Tp m (ms.map Lg.prD)) (tb : Tp b (bs.map Lg.prD)) (tp : Tp p (ys.map yrD)) (nm : ∀ m ∈ ms, Nm m.1) (ha : a ∈ Nam ms) (hc : c ∈ Nam ms) (hg : 0 ≤ gap) (lb : bs.length ≤ 1000) (ly : ys.length ≤ 1000)
    (rb : bs.Pairwise pLt) (ab : ∀ q ∈ bs, Az2 q) (ay : ∀ y ∈ ys, ∀ q ∈ y, Az2 q) : ∃ kvs, m_Circle_reason [.loc n, .str a, .str c] S = .ok (rD (rsn ms bs ys gap a c)) (S ++ [.dK kvs]) ∧ ∀ kv ∈ kvs, ∃ s, kv.2 = .str s := by
  have o := ci_o h (f := "house_of") rfl
  have q1 := house_ok h tm nm ha
  have q2 := house_ok h tm nm hc
  have f1 := ci_b h
  have f2 := ci_p h
  have f3 := ci_g h
  obtain ⟨k, q3, k1, k2, k3⟩ := place_ok tb lb rb (a, c) S
  have kva : ∀ x : PySem.Str, (x = a ∨ x = c) → valD (mergeD [((.inr a : Key), D.str (hou ms a)), (.inr c, .str (hou ms c))]) (.inr x) = some (.str (hou ms x)) := fun x hx => by
    rw [val_merge]
    by_cases e : c = x
    · subst e; simp
    · have e2 : a = x := by rcases hx with rfl | rfl; rfl; exact absurd rfl e
      subst e2
      simp [e]
  have kst : ∀ kv ∈ mergeD [((.inr a : Key), D.str (hou ms a)), (.inr c, .str (hou ms c))], ∃ s, kv.2 = .str s := merge_all (q := fun d => ∃ s, d = D.str s) fun kv hk => by
    simp only [List.mem_cons, List.not_mem_nil, or_false] at hk
    rcases hk with rfl | rfl <;> exact ⟨_, rfl⟩
  refine ⟨mergeD [((.inr a : Key), D.str (hou ms a)), (.inr c, .str (hou ms c))], eq_wp ?_, kst⟩
  obtain ⟨sb, s1, s2⟩ := sl_tp (f := Lg.prD) tb (some (k : Int)) (some ((k : Int) + 1)) (S ++ [.dK (mergeD [((.inr a : Key), D.str (hou ms a)), (.inr c, .str (hou ms c))])])
  obtain ⟨sy, y1, y2⟩ := last_ok (S := S ++ [.dK (mergeD [((.inr a : Key), D.str (hou ms a)), (.inr c, .str (hou ms c))])]) tp hg ly
  rw [cutA_one k1] at s2
  have ai : ∀ (i j : Int) S, dAdd (.int i) (.int j) S = .ok (.int (i + j)) S := fun _ _ _ => rfl
  have az : Az2 (a, c) := ⟨(nam_az nm ha).az, (nam_az nm hc).az⟩
  have hk := one_at S (Ob.dK (mergeD [((.inr a : Key), D.str (hou ms a)), (.inr c, .str (hou ms c))]))
  have f1' := ci_b (at_app [Ob.dK (mergeD [((.inr a : Key), D.str (hou ms a)), (.inr c, .str (hou ms c))])] h)
  have f2' := ci_p (at_app [Ob.dK (mergeD [((.inr a : Key), D.str (hou ms a)), (.inr c, .str (hou ms c))])] h)
  have f3' := ci_g (at_app [Ob.dK (mergeD [((.inr a : Key), D.str (hou ms a)), (.inr c, .str (hou ms c))])] h)
  have ro := reason_of_ok (α := Ps) (yl := lastY ys gap) (yi := yrD) (inY := fun y => decide ((a, c) ∈ y)) hk (kva a (.inl rfl)) (kva c (.inr rfl)) (in_tp s2 (fun x hx => ab x (List.mem_of_mem_drop (List.mem_of_mem_take hx))) az _) y2.seq (fun y hy => in_tp .x (ay y (List.mem_of_mem_drop hy)) az _)
  rw [show decide ((a, c) ∈ (bs.drop k).take 1) = decide ((a, c) ∈ bs) from decide_eq_decide.mpr (one_in rb k1 k2 k3)] at ro
  have q3' : m_place_of [b, .tup [.str a, .str c]] S = .ok (.int k) S := q3
  have e0 : ∀ x : PySem.Str, keyD (.str x) = some (.inr x) := fun _ => rfl
  unfold m_Circle_reason
  simp? [o, q1, q2, q3', f1, f1', f2', f3', e0, ai, s1, y1, ro]
  exact ⟨by decide, rfl⟩
/-! ### what the reasons say of all -/
theorem find_nd {ms : Ps} (nd : (Nam ms).Nodup) {q : Pr} (hq : q ∈ ms) : ms.find? (fun p => decide (p.1 = q.1)) = some q := by
  induction ms with
  | nil => cases hq
  | cons x l ih =>
    rw [show Nam (x :: l) = x.1 :: Nam l from rfl, List.nodup_cons] at nd
    rcases List.mem_cons.mp hq with rfl | h
    · simp
    · have : x.1 ≠ q.1 := fun e => nd.1 (e ▸ List.mem_map_of_mem h)
      rw [List.find?_cons_of_neg (by simp [this])]
      exact ih nd.2 h
theorem hou_mem {ms : Ps} (nd : (Nam ms).Nodup) {q : Pr} (hq : q ∈ ms) : hou ms q.1 = q.2 := by
  unfold hou
  rw [find_nd nd hq]
  rfl
theorem any_last {ys : List Ps} {g : Int} {q : Pr} : ((lastY ys g).any fun y => decide (q ∈ y)) = decide (q ∈ (lastY ys g).flatMap id) := by
  rw [Bool.eq_iff_iff, decide_eq_true_iff, List.any_eq_true, List.mem_flatMap]
  exact ⟨fun ⟨y, h1, h2⟩ => ⟨y, h1, of_decide_eq_true h2⟩, fun ⟨y, h1, h2⟩ => ⟨y, h1, decide_eq_true h2⟩⟩
theorem rsn4_none {e h B Y : Bool} : rsn4 e h B Y = none ↔ e = false ∧ h = false ∧ B = false ∧ Y = false := by cases e <;> cases h <;> cases B <;> cases Y <;> simp [rsn4]
theorem takL_eq {ms bs : Ps} {ys : List Ps} {g : Int} (nd : (Nam ms).Nodup) (a : PySem.Str) : takL ms bs ys g a = (Nam ms).filter fun o => decide (rsn ms bs ys g a o = none) := by
  unfold takL
  rw [List.filter_map]
  congr 1
  refine List.filter_congr fun q hq => ?_
  rw [Bool.eq_iff_iff]
  simp only [Function.comp, decide_eq_true_iff, rsn, rsn4_none, any_last, barL, List.mem_append, Bool.and_eq_true, Bool.or_eq_true, Bool.not_eq_true', decide_eq_false_iff_not, not_or, hou_mem nd hq, Bool.and_eq_false_iff, ne_eq, Decidable.not_not]
  constructor
  · rintro ⟨h1, h2, h3, h4⟩
    exact ⟨fun e => h1 e.symm, h2.imp id fun h e => h e.symm, h3, h4⟩
  · rintro ⟨h1, h2, h3, h4⟩
    exact ⟨fun e => h1 e.symm, h2.imp id fun h e => h e.symm, h3, h4⟩
theorem givL_eq {ms bs : Ps} {ys : List Ps} {g : Int} (nd : (Nam ms).Nodup) {a : PySem.Str} : givL ms bs ys g a = (Nam ms).filter fun o => decide (rsn ms bs ys g o a = none) := by
  unfold givL
  rw [List.filter_map]
  congr 1
  refine List.filter_congr fun q hq => ?_
  rw [Bool.eq_iff_iff]
  simp only [Function.comp, decide_eq_true_iff, rsn, rsn4_none, any_last, barL, List.mem_append, Bool.and_eq_true, Bool.or_eq_true, Bool.not_eq_true', decide_eq_false_iff_not, not_or, hou_mem nd hq, Bool.and_eq_false_iff, ne_eq, Decidable.not_not]
  constructor
  · rintro ⟨h1, h2, h3, h4⟩
    refine ⟨h1, ?_, h3, h4⟩
    by_cases e : q.2 = ""
    · exact .inl e
    · refine .inr fun e2 => ?_
      rcases h2 with h2 | h2
      · exact e (e2.trans h2)
      · exact h2 e2
  · rintro ⟨h1, h2, h3, h4⟩
    refine ⟨h1, ?_, h3, h4⟩
    by_cases e : hou ms a = ""
    · exact .inl e
    · refine .inr fun e2 => ?_
      rcases h2 with h2 | h2
      · exact e (e2.symm.trans h2)
      · exact h2 e2
end
end Lw

namespace Lw
open PySem L2 Lg
local macro_rules
  | `(tactic| simp? [$ls,*]) => `(tactic| simp only [wp_ok, wp_var, wp_c, wp_op, wp_un, wp_nil, wp_cons, wp_tup, wp_lst, wp_lstL, wp_call, wp_if, wp_val, wp_band, wp_bor, wp_bnot, wp_byes, wp_andV, wp_orV, wp_notV, wp_chain, wp_rng, wp_isi, wp_isO, wp_isX, wp_xg, wp_fldO, wp_meth, wp_make, wp_fmt, exists_false, wp_js0, wp_js1, wp_sl, wp_onone, wp_osome, wp_bmt, wp_dget, wp_star, wp_emp, wp_newK, wp_newT, wp_seq, wp_zip, wp_enum, wp_range1, wp_lc, wp_lcL, wp_lc2, wp_dcL, wp_pairs0, wp_pairs1, wp_disp, wps_next, wps_brk, wps_cont, wps_seq, wps_ret, wps_retN, wps_drop, wps_if, wps_asg, wpg_name, wpg_nil1, wpg_cons1, wpg_tup, wpg_sub, wps_par, two_ok, wps_fld, wps_forI, wps_tryC, wp_def, startE, List.length_cons, List.length_nil, List.map_cons, List.map_nil, List.replicate, List.cons_append, List.nil_append, List.append_nil, List.getElem?_cons_zero, List.getElem?_cons_succ, List.set_cons_zero, List.set_cons_succ, wipeE, Option.some.injEq, exists_eq_left', exists_eq_left, exists_eq, exists_eq', D.bl.injEq, D.str.injEq, D.int.injEq, D.loc.injEq, true_and, and_true, forall_const, reduceCtorEq, false_implies, implies_true, Nat.reduceAdd, Nat.reduceSub, Nat.zero_add, sqd_l, sqd_t, sqd_x, tpd_t, tpd_x, ass_l, ass_t, ass_x, kd_non, kd_bl, kd_int, kd_str, kd_tup, kd_tupX, kd_lst, kd_emp, inn_loc, inn_non, inn_str, inn_int, inn_bl, inn_tup, inn_lst, inn_tupX, zpo_l, zpo_tt, zpo_tx, zpo_xt, zpo_xx, eno_l, eno_t, eno_x, inX_t, inX_l, inX_s, inX_x, notInX_t, notInX_l, notInX_s, notInX_x, tupx_l, sz0, sz1, sz2, sz3, sz4, sz5, sz6, sz7, sz8, sz9, sz10, sz11, sz12, sz13, sz14, sz15, sz16, sz17, sz18, sz19, sz20, sz21, sz22, sz23, sz24, decide_true, decide_false, false_and, and_false, false_or, or_false, isn, Option.isSome_none, Option.isSome_some, Bool.true_eq_false, Bool.false_eq_true, Bool.not_true, Bool.not_false, List.cons.injEq, exists_and_left, $ls,*])
/-! ### by own methods -/
theorem co1_no {c : Nat} {want : D → Bool} {f base : List D → Store → Res D} {d : D} {S : Store} (h : ¬ insC d S = some c) : cO1 c want f base [d] S = base [d] S := if_neg h
theorem co1_yes {c : Nat} {want : D → Bool} {f base : List D → Store → Res D} {d v : D} {S S' : Store} (h : insC d S = some c) (e : f [d] S = .ok v S') (w : want v = true) : cO1 c want f base [d] S = .ok v S' := by
  show (if insC d S = some c then (f [d] S).bind fun v S' => if want v = true then Res.ok v S' else Res.stuck else base [d] S) = _
  rw [if_pos h, e]
  exact if_pos w
theorem neBB (a : Bool) (S : Store) : dNeA (.bl a) (.bl a) S = .ok (.bl false) S := by cases a <;> rfl
theorem cap_any {bs : List Bool} {S : Store} : cAny [.lst (bs.map D.bl)] S = .ok (.bl (bs.any id)) S := by
  simp [cAny, asL, bls_bl]
theorem cap_all {bs : List Bool} {S : Store} : cAll [.lst (bs.map D.bl)] S = .ok (.bl (bs.all id)) S := by
  simp [cAll, asL, bls_bl]
theorem len_want {k : Nat} (h : k ≤ 1000) : isLenD (.int k) = true := by
  unfold isLenD
  exact decide_eq_true ⟨by omega, by
    have : (1000 : Int) < 2 ^ 63 := by decide
    omega⟩
/-- a circle made without bars, without years -/
theorem circle_init0 (m g : D) (S : Store) : m_Circle_init [.loc S.length, m, .non, .non, g] (S ++ [.ins 11 []]) = .ok .non (S ++ [CiO m (.tup []) (.tup []) g]) := by
  refine eq_wp ?_
  unfold m_Circle_init
  have e1 : ∀ m : D, putD "members" m [] = [(("members" : PySem.Str), m)] := fun _ => rfl
  have e2 : ∀ m b : D, putD "bars" b [("members", m)] = [(("members" : PySem.Str), m), ("bars", b)] := fun _ _ => rfl
  have e3 : ∀ m b p : D, putD "past" p [("members", m), ("bars", b)] = [(("members" : PySem.Str), m), ("bars", b), ("past", p)] := fun _ _ _ => rfl
  have e4 : ∀ m b p g : D, putD "gap" g [("members", m), ("bars", b), ("past", p)] = [(("members" : PySem.Str), m), ("bars", b), ("past", p), ("gap", g)] := fun _ _ _ _ => rfl
  simp? [isn]
  refine ⟨_, at_last _ _, by simp, ?_⟩
  rw [set_last, e1]
  refine ⟨_, at_last _ _, by simp, ?_⟩
  rw [set_last, e2]
  refine ⟨_, at_last _ _, by simp, ?_⟩
  rw [set_last, e3]
  refine ⟨_, at_last _ _, by simp, ?_⟩
  rw [set_last, e4]
  rfl
end Lw

namespace Lw
open PySem L2 Lg
def m__law_reason : List D → Store → Res D := mDef 12 3 (sSeq (sAsg (mVar 0) (gmTup 5 (gmCons (gmName 3) (gmCons (gmName 4) (gmCons (gmName 5) (gmCons (gmName 6) (gmCons (gmName 7) gmNil))))))) (sSeq (sAsg (mCall cDictX (mCons (mVar 3) mNil)) (gmName 8)) (sSeq (sIf (bVal (mOp dEqA (mVar 1) (mVar 2))) (sRet (mC (.str "self"))) sNext) (sSeq (sIf (bAnd (bVal (mOp dNeA (mDGet (mVar 8) (mVar 1)) (mC (.str "")))) (bVal (mOp dEqA (mDGet (mVar 8) (mVar 1)) (mDGet (mVar 8) (mVar 2))))) (sRet (mC (.str "house"))) sNext) (sSeq (sIf (bVal (mOp dInX (mTup (mCons (mVar 1) (mCons (mVar 2) mNil))) (mVar 4))) (sRet (mC (.str "bar"))) sNext) (sSeq (sAsg (mLc (itEnumA (mCons (mVar 5) mNil)) (gmTup 2 (gmCons (gmName 10) (gmCons (gmName 11) gmNil))) (bVal (mOp dGe (mOp dAdd (mVar 10) (mVar 6)) (mCall cLen (mCons (mVar 5) mNil)))) (mVar 11) [10, 11]) (gmName 9)) (sRet (mIf (bVal (mCall cAny (mCons (mLc (itSeq (mVar 9)) (gmName 11) bYes (mOp dInX (mTup (mCons (mVar 1) (mCons (mVar 2) mNil))) (mVar 11)) [11]) mNil))) (mC (.str "past")) (mC .non)))))))))
local macro_rules
  | `(tactic| simp? [$ls,*]) => `(tactic| simp only [wp_ok, wp_var, wp_c, wp_op, wp_un, wp_nil, wp_cons, wp_tup, wp_lst, wp_lstL, wp_call, wp_if, wp_val, wp_band, wp_bor, wp_bnot, wp_byes, wp_andV, wp_orV, wp_notV, wp_chain, wp_rng, wp_isi, wp_isO, wp_isX, wp_xg, wp_fldO, wp_meth, wp_make, wp_fmt, exists_false, wp_js0, wp_js1, wp_sl, wp_onone, wp_osome, wp_bmt, wp_dget, wp_star, wp_emp, wp_newK, wp_newT, wp_seq, wp_zip, wp_enum, wp_range1, wp_lc, wp_lcL, wp_lc2, wp_dcL, wp_pairs0, wp_pairs1, wp_disp, wps_next, wps_brk, wps_cont, wps_seq, wps_ret, wps_retN, wps_drop, wps_if, wps_asg, wpg_name, wpg_nil1, wpg_cons1, wpg_tup, wpg_sub, wps_par, two_ok, wps_fld, wps_forI, wps_tryC, wp_def, startE, List.length_cons, List.length_nil, List.map_cons, List.map_nil, List.replicate, List.cons_append, List.nil_append, List.append_nil, List.getElem?_cons_zero, List.getElem?_cons_succ, List.set_cons_zero, List.set_cons_succ, wipeE, Option.some.injEq, exists_eq_left', exists_eq_left, exists_eq, exists_eq', D.bl.injEq, D.str.injEq, D.int.injEq, D.loc.injEq, true_and, and_true, forall_const, reduceCtorEq, false_implies, implies_true, Nat.reduceAdd, Nat.reduceSub, Nat.zero_add, sqd_l, sqd_t, sqd_x, tpd_t, tpd_x, ass_l, ass_t, ass_x, kd_non, kd_bl, kd_int, kd_str, kd_tup, kd_tupX, kd_lst, kd_emp, inn_loc, inn_non, inn_str, inn_int, inn_bl, inn_tup, inn_lst, inn_tupX, zpo_l, zpo_tt, zpo_tx, zpo_xt, zpo_xx, eno_l, eno_t, eno_x, inX_t, inX_l, inX_s, inX_x, notInX_t, notInX_l, notInX_s, notInX_x, tupx_l, sz0, sz1, sz2, sz3, sz4, sz5, sz6, sz7, sz8, sz9, sz10, sz11, sz12, sz13, sz14, sz15, sz16, sz17, sz18, sz19, sz20, sz21, sz22, sz23, sz24, decide_true, decide_false, false_and, and_false, false_or, or_false, isn, Option.isSome_none, Option.isSome_some, Bool.true_eq_false, Bool.false_eq_true, Bool.not_true, Bool.not_false, List.cons.injEq, exists_and_left, $ls,*])
/-! ### by the law's own look -/
theorem recent {α : Type} (c : Int) : ∀ (ys : List α) (o : Nat), ((List.zip (List.range' o ys.length) ys).filter fun q => decide (c ≤ (q.1 : Int))).map (·.2) = ys.drop (c.toNat - o)
  | [], _ => by simp
  | y :: ys, o => by
    rw [List.length_cons, List.range'_succ, List.zip_cons_cons]
    have ih := recent c ys (o + 1)
    by_cases h : c ≤ (o : Int)
    · rw [List.filter_cons_of_pos (by simpa using h), List.map_cons, ih, show c.toNat - o = 0 by omega, show c.toNat - (o + 1) = 0 by omega]
      rfl
    · rw [List.filter_cons_of_neg (by simpa using h), ih, show c.toNat - o = (c.toNat - (o + 1)) + 1 by omega]
      rfl
theorem enum_map {α : Type} (f : α → D) (ys : List α) : enumD (ys.map f) = (List.zip (List.range ys.length) ys).map fun q => D.tup [.int (q.1 : Nat), f q.2] := by
  unfold enumD
  rw [List.length_map, List.zip, List.zipWith_map_right, List.map_zipWith]
theorem dict_prs (ms : Ps) (S : Store) : cDictX [.tupX (ms.map Lg.prD)] S = .ok (.loc S.length) (S ++ [.dK (mergeD (ms.map fun q => (.inr q.1, .str q.2)))]) := by
  simp only [cDictX, pairsD_prs]

section
variable {ms bs : Ps} {ys : List Ps} {gap : Int} {w0 w1 : PySem.Str} {S : Store}
theorem law_reason_ok (ok : Ok ms bs ys gap) {a c : PySem.Str} (ha : a ∈ Nam ms) (hc : c ∈ Nam ms) : ∃ kvs, m__law_reason [PaD ms bs ys gap w0 w1, .str a, .str c] S = .ok (rD (rsn ms bs ys gap a c)) (S ++ [.dK kvs]) ∧ ∀ kv ∈ kvs, ∃ s, kv.2 = .str s := by
  have kst : ∀ kv ∈ mergeD (ms.map fun q => ((.inr q.1 : Key), D.str q.2)), ∃ s, kv.2 = .str s := merge_all (q := fun d => ∃ s, d = D.str s) fun kv hk => by
    obtain ⟨q, _, rfl⟩ := List.mem_map.mp hk
    exact ⟨_, rfl⟩
  have va : ∀ x ∈ Nam ms, valD (mergeD (ms.map fun q => ((.inr q.1 : Key), D.str q.2))) (.inr x) = some (.str (hou ms x)) := fun x hx => val_kv (f := fun q => q.1) (v := fun q => q.2) ok.nd hx
  have az : Az2 (a, c) := ⟨(nam_az ok.nm ha).az, (nam_az ok.nm hc).az⟩
  refine ⟨_, eq_wp ?_, kst⟩
  have dk := dict_prs ms S
  have hk := one_at S (Ob.dK (mergeD (ms.map fun q => ((.inr q.1 : Key), D.str q.2))))
  have ga := get_str hk a
  have gc := get_str hk c
  rw [va a ha] at ga
  rw [va c hc] at gc
  generalize S ++ [Ob.dK (mergeD (ms.map fun q => ((.inr q.1 : Key), D.str q.2)))] = S1 at dk ga gc
  have tb := in_tp (d := .tupX (bs.map Lg.prD)) .x ok.az az S1
  have tq : ∀ a b c d e : D, tupD (.tup [a, b, c, d, e]) = some [a, b, c, d, e] := fun _ _ _ _ _ => rfl
  have n0 : ∀ S, dEqA (.str a) (.str c) S = .ok (.bl (decide (a = c))) S := fun _ => rfl
  have n1 : ∀ S, dNeA (.str (hou ms a)) (.str "") S = .ok (.bl (decide (hou ms a ≠ ""))) S := fun S => by rw [neS]; simp
  have n2 : ∀ S, dEqA (.str (hou ms a)) (.str (hou ms c)) S = .ok (.bl (decide (hou ms a = hou ms c))) S := fun _ => rfl
  have tb' : dIn (.tup [.str a, .str c]) (.tup (bs.map Lg.prD)) S1 = .ok (.bl (decide ((a, c) ∈ bs))) S1 := in_prs ok.az az S1
  have comp1 : ∀ (x0 x7 x8 : Option D) (Q : List D → Store → Prop), Q ((lastY ys gap).map yrD) S1 → (mLcGo (gmTup 2 (gmCons (gmName 10) (gmCons (gmName 11) gmNil))) (bVal (mOp dGe (mOp dAdd (mVar 10) (mVar 6)) (mCall cLen (mCons (mVar 5) mNil)))) (mVar 11) [x0, some (.str a), some (.str c), some (.tupX (ms.map Lg.prD)), some (.tupX (bs.map Lg.prD)), some (.tupX (ys.map yrD)), some (.int gap), x7, x8, none, none, none] (enumD (ys.map yrD)) [] S1).wp XF Q := by
    intro x0 x7 x8 Q hQ
    rw [enum_map]
    refine lc_wp (fun q : Nat × Ps => D.tup [.int (q.1 : Nat), yrD q.2]) (fun q => decide ((ys.length : Int) - gap ≤ (q.1 : Int))) (fun q => yrD q.2) (fun S => S = S1) _ rfl (Nat.le_trans (show _ ≤ 1000 by have := ok.ly; rw [List.length_zip, List.length_range]; omega) (by decide)) (fun q hq S hS => ?_) (fun S hS => ?_)
    · subst hS
      have tq2 : tupD (.tup [.int (q.1 : Nat), yrD q.2]) = some [.int (q.1 : Nat), yrD q.2] := rfl
      have ad : ∀ (i j : Int) S, dAdd (.int i) (.int j) S = .ok (.int (i + j)) S := fun _ _ _ => rfl
      have ge : ∀ (i j : Int) S, dGe (.int i) (.int j) S = .ok (.bl (decide (i ≥ j))) S := fun _ _ _ => rfl
      have ln : cLen [.tupX (ys.map yrD)] S = .ok (.int ys.length) S := by have := (Tp.x (ds := ys.map yrD)).len S; rw [List.length_map] at this; exact this
      simp? [tq2, ad, ge, ln]
      rw [decide_eq_decide]
      omega
    · subst hS
      have := recent ((ys.length : Int) - gap) ys 0
      rw [← List.range_eq_range', Nat.sub_zero] at this
      have e : ((ys.length : Int) - gap).toNat = ys.length - gap.toNat := by have := ok.g0; omega
      rw [e] at this
      rw [show (fun q : Nat × Ps => yrD q.2) = yrD ∘ (fun q : Nat × Ps => q.2) from rfl, ← List.map_map, this]
      exact hQ
  have comp2 : ∀ (x0 x3 x4 x5 x6 x7 x8 x9 : Option D) (Q : List D → Store → Prop), Q (((lastY ys gap).map fun y => decide ((a, c) ∈ y)).map D.bl) S1 → (mLcGo (gmName 11) bYes (mOp dInX (mTup (mCons (mVar 1) (mCons (mVar 2) mNil))) (mVar 11)) [x0, some (.str a), some (.str c), x3, x4, x5, x6, x7, x8, x9, none, none] ((lastY ys gap).map yrD) [] S1).wp XF Q := by
    intro x0 x3 x4 x5 x6 x7 x8 x9 Q hQ
    refine lc_wp yrD (fun _ => true) (fun y => D.bl (decide ((a, c) ∈ y))) (fun S => S = S1) _ rfl (Nat.le_trans (show _ ≤ 1000 by have := ok.ly; unfold lastY; rw [List.length_drop]; omega) (by decide)) (fun y hy S hS => ?_) (fun S hS => ?_)
    · subst hS
      have q := in_prs (l := y) (a := (a, c)) (fun x hx => ok.ay y (List.mem_of_mem_drop hy) x hx) az S
      have q' : dIn (.tup [.str a, .str c]) (.tup (y.map Lg.prD)) S = .ok (.bl (decide ((a, c) ∈ y))) S := q
      simp? [yrD, q']
    · subst hS
      rw [List.filter_eq_self.mpr fun _ _ => rfl]
      rw [List.map_map] at hQ
      exact hQ
  have an : cAny [.lst (((lastY ys gap).map fun y => decide ((a, c) ∈ y)).map D.bl)] S1 = .ok (.bl ((lastY ys gap).any fun y => decide ((a, c) ∈ y))) S1 := by
    rw [cap_any, List.any_map]
    rfl
  have fin : ∀ P : D → Store → Prop, P (if ((lastY ys gap).any fun y => decide ((a, c) ∈ y)) = true then .str "past" else .non) S1 → ∀ (x0 x7 x8 : Option D), (mLcGo (gmTup 2 (gmCons (gmName 10) (gmCons (gmName 11) gmNil))) (bVal (mOp dGe (mOp dAdd (mVar 10) (mVar 6)) (mCall cLen (mCons (mVar 5) mNil)))) (mVar 11) [x0, some (.str a), some (.str c), some (.tupX (ms.map Lg.prD)), some (.tupX (bs.map Lg.prD)), some (.tupX (ys.map yrD)), some (.int gap), x7, x8, none, none, none] (enumD (ys.map yrD)) [] S1).wp XF fun xs S2 =>
      (mLcGo (gmName 11) bYes (mOp dInX (mTup (mCons (mVar 1) (mCons (mVar 2) mNil))) (mVar 11)) [x0, some (.str a), some (.str c), some (.tupX (ms.map Lg.prD)), some (.tupX (bs.map Lg.prD)), some (.tupX (ys.map yrD)), some (.int gap), x7, x8, some (.lst xs), none, none] xs [] S2).wp XF fun xs S2 => (cAny [.lst xs] S2).wp XF fun x S3 => ∃ k, x = D.bl k ∧ (k = true → P (.str "past") S3) ∧ (k = false → P .non S3) := by
    intro P hP x0 x7 x8
    refine comp1 _ _ _ _ (comp2 _ _ _ _ _ _ _ _ _ ?_)
    simp only [an, wp_ok]
    refine ⟨_, rfl, fun h => ?_, fun h => ?_⟩
    · rw [if_pos h] at hP; exact hP
    · rw [if_neg (by simp [h])] at hP; exact hP
  have key : rD (rsn ms bs ys gap a c) = if decide (a = c) = true then .str "self" else if (decide (hou ms a ≠ "") && decide (hou ms a = hou ms c)) = true then .str "house" else if decide ((a, c) ∈ bs) = true then .str "bar" else if ((lastY ys gap).any fun y => decide ((a, c) ∈ y)) = true then .str "past" else .non := by
    unfold rsn rsn4
    split
    · rfl
    split
    · rfl
    split
    · rfl
    split <;> rfl
  rw [key]
  generalize decide (a = c) = b0 at n0 ⊢
  generalize decide (hou ms a ≠ "") = b1 at n1 ⊢
  generalize decide (hou ms a = hou ms c) = b2 at n2 ⊢
  generalize decide ((a, c) ∈ bs) = b3 at tb' ⊢
  unfold m__law_reason
  simp? [PaD, tq, dk, ga, gc, n0, n1, n2, tb']
  have fin' := fin (fun d S3 => d = (if ((lastY ys gap).any fun y => decide ((a, c) ∈ y)) = true then .str "past" else .non) ∧ S3 = S1) ⟨rfl, rfl⟩
  cases b0 <;> cases b1 <;> cases b2 <;> cases b3 <;> simp only [if_true, if_false, Bool.false_eq_true, true_and, and_true, false_implies, forall_const, reduceCtorEq, implies_true, Bool.and_true, Bool.and_false, Bool.true_eq_false, and_self] <;> first | exact fin' _ _ _ | skip
end
end Lw

namespace Lw
open PySem L2 Lg RZ
def top (i : Nat) : Stmt := PySem.Challenge.pw_lotgivers_k02_circles_asked.main.body.getD i (.Pass ⟨0, 0, 0, 0⟩)
def clsSt (st : Stmt) (i : Nat) : Stmt := match st with
  | .ClassDef (body := b) .. => b.getD i (.Pass ⟨0, 0, 0, 0⟩)
  | _ => .Pass ⟨0, 0, 0, 0⟩
def ok_fl_name (c : Nat) : Bool := [0].contains c
def okE (c : Nat) : Bool := [11].contains c
def io_Circle (c : Nat) : Option Bool := if [11].contains c = true then some (c == 11) else none
abbrev s_Circle_init : Stmt := clsSt (top 9) 0
abbrev N_Circle_init : List PySem.Str := ["self", "members", "bars", "past", "gap"]
theorem sc_Circle_init : FnScope N_Circle_init ["self", "members", "bars", "past", "gap"] (defScope s_Circle_init) := ⟨rfl, rfl, rfl, by decide +kernel, rfl, by decide +kernel, by decide +kernel⟩
abbrev s_Circle_eq : Stmt := clsSt (top 9) 1
abbrev N_Circle_eq : List PySem.Str := ["self", "other"]
theorem sc_Circle_eq : FnScope N_Circle_eq ["self", "other"] (defScope s_Circle_eq) := ⟨rfl, rfl, rfl, by decide +kernel, rfl, by decide +kernel, by decide +kernel⟩
def m_Circle_eq : List D → Store → Res D := mDef 2 2 (sRet (mAndV (mIsO io_Circle (mVar 1)) (mAndV (mOp dEqA (mFldO ok_of_members "members" (mVar 0)) (mFldO ok_of_members "members" (mVar 1))) (mAndV (mOp dEqA (mFldO ok_of_bars "bars" (mVar 0)) (mFldO ok_of_bars "bars" (mVar 1))) (mAndV (mOp dEqA (mFldO ok_of_past "past" (mVar 0)) (mFldO ok_of_past "past" (mVar 1))) (mOp dEqA (mFldO ok_of_gap "gap" (mVar 0)) (mFldO ok_of_gap "gap" (mVar 1))))))))
abbrev s_Circle_len : Stmt := clsSt (top 9) 2
abbrev N_Circle_len : List PySem.Str := ["self"]
theorem sc_Circle_len : FnScope N_Circle_len ["self"] (defScope s_Circle_len) := ⟨rfl, rfl, rfl, by decide +kernel, rfl, by decide +kernel, by decide +kernel⟩
abbrev s_Circle_repr : Stmt := clsSt (top 9) 3
abbrev N_Circle_repr : List PySem.Str := ["self"]
theorem sc_Circle_repr : FnScope N_Circle_repr ["self"] (defScope s_Circle_repr) := ⟨rfl, rfl, rfl, by decide +kernel, rfl, by decide +kernel, by decide +kernel⟩
abbrev s_member_rows : Stmt := top 15
abbrev N_member_rows : List PySem.Str := ["members", "name", "house"]
theorem sc_member_rows : FnScope N_member_rows ["members"] (defScope s_member_rows) := ⟨rfl, rfl, rfl, by decide +kernel, rfl, by decide +kernel, by decide +kernel⟩
abbrev s_year_rows : Stmt := top 16
abbrev N_year_rows : List PySem.Str := ["past", "rows", "year", "giver", "taker"]
theorem sc_year_rows : FnScope N_year_rows ["past"] (defScope s_year_rows) := ⟨rfl, rfl, rfl, by decide +kernel, rfl, by decide +kernel, by decide +kernel⟩
abbrev s_circle_rows : Stmt := top 14
abbrev N_circle_rows : List PySem.Str := ["members", "bars", "past", "gap", "bar_rows", "giver", "taker"]
theorem sc_circle_rows : FnScope N_circle_rows ["members", "bars", "past", "gap"] (defScope s_circle_rows) := ⟨rfl, rfl, rfl, by decide +kernel, rfl, by decide +kernel, by decide +kernel⟩
abbrev s_Circle_str : Stmt := clsSt (top 9) 4
abbrev N_Circle_str : List PySem.Str := ["self"]
theorem sc_Circle_str : FnScope N_Circle_str ["self"] (defScope s_Circle_str) := ⟨rfl, rfl, rfl, by decide +kernel, rfl, by decide +kernel, by decide +kernel⟩
abbrev s_Circle_names : Stmt := clsSt (top 9) 5
abbrev N_Circle_names : List PySem.Str := ["self", "name", "_"]
theorem sc_Circle_names : FnScope N_Circle_names ["self"] (defScope s_Circle_names) := ⟨rfl, rfl, rfl, by decide +kernel, rfl, by decide +kernel, by decide +kernel⟩
abbrev s_is_name : Stmt := top 7
abbrev N_is_name : List PySem.Str := ["thing"]
theorem sc_is_name : FnScope N_is_name ["thing"] (defScope s_is_name) := ⟨rfl, rfl, rfl, by decide +kernel, rfl, by decide +kernel, by decide +kernel⟩
abbrev s_Circle_has : Stmt := clsSt (top 9) 6
abbrev N_Circle_has : List PySem.Str := ["self", "name"]
theorem sc_Circle_has : FnScope N_Circle_has ["self", "name"] (defScope s_Circle_has) := ⟨rfl, rfl, rfl, by decide +kernel, rfl, by decide +kernel, by decide +kernel⟩
abbrev s_copied : Stmt := top 1
abbrev N_copied : List PySem.Str := ["thing", "part", "key", "worth"]
theorem sc_copied : FnScope N_copied ["thing"] (defScope s_copied) := ⟨rfl, rfl, rfl, by decide +kernel, rfl, by decide +kernel, by decide +kernel⟩
abbrev s_i_NoMember : Stmt := clsSt (top 4) 0
abbrev N_i_NoMember : List PySem.Str := ["self", "name"]
theorem sc_i_NoMember : ScS N_i_NoMember ["self", "name"] (defScope s_i_NoMember) := ⟨rfl, rfl, rfl, by decide +kernel, rfl, by decide +kernel, by decide +kernel, by decide +kernel, rfl, rfl⟩
abbrev s_Circle_house_of : Stmt := clsSt (top 9) 7
abbrev N_Circle_house_of : List PySem.Str := ["self", "name", "one", "house"]
theorem sc_Circle_house_of : FnScope N_Circle_house_of ["self", "name"] (defScope s_Circle_house_of) := ⟨rfl, rfl, rfl, by decide +kernel, rfl, by decide +kernel, by decide +kernel⟩
abbrev s_place_of : Stmt := top 12
abbrev N_place_of : List PySem.Str := ["pairs", "pair", "low", "high", "middle"]
theorem sc_place_of : FnScope N_place_of ["pairs", "pair"] (defScope s_place_of) := ⟨rfl, rfl, rfl, by decide +kernel, rfl, by decide +kernel, by decide +kernel⟩
abbrev s_reason_of : Stmt := top 10
abbrev N_reason_of : List PySem.Str := ["giver", "taker", "houses", "bars", "years", "year"]
theorem sc_reason_of : FnScope N_reason_of ["giver", "taker", "houses", "bars", "years"] (defScope s_reason_of) := ⟨rfl, rfl, rfl, by decide +kernel, rfl, by decide +kernel, by decide +kernel⟩
abbrev s_last_of : Stmt := top 13
abbrev N_last_of : List PySem.Str := ["years", "gap"]
theorem sc_last_of : FnScope N_last_of ["years", "gap"] (defScope s_last_of) := ⟨rfl, rfl, rfl, by decide +kernel, rfl, by decide +kernel, by decide +kernel⟩
abbrev s_Circle_reason : Stmt := clsSt (top 9) 8
abbrev N_Circle_reason : List PySem.Str := ["self", "giver", "taker", "house", "other_house", "place", "houses"]
theorem sc_Circle_reason : FnScope N_Circle_reason ["self", "giver", "taker"] (defScope s_Circle_reason) := ⟨rfl, rfl, rfl, by decide +kernel, rfl, by decide +kernel, by decide +kernel⟩
abbrev s_Circle_barred : Stmt := clsSt (top 9) 9
abbrev N_Circle_barred : List PySem.Str := ["self", "year", "pair"]
theorem sc_Circle_barred : FnScope N_Circle_barred ["self"] (defScope s_Circle_barred) := ⟨rfl, rfl, rfl, by decide +kernel, rfl, by decide +kernel, by decide +kernel⟩
abbrev s_others_of : Stmt := top 11
abbrev N_others_of : List PySem.Str := ["members", "name", "house", "gone", "other", "other_house"]
theorem sc_others_of : FnScope N_others_of ["members", "name", "house", "gone"] (defScope s_others_of) := ⟨rfl, rfl, rfl, by decide +kernel, rfl, by decide +kernel, by decide +kernel⟩
abbrev s_Circle_takers : Stmt := clsSt (top 9) 10
abbrev N_Circle_takers : List PySem.Str := ["self", "giver", "house", "gone", "one", "taker"]
theorem sc_Circle_takers : FnScope N_Circle_takers ["self", "giver"] (defScope s_Circle_takers) := ⟨rfl, rfl, rfl, by decide +kernel, rfl, by decide +kernel, by decide +kernel⟩
abbrev s_Circle_givers : Stmt := clsSt (top 9) 11
abbrev N_Circle_givers : List PySem.Str := ["self", "taker", "house", "gone", "giver", "one"]
theorem sc_Circle_givers : FnScope N_Circle_givers ["self", "taker"] (defScope s_Circle_givers) := ⟨rfl, rfl, rfl, by decide +kernel, rfl, by decide +kernel, by decide +kernel⟩
abbrev s__law_blend : Stmt := top 18
abbrev N__law_blend : List PySem.Str := ["_law_number", "_law_turn", "_law_seed", "_law_once"]
theorem sc__law_blend : FnScope N__law_blend ["_law_number", "_law_turn"] (defScope s__law_blend) := ⟨rfl, rfl, rfl, by decide +kernel, rfl, by decide +kernel, by decide +kernel⟩
abbrev s__law_pot : Stmt := top 19
abbrev N__law_pot : List PySem.Str := ["_law_script"]
theorem sc__law_pot : FnScope N__law_pot ["_law_script"] (defScope s__law_pot) := ⟨rfl, rfl, rfl, by decide +kernel, rfl, by decide +kernel, by decide +kernel⟩
abbrev s__law_draw : Stmt := top 20
abbrev N__law_draw : List PySem.Str := ["_law_pot_here", "_law_size", "_law_cell", "_law_digit"]
theorem sc__law_draw : FnScope N__law_draw ["_law_pot_here", "_law_size"] (defScope s__law_draw) := ⟨rfl, rfl, rfl, by decide +kernel, rfl, by decide +kernel, by decide +kernel⟩
abbrev s__law_pick : Stmt := top 21
abbrev N__law_pick : List PySem.Str := ["_law_pot_here", "_law_some"]
theorem sc__law_pick : FnScope N__law_pick ["_law_pot_here", "_law_some"] (defScope s__law_pick) := ⟨rfl, rfl, rfl, by decide +kernel, rfl, by decide +kernel, by decide +kernel⟩
abbrev s__law_words : Stmt := top 22
abbrev N__law_words : List PySem.Str := ["_law_pot_here", "_law_size", "_law_letters", "_law_found", "_law_stem", "_law_at", "_law_way", "_law_k", "_law_letter"]
theorem sc__law_words : FnScope N__law_words ["_law_pot_here", "_law_size"] (defScope s__law_words) := ⟨rfl, rfl, rfl, by decide +kernel, rfl, by decide +kernel, by decide +kernel⟩
abbrev s__law_pairs : Stmt := top 23
abbrev N__law_pairs : List PySem.Str := ["_law_pot_here", "_law_pool", "_law_size", "_law_found", "_law_turn"]
theorem sc__law_pairs : FnScope N__law_pairs ["_law_pot_here", "_law_pool", "_law_size"] (defScope s__law_pairs) := ⟨rfl, rfl, rfl, by decide +kernel, rfl, by decide +kernel, by decide +kernel⟩
abbrev s__law_turned_round : Stmt := top 24
abbrev N__law_turned_round : List PySem.Str := ["_law_pot_here", "_law_some", "_law_rest", "_law_found", "_law_one"]
theorem sc__law_turned_round : FnScope N__law_turned_round ["_law_pot_here", "_law_some"] (defScope s__law_turned_round) := ⟨rfl, rfl, rfl, by decide +kernel, rfl, by decide +kernel, by decide +kernel⟩
abbrev s__law_parts : Stmt := top 25
abbrev N__law_parts : List PySem.Str := ["_law_pot_here", "_law_most", "_law_words_here", "_law_inner", "_law_strange", "_law_houses", "_law_members", "_law_bars", "_law_past", "_law_turn", "_law_gap", "_law_one"]
theorem sc__law_parts : FnScope N__law_parts ["_law_pot_here", "_law_most"] (defScope s__law_parts) := ⟨rfl, rfl, rfl, by decide +kernel, rfl, by decide +kernel, by decide +kernel⟩
abbrev s__law_reason : Stmt := top 26
abbrev N__law_reason : List PySem.Str := ["_law_parts_here", "_law_one", "_law_other", "_law_members", "_law_bars", "_law_past", "_law_gap", "_law_strange", "_law_houses", "_law_recent", "_law_k", "_law_year"]
theorem sc__law_reason : FnScope N__law_reason ["_law_parts_here", "_law_one", "_law_other"] (defScope s__law_reason) := ⟨rfl, rfl, rfl, by decide +kernel, rfl, by decide +kernel, by decide +kernel⟩
abbrev s__law_values_right : Stmt := top 27
abbrev N__law_values_right : List PySem.Str := ["_law_circle", "_law_parts_here", "_law_members", "_law_bars", "_law_past", "_law_gap", "_law_strange", "_law_one", "_law_house"]
theorem sc__law_values_right : FnScope N__law_values_right ["_law_circle", "_law_parts_here"] (defScope s__law_values_right) := ⟨rfl, rfl, rfl, by decide +kernel, rfl, by decide +kernel, by decide +kernel⟩
def m__law_values_right : List D → Store → Res D := mDef 9 2 (sSeq (sAsg (mVar 1) (gmTup 5 (gmCons (gmName 2) (gmCons (gmName 3) (gmCons (gmName 4) (gmCons (gmName 5) (gmCons (gmName 6) gmNil))))))) (sSeq (sIf (bOr (bVal (mOp dNeA (mTup (mCons (mFldO ok_of_members "members" (mVar 0)) (mCons (mFldO ok_of_bars "bars" (mVar 0)) (mCons (mFldO ok_of_past "past" (mVar 0)) mNil)))) (mTup (mCons (mVar 2) (mCons (mVar 3) (mCons (mVar 4) mNil)))))) (bVal (mOp dNeA (mFldO ok_of_gap "gap" (mVar 0)) (mVar 5)))) (sRet (mC (.bl false))) sNext) (sSeq (sIf (bOr (bVal (mIsi "bool" (mFldO ok_of_gap "gap" (mVar 0)))) (bVal (mOp dNeA (mCall (cO1 11 isStrD m_Circle_repr cReprS) (mCons (mVar 0) mNil)) (mOp dAdd (mOp dAdd (mC (.str "Circle(")) (mCall cStr (mCons (mCall cLen (mCons (mVar 2) mNil)) mNil))) (mC (.str ")")))))) (sRet (mC (.bl false))) sNext) (sSeq (sIf (bVal (mOp dNeA (mCall (cO1 11 isLenD m_Circle_len cLen) (mCons (mVar 0) mNil)) (mCall cLen (mCons (mVar 2) mNil)))) (sRet (mC (.bl false))) sNext) (sRet (mOp dEqA (mMeth 11 "names" m_Circle_names [] (mVar 0) mNil) (mCall cTupX (mCons (mLc (itSeq (mVar 2)) (gmTup 2 (gmCons (gmName 7) (gmCons (gmName 8) gmNil))) bYes (mVar 7) [7, 8]) mNil))))))))
abbrev s__law_one_right : Stmt := top 28
abbrev N__law_one_right : List PySem.Str := ["_law_circle", "_law_parts_here", "_law_one", "_law_some", "_law_ahead", "_law_behind", "_law_other", "_law_due"]
theorem sc__law_one_right : FnScope N__law_one_right ["_law_circle", "_law_parts_here", "_law_one", "_law_some"] (defScope s__law_one_right) := ⟨rfl, rfl, rfl, by decide +kernel, rfl, by decide +kernel, by decide +kernel⟩
def m__law_one_right : List D → Store → Res D := mDef 8 4 (sSeq (sAsg (mLc (itSeq (mVar 3)) (gmName 6) bYes (mCall m__law_reason (mCons (mVar 1) (mCons (mVar 2) (mCons (mVar 6) mNil)))) [6]) (gmName 4)) (sSeq (sAsg (mLc (itSeq (mVar 3)) (gmName 6) bYes (mCall m__law_reason (mCons (mVar 1) (mCons (mVar 6) (mCons (mVar 2) mNil)))) [6]) (gmName 5)) (sSeq (sIf (bVal (mOp dNeA (mMeth 11 "takers" m_Circle_takers [] (mVar 0) (mCons (mVar 2) mNil)) (mCall cTupX (mCons (mLc (itZip (mCons (mVar 3) (mCons (mVar 4) mNil))) (gmTup 2 (gmCons (gmName 6) (gmCons (gmName 7) gmNil))) (bVal (mOp dIsN (mVar 7) (mC .non))) (mVar 6) [6, 7]) mNil)))) (sRet (mC (.bl false))) sNext) (sSeq (sIf (bVal (mOp dNeA (mMeth 11 "givers" m_Circle_givers [] (mVar 0) (mCons (mVar 2) mNil)) (mCall cTupX (mCons (mLc (itZip (mCons (mVar 3) (mCons (mVar 5) mNil))) (gmTup 2 (gmCons (gmName 6) (gmCons (gmName 7) gmNil))) (bVal (mOp dIsN (mVar 7) (mC .non))) (mVar 6) [6, 7]) mNil)))) (sRet (mC (.bl false))) sNext) (sSeq (sIf (bVal (mOp dNeA (mLc (itSeq (mVar 3)) (gmName 6) bYes (mMeth 11 "reason" m_Circle_reason [] (mVar 0) (mCons (mVar 2) (mCons (mVar 6) mNil))) [6]) (mVar 4))) (sRet (mC (.bl false))) sNext) (sRet (mOp dEqA (mLc (itSeq (mVar 3)) (gmName 6) bYes (mMeth 11 "reason" m_Circle_reason [] (mVar 0) (mCons (mVar 6) (mCons (mVar 2) mNil))) [6]) (mVar 5))))))))
abbrev s__law_right : Stmt := top 29
abbrev N__law_right : List PySem.Str := ["_law_pot_here", "_law_circle", "_law_parts_here", "_law_some", "_law_asked", "_law_one", "_law_house", "_law_k"]
theorem sc__law_right : FnScope N__law_right ["_law_pot_here", "_law_circle", "_law_parts_here"] (defScope s__law_right) := ⟨rfl, rfl, rfl, by decide +kernel, rfl, by decide +kernel, by decide +kernel⟩
def m__law_right : List D → Store → Res D := mDef 8 3 (sSeq (sAsg (mLc (itSeq (mOp dIx (mVar 2) (mC (.int 0)))) (gmTup 2 (gmCons (gmName 5) (gmCons (gmName 6) gmNil))) bYes (mVar 5) [5, 6]) (gmName 3)) (sSeq (sIf (bNot (bVal (mCall cAll (mCons (mLc (itSeq (mOp dIx (mVar 2) (mC (.int 0)))) (gmTup 2 (gmCons (gmName 5) (gmCons (gmName 6) gmNil))) bYes (mOp dEqA (mMeth 11 "house_of" m_Circle_house_of [] (mVar 1) (mCons (mVar 5) mNil)) (mVar 6)) [5, 6]) mNil)))) (sRet (mC (.bl false))) sNext) (sSeq (sAsg (mIf (bVal (mOp dLtA (mCall cLen (mCons (mVar 3) mNil)) (mC (.int 9)))) (mVar 3) (mLc (itRange1 (mCons (mC (.int 6)) mNil)) (gmName 7) bYes (mCall m__law_pick (mCons (mVar 0) (mCons (mVar 3) mNil))) [7])) (gmName 4)) (sRet (mCall cAll (mCons (mLc (itSeq (mVar 4)) (gmName 5) bYes (mCall m__law_one_right (mCons (mVar 1) (mCons (mVar 2) (mCons (mVar 5) (mCons (mVar 3) mNil))))) [5]) mNil))))))
abbrev s_law : Stmt := top 30
abbrev N_law : List PySem.Str := ["_law_script", "_law_pot_here", "_law_ahead", "_law_turn", "_law_parts_here", "_law_circle", "_law_small"]
theorem sc_law : FnScope N_law ["_law_script"] (defScope s_law) := ⟨rfl, rfl, rfl, by decide +kernel, rfl, by decide +kernel, by decide +kernel⟩
def m_law : List D → Store → Res D := mDef 7 1 (sSeq (sPar 1 2 (mCons (mCall m__law_pot (mCons (mVar 0) mNil)) (mCons (mC .non) mNil))) (sSeq (sForI (itRange1 (mCons (mCall cMax2 (mCons (mC (.int 3)) (mCons (mCall cMin2 (mCons (mCall cLen (mCons (mVar 0) mNil)) (mCons (mC (.int 6)) mNil))) mNil))) mNil)) (gmName 3) (sSeq (sAsg (mCall m__law_parts (mCons (mVar 1) (mCons (mIf (bVal (mOp dEqA (mOp dAdd (mCall m__law_draw (mCons (mVar 1) (mCons (mC (.int 4)) mNil))) (mVar 3)) (mC (.int 0)))) (mC (.int 24)) (mC (.int 6))) mNil))) (gmName 4)) (sSeq (sAsg (mMake 11 m_Circle_init [] (mCons (mOp dIx (mVar 4) (mC (.int 0))) (mCons (mOp dIx (mVar 4) (mC (.int 1))) (mCons (mOp dIx (mVar 4) (mC (.int 2))) (mCons (mOp dIx (mVar 4) (mC (.int 3))) mNil))))) (gmName 5)) (sSeq (sIf (bOr (bNot (bVal (mCall m__law_values_right (mCons (mVar 5) (mCons (mVar 4) mNil))))) (bNot (bVal (mCall m__law_right (mCons (mVar 1) (mCons (mVar 5) (mCons (mVar 4) mNil))))))) (sRet (mC (.bl false))) sNext) (sSeq (sIf (bAnd (bVal (mOp dNotN (mVar 2) (mC .non))) (bNot (bVal (mCall m__law_values_right (mCons (mOp dIx (mVar 2) (mC (.int 0))) (mCons (mOp dIx (mVar 2) (mC (.int 1))) mNil)))))) (sRet (mC (.bl false))) sNext) (sSeq (sAsg (mMake 11 m_Circle_init [.non, .non, .int 1] (mCons (mOp dIx (mVar 4) (mC (.int 0))) mNil)) (gmName 6)) (sSeq (sIf (bNot (bVal (mCall m__law_values_right (mCons (mVar 6) (mCons (mTup (mCons (mOp dIx (mVar 4) (mC (.int 0))) (mCons (mTup mNil) (mCons (mTup mNil) (mCons (mC (.int 1)) (mCons (mOp dIx (mVar 4) (mC (.int 4))) mNil)))))) mNil))))) (sRet (mC (.bl false))) sNext) (sAsg (mTup (mCons (mVar 5) (mCons (mVar 4) mNil))) (gmName 2))))))))) (sRet (mC (.bl true)))))
abbrev vmro : List Value := [.type "ValueError", .type "Exception", .type "BaseException", .type "object"]
structure DefAt (K : PySem.W.Frag) (mg : PySem.Str → Option Value) (n : PySem.Str) (st : Stmt) (ps : List PySem.Str) (f : Addr) (fd : FuncData) : Prop where
  F : Fun K n n st f fd
  m : mg n = some (.ref f)
  b : Binds K fd ps []
structure DefM (K : PySem.W.Frag) (n q : PySem.Str) (st : Stmt) (ps : List PySem.Str) (f : Addr) (fd : FuncData) : Prop where
  F : Fun K n q st f fd
structure DefF (K : PySem.W.Frag) (n q : PySem.Str) (st : Stmt) (dvs : List V) (f : Addr) (fd : FuncData) : Prop where
  F : FunF K n q st dvs f fd
structure Tx (K : PySem.W.Frag) (P : Program) (mg : PySem.Str → Option Value) where
  Cs : List Addr
  L : Addr
  a_member_rows : Addr
  fd_member_rows : FuncData
  d_member_rows : DefAt K mg "member_rows" s_member_rows ["members"] a_member_rows fd_member_rows
  a_year_rows : Addr
  fd_year_rows : FuncData
  d_year_rows : DefAt K mg "year_rows" s_year_rows ["past"] a_year_rows fd_year_rows
  a_circle_rows : Addr
  fd_circle_rows : FuncData
  d_circle_rows : DefAt K mg "circle_rows" s_circle_rows ["members", "bars", "past", "gap"] a_circle_rows fd_circle_rows
  a_is_name : Addr
  fd_is_name : FuncData
  d_is_name : DefAt K mg "is_name" s_is_name ["thing"] a_is_name fd_is_name
  a_copied : Addr
  fd_copied : FuncData
  d_copied : DefAt K mg "copied" s_copied ["thing"] a_copied fd_copied
  a_place_of : Addr
  fd_place_of : FuncData
  d_place_of : DefAt K mg "place_of" s_place_of ["pairs", "pair"] a_place_of fd_place_of
  a_reason_of : Addr
  fd_reason_of : FuncData
  d_reason_of : DefAt K mg "reason_of" s_reason_of ["giver", "taker", "houses", "bars", "years"] a_reason_of fd_reason_of
  a_last_of : Addr
  fd_last_of : FuncData
  d_last_of : DefAt K mg "last_of" s_last_of ["years", "gap"] a_last_of fd_last_of
  a_others_of : Addr
  fd_others_of : FuncData
  d_others_of : DefAt K mg "others_of" s_others_of ["members", "name", "house", "gone"] a_others_of fd_others_of
  a__law_blend : Addr
  fd__law_blend : FuncData
  d__law_blend : DefAt K mg "_law_blend" s__law_blend ["_law_number", "_law_turn"] a__law_blend fd__law_blend
  a__law_pot : Addr
  fd__law_pot : FuncData
  d__law_pot : DefAt K mg "_law_pot" s__law_pot ["_law_script"] a__law_pot fd__law_pot
  a__law_draw : Addr
  fd__law_draw : FuncData
  d__law_draw : DefAt K mg "_law_draw" s__law_draw ["_law_pot_here", "_law_size"] a__law_draw fd__law_draw
  a__law_pick : Addr
  fd__law_pick : FuncData
  d__law_pick : DefAt K mg "_law_pick" s__law_pick ["_law_pot_here", "_law_some"] a__law_pick fd__law_pick
  a__law_words : Addr
  fd__law_words : FuncData
  d__law_words : DefAt K mg "_law_words" s__law_words ["_law_pot_here", "_law_size"] a__law_words fd__law_words
  a__law_pairs : Addr
  fd__law_pairs : FuncData
  d__law_pairs : DefAt K mg "_law_pairs" s__law_pairs ["_law_pot_here", "_law_pool", "_law_size"] a__law_pairs fd__law_pairs
  a__law_turned_round : Addr
  fd__law_turned_round : FuncData
  d__law_turned_round : DefAt K mg "_law_turned_round" s__law_turned_round ["_law_pot_here", "_law_some"] a__law_turned_round fd__law_turned_round
  a__law_parts : Addr
  fd__law_parts : FuncData
  d__law_parts : DefAt K mg "_law_parts" s__law_parts ["_law_pot_here", "_law_most"] a__law_parts fd__law_parts
  a__law_reason : Addr
  fd__law_reason : FuncData
  d__law_reason : DefAt K mg "_law_reason" s__law_reason ["_law_parts_here", "_law_one", "_law_other"] a__law_reason fd__law_reason
  a__law_values_right : Addr
  fd__law_values_right : FuncData
  d__law_values_right : DefAt K mg "_law_values_right" s__law_values_right ["_law_circle", "_law_parts_here"] a__law_values_right fd__law_values_right
  a__law_one_right : Addr
  fd__law_one_right : FuncData
  d__law_one_right : DefAt K mg "_law_one_right" s__law_one_right ["_law_circle", "_law_parts_here", "_law_one", "_law_some"] a__law_one_right fd__law_one_right
  a__law_right : Addr
  fd__law_right : FuncData
  d__law_right : DefAt K mg "_law_right" s__law_right ["_law_pot_here", "_law_circle", "_law_parts_here"] a__law_right fd__law_right
  a_law : Addr
  fd_law : FuncData
  d_law : DefAt K mg "law" s_law ["_law_script"] a_law fd_law
  fI_NoMember : Addr
  cda_NoMember : Addr
  cc_NoMember : Addr
  fd_NoMember : FuncData
  x_NoMember : XI K P mg "NoMember" "NoMember.__init__" s_i_NoMember (Cs.getD 0 0) fI_NoMember cda_NoMember cc_NoMember fd_NoMember
  b_NoMember : Binds K fd_NoMember ["self", "name"] []
  cl_Circle : ClsI K (Cs.getD 11 0)
  a_Circle_init : Addr
  fd_Circle_init : FuncData
  d_Circle_init : DefF K "__init__" "Circle.__init__" s_Circle_init [.non, .non, .int 1] a_Circle_init fd_Circle_init
  me_Circle_init : Meth K (Cs.getD 11 0) "__init__" a_Circle_init
  du_Circle_init : Dun K (Cs.getD 11 0) "__init__" a_Circle_init
  ds4_Circle_init : List Value
  b4_Circle_init : Binds K fd_Circle_init ["self", "members", "bars", "past", "gap"] ds4_Circle_init
  v4_Circle_init : Vals [] ds4_Circle_init
  ds1_Circle_init : List Value
  b1_Circle_init : Binds K fd_Circle_init ["self", "members", "bars", "past", "gap"] ds1_Circle_init
  v1_Circle_init : Vals [.non, .non, .int 1] ds1_Circle_init
  mk_Circle : Mk K (Cs.getD 11 0) a_Circle_init
  a_Circle_eq : Addr
  fd_Circle_eq : FuncData
  d_Circle_eq : DefM K "__eq__" "Circle.__eq__" s_Circle_eq ["self", "other"] a_Circle_eq fd_Circle_eq
  b_Circle_eq : Binds K fd_Circle_eq ["self", "other"] []
  me_Circle_eq : Meth K (Cs.getD 11 0) "__eq__" a_Circle_eq
  du_Circle_eq : Dun K (Cs.getD 11 0) "__eq__" a_Circle_eq
  a_Circle_len : Addr
  fd_Circle_len : FuncData
  d_Circle_len : DefM K "__len__" "Circle.__len__" s_Circle_len ["self"] a_Circle_len fd_Circle_len
  b_Circle_len : Binds K fd_Circle_len ["self"] []
  me_Circle_len : Meth K (Cs.getD 11 0) "__len__" a_Circle_len
  du_Circle_len : Dun K (Cs.getD 11 0) "__len__" a_Circle_len
  a_Circle_repr : Addr
  fd_Circle_repr : FuncData
  d_Circle_repr : DefM K "__repr__" "Circle.__repr__" s_Circle_repr ["self"] a_Circle_repr fd_Circle_repr
  b_Circle_repr : Binds K fd_Circle_repr ["self"] []
  me_Circle_repr : Meth K (Cs.getD 11 0) "__repr__" a_Circle_repr
  du_Circle_repr : Dun K (Cs.getD 11 0) "__repr__" a_Circle_repr
  a_Circle_str : Addr
  fd_Circle_str : FuncData
  d_Circle_str : DefM K "__str__" "Circle.__str__" s_Circle_str ["self"] a_Circle_str fd_Circle_str
  b_Circle_str : Binds K fd_Circle_str ["self"] []
  me_Circle_str : Meth K (Cs.getD 11 0) "__str__" a_Circle_str
  du_Circle_str : Dun K (Cs.getD 11 0) "__str__" a_Circle_str
  a_Circle_names : Addr
  fd_Circle_names : FuncData
  d_Circle_names : DefM K "names" "Circle.names" s_Circle_names ["self"] a_Circle_names fd_Circle_names
  b_Circle_names : Binds K fd_Circle_names ["self"] []
  me_Circle_names : Meth K (Cs.getD 11 0) "names" a_Circle_names
  du_Circle_names : Dun K (Cs.getD 11 0) "names" a_Circle_names
  a_Circle_has : Addr
  fd_Circle_has : FuncData
  d_Circle_has : DefM K "has" "Circle.has" s_Circle_has ["self", "name"] a_Circle_has fd_Circle_has
  b_Circle_has : Binds K fd_Circle_has ["self", "name"] []
  me_Circle_has : Meth K (Cs.getD 11 0) "has" a_Circle_has
  du_Circle_has : Dun K (Cs.getD 11 0) "has" a_Circle_has
  a_Circle_house_of : Addr
  fd_Circle_house_of : FuncData
  d_Circle_house_of : DefM K "house_of" "Circle.house_of" s_Circle_house_of ["self", "name"] a_Circle_house_of fd_Circle_house_of
  b_Circle_house_of : Binds K fd_Circle_house_of ["self", "name"] []
  me_Circle_house_of : Meth K (Cs.getD 11 0) "house_of" a_Circle_house_of
  du_Circle_house_of : Dun K (Cs.getD 11 0) "house_of" a_Circle_house_of
  a_Circle_reason : Addr
  fd_Circle_reason : FuncData
  d_Circle_reason : DefM K "reason" "Circle.reason" s_Circle_reason ["self", "giver", "taker"] a_Circle_reason fd_Circle_reason
  b_Circle_reason : Binds K fd_Circle_reason ["self", "giver", "taker"] []
  me_Circle_reason : Meth K (Cs.getD 11 0) "reason" a_Circle_reason
  du_Circle_reason : Dun K (Cs.getD 11 0) "reason" a_Circle_reason
  a_Circle_barred : Addr
  fd_Circle_barred : FuncData
  d_Circle_barred : DefM K "barred" "Circle.barred" s_Circle_barred ["self"] a_Circle_barred fd_Circle_barred
  b_Circle_barred : Binds K fd_Circle_barred ["self"] []
  me_Circle_barred : Meth K (Cs.getD 11 0) "barred" a_Circle_barred
  du_Circle_barred : Dun K (Cs.getD 11 0) "barred" a_Circle_barred
  a_Circle_takers : Addr
  fd_Circle_takers : FuncData
  d_Circle_takers : DefM K "takers" "Circle.takers" s_Circle_takers ["self", "giver"] a_Circle_takers fd_Circle_takers
  b_Circle_takers : Binds K fd_Circle_takers ["self", "giver"] []
  me_Circle_takers : Meth K (Cs.getD 11 0) "takers" a_Circle_takers
  du_Circle_takers : Dun K (Cs.getD 11 0) "takers" a_Circle_takers
  a_Circle_givers : Addr
  fd_Circle_givers : FuncData
  d_Circle_givers : DefM K "givers" "Circle.givers" s_Circle_givers ["self", "taker"] a_Circle_givers fd_Circle_givers
  b_Circle_givers : Binds K fd_Circle_givers ["self", "taker"] []
  me_Circle_givers : Meth K (Cs.getD 11 0) "givers" a_Circle_givers
  du_Circle_givers : Dun K (Cs.getD 11 0) "givers" a_Circle_givers
  ne_Circle : PySem.W.findIn K (.ref (Cs.getD 11 0)) "__ne__" = some (some (.builtin "object.__ne__"))
  eq_Circle : EqF ⟨K, fun i => Cs.getD i 0, []⟩ K 11 okE
  io_Circle : (∀ k ∈ kinds, PySem.W.kitOne K (.type k) (.ref (Cs.getD 11 0)) = some false) ∧ ∀ c b, Lw.io_Circle c = some b → ClsI K (Cs.getD c 0) ∧ PySem.W.kitOne K (.ref (Cs.getD c 0)) (.ref (Cs.getD 11 0)) = some b
  of_members : ∀ c, ok_of_members c = true → Cls K (Cs.getD c 0) ∧ NoAttr K (Cs.getD c 0) "members"
  of_bars : ∀ c, ok_of_bars c = true → Cls K (Cs.getD c 0) ∧ NoAttr K (Cs.getD c 0) "bars"
  of_past : ∀ c, ok_of_past c = true → Cls K (Cs.getD c 0) ∧ NoAttr K (Cs.getD c 0) "past"
  of_gap : ∀ c, ok_of_gap c = true → Cls K (Cs.getD c 0) ∧ NoAttr K (Cs.getD c 0) "gap"
  fl_name : ∀ c, ok_fl_name c = true → XfC K (Cs.getD c 0) ∧ PySem.W.findIn K (.ref (Cs.getD c 0)) "name" = some none
  c_NoMember : mg "NoMember" = some (.ref (Cs.getD 0 0))
  c_Circle : mg "Circle" = some (.ref (Cs.getD 11 0))
  c_LotError : mg "LotError" = some (.ref L)
  abs : mg "abs" = none
  all : mg "all" = none
  any : mg "any" = none
  bool : mg "bool" = none
  dict : mg "dict" = none
  enumerate : mg "enumerate" = none
  isinstance : mg "isinstance" = none
  len : mg "len" = none
  list : mg "list" = none
  max : mg "max" = none
  min : mg "min" = none
  range : mg "range" = none
  repr : mg "repr" = none
  sorted : mg "sorted" = none
  str : mg "str" = none
  tuple : mg "tuple" = none
  zip : mg "zip" = none
  tk_LETTERS : Tok
  g_LETTERS : mg "LETTERS" = some (.str "abcdefghijklmnopqrstuvwxyz" tk_LETTERS)
def gOf {K : PySem.W.Frag} {P : Program} {mg : PySem.Str → Option Value} (T : Tx K P mg) : G := ⟨K, fun i => T.Cs.getD i 0, []⟩
section
variable {P : Program} {w : World} {K : PySem.W.Frag} {mg : PySem.Str → Option Value} {base : Heap}
theorem ok_Circle_init (T : Tx K P mg) : FnOk P w K mg base (L2.CX P w) 1 T.a_Circle_init T.fd_Circle_init ["self", "members", "bars", "past", "gap"] (spOf (gOf T) 5 m_Circle_init) := by
  refine fn_simD (N := N_Circle_init) T.d_Circle_init.F sc_Circle_init fun cdv A outer s H E hr => ?_
  have nd := sc_Circle_init.nd
  refine ⟨_, (pss_cons (ps_fld (pv 0) (pv 1) rfl) (pss_cons (ps_fld (pv 0) (pe_ifExp (pt_cmpR op_isN (pv 2) pe_non (nomark _)) (pe_tup pa_nil) (pv 2)) rfl) (pss_cons (ps_fld (pv 0) (pe_ifExp (pt_cmpR op_isN (pv 3) pe_non (nomark _)) (pe_tup pa_nil) (pv 3)) rfl) (pss_one (ps_fld (pv 0) (pv 4) rfl))))), ?_⟩
  exact (sims_seq (sims_fld (c := 11) T.cl_Circle.cl (T.of_members 11 rfl).2 (sim_var 0) (sim_var 1)) (sims_seq (sims_fld (c := 11) T.cl_Circle.cl (T.of_bars 11 rfl).2 (sim_var 0) (sim_if (simt_test (sim_op sim_isN (sim_var 2) (sim_c fun _ _ _ => .non))) (sim_tup sim_nil) (sim_var 2))) (sims_seq (sims_fld (c := 11) T.cl_Circle.cl (T.of_past 11 rfl).2 (sim_var 0) (sim_if (simt_test (sim_op sim_isN (sim_var 3) (sim_c fun _ _ _ => .non))) (sim_tup sim_nil) (sim_var 3))) (sims_fld (c := 11) T.cl_Circle.cl (T.of_gap 11 rfl).2 (sim_var 0) (sim_var 4)))))
theorem ok_Circle_eq (T : Tx K P mg) : FnOk P w K mg base (L2.CX P w) 1 T.a_Circle_eq T.fd_Circle_eq ["self", "other"] (spOf (gOf T) 2 m_Circle_eq) := by
  refine fn_sim (N := N_Circle_eq) T.d_Circle_eq.F sc_Circle_eq fun cdv A outer s H E hr => ?_
  have nd := sc_Circle_eq.nd
  refine ⟨_, (pss_one (ps_ret (pe_and (pe_callB call_isi (by rfl) T.isinstance (by decide +kernel) (pa_cons (pv 1) (pa_cons (pe_glob (v := .ref (T.Cs.getD 11 0)) (by rfl) T.c_Circle rfl) pa_nil))) (pe_and (pe_cmpR (op_eqA hr.units) (pe_fld (pv 0) rfl) (pe_fld (pv 1) rfl) (nomark _)) (pe_and (pe_cmpR (op_eqA hr.units) (pe_fld (pv 0) rfl) (pe_fld (pv 1) rfl) (nomark _)) (pe_and (pe_cmpR (op_eqA hr.units) (pe_fld (pv 0) rfl) (pe_fld (pv 1) rfl) (nomark _)) (pe_one (pe_cmpR (op_eqA hr.units) (pe_fld (pv 0) rfl) (pe_fld (pv 1) rfl) (nomark _))))))))), ?_⟩
  exact (sims_ret (sim_and (sim_isO T.io_Circle.1 T.io_Circle.2 (sim_var 1)) (sim_and (sim_op sim_eqA (sim_fldO T.of_members (sim_var 0)) (sim_fldO T.of_members (sim_var 1))) (sim_and (sim_op sim_eqA (sim_fldO T.of_bars (sim_var 0)) (sim_fldO T.of_bars (sim_var 1))) (sim_and (sim_op sim_eqA (sim_fldO T.of_past (sim_var 0)) (sim_fldO T.of_past (sim_var 1))) (sim_op sim_eqA (sim_fldO T.of_gap (sim_var 0)) (sim_fldO T.of_gap (sim_var 1))))))))
theorem ok_Circle_len (T : Tx K P mg) : FnOk P w K mg base (L2.CX P w) 1 T.a_Circle_len T.fd_Circle_len ["self"] (spOf (gOf T) 1 m_Circle_len) := by
  refine fn_sim (N := N_Circle_len) T.d_Circle_len.F sc_Circle_len fun cdv A outer s H E hr => ?_
  have nd := sc_Circle_len.nd
  refine ⟨_, (pss_one (ps_ret (pe_callB call_len (by rfl) T.len PySem.boot_len (pa_cons (pe_fld (pv 0) rfl) pa_nil)))), ?_⟩
  exact (sims_ret (sim_cb sim_len (sim_cons (sim_fldO T.of_members (sim_var 0)) sim_nil)))
theorem ok_Circle_repr (T : Tx K P mg) : FnOk P w K mg base (L2.CX P w) 1 T.a_Circle_repr T.fd_Circle_repr ["self"] (spOf (gOf T) 1 m_Circle_repr) := by
  refine fn_sim (N := N_Circle_repr) T.d_Circle_repr.F sc_Circle_repr fun cdv A outer s H E hr => ?_
  have nd := sc_Circle_repr.nd
  refine ⟨_, (pss_one (ps_ret (pe_joined (.cons pe_str (.cons (pe_fmt (pe_callB call_len (by rfl) T.len PySem.boot_len (pa_cons (pe_fld (pv 0) rfl) pa_nil))) (.cons pe_str .nil)))))), ?_⟩
  exact (sims_ret (sim_joined (.cons (sim_c fun _ _ _ => .str _) (.cons (sim_fmt (sim_cb sim_len (sim_cons (sim_fldO T.of_members (sim_var 0)) sim_nil))) (.cons (sim_c fun _ _ _ => .str _) .nil)))))
theorem ok_member_rows (T : Tx K P mg) : FnOk P w K mg base (L2.CX P w) 1 T.a_member_rows T.fd_member_rows ["members"] (spOf (gOf T) 1 m_member_rows) := by
  refine fn_sim (N := N_member_rows) T.d_member_rows.F sc_member_rows fun cdv A outer s H E hr => ?_
  have nd := sc_member_rows.nd
  refine ⟨_, (pss_one (ps_ret (pe_lc (own := [("name", 1), ("house", 2)]) rfl nd (pi_seq (pv 0)) (blkOk_by (N := N_member_rows) (sc := defScope s_member_rows) (by decide +kernel)) (fun _ _ _ _ _ => (show PG _ _ (gTup K 2 _) from pg_tup rfl (pgs_cons (pg_name (i := 1) nd rfl (Or.inl rfl) (.inr rfl)) (pgs_cons (pg_name (i := 2) nd rfl (Or.inl rfl) (.inr rfl)) pgs_nil)))) (fun _ _ _ _ _ => pts_nil) (fun _ _ _ _ _ => (pe_ifExp (pt_cmpR (show OpR _ _ (rEqA K) from (op_eqA hr.units)) (pv 2) pe_str (nomark _)) (pe_joined (.cons pe_str (.cons (pe_fmt (pv 1)) .nil))) (pe_joined (.cons pe_str (.cons (pe_fmt (pv 1)) (.cons pe_str (.cons (pe_fmt (pv 2)) .nil)))))))))), ?_⟩
  exact (sims_ret (sim_lc (simi_seq (sim_var 0)) (simg_tup (simg_cons (simg_name 1) (simg_cons (simg_name 2) simg_nil))) (own_tup (owns_cons (own_name (by decide)) mono_name (owns_cons (own_name (by decide)) mono_name owns_nil monos_nil) (monos_cons mono_name monos_nil))) simt_yes (sim_if (simt_test (sim_op sim_eqA (sim_var 2) (sim_c fun _ _ _ => .str _))) (sim_joined (.cons (sim_c fun _ _ _ => .str _) (.cons (sim_fmt (sim_var 1)) .nil))) (sim_joined (.cons (sim_c fun _ _ _ => .str _) (.cons (sim_fmt (sim_var 1)) (.cons (sim_c fun _ _ _ => .str _) (.cons (sim_fmt (sim_var 2)) .nil))))))))
theorem ok_year_rows (T : Tx K P mg) : FnOk P w K mg base (L2.CX P w) 1 T.a_year_rows T.fd_year_rows ["past"] (spOf (gOf T) 1 m_year_rows) := by
  refine fn_sim (N := N_year_rows) T.d_year_rows.F sc_year_rows fun cdv A outer s H E hr => ?_
  have nd := sc_year_rows.nd
  refine ⟨_, (pss_cons (ps_set (i := 1) nd rfl (Or.inl rfl) (pe_lst pa_nil)) (pss_cons (ps_for (passes_of rfl) rfl (pi_seq (pv 0)) (pg_name (i := 2) nd rfl (Or.inl rfl)) (pss_cons (ps_expr (pe_bm PySem.F.plainAttrs_list PySem.F.slot_list_append PySem.F.type_list_append mt_append (pv 1) (pa_cons pe_str pa_nil))) (pss_one (ps_expr (pe_bm PySem.F.plainAttrs_list PySem.F.slot_list_extend PySem.F.type_list_extend mt_extend (pv 1) (pa_cons (pe_lc (own := [("giver", 3), ("taker", 4)]) rfl nd (pi_seq (pv 2)) (blkOk_by (N := N_year_rows) (sc := defScope s_year_rows) (by decide +kernel)) (fun _ _ _ _ _ => (show PG _ _ (gTup K 2 _) from pg_tup rfl (pgs_cons (pg_name (i := 3) nd rfl (Or.inl rfl) (.inr rfl)) (pgs_cons (pg_name (i := 4) nd rfl (Or.inl rfl) (.inr rfl)) pgs_nil)))) (fun _ _ _ _ _ => pts_nil) (fun _ _ _ _ _ => (pe_joined (.cons pe_str (.cons (pe_fmt (pv 3)) (.cons pe_str (.cons (pe_fmt (pv 4)) .nil))))))) pa_nil)))))) (pss_one (ps_ret (pv 1))))), ?_⟩
  exact (sims_seq (sims_asg (sim_lstL sim_nil) (simg_name 1)) (sims_seq (sims_for (simi_seq (sim_var 0)) (simg_name 2) (sims_seq (sims_drop (sim_bm sim_append (sim_var 1) (sim_cons (sim_c fun _ _ _ => .str _) sim_nil))) (sims_drop (sim_bm sim_extend (sim_var 1) (sim_cons (sim_lc (simi_seq (sim_var 2)) (simg_tup (simg_cons (simg_name 3) (simg_cons (simg_name 4) simg_nil))) (own_tup (owns_cons (own_name (by decide)) mono_name (owns_cons (own_name (by decide)) mono_name owns_nil monos_nil) (monos_cons mono_name monos_nil))) simt_yes (sim_joined (.cons (sim_c fun _ _ _ => .str _) (.cons (sim_fmt (sim_var 3)) (.cons (sim_c fun _ _ _ => .str _) (.cons (sim_fmt (sim_var 4)) .nil)))))) sim_nil))))) (sims_ret (sim_var 1))))
theorem ok_circle_rows (T : Tx K P mg) : FnOk P w K mg base (L2.CX P w) 2 T.a_circle_rows T.fd_circle_rows ["members", "bars", "past", "gap"] (spOf (gOf T) 4 m_circle_rows) := by
  have G_year_rows := ok_year_rows (w := w) (base := base) T
  have G_member_rows := ok_member_rows (w := w) (base := base) T
  refine fn_sim (N := N_circle_rows) T.d_circle_rows.F sc_circle_rows fun cdv A outer s H E hr => ?_
  have nd := sc_circle_rows.nd
  refine ⟨_, (pss_cons (ps_setLc (i := 4) (own := [("giver", 5), ("taker", 6)]) rfl nd rfl rfl (sw_true rfl rfl rfl (by decide +kernel)) (pi_seq (pv 1)) (blkOk_by (N := N_circle_rows) (sc := defScope s_circle_rows) (by decide +kernel)) (fun _ _ _ _ _ => (show PG _ _ (gTup K 2 _) from pg_tup rfl (pgs_cons (pg_name (i := 5) nd rfl (Or.inl rfl) (.inr rfl)) (pgs_cons (pg_name (i := 6) nd rfl (Or.inl rfl) (.inr rfl)) pgs_nil)))) (fun _ _ _ _ _ => pts_nil) (fun _ _ _ _ _ => (pe_joined (.cons pe_str (.cons (pe_fmt (pv 5)) (.cons pe_str (.cons (pe_fmt (pv 6)) .nil))))))) (pss_one (ps_ret (pe_lst (pa_cons (pe_joined (.cons pe_str (.cons (pe_fmt (pv 3)) .nil))) (StX.pa_star (pe_call G_member_rows (hr.mono (by decide)) rfl T.d_member_rows.m T.d_member_rows.F.kp T.d_member_rows.b .nil pD (pa_cons (pv 0) pa_nil)) (StX.pa_star (pv 4) (StX.pa_star (pe_call G_year_rows (hr.mono (by decide)) rfl T.d_year_rows.m T.d_year_rows.F.kp T.d_year_rows.b .nil pD (pa_cons (pv 2) pa_nil)) pa_nil)))))))), ?_⟩
  exact (sims_seq (sims_asg (sim_lc (simi_seq (sim_var 1)) (simg_tup (simg_cons (simg_name 5) (simg_cons (simg_name 6) simg_nil))) (own_tup (owns_cons (own_name (by decide)) mono_name (owns_cons (own_name (by decide)) mono_name owns_nil monos_nil) (monos_cons mono_name monos_nil))) simt_yes (sim_joined (.cons (sim_c fun _ _ _ => .str _) (.cons (sim_fmt (sim_var 5)) (.cons (sim_c fun _ _ _ => .str _) (.cons (sim_fmt (sim_var 6)) .nil)))))) (simg_name 4)) (sims_ret (sim_lst (sim_cons (sim_joined (.cons (sim_c fun _ _ _ => .str _) (.cons (sim_fmt (sim_var 3)) .nil))) (sim_star (sim_call ar_def (sim_cons (sim_var 0) sim_nil)) (sim_star (sim_var 4) (sim_star (sim_call ar_def (sim_cons (sim_var 2) sim_nil)) sim_nil)))))))
theorem ok_Circle_str (T : Tx K P mg) : FnOk P w K mg base (L2.CX P w) 3 T.a_Circle_str T.fd_Circle_str ["self"] (spOf (gOf T) 1 m_Circle_str) := by
  have G_circle_rows := ok_circle_rows (w := w) (base := base) T
  refine fn_sim (N := N_Circle_str) T.d_Circle_str.F sc_Circle_str fun cdv A outer s H E hr => ?_
  have nd := sc_Circle_str.nd
  refine ⟨_, (pss_one (ps_ret (pe_bm PySem.F.plainAttrs_str PySem.F.slot_str_join PySem.F.type_str_join mt_join pe_str (pa_cons (pe_call G_circle_rows (hr.mono (by decide)) rfl T.d_circle_rows.m T.d_circle_rows.F.kp T.d_circle_rows.b .nil pD (pa_cons (pe_fld (pv 0) rfl) (pa_cons (pe_fld (pv 0) rfl) (pa_cons (pe_fld (pv 0) rfl) (pa_cons (pe_fld (pv 0) rfl) pa_nil))))) pa_nil)))), ?_⟩
  exact (sims_ret (sim_bm sim_join (sim_c fun _ _ _ => .str _) (sim_cons (sim_call ar_def (sim_cons (sim_fldO T.of_members (sim_var 0)) (sim_cons (sim_fldO T.of_bars (sim_var 0)) (sim_cons (sim_fldO T.of_past (sim_var 0)) (sim_cons (sim_fldO T.of_gap (sim_var 0)) sim_nil))))) sim_nil)))
theorem ok_Circle_names (T : Tx K P mg) : FnOk P w K mg base (L2.CX P w) 1 T.a_Circle_names T.fd_Circle_names ["self"] (spOf (gOf T) 1 m_Circle_names) := by
  refine fn_sim (N := N_Circle_names) T.d_Circle_names.F sc_Circle_names fun cdv A outer s H E hr => ?_
  have nd := sc_Circle_names.nd
  refine ⟨_, (pss_one (ps_ret (pe_callTy call_tupXA (by rfl) T.tuple (by decide +kernel) (pa_cons (pe_lc (own := [("name", 1), ("_", 2)]) rfl nd (pi_seq (pe_fld (pv 0) rfl)) (blkOk_by (N := N_Circle_names) (sc := defScope s_Circle_names) (by decide +kernel)) (fun _ _ _ _ _ => (show PG _ _ (gTup K 2 _) from pg_tup rfl (pgs_cons (pg_name (i := 1) nd rfl (Or.inl rfl) (.inr rfl)) (pgs_cons (pg_name (i := 2) nd rfl (Or.inl rfl) (.inr rfl)) pgs_nil)))) (fun _ _ _ _ _ => pts_nil) (fun _ _ _ _ _ => (pv 1))) pa_nil)))), ?_⟩
  exact (sims_ret (sim_cb sim_tupX (sim_cons (sim_lc (simi_seq (sim_fldO T.of_members (sim_var 0))) (simg_tup (simg_cons (simg_name 1) (simg_cons (simg_name 2) simg_nil))) (own_tup (owns_cons (own_name (by decide)) mono_name (owns_cons (own_name (by decide)) mono_name owns_nil monos_nil) (monos_cons mono_name monos_nil))) simt_yes (sim_var 1)) sim_nil)))
theorem ok_is_name (T : Tx K P mg) : FnOk P w K mg base (L2.CX P w) 1 T.a_is_name T.fd_is_name ["thing"] (spOf (gOf T) 1 m_is_name) := by
  refine fn_sim (N := N_is_name) T.d_is_name.F sc_is_name fun cdv A outer s H E hr => ?_
  have nd := sc_is_name.nd
  refine ⟨_, (pss_one (ps_ret (pe_and (pe_callB call_isi (by rfl) T.isinstance (by decide +kernel) (pa_cons (pv 0) (pa_cons (pe_bltn (v := .ty "str") (by rfl) T.str (by decide +kernel) rfl) pa_nil))) (pe_and (pe_chain op_leA op_leA pe_int (pe_callB call_len (by rfl) T.len PySem.boot_len (pa_cons (pv 0) pa_nil)) pe_int) (pe_one (pe_cmpR (op_eqA hr.units) (pe_bm PySem.F.plainAttrs_str PySem.F.slot_str_strip PySem.F.type_str_strip mt_stripChars (pv 0) (pa_cons (pe_glob (v := .str "abcdefghijklmnopqrstuvwxyz") rfl T.g_LETTERS ⟨_, rfl⟩) pa_nil)) pe_str (nomark _))))))), ?_⟩
  exact (sims_ret (sim_and (sim_isi (sim_var 0)) (sim_and (sim_chain sim_leA sim_leA (sim_c fun _ _ _ => .int _) (sim_cb sim_len (sim_cons (sim_var 0) sim_nil)) (sim_c fun _ _ _ => .int _)) (sim_op sim_eqA (sim_bm sim_strip (sim_var 0) (sim_cons (sim_c fun _ _ _ => .str _) sim_nil)) (sim_c fun _ _ _ => .str _)))))
theorem ok_Circle_has (T : Tx K P mg) : FnOk P w K mg base (L2.CX P w) 2 T.a_Circle_has T.fd_Circle_has ["self", "name"] (spOf (gOf T) 2 m_Circle_has) := by
  have G_is_name := ok_is_name (w := w) (base := base) T
  have G_Circle_names := ok_Circle_names (w := w) (base := base) T
  refine fn_sim (N := N_Circle_has) T.d_Circle_has.F sc_Circle_has fun cdv A outer s H E hr => ?_
  have nd := sc_Circle_has.nd
  refine ⟨_, (pss_one (ps_ret (pe_and (pe_call G_is_name (hr.mono (by decide)) rfl T.d_is_name.m T.d_is_name.F.kp T.d_is_name.b .nil pD (pa_cons (pv 1) pa_nil)) (pe_one (pe_cmpR (op_inX hr.units2) (pv 1) (pe_meth0 (pv 0) T.cl_Circle.cl T.me_Circle_names G_Circle_names (hr.mono (by decide)) T.b_Circle_names .nil pD) rfl))))), ?_⟩
  exact (sims_ret (sim_and (sim_call ar_def (sim_cons (sim_var 1) sim_nil)) (sim_op sim_inX (sim_var 1) (sim_meth (c := 11) ar_def (fun _ _ _ => .nil) (sim_var 0) sim_nil))))
theorem ok_copied (T : Tx K P mg) : ∀ k, FnOk P w K mg base (L2.CX P w) (k + 1) T.a_copied T.fd_copied ["thing"] (spOf (gOf T) 1 (m_copied k))
  | 0 => ⟨fun _ _ _ _ h => by obtain ⟨_, _, _, _, hl, _⟩ := h; exact hl, fun _ _ _ _ _ _ _ _ _ _ _ _ _ h => by obtain ⟨_, _, _, _, _, _, _, p⟩ := h; exact p.elim⟩
  | k + 1 => by
    have G_copied := ok_copied T k
    refine fn_sim (N := N_copied) T.d_copied.F sc_copied fun cdv A outer s H E hr => ?_
    have nd := sc_copied.nd
    refine ⟨_, (pss_cons (ps_if (pt_val (pe_callB call_isi (by rfl) T.isinstance (by decide +kernel) (pa_cons (pv 0) (pa_cons (pe_bltn (v := .ty "list") (by rfl) T.list (by decide +kernel) rfl) pa_nil)))) (pss_one (ps_ret (pe_lc (own := [("part", 1)]) rfl nd (pi_seq (pv 0)) (blkOk_by (N := N_copied) (sc := defScope s_copied) (by decide +kernel)) (fun _ _ _ _ _ => pg_name (i := 1) nd rfl (Or.inl rfl) (.inr rfl)) (fun _ _ _ _ _ => pts_nil) (fun _ _ _ _ _ => (pe_call G_copied (hr.mono (by omega)) rfl T.d_copied.m T.d_copied.F.kp T.d_copied.b .nil passL (pa_cons (pv 1) pa_nil)))))) pss_nil) (pss_cons (ps_if (pt_val (pe_callB call_isi (by rfl) T.isinstance (by decide +kernel) (pa_cons (pv 0) (pa_cons (pe_bltn (v := .ty "tuple") (by rfl) T.tuple (by decide +kernel) rfl) pa_nil)))) (pss_one (ps_ret (pe_callTy call_tupXA (by rfl) T.tuple (by decide +kernel) (pa_cons (pe_lc (own := [("part", 1)]) rfl nd (pi_seq (pv 0)) (blkOk_by (N := N_copied) (sc := defScope s_copied) (by decide +kernel)) (fun _ _ _ _ _ => pg_name (i := 1) nd rfl (Or.inl rfl) (.inr rfl)) (fun _ _ _ _ _ => pts_nil) (fun _ _ _ _ _ => (pe_call G_copied (hr.mono (by omega)) rfl T.d_copied.m T.d_copied.F.kp T.d_copied.b .nil passL (pa_cons (pv 1) pa_nil)))) pa_nil)))) pss_nil) (pss_cons (ps_if (pt_val (pe_callB call_isi (by rfl) T.isinstance (by decide +kernel) (pa_cons (pv 0) (pa_cons (pe_bltn (v := .ty "dict") (by rfl) T.dict (by decide +kernel) rfl) pa_nil)))) (pss_one (ps_ret (pe_dc (own := [("key", 2), ("worth", 3)]) rfl nd (pi_items (pv 0)) (blkOk_by (N := N_copied) (sc := defScope s_copied) (by decide +kernel)) (fun _ _ _ _ _ => (show PG _ _ (gTup K 2 _) from pg_tup rfl (pgs_cons (pg_name (i := 2) nd rfl (Or.inl rfl) (.inr rfl)) (pgs_cons (pg_name (i := 3) nd rfl (Or.inl rfl) (.inr rfl)) pgs_nil)))) (fun _ _ _ _ _ => pts_nil) (fun _ _ _ _ _ => (pv 2)) (fun _ _ _ _ _ => (pe_call G_copied (hr.mono (by omega)) rfl T.d_copied.m T.d_copied.F.kp T.d_copied.b .nil passL (pa_cons (pv 3) pa_nil)))))) pss_nil) (pss_one (ps_ret (pv 0)))))), ?_⟩
    exact (sims_seq (sims_if (simt_tB (sim_isi (sim_var 0))) (sims_ret (sim_lc (simi_seq (sim_var 0)) (simg_name 1) (own_name (by decide)) simt_yes (sim_call (ar_copied _) (sim_cons (sim_var 1) sim_nil)))) sims_next) (sims_seq (sims_if (simt_tB (sim_isi (sim_var 0))) (sims_ret (sim_cb sim_tupX (sim_cons (sim_lc (simi_seq (sim_var 0)) (simg_name 1) (own_name (by decide)) simt_yes (sim_call (ar_copied _) (sim_cons (sim_var 1) sim_nil))) sim_nil))) sims_next) (sims_seq (sims_if (simt_tB (sim_isi (sim_var 0))) (sims_ret (sim_dc0 (sim_var 0))) sims_next) (sims_ret (sim_var 0)))))
theorem ok_i_NoMember (T : Tx K P mg) : FnOk P w K mg base (L2.CX P w) 6 T.fI_NoMember T.fd_NoMember ["self", "name"] (spOf (gOf T) 2 m_i_NoMember) := by
  have G_copied := ok_copied (w := w) (base := base) T 4
  refine fn_init (N := N_i_NoMember) (c := 0) (k := 5) T.x_NoMember rfl rfl sc_i_NoMember rfl rfl (fun _ => rfl) fun A outer s H E hr => ?_
  have nd := sc_i_NoMember.nd
  refine ⟨_, (pss_one (ps_ost (pv 0) (pe_call G_copied (hr.mono (by decide)) rfl T.d_copied.m T.d_copied.F.kp T.d_copied.b .nil pS (pa_cons (pv 1) pa_nil)))), ?_⟩
  exact (sims_fldX T.x_NoMember.U.T (T.fl_name 0 rfl).2 (sim_var 0) (sim_call (ar_copied _) (sim_cons (sim_var 1) sim_nil)))
theorem ok_Circle_house_of (T : Tx K P mg) : FnOk P w K mg base (L2.CX P w) 8 T.a_Circle_house_of T.fd_Circle_house_of ["self", "name"] (spOf (gOf T) 2 m_Circle_house_of) := by
  have G_is_name := ok_is_name (w := w) (base := base) T
  have G_i_NoMember := ok_i_NoMember (w := w) (base := base) T
  refine fn_sim (N := N_Circle_house_of) T.d_Circle_house_of.F sc_Circle_house_of fun cdv A outer s H E hr => ?_
  have nd := sc_Circle_house_of.nd
  refine ⟨_, (pss_cons (ps_if (pt_val (pe_call G_is_name (hr.mono (by decide)) rfl T.d_is_name.m T.d_is_name.F.kp T.d_is_name.b .nil pD (pa_cons (pv 1) pa_nil))) (pss_one (ps_for (passes_of rfl) rfl (pi_seq (pe_fld (pv 0) rfl)) (pg_tup rfl (pgs_cons (pg_name (i := 2) nd rfl (Or.inl rfl)) (pgs_cons (pg_name (i := 3) nd rfl (Or.inl rfl)) pgs_nil))) (pss_one (ps_if (pt_cmpR (op_eqA hr.units) (pv 2) (pv 1) (nomark _)) (pss_one (ps_ret (pv 3))) pss_nil)))) pss_nil) (pss_one (ps_raiseX (pmk_oex T.x_NoMember.U.T T.x_NoMember.iC T.x_NoMember.tI G_i_NoMember (hr.mono (by decide)) T.b_NoMember .nil passL (by rfl) T.x_NoMember.m (pa_cons (pv 1) pa_nil))))), ?_⟩
  exact (sims_seq (sims_if (simt_tB (sim_call ar_def (sim_cons (sim_var 1) sim_nil))) (sims_for (simi_seq (sim_fldO T.of_members (sim_var 0))) (simg_tup (simg_cons (simg_name 2) (simg_cons (simg_name 3) simg_nil))) (sims_if (simt_test (sim_op sim_eqA (sim_var 2) (sim_var 1))) (sims_ret (sim_var 3)) sims_next)) sims_next) (sims_raiseX (c := 0) ar_init (sim_cons (sim_var 1) sim_nil)))
theorem ok_place_of (T : Tx K P mg) : FnOk P w K mg base (L2.CX P w) 1 T.a_place_of T.fd_place_of ["pairs", "pair"] (spOf (gOf T) 2 m_place_of) := by
  refine fn_sim (N := N_place_of) T.d_place_of.F sc_place_of fun cdv A outer s H E hr => ?_
  have nd := sc_place_of.nd
  refine ⟨_, (pss_cons (ps_set (i := 2) nd rfl (Or.inl rfl) pe_int) (pss_cons (ps_set (i := 3) nd rfl (Or.inl rfl) (pe_callB call_len (by rfl) T.len PySem.boot_len (pa_cons (pv 0) pa_nil))) (pss_cons (ps_while (passes_of rfl) (pt_cmpR (op_ltA hr.units) (pv 2) (pv 3) (nomark _)) (pss_cons (ps_set (i := 4) nd rfl (Or.inl rfl) (pe_op op_fdivW (pe_op op_addA (pv 2) (pv 3)) pe_int)) (pss_one (ps_if (pt_cmpR (op_ltA hr.units) (pe_ix ix_seq (pv 0) (pv 4) (fun _ _ => rfl)) (pv 1) (nomark _)) (pss_one (ps_set (i := 2) nd rfl (Or.inl rfl) (pe_op op_addA (pv 4) pe_int))) (pss_one (ps_set (i := 3) nd rfl (Or.inl rfl) (pv 4))))))) (pss_one (ps_ret (pv 2)))))), ?_⟩
  exact (sims_seq (sims_asg (sim_c fun _ _ _ => .int _) (simg_name 2)) (sims_seq (sims_asg (sim_cb sim_len (sim_cons (sim_var 0) sim_nil)) (simg_name 3)) (sims_seq (sims_while 2000 (simt_test (sim_op sim_ltA (sim_var 2) (sim_var 3))) (sims_seq (sims_asg (sim_op sim_div (sim_op sim_add (sim_var 2) (sim_var 3)) (sim_c fun _ _ _ => .int _)) (simg_name 4)) (sims_if (simt_test (sim_op sim_ltA (sim_op sim_ix (sim_var 0) (sim_var 4)) (sim_var 1))) (sims_asg (sim_op sim_add (sim_var 4) (sim_c fun _ _ _ => .int _)) (simg_name 2)) (sims_asg (sim_var 4) (simg_name 3))))) (sims_ret (sim_var 2)))))
theorem ok_reason_of (T : Tx K P mg) : FnOk P w K mg base (L2.CX P w) 1 T.a_reason_of T.fd_reason_of ["giver", "taker", "houses", "bars", "years"] (spOf (gOf T) 5 m_reason_of) := by
  refine fn_sim (N := N_reason_of) T.d_reason_of.F sc_reason_of fun cdv A outer s H E hr => ?_
  have nd := sc_reason_of.nd
  refine ⟨_, (pss_cons (ps_if (pt_cmpR (op_eqA hr.units) (pv 0) (pv 1) (nomark _)) (pss_one (ps_ret pe_str)) pss_nil) (pss_cons (ps_if (PW.pt (pw_and (pt_cmpR (op_neA hr.units) (pe_dget (hu_of hr) (pv 2) (pv 0) (fun _ _ => rfl)) pe_str (nomark _)) (pw_and1 (pt_cmpR (op_eqA hr.units) (pe_dget (hu_of hr) (pv 2) (pv 0) (fun _ _ => rfl)) (pe_dget (hu_of hr) (pv 2) (pv 1) (fun _ _ => rfl)) (nomark _))))) (pss_one (ps_ret pe_str)) pss_nil) (pss_cons (ps_if (pt_cmpR (op_inX hr.units2) (pe_tup (pa_cons (pv 0) (pa_cons (pv 1) pa_nil))) (pv 3) rfl) (pss_one (ps_ret pe_str)) pss_nil) (pss_cons (ps_for (passes_of rfl) rfl (pi_seq (pv 4)) (pg_name (i := 5) nd rfl (Or.inl rfl)) (pss_one (ps_if (pt_cmpR (op_inX hr.units2) (pe_tup (pa_cons (pv 0) (pa_cons (pv 1) pa_nil))) (pv 5) rfl) (pss_one (ps_ret pe_str)) pss_nil))) (pss_one (ps_ret pe_non)))))), ?_⟩
  exact (sims_seq (sims_if (simt_test (sim_op sim_eqA (sim_var 0) (sim_var 1))) (sims_ret (sim_c fun _ _ _ => .str _)) sims_next) (sims_seq (sims_if (simt_and (simt_test (sim_op sim_neA (sim_dget (sim_var 2) (sim_var 0)) (sim_c fun _ _ _ => .str _))) (simt_test (sim_op sim_eqA (sim_dget (sim_var 2) (sim_var 0)) (sim_dget (sim_var 2) (sim_var 1))))) (sims_ret (sim_c fun _ _ _ => .str _)) sims_next) (sims_seq (sims_if (simt_test (sim_op sim_inX (sim_tup (sim_cons (sim_var 0) (sim_cons (sim_var 1) sim_nil))) (sim_var 3))) (sims_ret (sim_c fun _ _ _ => .str _)) sims_next) (sims_seq (sims_for (simi_seq (sim_var 4)) (simg_name 5) (sims_if (simt_test (sim_op sim_inX (sim_tup (sim_cons (sim_var 0) (sim_cons (sim_var 1) sim_nil))) (sim_var 5))) (sims_ret (sim_c fun _ _ _ => .str _)) sims_next)) (sims_ret (sim_c fun _ _ _ => .non))))))
theorem ok_last_of (T : Tx K P mg) : FnOk P w K mg base (L2.CX P w) 1 T.a_last_of T.fd_last_of ["years", "gap"] (spOf (gOf T) 2 m_last_of) := by
  refine fn_sim (N := N_last_of) T.d_last_of.F sc_last_of fun cdv A outer s H E hr => ?_
  have nd := sc_last_of.nd
  refine ⟨_, (pss_one (ps_ret (pe_slice sl_all (pv 0) (po_some (pe_callB (call_max2 rfl) (by rfl) T.max (by decide +kernel) (pa_cons pe_int (pa_cons (pe_op op_sub (pe_callB call_len (by rfl) T.len PySem.boot_len (pa_cons (pv 0) pa_nil)) (pv 1)) pa_nil)))) po_none))), ?_⟩
  exact (sims_ret (sim_slice (sim_var 0) (simo_some (sim_cb sim_max2 (sim_cons (sim_c fun _ _ _ => .int _) (sim_cons (sim_op sim_sub (sim_cb sim_len (sim_cons (sim_var 0) sim_nil)) (sim_var 1)) sim_nil)))) simo_none))
theorem ok_Circle_reason (T : Tx K P mg) : FnOk P w K mg base (L2.CX P w) 9 T.a_Circle_reason T.fd_Circle_reason ["self", "giver", "taker"] (spOf (gOf T) 3 m_Circle_reason) := by
  have G_Circle_house_of := ok_Circle_house_of (w := w) (base := base) T
  have G_place_of := ok_place_of (w := w) (base := base) T
  have G_reason_of := ok_reason_of (w := w) (base := base) T
  have G_last_of := ok_last_of (w := w) (base := base) T
  refine fn_sim (N := N_Circle_reason) T.d_Circle_reason.F sc_Circle_reason fun cdv A outer s H E hr => ?_
  have nd := sc_Circle_reason.nd
  refine ⟨_, (pss_cons (ps_set (i := 3) nd rfl (Or.inl rfl) (pe_meth (pv 0) T.cl_Circle.cl T.me_Circle_house_of G_Circle_house_of (hr.mono (by decide)) T.b_Circle_house_of .nil pD (pa_cons (pv 1) pa_nil))) (pss_cons (ps_set (i := 4) nd rfl (Or.inl rfl) (pe_meth (pv 0) T.cl_Circle.cl T.me_Circle_house_of G_Circle_house_of (hr.mono (by decide)) T.b_Circle_house_of .nil pD (pa_cons (pv 2) pa_nil))) (pss_cons (ps_set (i := 5) nd rfl (Or.inl rfl) (pe_call G_place_of (hr.mono (by decide)) rfl T.d_place_of.m T.d_place_of.F.kp T.d_place_of.b .nil pD (pa_cons (pe_fld (pv 0) rfl) (pa_cons (pe_tup (pa_cons (pv 1) (pa_cons (pv 2) pa_nil))) pa_nil)))) (pss_cons (ps_set (i := 6) nd rfl (Or.inl rfl) (pe_disp (pps_cons (pv 1) (pv 3) (pps_cons (pv 2) (pv 4) pps_nil)) (by rfl) (by rfl) (fun z => by cases z) (by decide))) (pss_one (ps_ret (pe_call G_reason_of (hr.mono (by decide)) rfl T.d_reason_of.m T.d_reason_of.F.kp T.d_reason_of.b .nil pD (pa_cons (pv 1) (pa_cons (pv 2) (pa_cons (pv 6) (pa_cons (pe_slice sl_all (pe_fld (pv 0) rfl) (po_some (pv 5)) (po_some (pe_op op_addA (pv 5) pe_int))) (pa_cons (pe_call G_last_of (hr.mono (by decide)) rfl T.d_last_of.m T.d_last_of.F.kp T.d_last_of.b .nil pD (pa_cons (pe_fld (pv 0) rfl) (pa_cons (pe_fld (pv 0) rfl) pa_nil))) pa_nil)))))))))))), ?_⟩
  exact (sims_seq (sims_asg (sim_meth (c := 11) ar_def (fun _ _ _ => .nil) (sim_var 0) (sim_cons (sim_var 1) sim_nil)) (simg_name 3)) (sims_seq (sims_asg (sim_meth (c := 11) ar_def (fun _ _ _ => .nil) (sim_var 0) (sim_cons (sim_var 2) sim_nil)) (simg_name 4)) (sims_seq (sims_asg (sim_call ar_def (sim_cons (sim_fldO T.of_bars (sim_var 0)) (sim_cons (sim_tup (sim_cons (sim_var 1) (sim_cons (sim_var 2) sim_nil))) sim_nil))) (simg_name 5)) (sims_seq (sims_asg (sim_disp (.cons (sim_var 1) (sim_var 3) (.cons (sim_var 2) (sim_var 4) .nil))) (simg_name 6)) (sims_ret (sim_call ar_def (sim_cons (sim_var 1) (sim_cons (sim_var 2) (sim_cons (sim_var 6) (sim_cons (sim_slice (sim_fldO T.of_bars (sim_var 0)) (simo_some (sim_var 5)) (simo_some (sim_op sim_add (sim_var 5) (sim_c fun _ _ _ => .int _)))) (sim_cons (sim_call ar_def (sim_cons (sim_fldO T.of_past (sim_var 0)) (sim_cons (sim_fldO T.of_gap (sim_var 0)) sim_nil))) sim_nil)))))))))))
theorem ok_Circle_barred (T : Tx K P mg) : FnOk P w K mg base (L2.CX P w) 2 T.a_Circle_barred T.fd_Circle_barred ["self"] (spOf (gOf T) 1 m_Circle_barred) := by
  have G_last_of := ok_last_of (w := w) (base := base) T
  refine fn_sim (N := N_Circle_barred) T.d_Circle_barred.F sc_Circle_barred fun cdv A outer s H E hr => ?_
  have nd := sc_Circle_barred.nd
  refine ⟨_, (pss_one (ps_ret (pe_lst (StX.pa_star (pe_fld (pv 0) rfl) (StX.pa_star (pe_lc2 (own := [("year", 1), ("pair", 2)]) (vs1 := [2]) rfl nd (pi_seq (pe_call G_last_of (hr.mono (by decide)) rfl T.d_last_of.m T.d_last_of.F.kp T.d_last_of.b .nil pD (pa_cons (pe_fld (pv 0) rfl) (pa_cons (pe_fld (pv 0) rfl) pa_nil)))) (blkOk_by (N := N_Circle_barred) (sc := defScope s_Circle_barred) (by decide +kernel)) (by decide) (fun _ _ _ _ _ => pg_name (i := 1) nd rfl (Or.inl rfl) (.inr rfl)) (fun _ _ _ _ _ => pts_nil) (fun _ _ _ _ _ => (show PI _ _ _ (iSeq K _) from pi_seq (pv 1))) (fun _ _ _ _ _ => pg_name (i := 2) nd rfl (Or.inl rfl) (.inr rfl)) (fun _ _ _ _ _ => pts_nil) (fun _ _ _ _ _ => (pv 2))) pa_nil))))), ?_⟩
  exact (sims_ret (sim_lst (sim_star (sim_fldO T.of_bars (sim_var 0)) (sim_star (sim_lc2 (simi_seq (sim_call ar_def (sim_cons (sim_fldO T.of_past (sim_var 0)) (sim_cons (sim_fldO T.of_gap (sim_var 0)) sim_nil)))) (simg_name 1) (own_name (by decide)) simt_yes (simi_seq (sim_var 1)) (simg_name 2) (own_name (by decide)) simt_yes (sim_var 2)) sim_nil))))
theorem ok_others_of (T : Tx K P mg) : FnOk P w K mg base (L2.CX P w) 1 T.a_others_of T.fd_others_of ["members", "name", "house", "gone"] (spOf (gOf T) 4 m_others_of) := by
  refine fn_sim (N := N_others_of) T.d_others_of.F sc_others_of fun cdv A outer s H E hr => ?_
  have nd := sc_others_of.nd
  refine ⟨_, (pss_one (ps_ret (pe_callTy call_tupXA (by rfl) T.tuple (by decide +kernel) (pa_cons (pe_lc (own := [("other", 4), ("other_house", 5)]) rfl nd (pi_seq (pv 0)) (blkOk_by (N := N_others_of) (sc := defScope s_others_of) (by decide +kernel)) (fun _ _ _ _ _ => (show PG _ _ (gTup K 2 _) from pg_tup rfl (pgs_cons (pg_name (i := 4) nd rfl (Or.inl rfl) (.inr rfl)) (pgs_cons (pg_name (i := 5) nd rfl (Or.inl rfl) (.inr rfl)) pgs_nil)))) (fun _ _ _ _ _ => pts_one (PW.pt (pw_and (pt_cmpR (show OpR _ _ (rNeA K) from (op_neA hr.units)) (pv 4) (pv 1) (nomark _)) (pw_and (PW.pt (pw_or (pt_cmpR (show OpR _ _ (rEqA K) from (op_eqA hr.units)) (pv 2) pe_str (nomark _)) (pw_or1 (pt_cmpR (show OpR _ _ (rNeA K) from (op_neA hr.units)) (pv 5) (pv 2) (nomark _))))) (pw_and1 (pt_cmpR (show OpR _ _ (rNotInX K) from (op_notInX hr.units2)) (pv 4) (pv 3) rfl)))))) (fun _ _ _ _ _ => (pv 4))) pa_nil)))), ?_⟩
  exact (sims_ret (sim_cb sim_tupX (sim_cons (sim_lc (simi_seq (sim_var 0)) (simg_tup (simg_cons (simg_name 4) (simg_cons (simg_name 5) simg_nil))) (own_tup (owns_cons (own_name (by decide)) mono_name (owns_cons (own_name (by decide)) mono_name owns_nil monos_nil) (monos_cons mono_name monos_nil))) (simt_and (simt_test (sim_op sim_neA (sim_var 4) (sim_var 1))) (simt_and (simt_or (simt_test (sim_op sim_eqA (sim_var 2) (sim_c fun _ _ _ => .str _))) (simt_test (sim_op sim_neA (sim_var 5) (sim_var 2)))) (simt_test (sim_op sim_notInX (sim_var 4) (sim_var 3))))) (sim_var 4)) sim_nil)))
theorem ok_Circle_takers (T : Tx K P mg) : FnOk P w K mg base (L2.CX P w) 9 T.a_Circle_takers T.fd_Circle_takers ["self", "giver"] (spOf (gOf T) 2 m_Circle_takers) := by
  have G_Circle_house_of := ok_Circle_house_of (w := w) (base := base) T
  have G_Circle_barred := ok_Circle_barred (w := w) (base := base) T
  have G_others_of := ok_others_of (w := w) (base := base) T
  refine fn_sim (N := N_Circle_takers) T.d_Circle_takers.F sc_Circle_takers fun cdv A outer s H E hr => ?_
  have nd := sc_Circle_takers.nd
  refine ⟨_, (pss_cons (ps_set (i := 2) nd rfl (Or.inl rfl) (pe_meth (pv 0) T.cl_Circle.cl T.me_Circle_house_of G_Circle_house_of (hr.mono (by decide)) T.b_Circle_house_of .nil pD (pa_cons (pv 1) pa_nil))) (pss_cons (ps_setDc (i := 3) (own := [("one", 4), ("taker", 5)]) rfl nd rfl rfl (sw_trueD rfl rfl rfl (by decide +kernel)) (pi_seq (pe_meth0 (pv 0) T.cl_Circle.cl T.me_Circle_barred G_Circle_barred (hr.mono (by decide)) T.b_Circle_barred .nil pD)) (blkOk_by (N := N_Circle_takers) (sc := defScope s_Circle_takers) (by decide +kernel)) (fun _ _ _ _ _ => (show PG _ _ (gTup K 2 _) from pg_tup rfl (pgs_cons (pg_name (i := 4) nd rfl (Or.inl rfl) (.inr rfl)) (pgs_cons (pg_name (i := 5) nd rfl (Or.inl rfl) (.inr rfl)) pgs_nil)))) (fun _ _ _ _ _ => pts_one (pt_cmpR (show OpR _ _ (rEqA K) from (op_eqA hr.units)) (pv 4) (pv 1) (nomark _))) (fun _ _ _ _ _ => (pv 5)) (fun _ _ _ _ _ => pe_bl)) (pss_one (ps_ret (pe_call G_others_of (hr.mono (by decide)) rfl T.d_others_of.m T.d_others_of.F.kp T.d_others_of.b .nil pD (pa_cons (pe_fld (pv 0) rfl) (pa_cons (pv 1) (pa_cons (pv 2) (pa_cons (pv 3) pa_nil))))))))), ?_⟩
  exact (sims_seq (sims_asg (sim_meth (c := 11) ar_def (fun _ _ _ => .nil) (sim_var 0) (sim_cons (sim_var 1) sim_nil)) (simg_name 2)) (sims_seq (sims_asg (sim_dcL (simi_seq (sim_meth (c := 11) ar_def (fun _ _ _ => .nil) (sim_var 0) sim_nil)) (simg_tup (simg_cons (simg_name 4) (simg_cons (simg_name 5) simg_nil))) (own_tup (owns_cons (own_name (by decide)) mono_name (owns_cons (own_name (by decide)) mono_name owns_nil monos_nil) (monos_cons mono_name monos_nil))) (simt_test (sim_op sim_eqA (sim_var 4) (sim_var 1))) (sim_var 5) (sim_c fun _ _ _ => .bl _)) (simg_name 3)) (sims_ret (sim_call ar_def (sim_cons (sim_fldO T.of_members (sim_var 0)) (sim_cons (sim_var 1) (sim_cons (sim_var 2) (sim_cons (sim_var 3) sim_nil))))))))
theorem ok_Circle_givers (T : Tx K P mg) : FnOk P w K mg base (L2.CX P w) 9 T.a_Circle_givers T.fd_Circle_givers ["self", "taker"] (spOf (gOf T) 2 m_Circle_givers) := by
  have G_Circle_house_of := ok_Circle_house_of (w := w) (base := base) T
  have G_Circle_barred := ok_Circle_barred (w := w) (base := base) T
  have G_others_of := ok_others_of (w := w) (base := base) T
  refine fn_sim (N := N_Circle_givers) T.d_Circle_givers.F sc_Circle_givers fun cdv A outer s H E hr => ?_
  have nd := sc_Circle_givers.nd
  refine ⟨_, (pss_cons (ps_set (i := 2) nd rfl (Or.inl rfl) (pe_meth (pv 0) T.cl_Circle.cl T.me_Circle_house_of G_Circle_house_of (hr.mono (by decide)) T.b_Circle_house_of .nil pD (pa_cons (pv 1) pa_nil))) (pss_cons (ps_setDc (i := 3) (own := [("giver", 4), ("one", 5)]) rfl nd rfl rfl (sw_trueD rfl rfl rfl (by decide +kernel)) (pi_seq (pe_meth0 (pv 0) T.cl_Circle.cl T.me_Circle_barred G_Circle_barred (hr.mono (by decide)) T.b_Circle_barred .nil pD)) (blkOk_by (N := N_Circle_givers) (sc := defScope s_Circle_givers) (by decide +kernel)) (fun _ _ _ _ _ => (show PG _ _ (gTup K 2 _) from pg_tup rfl (pgs_cons (pg_name (i := 4) nd rfl (Or.inl rfl) (.inr rfl)) (pgs_cons (pg_name (i := 5) nd rfl (Or.inl rfl) (.inr rfl)) pgs_nil)))) (fun _ _ _ _ _ => pts_one (pt_cmpR (show OpR _ _ (rEqA K) from (op_eqA hr.units)) (pv 5) (pv 1) (nomark _))) (fun _ _ _ _ _ => (pv 4)) (fun _ _ _ _ _ => pe_bl)) (pss_one (ps_ret (pe_call G_others_of (hr.mono (by decide)) rfl T.d_others_of.m T.d_others_of.F.kp T.d_others_of.b .nil pD (pa_cons (pe_fld (pv 0) rfl) (pa_cons (pv 1) (pa_cons (pv 2) (pa_cons (pv 3) pa_nil))))))))), ?_⟩
  exact (sims_seq (sims_asg (sim_meth (c := 11) ar_def (fun _ _ _ => .nil) (sim_var 0) (sim_cons (sim_var 1) sim_nil)) (simg_name 2)) (sims_seq (sims_asg (sim_dcL (simi_seq (sim_meth (c := 11) ar_def (fun _ _ _ => .nil) (sim_var 0) sim_nil)) (simg_tup (simg_cons (simg_name 4) (simg_cons (simg_name 5) simg_nil))) (own_tup (owns_cons (own_name (by decide)) mono_name (owns_cons (own_name (by decide)) mono_name owns_nil monos_nil) (monos_cons mono_name monos_nil))) (simt_test (sim_op sim_eqA (sim_var 5) (sim_var 1))) (sim_var 4) (sim_c fun _ _ _ => .bl _)) (simg_name 3)) (sims_ret (sim_call ar_def (sim_cons (sim_fldO T.of_members (sim_var 0)) (sim_cons (sim_var 1) (sim_cons (sim_var 2) (sim_cons (sim_var 3) sim_nil))))))))
theorem ok__law_blend (T : Tx K P mg) : FnOk P w K mg base (L2.CX P w) 1 T.a__law_blend T.fd__law_blend ["_law_number", "_law_turn"] (spOf (gOf T) 2 m__law_blend) := by
  refine fn_sim (N := N__law_blend) T.d__law_blend.F sc__law_blend fun cdv A outer s H E hr => ?_
  have nd := sc__law_blend.nd
  refine ⟨_, (pss_cons (ps_set (i := 2) nd rfl (Or.inl rfl) (pe_op op_addA (pe_op op_addA (pe_op op_addA (pe_op op_mod (pv 0) pe_int) (pe_op op_mulW (pe_op op_mulW pe_int (pv 1)) (pv 1))) (pe_op op_mulW pe_int (pv 1))) pe_int)) (pss_cons (ps_set (i := 3) nd rfl (Or.inl rfl) (pe_op op_mod (pe_op op_mulW (pv 2) pe_int) pe_int)) (pss_one (ps_ret (pe_op op_mod (pe_op op_addA (pe_op op_mulW (pv 3) (pe_op op_addA (pe_op op_mod (pv 3) pe_int) (pe_op op_mulW pe_int (pv 1)))) (pe_op op_fdivW (pv 3) pe_int)) pe_int))))), ?_⟩
  exact (sims_seq (sims_asg (sim_op sim_add (sim_op sim_add (sim_op sim_add (sim_op sim_mod (sim_var 0) (sim_c fun _ _ _ => .int _)) (sim_op sim_mul (sim_op sim_mul (sim_c fun _ _ _ => .int _) (sim_var 1)) (sim_var 1))) (sim_op sim_mul (sim_c fun _ _ _ => .int _) (sim_var 1))) (sim_c fun _ _ _ => .int _)) (simg_name 2)) (sims_seq (sims_asg (sim_op sim_mod (sim_op sim_mul (sim_var 2) (sim_c fun _ _ _ => .int _)) (sim_c fun _ _ _ => .int _)) (simg_name 3)) (sims_ret (sim_op sim_mod (sim_op sim_add (sim_op sim_mul (sim_var 3) (sim_op sim_add (sim_op sim_mod (sim_var 3) (sim_c fun _ _ _ => .int _)) (sim_op sim_mul (sim_c fun _ _ _ => .int _) (sim_var 1)))) (sim_op sim_div (sim_var 3) (sim_c fun _ _ _ => .int _))) (sim_c fun _ _ _ => .int _)))))
theorem ok__law_pot (T : Tx K P mg) : FnOk P w K mg base (L2.CX P w) 1 T.a__law_pot T.fd__law_pot ["_law_script"] (spOf (gOf T) 1 m__law_pot) := by
  refine fn_sim (N := N__law_pot) T.d__law_pot.F sc__law_pot fun cdv A outer s H E hr => ?_
  have nd := sc__law_pot.nd
  refine ⟨_, (pss_one (ps_ret (pe_lst (pa_cons (pe_callTy call_list_of (by rfl) T.list (by decide +kernel) (pa_cons (pv 0) pa_nil)) (pa_cons pe_int (pa_cons pe_int (pa_cons pe_int pa_nil))))))), ?_⟩
  exact (sims_ret (sim_lstL (sim_cons (sim_cb sim_listL (sim_cons (sim_var 0) sim_nil)) (sim_cons (sim_c fun _ _ _ => .int _) (sim_cons (sim_c fun _ _ _ => .int _) (sim_cons (sim_c fun _ _ _ => .int _) sim_nil))))))
theorem ok__law_draw (T : Tx K P mg) : FnOk P w K mg base (L2.CX P w) 2 T.a__law_draw T.fd__law_draw ["_law_pot_here", "_law_size"] (spOf (gOf T) 2 m__law_draw) := by
  have G__law_blend := ok__law_blend (w := w) (base := base) T
  refine fn_sim (N := N__law_draw) T.d__law_draw.F sc__law_draw fun cdv A outer s H E hr => ?_
  have nd := sc__law_draw.nd
  refine ⟨_, (pss_cons (ps_asg (pe_op op_addA (pe_ix ix_seq (pv 0) pe_int (fun _ _ => rfl)) pe_int) (pg_sub (pv 0) pe_int set_list)) (pss_cons (ps_if (PW.pt (pw_and (pt_cmpR (op_eqA hr.units) (pe_ix ix_seq (pv 0) pe_int (fun _ _ => rfl)) pe_int (nomark _)) (pw_and1 (pt_cmpR (op_neA hr.units) (pe_ix ix_seq (pv 0) pe_int (fun _ _ => rfl)) (pe_lst pa_nil) (nomark _))))) (pss_cons (ps_set (i := 2) nd rfl (Or.inl rfl) (pe_bm PySem.F.plainAttrs_list PySem.F.slot_list_pop PySem.F.type_list_pop mt_popAt (pe_ix ix_seq (pv 0) pe_int (fun _ _ => rfl)) (pa_cons pe_int pa_nil))) (pss_cons (ps_asg (pe_call G__law_blend (hr.mono (by decide)) rfl T.d__law_blend.m T.d__law_blend.F.kp T.d__law_blend.b .nil pD (pa_cons (pe_op op_addA (pe_ix ix_seq (pv 0) pe_int (fun _ _ => rfl)) (pv 2)) (pa_cons (pe_callB call_len (by rfl) T.len PySem.boot_len (pa_cons (pe_ix ix_seq (pv 0) pe_int (fun _ _ => rfl)) pa_nil)) pa_nil))) (pg_sub (pv 0) pe_int set_list)) (pss_one (ps_if (pt_cmpR op_ge (pe_callB call_abs (by rfl) T.abs (by decide +kernel) (pa_cons (pv 2) pa_nil)) (pe_op op_pow pe_int pe_int) (nomark _)) (pss_one (ps_asg (pe_callB call_abs (by rfl) T.abs (by decide +kernel) (pa_cons (pv 2) pa_nil)) (pg_sub (pv 0) pe_int set_list))) pss_nil)))) pss_nil) (pss_cons (ps_if (pt_cmpR op_gt (pe_ix ix_seq (pv 0) pe_int (fun _ _ => rfl)) pe_int (nomark _)) (pss_cons (ps_set (i := 3) nd rfl (Or.inl rfl) (pe_op op_mod (pe_ix ix_seq (pv 0) pe_int (fun _ _ => rfl)) (pv 1))) (pss_cons (ps_asg (pe_op op_fdivW (pe_ix ix_seq (pv 0) pe_int (fun _ _ => rfl)) (pv 1)) (pg_sub (pv 0) pe_int set_list)) (pss_one (ps_ret (pv 3))))) pss_nil) (pss_one (ps_ret (pe_op op_mod (pe_op op_fdivW (pe_call G__law_blend (hr.mono (by decide)) rfl T.d__law_blend.m T.d__law_blend.F.kp T.d__law_blend.b .nil pD (pa_cons (pe_ix ix_seq (pv 0) pe_int (fun _ _ => rfl)) (pa_cons (pe_ix ix_seq (pv 0) pe_int (fun _ _ => rfl)) pa_nil))) pe_int) (pv 1))))))), ?_⟩
  exact (sims_seq (sims_asg (sim_op sim_add (sim_op sim_ix (sim_var 0) (sim_c fun _ _ _ => .int _)) (sim_c fun _ _ _ => .int _)) (simg_sub (sim_var 0) (sim_c fun _ _ _ => .int _) sim_set)) (sims_seq (sims_if (simt_and (simt_test (sim_op sim_eqA (sim_op sim_ix (sim_var 0) (sim_c fun _ _ _ => .int _)) (sim_c fun _ _ _ => .int _))) (simt_test (sim_op sim_neA (sim_op sim_ix (sim_var 0) (sim_c fun _ _ _ => .int _)) (sim_lst sim_nil)))) (sims_seq (sims_asg (sim_bm sim_popAt (sim_op sim_ix (sim_var 0) (sim_c fun _ _ _ => .int _)) (sim_cons (sim_c fun _ _ _ => .int _) sim_nil)) (simg_name 2)) (sims_seq (sims_asg (sim_call ar_def (sim_cons (sim_op sim_add (sim_op sim_ix (sim_var 0) (sim_c fun _ _ _ => .int _)) (sim_var 2)) (sim_cons (sim_cb sim_len (sim_cons (sim_op sim_ix (sim_var 0) (sim_c fun _ _ _ => .int _)) sim_nil)) sim_nil))) (simg_sub (sim_var 0) (sim_c fun _ _ _ => .int _) sim_set)) (sims_if (simt_test (sim_op sim_ge (sim_cb sim_abs (sim_cons (sim_var 2) sim_nil)) (sim_op sim_pow (sim_c fun _ _ _ => .int _) (sim_c fun _ _ _ => .int _)))) (sims_asg (sim_cb sim_abs (sim_cons (sim_var 2) sim_nil)) (simg_sub (sim_var 0) (sim_c fun _ _ _ => .int _) sim_set)) sims_next))) sims_next) (sims_seq (sims_if (simt_test (sim_op sim_gt (sim_op sim_ix (sim_var 0) (sim_c fun _ _ _ => .int _)) (sim_c fun _ _ _ => .int _))) (sims_seq (sims_asg (sim_op sim_mod (sim_op sim_ix (sim_var 0) (sim_c fun _ _ _ => .int _)) (sim_var 1)) (simg_name 3)) (sims_seq (sims_asg (sim_op sim_div (sim_op sim_ix (sim_var 0) (sim_c fun _ _ _ => .int _)) (sim_var 1)) (simg_sub (sim_var 0) (sim_c fun _ _ _ => .int _) sim_set)) (sims_ret (sim_var 3)))) sims_next) (sims_ret (sim_op sim_mod (sim_op sim_div (sim_call ar_def (sim_cons (sim_op sim_ix (sim_var 0) (sim_c fun _ _ _ => .int _)) (sim_cons (sim_op sim_ix (sim_var 0) (sim_c fun _ _ _ => .int _)) sim_nil))) (sim_c fun _ _ _ => .int _)) (sim_var 1))))))
theorem ok__law_pick (T : Tx K P mg) : FnOk P w K mg base (L2.CX P w) 3 T.a__law_pick T.fd__law_pick ["_law_pot_here", "_law_some"] (spOf (gOf T) 2 m__law_pick) := by
  have G__law_draw := ok__law_draw (w := w) (base := base) T
  refine fn_sim (N := N__law_pick) T.d__law_pick.F sc__law_pick fun cdv A outer s H E hr => ?_
  have nd := sc__law_pick.nd
  refine ⟨_, (pss_one (ps_ret (pe_ix ix_seq (pv 1) (pe_call G__law_draw (hr.mono (by decide)) rfl T.d__law_draw.m T.d__law_draw.F.kp T.d__law_draw.b .nil pD (pa_cons (pv 0) (pa_cons (pe_callB call_len (by rfl) T.len PySem.boot_len (pa_cons (pv 1) pa_nil)) pa_nil))) (fun _ _ => rfl)))), ?_⟩
  exact (sims_ret (sim_op sim_ix (sim_var 1) (sim_call ar_def (sim_cons (sim_var 0) (sim_cons (sim_cb sim_len (sim_cons (sim_var 1) sim_nil)) sim_nil)))))
theorem ok__law_words (T : Tx K P mg) : FnOk P w K mg base (L2.CX P w) 4 T.a__law_words T.fd__law_words ["_law_pot_here", "_law_size"] (spOf (gOf T) 2 m__law_words) := by
  have G__law_draw := ok__law_draw (w := w) (base := base) T
  have G__law_pick := ok__law_pick (w := w) (base := base) T
  refine fn_sim (N := N__law_words) T.d__law_words.F sc__law_words fun cdv A outer s H E hr => ?_
  have nd := sc__law_words.nd
  refine ⟨_, (pss_cons (ps_par (i := 2) (j := 3) rfl nd rfl rfl (by decide) rfl rfl (pa_cons (pe_callTy (call_listS rfl) (by rfl) T.list (by decide +kernel) (pa_cons pe_str pa_nil)) (pa_cons (pe_lst pa_nil) pa_nil)) rfl) (pss_cons (ps_set (i := 4) nd rfl (Or.inl rfl) (pe_bm PySem.F.plainAttrs_str PySem.F.slot_str_join PySem.F.type_str_join mt_join pe_str (pa_cons (pe_lc (own := [("_law_k", 7)]) rfl nd (pi_range1 rfl T.range (pa_cons (pe_call G__law_draw (hr.mono (by decide)) rfl T.d__law_draw.m T.d__law_draw.F.kp T.d__law_draw.b .nil pD (pa_cons (pv 0) (pa_cons pe_int pa_nil))) pa_nil)) (blkOk_by (N := N__law_words) (sc := defScope s__law_words) (by decide +kernel)) (fun _ _ _ _ _ => pg_name (i := 7) nd rfl (Or.inl rfl) (.inr rfl)) (fun _ _ _ _ _ => pts_nil) (fun _ _ _ _ _ => (pe_call G__law_pick (hr.mono (by decide)) rfl T.d__law_pick.m T.d__law_pick.F.kp T.d__law_pick.b .nil passL (pa_cons (pv 0) (pa_cons pe_str pa_nil))))) pa_nil))) (pss_cons (ps_par (i := 5) (j := 6) rfl nd rfl rfl (by decide) rfl rfl (pa_cons (pe_call G__law_draw (hr.mono (by decide)) rfl T.d__law_draw.m T.d__law_draw.F.kp T.d__law_draw.b .nil pD (pa_cons (pv 0) (pa_cons (pe_op op_addA (pe_callB call_len (by rfl) T.len PySem.boot_len (pa_cons (pv 4) pa_nil)) pe_int) pa_nil))) (pa_cons (pe_call G__law_draw (hr.mono (by decide)) rfl T.d__law_draw.m T.d__law_draw.F.kp T.d__law_draw.b .nil pD (pa_cons (pv 0) (pa_cons pe_int pa_nil))) pa_nil)) rfl) (pss_cons (ps_for (passes_of rfl) rfl (pi_range1 rfl T.range (pa_cons (pv 1) pa_nil)) (pg_name (i := 7) nd rfl (Or.inl rfl)) (pss_cons (ps_set (i := 8) nd rfl (Or.inl rfl) (pe_bm PySem.F.plainAttrs_list PySem.F.slot_list_pop PySem.F.type_list_pop mt_popAt (pv 2) (pa_cons (pe_call G__law_draw (hr.mono (by decide)) rfl T.d__law_draw.m T.d__law_draw.F.kp T.d__law_draw.b .nil pD (pa_cons (pv 0) (pa_cons (pe_callB call_len (by rfl) T.len PySem.boot_len (pa_cons (pv 2) pa_nil)) pa_nil))) pa_nil))) (pss_one (ps_expr (pe_bm PySem.F.plainAttrs_list PySem.F.slot_list_append PySem.F.type_list_append mt_append (pv 3) (pa_cons (pe_ix ix_seq (pe_lst (pa_cons (pe_op op_addA (pe_op op_addA (pe_slice sl_all (pv 4) po_none (po_some (pv 5))) (pv 8)) (pe_slice sl_all (pv 4) (po_some (pv 5)) po_none)) (pa_cons (pe_op op_addA (pv 8) (pe_slice sl_all (pv 4) po_none (po_some (pe_call G__law_draw (hr.mono (by decide)) rfl T.d__law_draw.m T.d__law_draw.F.kp T.d__law_draw.b .nil pD (pa_cons (pv 0) (pa_cons (pe_op op_addA (pe_callB call_len (by rfl) T.len PySem.boot_len (pa_cons (pv 4) pa_nil)) pe_int) pa_nil)))))) pa_nil))) (pv 6) (fun _ _ => rfl)) pa_nil)))))) (pss_one (ps_ret (pv 3))))))), ?_⟩
  exact (sims_seq (sims_par (sim_cons (sim_cb sim_listSL (sim_cons (sim_c fun _ _ _ => .str _) sim_nil)) (sim_cons (sim_lstL sim_nil) sim_nil))) (sims_seq (sims_asg (sim_bm sim_join (sim_c fun _ _ _ => .str _) (sim_cons (sim_lc (simi_range1 (sim_cons (sim_call ar_def (sim_cons (sim_var 0) (sim_cons (sim_c fun _ _ _ => .int _) sim_nil))) sim_nil)) (simg_name 7) (own_name (by decide)) simt_yes (sim_call ar_def (sim_cons (sim_var 0) (sim_cons (sim_c fun _ _ _ => .str _) sim_nil)))) sim_nil)) (simg_name 4)) (sims_seq (sims_par (sim_cons (sim_call ar_def (sim_cons (sim_var 0) (sim_cons (sim_op sim_add (sim_cb sim_len (sim_cons (sim_var 4) sim_nil)) (sim_c fun _ _ _ => .int _)) sim_nil))) (sim_cons (sim_call ar_def (sim_cons (sim_var 0) (sim_cons (sim_c fun _ _ _ => .int _) sim_nil))) sim_nil))) (sims_seq (sims_for (simi_range1 (sim_cons (sim_var 1) sim_nil)) (simg_name 7) (sims_seq (sims_asg (sim_bm sim_popAt (sim_var 2) (sim_cons (sim_call ar_def (sim_cons (sim_var 0) (sim_cons (sim_cb sim_len (sim_cons (sim_var 2) sim_nil)) sim_nil))) sim_nil)) (simg_name 8)) (sims_drop (sim_bm sim_append (sim_var 3) (sim_cons (sim_op sim_ix (sim_lst (sim_cons (sim_op sim_add (sim_op sim_add (sim_slice (sim_var 4) simo_none (simo_some (sim_var 5))) (sim_var 8)) (sim_slice (sim_var 4) (simo_some (sim_var 5)) simo_none)) (sim_cons (sim_op sim_add (sim_var 8) (sim_slice (sim_var 4) simo_none (simo_some (sim_call ar_def (sim_cons (sim_var 0) (sim_cons (sim_op sim_add (sim_cb sim_len (sim_cons (sim_var 4) sim_nil)) (sim_c fun _ _ _ => .int _)) sim_nil)))))) sim_nil))) (sim_var 6)) sim_nil))))) (sims_ret (sim_var 3))))))
theorem ok__law_pairs (T : Tx K P mg) : FnOk P w K mg base (L2.CX P w) 4 T.a__law_pairs T.fd__law_pairs ["_law_pot_here", "_law_pool", "_law_size"] (spOf (gOf T) 3 m__law_pairs) := by
  have G__law_pick := ok__law_pick (w := w) (base := base) T
  refine fn_sim (N := N__law_pairs) T.d__law_pairs.F sc__law_pairs fun cdv A outer s H E hr => ?_
  have nd := sc__law_pairs.nd
  refine ⟨_, (pss_cons (ps_set (i := 3) nd rfl (Or.inl rfl) pe_dnewT) (pss_cons (ps_for (passes_of rfl) rfl (pi_range1 rfl T.range (pa_cons (pv 2) pa_nil)) (pg_name (i := 4) nd rfl (Or.inl rfl)) (pss_one (ps_asg pe_bl (pg_sub (pv 3) (pe_tup (pa_cons (pe_call G__law_pick (hr.mono (by decide)) rfl T.d__law_pick.m T.d__law_pick.F.kp T.d__law_pick.b .nil pD (pa_cons (pv 0) (pa_cons (pv 1) pa_nil))) (pa_cons (pe_call G__law_pick (hr.mono (by decide)) rfl T.d__law_pick.m T.d__law_pick.F.kp T.d__law_pick.b .nil pD (pa_cons (pv 0) (pa_cons (pv 1) pa_nil))) pa_nil))) (set_dict (hu_of hr)))))) (pss_one (ps_ret (pe_callTy call_tupXA (by rfl) T.tuple (by decide +kernel) (pa_cons (pe_callB (call_sortDT rfl hr.units) (by rfl) T.sorted (by decide +kernel) (pa_cons (pv 3) pa_nil)) pa_nil)))))), ?_⟩
  exact (sims_seq (sims_asg sim_newT (simg_name 3)) (sims_seq (sims_for (simi_range1 (sim_cons (sim_var 2) sim_nil)) (simg_name 4) (sims_asg (sim_c fun _ _ _ => .bl _) (simg_sub (sim_var 3) (sim_tup (sim_cons (sim_call ar_def (sim_cons (sim_var 0) (sim_cons (sim_var 1) sim_nil))) (sim_cons (sim_call ar_def (sim_cons (sim_var 0) (sim_cons (sim_var 1) sim_nil))) sim_nil))) sim_setK))) (sims_ret (sim_cb sim_tupX (sim_cons (sim_cb sim_sortDT (sim_cons (sim_var 3) sim_nil)) sim_nil)))))
theorem ok__law_turned_round (T : Tx K P mg) : FnOk P w K mg base (L2.CX P w) 3 T.a__law_turned_round T.fd__law_turned_round ["_law_pot_here", "_law_some"] (spOf (gOf T) 2 m__law_turned_round) := by
  have G__law_draw := ok__law_draw (w := w) (base := base) T
  refine fn_sim (N := N__law_turned_round) T.d__law_turned_round.F sc__law_turned_round fun cdv A outer s H E hr => ?_
  have nd := sc__law_turned_round.nd
  refine ⟨_, (pss_cons (ps_par (i := 2) (j := 3) rfl nd rfl rfl (by decide) rfl rfl (pa_cons (pe_callTy call_list_of (by rfl) T.list (by decide +kernel) (pa_cons (pv 1) pa_nil)) (pa_cons (pe_lst pa_nil) pa_nil)) rfl) (pss_cons (ps_for (passes_of rfl) rfl (pi_seq (pe_callB (call_sortA hr.units) (by rfl) T.sorted (by decide +kernel) (pa_cons (pv 1) pa_nil))) (pg_name (i := 4) nd rfl (Or.inl rfl)) (pss_one (ps_expr (pe_bm PySem.F.plainAttrs_list PySem.F.slot_list_append PySem.F.type_list_append mt_append (pv 3) (pa_cons (pe_tup (pa_cons (pv 4) (pa_cons (pe_bm PySem.F.plainAttrs_list PySem.F.slot_list_pop PySem.F.type_list_pop mt_popAt (pv 2) (pa_cons (pe_call G__law_draw (hr.mono (by decide)) rfl T.d__law_draw.m T.d__law_draw.F.kp T.d__law_draw.b .nil pD (pa_cons (pv 0) (pa_cons (pe_callB call_len (by rfl) T.len PySem.boot_len (pa_cons (pv 2) pa_nil)) pa_nil))) pa_nil)) pa_nil))) pa_nil))))) (pss_one (ps_ret (pe_callTy call_tupXA (by rfl) T.tuple (by decide +kernel) (pa_cons (pv 3) pa_nil)))))), ?_⟩
  exact (sims_seq (sims_par (sim_cons (sim_cb sim_listL (sim_cons (sim_var 1) sim_nil)) (sim_cons (sim_lstL sim_nil) sim_nil))) (sims_seq (sims_for (simi_seq (sim_cb sim_sortA (sim_cons (sim_var 1) sim_nil))) (simg_name 4) (sims_drop (sim_bm sim_append (sim_var 3) (sim_cons (sim_tup (sim_cons (sim_var 4) (sim_cons (sim_bm sim_popAt (sim_var 2) (sim_cons (sim_call ar_def (sim_cons (sim_var 0) (sim_cons (sim_cb sim_len (sim_cons (sim_var 2) sim_nil)) sim_nil))) sim_nil)) sim_nil))) sim_nil)))) (sims_ret (sim_cb sim_tupX (sim_cons (sim_var 3) sim_nil)))))
theorem ok__law_parts (T : Tx K P mg) : FnOk P w K mg base (L2.CX P w) 5 T.a__law_parts T.fd__law_parts ["_law_pot_here", "_law_most"] (spOf (gOf T) 2 m__law_parts) := by
  have G__law_words := ok__law_words (w := w) (base := base) T
  have G__law_draw := ok__law_draw (w := w) (base := base) T
  have G__law_pick := ok__law_pick (w := w) (base := base) T
  have G__law_pairs := ok__law_pairs (w := w) (base := base) T
  have G__law_turned_round := ok__law_turned_round (w := w) (base := base) T
  refine fn_sim (N := N__law_parts) T.d__law_parts.F sc__law_parts fun cdv A outer s H E hr => ?_
  have nd := sc__law_parts.nd
  refine ⟨_, (pss_cons (ps_set (i := 2) nd rfl (Or.inl rfl) (pe_call G__law_words (hr.mono (by decide)) rfl T.d__law_words.m T.d__law_words.F.kp T.d__law_words.b .nil pD (pa_cons (pv 0) (pa_cons (pe_op op_addA pe_int (pe_call G__law_draw (hr.mono (by decide)) rfl T.d__law_draw.m T.d__law_draw.F.kp T.d__law_draw.b .nil pD (pa_cons (pv 0) (pa_cons (pe_op op_addA (pv 1) pe_int) pa_nil)))) pa_nil)))) (pss_cons (ps_par (i := 3) (j := 4) rfl nd rfl rfl (by decide) rfl rfl (pa_cons (pe_slice sl_all (pv 2) (po_some pe_int) po_none) (pa_cons (pe_slice sl_all (pv 2) po_none (po_some pe_int)) pa_nil)) rfl) (pss_cons (ps_set (i := 5) nd rfl (Or.inr rfl) (pe_lst (pa_cons pe_str (pa_cons pe_str (pa_cons pe_str (pa_cons (pe_ix ix_seq (pv 4) pe_int (fun _ _ => rfl)) (pa_cons (pe_ix ix_seq (pv 2) (pe_un un_neg pe_int) (fun _ _ => rfl)) (pa_cons pe_str pa_nil)))))))) (pss_cons (ps_set (i := 6) nd rfl (Or.inl rfl) (pe_callTy call_tupXA (by rfl) T.tuple (by decide +kernel) (pa_cons (pe_callB (call_sortA hr.units) (by rfl) T.sorted (by decide +kernel) (pa_cons (pe_lc (own := [("_law_one", 11)]) rfl nd (pi_seq (pv 3)) (blkOk_by (N := N__law_parts) (sc := defScope s__law_parts) (by decide +kernel)) (fun _ _ _ _ _ => pg_name (i := 11) nd rfl (Or.inl rfl) (.inr rfl)) (fun _ _ _ _ _ => pts_nil) (fun _ _ _ _ _ => (pe_tup (pa_cons (pv 11) (pa_cons (pe_call G__law_pick (hr.mono (by decide)) rfl T.d__law_pick.m T.d__law_pick.F.kp T.d__law_pick.b .nil passL (pa_cons (pv 0) (pa_cons (pv 5) pa_nil))) pa_nil))))) pa_nil)) pa_nil))) (pss_cons (ps_par (i := 7) (j := 8) rfl nd rfl rfl (by decide) rfl rfl (pa_cons (pe_call G__law_pairs (hr.mono (by decide)) rfl T.d__law_pairs.m T.d__law_pairs.F.kp T.d__law_pairs.b .nil pD (pa_cons (pv 0) (pa_cons (pv 2) (pa_cons (pe_call G__law_draw (hr.mono (by decide)) rfl T.d__law_draw.m T.d__law_draw.F.kp T.d__law_draw.b .nil pD (pa_cons (pv 0) (pa_cons (pe_ix ix_seq (pe_lst (pa_cons pe_int (pa_cons pe_int (pa_cons pe_int pa_nil)))) (pe_call G__law_draw (hr.mono (by decide)) rfl T.d__law_draw.m T.d__law_draw.F.kp T.d__law_draw.b .nil pD (pa_cons (pv 0) (pa_cons pe_int pa_nil))) (fun _ _ => rfl)) pa_nil))) pa_nil)))) (pa_cons (pe_lst pa_nil) pa_nil)) rfl) (pss_cons (ps_for (passes_of rfl) rfl (pi_range1 rfl T.range (pa_cons (pe_call G__law_draw (hr.mono (by decide)) rfl T.d__law_draw.m T.d__law_draw.F.kp T.d__law_draw.b .nil pD (pa_cons (pv 0) (pa_cons (pe_ix ix_seq (pe_lst (pa_cons pe_int (pa_cons pe_int (pa_cons pe_int pa_nil)))) (pe_call G__law_draw (hr.mono (by decide)) rfl T.d__law_draw.m T.d__law_draw.F.kp T.d__law_draw.b .nil pD (pa_cons (pv 0) (pa_cons pe_int pa_nil))) (fun _ _ => rfl)) pa_nil))) pa_nil)) (pg_name (i := 9) nd rfl (Or.inl rfl)) (pss_one (ps_expr (pe_bm PySem.F.plainAttrs_list PySem.F.slot_list_append PySem.F.type_list_append mt_append (pv 8) (pa_cons (pe_ix ix_seq (pe_lst (pa_cons (pe_call G__law_turned_round (hr.mono (by decide)) rfl T.d__law_turned_round.m T.d__law_turned_round.F.kp T.d__law_turned_round.b .nil pD (pa_cons (pv 0) (pa_cons (pv 3) pa_nil))) (pa_cons (pe_call G__law_pairs (hr.mono (by decide)) rfl T.d__law_pairs.m T.d__law_pairs.F.kp T.d__law_pairs.b .nil pD (pa_cons (pv 0) (pa_cons (pv 2) (pa_cons (pe_call G__law_draw (hr.mono (by decide)) rfl T.d__law_draw.m T.d__law_draw.F.kp T.d__law_draw.b .nil pD (pa_cons (pv 0) (pa_cons pe_int pa_nil))) pa_nil)))) pa_nil))) (pe_op op_fdivW (pe_call G__law_draw (hr.mono (by decide)) rfl T.d__law_draw.m T.d__law_draw.F.kp T.d__law_draw.b .nil pD (pa_cons (pv 0) (pa_cons pe_int pa_nil))) pe_int) (fun _ _ => rfl)) pa_nil))))) (pss_cons (ps_set (i := 10) nd rfl (Or.inl rfl) (pe_ix ix_seq (pe_lst (pa_cons pe_int (pa_cons pe_int (pa_cons pe_int (pa_cons pe_int (pa_cons (pe_callB call_len (by rfl) T.len PySem.boot_len (pa_cons (pv 8) pa_nil)) (pa_cons (pe_op op_addA (pe_callB call_len (by rfl) T.len PySem.boot_len (pa_cons (pv 8) pa_nil)) pe_int) (pa_cons (pe_call G__law_draw (hr.mono (by decide)) rfl T.d__law_draw.m T.d__law_draw.F.kp T.d__law_draw.b .nil pD (pa_cons (pv 0) (pa_cons (pe_op op_pow pe_int pe_int) pa_nil))) pa_nil)))))))) (pe_call G__law_draw (hr.mono (by decide)) rfl T.d__law_draw.m T.d__law_draw.F.kp T.d__law_draw.b .nil pD (pa_cons (pv 0) (pa_cons pe_int pa_nil))) (fun _ _ => rfl))) (pss_one (ps_ret (pe_tup (pa_cons (pv 6) (pa_cons (pv 7) (pa_cons (pe_callTy call_tupXA (by rfl) T.tuple (by decide +kernel) (pa_cons (pv 8) pa_nil)) (pa_cons (pv 10) (pa_cons (pv 4) pa_nil))))))))))))))), ?_⟩
  exact (sims_seq (sims_asg (sim_call ar_def (sim_cons (sim_var 0) (sim_cons (sim_op sim_add (sim_c fun _ _ _ => .int _) (sim_call ar_def (sim_cons (sim_var 0) (sim_cons (sim_op sim_add (sim_var 1) (sim_c fun _ _ _ => .int _)) sim_nil)))) sim_nil))) (simg_name 2)) (sims_seq (sims_par (sim_cons (sim_slice (sim_var 2) (simo_some (sim_c fun _ _ _ => .int _)) simo_none) (sim_cons (sim_slice (sim_var 2) simo_none (simo_some (sim_c fun _ _ _ => .int _))) sim_nil))) (sims_seq (sims_asg (sim_lst (sim_cons (sim_c fun _ _ _ => .str _) (sim_cons (sim_c fun _ _ _ => .str _) (sim_cons (sim_c fun _ _ _ => .str _) (sim_cons (sim_op sim_ix (sim_var 4) (sim_c fun _ _ _ => .int _)) (sim_cons (sim_op sim_ix (sim_var 2) (sim_un sim_neg (sim_c fun _ _ _ => .int _))) (sim_cons (sim_c fun _ _ _ => .str _) sim_nil))))))) (simg_name 5)) (sims_seq (sims_asg (sim_cb sim_tupX (sim_cons (sim_cb sim_sortA (sim_cons (sim_lc (simi_seq (sim_var 3)) (simg_name 11) (own_name (by decide)) simt_yes (sim_tup (sim_cons (sim_var 11) (sim_cons (sim_call ar_def (sim_cons (sim_var 0) (sim_cons (sim_var 5) sim_nil))) sim_nil)))) sim_nil)) sim_nil)) (simg_name 6)) (sims_seq (sims_par (sim_cons (sim_call ar_def (sim_cons (sim_var 0) (sim_cons (sim_var 2) (sim_cons (sim_call ar_def (sim_cons (sim_var 0) (sim_cons (sim_op sim_ix (sim_lst (sim_cons (sim_c fun _ _ _ => .int _) (sim_cons (sim_c fun _ _ _ => .int _) (sim_cons (sim_c fun _ _ _ => .int _) sim_nil)))) (sim_call ar_def (sim_cons (sim_var 0) (sim_cons (sim_c fun _ _ _ => .int _) sim_nil)))) sim_nil))) sim_nil)))) (sim_cons (sim_lstL sim_nil) sim_nil))) (sims_seq (sims_for (simi_range1 (sim_cons (sim_call ar_def (sim_cons (sim_var 0) (sim_cons (sim_op sim_ix (sim_lst (sim_cons (sim_c fun _ _ _ => .int _) (sim_cons (sim_c fun _ _ _ => .int _) (sim_cons (sim_c fun _ _ _ => .int _) sim_nil)))) (sim_call ar_def (sim_cons (sim_var 0) (sim_cons (sim_c fun _ _ _ => .int _) sim_nil)))) sim_nil))) sim_nil)) (simg_name 9) (sims_drop (sim_bm sim_append (sim_var 8) (sim_cons (sim_op sim_ix (sim_lst (sim_cons (sim_call ar_def (sim_cons (sim_var 0) (sim_cons (sim_var 3) sim_nil))) (sim_cons (sim_call ar_def (sim_cons (sim_var 0) (sim_cons (sim_var 2) (sim_cons (sim_call ar_def (sim_cons (sim_var 0) (sim_cons (sim_c fun _ _ _ => .int _) sim_nil))) sim_nil)))) sim_nil))) (sim_op sim_div (sim_call ar_def (sim_cons (sim_var 0) (sim_cons (sim_c fun _ _ _ => .int _) sim_nil))) (sim_c fun _ _ _ => .int _))) sim_nil)))) (sims_seq (sims_asg (sim_op sim_ix (sim_lst (sim_cons (sim_c fun _ _ _ => .int _) (sim_cons (sim_c fun _ _ _ => .int _) (sim_cons (sim_c fun _ _ _ => .int _) (sim_cons (sim_c fun _ _ _ => .int _) (sim_cons (sim_cb sim_len (sim_cons (sim_var 8) sim_nil)) (sim_cons (sim_op sim_add (sim_cb sim_len (sim_cons (sim_var 8) sim_nil)) (sim_c fun _ _ _ => .int _)) (sim_cons (sim_call ar_def (sim_cons (sim_var 0) (sim_cons (sim_op sim_pow (sim_c fun _ _ _ => .int _) (sim_c fun _ _ _ => .int _)) sim_nil))) sim_nil)))))))) (sim_call ar_def (sim_cons (sim_var 0) (sim_cons (sim_c fun _ _ _ => .int _) sim_nil)))) (simg_name 10)) (sims_ret (sim_tup (sim_cons (sim_var 6) (sim_cons (sim_var 7) (sim_cons (sim_cb sim_tupX (sim_cons (sim_var 8) sim_nil)) (sim_cons (sim_var 10) (sim_cons (sim_var 4) sim_nil))))))))))))))
theorem ok__law_reason (T : Tx K P mg) : FnOk P w K mg base (L2.CX P w) 1 T.a__law_reason T.fd__law_reason ["_law_parts_here", "_law_one", "_law_other"] (spOf (gOf T) 3 m__law_reason) := by
  refine fn_sim (N := N__law_reason) T.d__law_reason.F sc__law_reason fun cdv A outer s H E hr => ?_
  have nd := sc__law_reason.nd
  refine ⟨_, (pss_cons (ps_asg (pv 0) (pg_tup rfl (pgs_cons (pg_name (i := 3) nd rfl (Or.inl rfl)) (pgs_cons (pg_name (i := 4) nd rfl (Or.inl rfl)) (pgs_cons (pg_name (i := 5) nd rfl (Or.inr rfl)) (pgs_cons (pg_name (i := 6) nd rfl (Or.inr rfl)) (pgs_cons (pg_name (i := 7) nd rfl (Or.inl rfl)) pgs_nil))))))) (pss_cons (ps_set (i := 8) nd rfl (Or.inl rfl) (pe_callTy (call_dictX rfl) (by rfl) T.dict (by decide +kernel) (pa_cons (pv 3) pa_nil))) (pss_cons (ps_if (pt_cmpR (op_eqA hr.units) (pv 1) (pv 2) (nomark _)) (pss_one (ps_ret pe_str)) pss_nil) (pss_cons (ps_if (PW.pt (pw_and (pt_cmpR (op_neA hr.units) (pe_dget (hu_of hr) (pv 8) (pv 1) (fun _ _ => rfl)) pe_str (nomark _)) (pw_and1 (pt_cmpR (op_eqA hr.units) (pe_dget (hu_of hr) (pv 8) (pv 1) (fun _ _ => rfl)) (pe_dget (hu_of hr) (pv 8) (pv 2) (fun _ _ => rfl)) (nomark _))))) (pss_one (ps_ret pe_str)) pss_nil) (pss_cons (ps_if (pt_cmpR (op_inX hr.units2) (pe_tup (pa_cons (pv 1) (pa_cons (pv 2) pa_nil))) (pv 4) rfl) (pss_one (ps_ret pe_str)) pss_nil) (pss_cons (ps_setLc (i := 9) (own := [("_law_k", 10), ("_law_year", 11)]) rfl nd rfl rfl (sw_true rfl rfl rfl (by decide +kernel)) (pi_enumA rfl T.enumerate (pa_cons (pv 5) pa_nil)) (blkOk_by (N := N__law_reason) (sc := defScope s__law_reason) (by decide +kernel)) (fun _ _ _ _ _ => (show PG _ _ (gTup K 2 _) from pg_tup rfl (pgs_cons (pg_name (i := 10) nd rfl (Or.inl rfl) (.inr rfl)) (pgs_cons (pg_name (i := 11) nd rfl (Or.inl rfl) (.inr rfl)) pgs_nil)))) (fun _ _ _ _ _ => pts_one (pt_cmpR op_ge (pe_op (show OpR _ _ (rAddA K) from op_addA) (pv 10) (pv 6)) (pe_callB (show CallR _ _ (rLen K) from call_len) (by rfl) T.len PySem.boot_len (pa_cons (pv 5) pa_nil)) (nomark _))) (fun _ _ _ _ _ => (pv 11))) (pss_one (ps_ret (pe_ifExp (pt_val (pe_callB (cr_any rfl) (by rfl) T.any (by decide +kernel) (pa_cons (pe_lc (own := [("_law_year", 11)]) rfl nd (pi_seq (pv 9)) (blkOk_by (N := N__law_reason) (sc := defScope s__law_reason) (by decide +kernel)) (fun _ _ _ _ _ => pg_name (i := 11) nd rfl (Or.inl rfl) (.inr rfl)) (fun _ _ _ _ _ => pts_nil) (fun _ _ _ _ _ => (pe_cmpR (show OpR _ _ (rInX K) from (op_inX hr.units2)) (pe_tup (pa_cons (pv 1) (pa_cons (pv 2) pa_nil))) (pv 11) rfl))) pa_nil))) pe_str pe_non))))))))), ?_⟩
  exact (sims_seq (sims_asg (sim_var 0) (simg_tup (simg_cons (simg_name 3) (simg_cons (simg_name 4) (simg_cons (simg_name 5) (simg_cons (simg_name 6) (simg_cons (simg_name 7) simg_nil))))))) (sims_seq (sims_asg (sim_cb sim_dictX (sim_cons (sim_var 3) sim_nil)) (simg_name 8)) (sims_seq (sims_if (simt_test (sim_op sim_eqA (sim_var 1) (sim_var 2))) (sims_ret (sim_c fun _ _ _ => .str _)) sims_next) (sims_seq (sims_if (simt_and (simt_test (sim_op sim_neA (sim_dget (sim_var 8) (sim_var 1)) (sim_c fun _ _ _ => .str _))) (simt_test (sim_op sim_eqA (sim_dget (sim_var 8) (sim_var 1)) (sim_dget (sim_var 8) (sim_var 2))))) (sims_ret (sim_c fun _ _ _ => .str _)) sims_next) (sims_seq (sims_if (simt_test (sim_op sim_inX (sim_tup (sim_cons (sim_var 1) (sim_cons (sim_var 2) sim_nil))) (sim_var 4))) (sims_ret (sim_c fun _ _ _ => .str _)) sims_next) (sims_seq (sims_asg (sim_lc (simi_enumA (sim_cons (sim_var 5) sim_nil)) (simg_tup (simg_cons (simg_name 10) (simg_cons (simg_name 11) simg_nil))) (own_tup (owns_cons (own_name (by decide)) mono_name (owns_cons (own_name (by decide)) mono_name owns_nil monos_nil) (monos_cons mono_name monos_nil))) (simt_test (sim_op sim_ge (sim_op sim_add (sim_var 10) (sim_var 6)) (sim_cb sim_len (sim_cons (sim_var 5) sim_nil)))) (sim_var 11)) (simg_name 9)) (sims_ret (sim_if (simt_tB (sim_cb sim_any (sim_cons (sim_lc (simi_seq (sim_var 9)) (simg_name 11) (own_name (by decide)) simt_yes (sim_op sim_inX (sim_tup (sim_cons (sim_var 1) (sim_cons (sim_var 2) sim_nil))) (sim_var 11))) sim_nil))) (sim_c fun _ _ _ => .str _) (sim_c fun _ _ _ => .non)))))))))
theorem ok__law_values_right (T : Tx K P mg) : FnOk P w K mg base (L2.CX P w) 3 T.a__law_values_right T.fd__law_values_right ["_law_circle", "_law_parts_here"] (spOf (gOf T) 2 m__law_values_right) := by
  have G_Circle_repr := ok_Circle_repr (w := w) (base := base) T
  have G_Circle_len := ok_Circle_len (w := w) (base := base) T
  have G_Circle_names := ok_Circle_names (w := w) (base := base) T
  refine fn_sim (N := N__law_values_right) T.d__law_values_right.F sc__law_values_right fun cdv A outer s H E hr => ?_
  have nd := sc__law_values_right.nd
  refine ⟨_, (pss_cons (ps_asg (pv 1) (pg_tup rfl (pgs_cons (pg_name (i := 2) nd rfl (Or.inl rfl)) (pgs_cons (pg_name (i := 3) nd rfl (Or.inl rfl)) (pgs_cons (pg_name (i := 4) nd rfl (Or.inl rfl)) (pgs_cons (pg_name (i := 5) nd rfl (Or.inl rfl)) (pgs_cons (pg_name (i := 6) nd rfl (Or.inl rfl)) pgs_nil))))))) (pss_cons (ps_if (PW.pt (pw_or (pt_cmpR (op_neA hr.units) (pe_tup (pa_cons (pe_fld (pv 0) rfl) (pa_cons (pe_fld (pv 0) rfl) (pa_cons (pe_fld (pv 0) rfl) pa_nil)))) (pe_tup (pa_cons (pv 2) (pa_cons (pv 3) (pa_cons (pv 4) pa_nil)))) (nomark _)) (pw_or1 (pt_cmpR (op_neA hr.units) (pe_fld (pv 0) rfl) (pv 5) (nomark _))))) (pss_one (ps_ret pe_bl)) pss_nil) (pss_cons (ps_if (PW.pt (pw_or (pt_val (pe_callB call_isi (by rfl) T.isinstance (by decide +kernel) (pa_cons (pe_fld (pv 0) rfl) (pa_cons (pe_bltn (v := .ty "bool") (by rfl) T.bool (by decide +kernel) rfl) pa_nil)))) (pw_or1 (pt_cmpR (op_neA hr.units) (pe_callB ((call_oRepr (G_Circle_repr.raw T.b_Circle_repr .nil) T.du_Circle_repr (hr.mono (by decide)) pD).or call_reprS) (by rfl) T.repr (by decide +kernel) (pa_cons (pv 0) pa_nil)) (pe_op op_addA (pe_op op_addA pe_str (pe_callTy call_str (by rfl) T.str (by decide +kernel) (pa_cons (pe_callB call_len (by rfl) T.len PySem.boot_len (pa_cons (pv 2) pa_nil)) pa_nil))) pe_str) (nomark _))))) (pss_one (ps_ret pe_bl)) pss_nil) (pss_cons (ps_if (pt_cmpR (op_neA hr.units) (pe_callB ((call_oLen (G_Circle_len.raw T.b_Circle_len .nil) T.du_Circle_len (hr.mono (by decide)) pD).or call_len) (by rfl) T.len (by decide +kernel) (pa_cons (pv 0) pa_nil)) (pe_callB call_len (by rfl) T.len PySem.boot_len (pa_cons (pv 2) pa_nil)) (nomark _)) (pss_one (ps_ret pe_bl)) pss_nil) (pss_one (ps_ret (pe_cmpR (op_eqA hr.units) (pe_meth0 (pv 0) T.cl_Circle.cl T.me_Circle_names G_Circle_names (hr.mono (by decide)) T.b_Circle_names .nil pD) (pe_callTy call_tupXA (by rfl) T.tuple (by decide +kernel) (pa_cons (pe_lc (own := [("_law_one", 7), ("_law_house", 8)]) rfl nd (pi_seq (pv 2)) (blkOk_by (N := N__law_values_right) (sc := defScope s__law_values_right) (by decide +kernel)) (fun _ _ _ _ _ => (show PG _ _ (gTup K 2 _) from pg_tup rfl (pgs_cons (pg_name (i := 7) nd rfl (Or.inl rfl) (.inr rfl)) (pgs_cons (pg_name (i := 8) nd rfl (Or.inl rfl) (.inr rfl)) pgs_nil)))) (fun _ _ _ _ _ => pts_nil) (fun _ _ _ _ _ => (pv 7))) pa_nil)) (nomark _)))))))), ?_⟩
  exact (sims_seq (sims_asg (sim_var 1) (simg_tup (simg_cons (simg_name 2) (simg_cons (simg_name 3) (simg_cons (simg_name 4) (simg_cons (simg_name 5) (simg_cons (simg_name 6) simg_nil))))))) (sims_seq (sims_if (simt_or (simt_test (sim_op sim_neA (sim_tup (sim_cons (sim_fldO T.of_members (sim_var 0)) (sim_cons (sim_fldO T.of_bars (sim_var 0)) (sim_cons (sim_fldO T.of_past (sim_var 0)) sim_nil)))) (sim_tup (sim_cons (sim_var 2) (sim_cons (sim_var 3) (sim_cons (sim_var 4) sim_nil)))))) (simt_test (sim_op sim_neA (sim_fldO T.of_gap (sim_var 0)) (sim_var 5)))) (sims_ret (sim_c fun _ _ _ => .bl _)) sims_next) (sims_seq (sims_if (simt_or (simt_tB (sim_isi (sim_fldO T.of_gap (sim_var 0)))) (simt_test (sim_op sim_neA (sim_cb (sim_o1 (c := 11) ar_def want_str sim_reprS) (sim_cons (sim_var 0) sim_nil)) (sim_op sim_add (sim_op sim_add (sim_c fun _ _ _ => .str _) (sim_cb sim_str (sim_cons (sim_cb sim_len (sim_cons (sim_var 2) sim_nil)) sim_nil))) (sim_c fun _ _ _ => .str _))))) (sims_ret (sim_c fun _ _ _ => .bl _)) sims_next) (sims_seq (sims_if (simt_test (sim_op sim_neA (sim_cb (sim_o1 (c := 11) ar_def want_len sim_len) (sim_cons (sim_var 0) sim_nil)) (sim_cb sim_len (sim_cons (sim_var 2) sim_nil)))) (sims_ret (sim_c fun _ _ _ => .bl _)) sims_next) (sims_ret (sim_op sim_eqA (sim_meth (c := 11) ar_def (fun _ _ _ => .nil) (sim_var 0) sim_nil) (sim_cb sim_tupX (sim_cons (sim_lc (simi_seq (sim_var 2)) (simg_tup (simg_cons (simg_name 7) (simg_cons (simg_name 8) simg_nil))) (own_tup (owns_cons (own_name (by decide)) mono_name (owns_cons (own_name (by decide)) mono_name owns_nil monos_nil) (monos_cons mono_name monos_nil))) simt_yes (sim_var 7)) sim_nil))))))))
theorem ok__law_one_right (T : Tx K P mg) : FnOk P w K mg base (L2.CX P w) 10 T.a__law_one_right T.fd__law_one_right ["_law_circle", "_law_parts_here", "_law_one", "_law_some"] (spOf (gOf T) 4 m__law_one_right) := by
  have G__law_reason := ok__law_reason (w := w) (base := base) T
  have G_Circle_takers := ok_Circle_takers (w := w) (base := base) T
  have G_Circle_givers := ok_Circle_givers (w := w) (base := base) T
  have G_Circle_reason := ok_Circle_reason (w := w) (base := base) T
  refine fn_sim (N := N__law_one_right) T.d__law_one_right.F sc__law_one_right fun cdv A outer s H E hr => ?_
  have nd := sc__law_one_right.nd
  refine ⟨_, (pss_cons (ps_setLc (i := 4) (own := [("_law_other", 6)]) rfl nd rfl rfl (sw_true rfl rfl rfl (by decide +kernel)) (pi_seq (pv 3)) (blkOk_by (N := N__law_one_right) (sc := defScope s__law_one_right) (by decide +kernel)) (fun _ _ _ _ _ => pg_name (i := 6) nd rfl (Or.inl rfl) (.inr rfl)) (fun _ _ _ _ _ => pts_nil) (fun _ _ _ _ _ => (pe_call G__law_reason (hr.mono (by decide)) rfl T.d__law_reason.m T.d__law_reason.F.kp T.d__law_reason.b .nil passL (pa_cons (pv 1) (pa_cons (pv 2) (pa_cons (pv 6) pa_nil)))))) (pss_cons (ps_setLc (i := 5) (own := [("_law_other", 6)]) rfl nd rfl rfl (sw_true rfl rfl rfl (by decide +kernel)) (pi_seq (pv 3)) (blkOk_by (N := N__law_one_right) (sc := defScope s__law_one_right) (by decide +kernel)) (fun _ _ _ _ _ => pg_name (i := 6) nd rfl (Or.inl rfl) (.inr rfl)) (fun _ _ _ _ _ => pts_nil) (fun _ _ _ _ _ => (pe_call G__law_reason (hr.mono (by decide)) rfl T.d__law_reason.m T.d__law_reason.F.kp T.d__law_reason.b .nil passL (pa_cons (pv 1) (pa_cons (pv 6) (pa_cons (pv 2) pa_nil)))))) (pss_cons (ps_if (pt_cmpR (op_neA hr.units) (pe_meth (pv 0) T.cl_Circle.cl T.me_Circle_takers G_Circle_takers (hr.mono (by decide)) T.b_Circle_takers .nil pD (pa_cons (pv 2) pa_nil)) (pe_callTy call_tupXA (by rfl) T.tuple (by decide +kernel) (pa_cons (pe_lc (own := [("_law_other", 6), ("_law_due", 7)]) rfl nd (pi_zipA rfl T.zip (pa_cons (pv 3) (pa_cons (pv 4) pa_nil))) (blkOk_by (N := N__law_one_right) (sc := defScope s__law_one_right) (by decide +kernel)) (fun _ _ _ _ _ => (show PG _ _ (gTup K 2 _) from pg_tup rfl (pgs_cons (pg_name (i := 6) nd rfl (Or.inl rfl) (.inr rfl)) (pgs_cons (pg_name (i := 7) nd rfl (Or.inl rfl) (.inr rfl)) pgs_nil)))) (fun _ _ _ _ _ => pts_one (pt_cmpR op_isN (pv 7) pe_non (nomark _))) (fun _ _ _ _ _ => (pv 6))) pa_nil)) (nomark _)) (pss_one (ps_ret pe_bl)) pss_nil) (pss_cons (ps_if (pt_cmpR (op_neA hr.units) (pe_meth (pv 0) T.cl_Circle.cl T.me_Circle_givers G_Circle_givers (hr.mono (by decide)) T.b_Circle_givers .nil pD (pa_cons (pv 2) pa_nil)) (pe_callTy call_tupXA (by rfl) T.tuple (by decide +kernel) (pa_cons (pe_lc (own := [("_law_other", 6), ("_law_due", 7)]) rfl nd (pi_zipA rfl T.zip (pa_cons (pv 3) (pa_cons (pv 5) pa_nil))) (blkOk_by (N := N__law_one_right) (sc := defScope s__law_one_right) (by decide +kernel)) (fun _ _ _ _ _ => (show PG _ _ (gTup K 2 _) from pg_tup rfl (pgs_cons (pg_name (i := 6) nd rfl (Or.inl rfl) (.inr rfl)) (pgs_cons (pg_name (i := 7) nd rfl (Or.inl rfl) (.inr rfl)) pgs_nil)))) (fun _ _ _ _ _ => pts_one (pt_cmpR op_isN (pv 7) pe_non (nomark _))) (fun _ _ _ _ _ => (pv 6))) pa_nil)) (nomark _)) (pss_one (ps_ret pe_bl)) pss_nil) (pss_cons (ps_if (pt_cmpR (op_neA hr.units) (pe_lc (own := [("_law_other", 6)]) rfl nd (pi_seq (pv 3)) (blkOk_by (N := N__law_one_right) (sc := defScope s__law_one_right) (by decide +kernel)) (fun _ _ _ _ _ => pg_name (i := 6) nd rfl (Or.inl rfl) (.inr rfl)) (fun _ _ _ _ _ => pts_nil) (fun _ _ _ _ _ => (pe_meth (pv 0) T.cl_Circle.cl T.me_Circle_reason G_Circle_reason (hr.mono (by decide)) T.b_Circle_reason .nil passL (pa_cons (pv 2) (pa_cons (pv 6) pa_nil))))) (pv 4) (nomark _)) (pss_one (ps_ret pe_bl)) pss_nil) (pss_one (ps_ret (pe_cmpR (op_eqA hr.units) (pe_lc (own := [("_law_other", 6)]) rfl nd (pi_seq (pv 3)) (blkOk_by (N := N__law_one_right) (sc := defScope s__law_one_right) (by decide +kernel)) (fun _ _ _ _ _ => pg_name (i := 6) nd rfl (Or.inl rfl) (.inr rfl)) (fun _ _ _ _ _ => pts_nil) (fun _ _ _ _ _ => (pe_meth (pv 0) T.cl_Circle.cl T.me_Circle_reason G_Circle_reason (hr.mono (by decide)) T.b_Circle_reason .nil passL (pa_cons (pv 6) (pa_cons (pv 2) pa_nil))))) (pv 5) (nomark _))))))))), ?_⟩
  exact (sims_seq (sims_asg (sim_lc (simi_seq (sim_var 3)) (simg_name 6) (own_name (by decide)) simt_yes (sim_call ar_def (sim_cons (sim_var 1) (sim_cons (sim_var 2) (sim_cons (sim_var 6) sim_nil))))) (simg_name 4)) (sims_seq (sims_asg (sim_lc (simi_seq (sim_var 3)) (simg_name 6) (own_name (by decide)) simt_yes (sim_call ar_def (sim_cons (sim_var 1) (sim_cons (sim_var 6) (sim_cons (sim_var 2) sim_nil))))) (simg_name 5)) (sims_seq (sims_if (simt_test (sim_op sim_neA (sim_meth (c := 11) ar_def (fun _ _ _ => .nil) (sim_var 0) (sim_cons (sim_var 2) sim_nil)) (sim_cb sim_tupX (sim_cons (sim_lc (simi_zip (sim_cons (sim_var 3) (sim_cons (sim_var 4) sim_nil))) (simg_tup (simg_cons (simg_name 6) (simg_cons (simg_name 7) simg_nil))) (own_tup (owns_cons (own_name (by decide)) mono_name (owns_cons (own_name (by decide)) mono_name owns_nil monos_nil) (monos_cons mono_name monos_nil))) (simt_test (sim_op sim_isN (sim_var 7) (sim_c fun _ _ _ => .non))) (sim_var 6)) sim_nil)))) (sims_ret (sim_c fun _ _ _ => .bl _)) sims_next) (sims_seq (sims_if (simt_test (sim_op sim_neA (sim_meth (c := 11) ar_def (fun _ _ _ => .nil) (sim_var 0) (sim_cons (sim_var 2) sim_nil)) (sim_cb sim_tupX (sim_cons (sim_lc (simi_zip (sim_cons (sim_var 3) (sim_cons (sim_var 5) sim_nil))) (simg_tup (simg_cons (simg_name 6) (simg_cons (simg_name 7) simg_nil))) (own_tup (owns_cons (own_name (by decide)) mono_name (owns_cons (own_name (by decide)) mono_name owns_nil monos_nil) (monos_cons mono_name monos_nil))) (simt_test (sim_op sim_isN (sim_var 7) (sim_c fun _ _ _ => .non))) (sim_var 6)) sim_nil)))) (sims_ret (sim_c fun _ _ _ => .bl _)) sims_next) (sims_seq (sims_if (simt_test (sim_op sim_neA (sim_lc (simi_seq (sim_var 3)) (simg_name 6) (own_name (by decide)) simt_yes (sim_meth (c := 11) ar_def (fun _ _ _ => .nil) (sim_var 0) (sim_cons (sim_var 2) (sim_cons (sim_var 6) sim_nil)))) (sim_var 4))) (sims_ret (sim_c fun _ _ _ => .bl _)) sims_next) (sims_ret (sim_op sim_eqA (sim_lc (simi_seq (sim_var 3)) (simg_name 6) (own_name (by decide)) simt_yes (sim_meth (c := 11) ar_def (fun _ _ _ => .nil) (sim_var 0) (sim_cons (sim_var 6) (sim_cons (sim_var 2) sim_nil)))) (sim_var 5))))))))
theorem ok__law_right (T : Tx K P mg) : FnOk P w K mg base (L2.CX P w) 11 T.a__law_right T.fd__law_right ["_law_pot_here", "_law_circle", "_law_parts_here"] (spOf (gOf T) 3 m__law_right) := by
  have G_Circle_house_of := ok_Circle_house_of (w := w) (base := base) T
  have G__law_pick := ok__law_pick (w := w) (base := base) T
  have G__law_one_right := ok__law_one_right (w := w) (base := base) T
  refine fn_sim (N := N__law_right) T.d__law_right.F sc__law_right fun cdv A outer s H E hr => ?_
  have nd := sc__law_right.nd
  refine ⟨_, (pss_cons (ps_set (i := 3) nd rfl (Or.inr rfl) (pe_lc (own := [("_law_one", 5), ("_law_house", 6)]) rfl nd (pi_seq (pe_ix ix_seq (pv 2) pe_int (fun _ _ => rfl))) (blkOk_by (N := N__law_right) (sc := defScope s__law_right) (by decide +kernel)) (fun _ _ _ _ _ => (show PG _ _ (gTup K 2 _) from pg_tup rfl (pgs_cons (pg_name (i := 5) nd rfl (Or.inl rfl) (.inr rfl)) (pgs_cons (pg_name (i := 6) nd rfl (Or.inl rfl) (.inr rfl)) pgs_nil)))) (fun _ _ _ _ _ => pts_nil) (fun _ _ _ _ _ => (pv 5)))) (pss_cons (ps_if (pt_not (pt_val (pe_callB (cr_all rfl) (by rfl) T.all (by decide +kernel) (pa_cons (pe_lc (own := [("_law_one", 5), ("_law_house", 6)]) rfl nd (pi_seq (pe_ix ix_seq (pv 2) pe_int (fun _ _ => rfl))) (blkOk_by (N := N__law_right) (sc := defScope s__law_right) (by decide +kernel)) (fun _ _ _ _ _ => (show PG _ _ (gTup K 2 _) from pg_tup rfl (pgs_cons (pg_name (i := 5) nd rfl (Or.inl rfl) (.inr rfl)) (pgs_cons (pg_name (i := 6) nd rfl (Or.inl rfl) (.inr rfl)) pgs_nil)))) (fun _ _ _ _ _ => pts_nil) (fun _ _ _ _ _ => (pe_cmpR (show OpR _ _ (rEqA K) from (op_eqA hr.units)) (pe_meth (pv 1) T.cl_Circle.cl T.me_Circle_house_of G_Circle_house_of (hr.mono (by decide)) T.b_Circle_house_of .nil passL (pa_cons (pv 5) pa_nil)) (pv 6) (nomark _)))) pa_nil)))) (pss_one (ps_ret pe_bl)) pss_nil) (pss_cons (ps_set (i := 4) nd rfl (Or.inl rfl) (pe_ifExp (pt_cmpR (op_ltA hr.units) (pe_callB call_len (by rfl) T.len PySem.boot_len (pa_cons (pv 3) pa_nil)) pe_int (nomark _)) (pv 3) (pe_lc (own := [("_law_k", 7)]) rfl nd (pi_range1 rfl T.range (pa_cons pe_int pa_nil)) (blkOk_by (N := N__law_right) (sc := defScope s__law_right) (by decide +kernel)) (fun _ _ _ _ _ => pg_name (i := 7) nd rfl (Or.inl rfl) (.inr rfl)) (fun _ _ _ _ _ => pts_nil) (fun _ _ _ _ _ => (pe_call G__law_pick (hr.mono (by decide)) rfl T.d__law_pick.m T.d__law_pick.F.kp T.d__law_pick.b .nil passL (pa_cons (pv 0) (pa_cons (pv 3) pa_nil))))))) (pss_one (ps_ret (pe_callB (cr_all rfl) (by rfl) T.all (by decide +kernel) (pa_cons (pe_lc (own := [("_law_one", 5)]) rfl nd (pi_seq (pv 4)) (blkOk_by (N := N__law_right) (sc := defScope s__law_right) (by decide +kernel)) (fun _ _ _ _ _ => pg_name (i := 5) nd rfl (Or.inl rfl) (.inr rfl)) (fun _ _ _ _ _ => pts_nil) (fun _ _ _ _ _ => (pe_call G__law_one_right (hr.mono (by decide)) rfl T.d__law_one_right.m T.d__law_one_right.F.kp T.d__law_one_right.b .nil passL (pa_cons (pv 1) (pa_cons (pv 2) (pa_cons (pv 5) (pa_cons (pv 3) pa_nil))))))) pa_nil))))))), ?_⟩
  exact (sims_seq (sims_asg (sim_lc (simi_seq (sim_op sim_ix (sim_var 2) (sim_c fun _ _ _ => .int _))) (simg_tup (simg_cons (simg_name 5) (simg_cons (simg_name 6) simg_nil))) (own_tup (owns_cons (own_name (by decide)) mono_name (owns_cons (own_name (by decide)) mono_name owns_nil monos_nil) (monos_cons mono_name monos_nil))) simt_yes (sim_var 5)) (simg_name 3)) (sims_seq (sims_if (simt_not (simt_tB (sim_cb sim_all (sim_cons (sim_lc (simi_seq (sim_op sim_ix (sim_var 2) (sim_c fun _ _ _ => .int _))) (simg_tup (simg_cons (simg_name 5) (simg_cons (simg_name 6) simg_nil))) (own_tup (owns_cons (own_name (by decide)) mono_name (owns_cons (own_name (by decide)) mono_name owns_nil monos_nil) (monos_cons mono_name monos_nil))) simt_yes (sim_op sim_eqA (sim_meth (c := 11) ar_def (fun _ _ _ => .nil) (sim_var 1) (sim_cons (sim_var 5) sim_nil)) (sim_var 6))) sim_nil)))) (sims_ret (sim_c fun _ _ _ => .bl _)) sims_next) (sims_seq (sims_asg (sim_if (simt_test (sim_op sim_ltA (sim_cb sim_len (sim_cons (sim_var 3) sim_nil)) (sim_c fun _ _ _ => .int _))) (sim_var 3) (sim_lc (simi_range1 (sim_cons (sim_c fun _ _ _ => .int _) sim_nil)) (simg_name 7) (own_name (by decide)) simt_yes (sim_call ar_def (sim_cons (sim_var 0) (sim_cons (sim_var 3) sim_nil))))) (simg_name 4)) (sims_ret (sim_cb sim_all (sim_cons (sim_lc (simi_seq (sim_var 4)) (simg_name 5) (own_name (by decide)) simt_yes (sim_call ar_def (sim_cons (sim_var 1) (sim_cons (sim_var 2) (sim_cons (sim_var 5) (sim_cons (sim_var 3) sim_nil)))))) sim_nil))))))
theorem ok_law (T : Tx K P mg) : FnOk P w K mg base (L2.CX P w) 12 T.a_law T.fd_law ["_law_script"] (spOf (gOf T) 1 m_law) := by
  have G__law_pot := ok__law_pot (w := w) (base := base) T
  have G__law_parts := ok__law_parts (w := w) (base := base) T
  have G__law_draw := ok__law_draw (w := w) (base := base) T
  have G_Circle_init := ok_Circle_init (w := w) (base := base) T
  have G__law_values_right := ok__law_values_right (w := w) (base := base) T
  have G__law_right := ok__law_right (w := w) (base := base) T
  refine fn_sim (N := N_law) T.d_law.F sc_law fun cdv A outer s H E hr => ?_
  have nd := sc_law.nd
  refine ⟨_, (pss_cons (ps_par (i := 1) (j := 2) rfl nd rfl rfl (by decide) rfl rfl (pa_cons (pe_call G__law_pot (hr.mono (by decide)) rfl T.d__law_pot.m T.d__law_pot.F.kp T.d__law_pot.b .nil pD (pa_cons (pv 0) pa_nil)) (pa_cons pe_non pa_nil)) rfl) (pss_cons (ps_for (passes_of rfl) rfl (pi_range1 rfl T.range (pa_cons (pe_callB (call_max2 rfl) (by rfl) T.max (by decide +kernel) (pa_cons pe_int (pa_cons (pe_callB (call_min2 rfl) (by rfl) T.min (by decide +kernel) (pa_cons (pe_callB call_len (by rfl) T.len PySem.boot_len (pa_cons (pv 0) pa_nil)) (pa_cons pe_int pa_nil))) pa_nil))) pa_nil)) (pg_name (i := 3) nd rfl (Or.inl rfl)) (pss_cons (ps_set (i := 4) nd rfl (Or.inl rfl) (pe_call G__law_parts (hr.mono (by decide)) rfl T.d__law_parts.m T.d__law_parts.F.kp T.d__law_parts.b .nil pD (pa_cons (pv 1) (pa_cons (pe_ifExp (pt_cmpR (op_eqA hr.units) (pe_op op_addA (pe_call G__law_draw (hr.mono (by decide)) rfl T.d__law_draw.m T.d__law_draw.F.kp T.d__law_draw.b .nil pD (pa_cons (pv 1) (pa_cons pe_int pa_nil))) (pv 3)) pe_int (nomark _)) pe_int pe_int) pa_nil)))) (pss_cons (ps_set (i := 5) nd rfl (Or.inl rfl) (pe_make T.mk_Circle G_Circle_init (hr.mono (by decide)) (by rfl) T.c_Circle T.b4_Circle_init T.v4_Circle_init pD (pa_cons (pe_ix ix_seq (pv 4) pe_int (fun _ _ => rfl)) (pa_cons (pe_ix ix_seq (pv 4) pe_int (fun _ _ => rfl)) (pa_cons (pe_ix ix_seq (pv 4) pe_int (fun _ _ => rfl)) (pa_cons (pe_ix ix_seq (pv 4) pe_int (fun _ _ => rfl)) pa_nil)))))) (pss_cons (ps_if (PW.pt (pw_or (pt_not (pt_val (pe_call G__law_values_right (hr.mono (by decide)) rfl T.d__law_values_right.m T.d__law_values_right.F.kp T.d__law_values_right.b .nil pD (pa_cons (pv 5) (pa_cons (pv 4) pa_nil))))) (pw_or1 (pt_not (pt_val (pe_call G__law_right (hr.mono (by decide)) rfl T.d__law_right.m T.d__law_right.F.kp T.d__law_right.b .nil pD (pa_cons (pv 1) (pa_cons (pv 5) (pa_cons (pv 4) pa_nil))))))))) (pss_one (ps_ret pe_bl)) pss_nil) (pss_cons (ps_if (PW.pt (pw_and (pt_cmpR op_notN (pv 2) pe_non (nomark _)) (pw_and1 (pt_not (pt_val (pe_call G__law_values_right (hr.mono (by decide)) rfl T.d__law_values_right.m T.d__law_values_right.F.kp T.d__law_values_right.b .nil pD (pa_cons (pe_ix ix_seq (pv 2) pe_int (fun _ _ => rfl)) (pa_cons (pe_ix ix_seq (pv 2) pe_int (fun _ _ => rfl)) pa_nil)))))))) (pss_one (ps_ret pe_bl)) pss_nil) (pss_cons (ps_set (i := 6) nd rfl (Or.inl rfl) (pe_make T.mk_Circle G_Circle_init (hr.mono (by decide)) (by rfl) T.c_Circle T.b1_Circle_init T.v1_Circle_init pD (pa_cons (pe_ix ix_seq (pv 4) pe_int (fun _ _ => rfl)) pa_nil))) (pss_cons (ps_if (pt_not (pt_val (pe_call G__law_values_right (hr.mono (by decide)) rfl T.d__law_values_right.m T.d__law_values_right.F.kp T.d__law_values_right.b .nil pD (pa_cons (pv 6) (pa_cons (pe_tup (pa_cons (pe_ix ix_seq (pv 4) pe_int (fun _ _ => rfl)) (pa_cons (pe_tup pa_nil) (pa_cons (pe_tup pa_nil) (pa_cons pe_int (pa_cons (pe_ix ix_seq (pv 4) pe_int (fun _ _ => rfl)) pa_nil)))))) pa_nil))))) (pss_one (ps_ret pe_bl)) pss_nil) (pss_one (ps_set (i := 2) nd rfl (Or.inl rfl) (pe_tup (pa_cons (pv 5) (pa_cons (pv 4) pa_nil)))))))))))) (pss_one (ps_ret pe_bl)))), ?_⟩
  exact (sims_seq (sims_par (sim_cons (sim_call ar_def (sim_cons (sim_var 0) sim_nil)) (sim_cons (sim_c fun _ _ _ => .non) sim_nil))) (sims_seq (sims_for (simi_range1 (sim_cons (sim_cb sim_max2 (sim_cons (sim_c fun _ _ _ => .int _) (sim_cons (sim_cb sim_min2 (sim_cons (sim_cb sim_len (sim_cons (sim_var 0) sim_nil)) (sim_cons (sim_c fun _ _ _ => .int _) sim_nil))) sim_nil))) sim_nil)) (simg_name 3) (sims_seq (sims_asg (sim_call ar_def (sim_cons (sim_var 1) (sim_cons (sim_if (simt_test (sim_op sim_eqA (sim_op sim_add (sim_call ar_def (sim_cons (sim_var 1) (sim_cons (sim_c fun _ _ _ => .int _) sim_nil))) (sim_var 3)) (sim_c fun _ _ _ => .int _))) (sim_c fun _ _ _ => .int _) (sim_c fun _ _ _ => .int _)) sim_nil))) (simg_name 4)) (sims_seq (sims_asg (sim_make (c := 11) ar_def (fun _ _ _ => .nil) (sim_cons (sim_op sim_ix (sim_var 4) (sim_c fun _ _ _ => .int _)) (sim_cons (sim_op sim_ix (sim_var 4) (sim_c fun _ _ _ => .int _)) (sim_cons (sim_op sim_ix (sim_var 4) (sim_c fun _ _ _ => .int _)) (sim_cons (sim_op sim_ix (sim_var 4) (sim_c fun _ _ _ => .int _)) sim_nil))))) (simg_name 5)) (sims_seq (sims_if (simt_or (simt_not (simt_tB (sim_call ar_def (sim_cons (sim_var 5) (sim_cons (sim_var 4) sim_nil))))) (simt_not (simt_tB (sim_call ar_def (sim_cons (sim_var 1) (sim_cons (sim_var 5) (sim_cons (sim_var 4) sim_nil))))))) (sims_ret (sim_c fun _ _ _ => .bl _)) sims_next) (sims_seq (sims_if (simt_and (simt_test (sim_op sim_notN (sim_var 2) (sim_c fun _ _ _ => .non))) (simt_not (simt_tB (sim_call ar_def (sim_cons (sim_op sim_ix (sim_var 2) (sim_c fun _ _ _ => .int _)) (sim_cons (sim_op sim_ix (sim_var 2) (sim_c fun _ _ _ => .int _)) sim_nil)))))) (sims_ret (sim_c fun _ _ _ => .bl _)) sims_next) (sims_seq (sims_asg (sim_make (c := 11) ar_def (fun _ _ _ => (.cons .non (.cons .non (.cons (.int _) .nil)))) (sim_cons (sim_op sim_ix (sim_var 4) (sim_c fun _ _ _ => .int _)) sim_nil)) (simg_name 6)) (sims_seq (sims_if (simt_not (simt_tB (sim_call ar_def (sim_cons (sim_var 6) (sim_cons (sim_tup (sim_cons (sim_op sim_ix (sim_var 4) (sim_c fun _ _ _ => .int _)) (sim_cons (sim_tup sim_nil) (sim_cons (sim_tup sim_nil) (sim_cons (sim_c fun _ _ _ => .int _) (sim_cons (sim_op sim_ix (sim_var 4) (sim_c fun _ _ _ => .int _)) sim_nil)))))) sim_nil))))) (sims_ret (sim_c fun _ _ _ => .bl _)) sims_next) (sims_asg (sim_tup (sim_cons (sim_var 5) (sim_cons (sim_var 4) sim_nil))) (simg_name 2))))))))) (sims_ret (sim_c fun _ _ _ => .bl _))))
end
theorem all_mk {P : Program} {w : World} {K : PySem.W.Frag} {h : Heap} {mg : PySem.Str → Option Value} {fa : Addr} (X : K.In h) (GG : h.Ns mainGlobals mg) (hfa : mg "law" = some (.ref fa))
    {Lx C0 C11 amember_rows ayear_rows acircle_rows ais_name acopied aplace_of areason_of alast_of aothers_of a_law_blend a_law_pot a_law_draw a_law_pick a_law_words a_law_pairs a_law_turned_round a_law_parts a_law_reason a_law_values_right a_law_one_right a_law_right alaw fi_NoMember cai_NoMember cci_NoMember aCircle_init dtCircle_init aCircle_eq aCircle_len aCircle_repr aCircle_str aCircle_names aCircle_has aCircle_house_of aCircle_reason aCircle_barred aCircle_takers aCircle_givers : Addr} {odmember_rows anmember_rows odyear_rows anyear_rows odcircle_rows ancircle_rows odis_name anis_name odcopied ancopied odplace_of anplace_of odreason_of anreason_of odlast_of anlast_of odothers_of anothers_of od_law_blend an_law_blend od_law_pot an_law_pot od_law_draw an_law_draw od_law_pick an_law_pick od_law_words an_law_words od_law_pairs an_law_pairs od_law_turned_round an_law_turned_round od_law_parts an_law_parts od_law_reason an_law_reason od_law_values_right an_law_values_right od_law_one_right an_law_one_right od_law_right an_law_right odlaw anlaw odi_NoMember ani_NoMember odCircle_init anCircle_init doCircle_init odCircle_eq anCircle_eq odCircle_len anCircle_len odCircle_repr anCircle_repr odCircle_str anCircle_str odCircle_names anCircle_names odCircle_has anCircle_has odCircle_house_of anCircle_house_of odCircle_reason anCircle_reason odCircle_barred anCircle_barred odCircle_takers anCircle_takers odCircle_givers anCircle_givers : Option Addr} {slmember_rows slyear_rows slcircle_rows slis_name slcopied slplace_of slreason_of sllast_of slothers_of sl_law_blend sl_law_pot sl_law_draw sl_law_pick sl_law_words sl_law_pairs sl_law_turned_round sl_law_parts sl_law_reason sl_law_values_right sl_law_one_right sl_law_right sllaw sli_NoMember slCircle_init dsCircle_init slCircle_eq slCircle_len slCircle_repr slCircle_str slCircle_names slCircle_has slCircle_house_of slCircle_reason slCircle_barred slCircle_takers slCircle_givers : Array (Option Value)} {ocmember_rows kVmember_rows dcmember_rows pmmember_rows cdmember_rows ctmember_rows ocyear_rows kVyear_rows dcyear_rows pmyear_rows cdyear_rows ctyear_rows occircle_rows kVcircle_rows dccircle_rows pmcircle_rows cdcircle_rows ctcircle_rows ocis_name kVis_name dcis_name pmis_name cdis_name ctis_name occopied kVcopied dccopied pmcopied cdcopied ctcopied ocplace_of kVplace_of dcplace_of pmplace_of cdplace_of ctplace_of ocreason_of kVreason_of dcreason_of pmreason_of cdreason_of ctreason_of oclast_of kVlast_of dclast_of pmlast_of cdlast_of ctlast_of ocothers_of kVothers_of dcothers_of pmothers_of cdothers_of ctothers_of oc_law_blend kV_law_blend dc_law_blend pm_law_blend cd_law_blend ct_law_blend oc_law_pot kV_law_pot dc_law_pot pm_law_pot cd_law_pot ct_law_pot oc_law_draw kV_law_draw dc_law_draw pm_law_draw cd_law_draw ct_law_draw oc_law_pick kV_law_pick dc_law_pick pm_law_pick cd_law_pick ct_law_pick oc_law_words kV_law_words dc_law_words pm_law_words cd_law_words ct_law_words oc_law_pairs kV_law_pairs dc_law_pairs pm_law_pairs cd_law_pairs ct_law_pairs oc_law_turned_round kV_law_turned_round dc_law_turned_round pm_law_turned_round cd_law_turned_round ct_law_turned_round oc_law_parts kV_law_parts dc_law_parts pm_law_parts cd_law_parts ct_law_parts oc_law_reason kV_law_reason dc_law_reason pm_law_reason cd_law_reason ct_law_reason oc_law_values_right kV_law_values_right dc_law_values_right pm_law_values_right cd_law_values_right ct_law_values_right oc_law_one_right kV_law_one_right dc_law_one_right pm_law_one_right cd_law_one_right ct_law_one_right oc_law_right kV_law_right dc_law_right pm_law_right cd_law_right ct_law_right oclaw kVlaw dclaw pmlaw cdlaw ctlaw oci_NoMember kVi_NoMember dci_NoMember pmi_NoMember cti_NoMember ocCircle_init kVCircle_init dcCircle_init pmCircle_init cdCircle_init ctCircle_init dcCircle_initT ocCircle_eq kVCircle_eq dcCircle_eq pmCircle_eq cdCircle_eq ctCircle_eq ocCircle_len kVCircle_len dcCircle_len pmCircle_len cdCircle_len ctCircle_len ocCircle_repr kVCircle_repr dcCircle_repr pmCircle_repr cdCircle_repr ctCircle_repr ocCircle_str kVCircle_str dcCircle_str pmCircle_str cdCircle_str ctCircle_str ocCircle_names kVCircle_names dcCircle_names pmCircle_names cdCircle_names ctCircle_names ocCircle_has kVCircle_has dcCircle_has pmCircle_has cdCircle_has ctCircle_has ocCircle_house_of kVCircle_house_of dcCircle_house_of pmCircle_house_of cdCircle_house_of ctCircle_house_of ocCircle_reason kVCircle_reason dcCircle_reason pmCircle_reason cdCircle_reason ctCircle_reason ocCircle_barred kVCircle_barred dcCircle_barred pmCircle_barred cdCircle_barred ctCircle_barred ocCircle_takers kVCircle_takers dcCircle_takers pmCircle_takers cdCircle_takers ctCircle_takers ocCircle_givers kVCircle_givers dcCircle_givers pmCircle_givers cdCircle_givers ctCircle_givers : Value} {tk2Circle_init tkLETTERS : Tok} {dnCircle_init : Nat}
    (n_NoMember : PySem.W.nsIn K mainGlobals "NoMember" = some (some (.ref C0)))
    (n_Circle : PySem.W.nsIn K mainGlobals "Circle" = some (some (.ref C11)))
    (n_LotError : PySem.W.nsIn K mainGlobals "LotError" = some (some (.ref Lx)))
    (nmember_rows : PySem.W.nsIn K mainGlobals "member_rows" = some (some (.ref amember_rows)))
    (lmember_rows : K.lookup amember_rows = some ⟨ocmember_rows, odmember_rows, .func (PySem.W.fnOf "member_rows" "member_rows" (defArgs s_member_rows) (defBody s_member_rows) (defScope s_member_rows) .none kVmember_rows dcmember_rows pmmember_rows anmember_rows cdmember_rows ctmember_rows), slmember_rows⟩)
    (cmember_rows : PySem.W.codeIn K cdmember_rows "member_rows" = true)
    (kmember_rows : PySem.W.keepIn K (.ref amember_rows) = true)
    (nyear_rows : PySem.W.nsIn K mainGlobals "year_rows" = some (some (.ref ayear_rows)))
    (lyear_rows : K.lookup ayear_rows = some ⟨ocyear_rows, odyear_rows, .func (PySem.W.fnOf "year_rows" "year_rows" (defArgs s_year_rows) (defBody s_year_rows) (defScope s_year_rows) .none kVyear_rows dcyear_rows pmyear_rows anyear_rows cdyear_rows ctyear_rows), slyear_rows⟩)
    (cyear_rows : PySem.W.codeIn K cdyear_rows "year_rows" = true)
    (kyear_rows : PySem.W.keepIn K (.ref ayear_rows) = true)
    (ncircle_rows : PySem.W.nsIn K mainGlobals "circle_rows" = some (some (.ref acircle_rows)))
    (lcircle_rows : K.lookup acircle_rows = some ⟨occircle_rows, odcircle_rows, .func (PySem.W.fnOf "circle_rows" "circle_rows" (defArgs s_circle_rows) (defBody s_circle_rows) (defScope s_circle_rows) .none kVcircle_rows dccircle_rows pmcircle_rows ancircle_rows cdcircle_rows ctcircle_rows), slcircle_rows⟩)
    (ccircle_rows : PySem.W.codeIn K cdcircle_rows "circle_rows" = true)
    (kcircle_rows : PySem.W.keepIn K (.ref acircle_rows) = true)
    (nis_name : PySem.W.nsIn K mainGlobals "is_name" = some (some (.ref ais_name)))
    (lis_name : K.lookup ais_name = some ⟨ocis_name, odis_name, .func (PySem.W.fnOf "is_name" "is_name" (defArgs s_is_name) (defBody s_is_name) (defScope s_is_name) .none kVis_name dcis_name pmis_name anis_name cdis_name ctis_name), slis_name⟩)
    (cis_name : PySem.W.codeIn K cdis_name "is_name" = true)
    (kis_name : PySem.W.keepIn K (.ref ais_name) = true)
    (ncopied : PySem.W.nsIn K mainGlobals "copied" = some (some (.ref acopied)))
    (lcopied : K.lookup acopied = some ⟨occopied, odcopied, .func (PySem.W.fnOf "copied" "copied" (defArgs s_copied) (defBody s_copied) (defScope s_copied) .none kVcopied dccopied pmcopied ancopied cdcopied ctcopied), slcopied⟩)
    (ccopied : PySem.W.codeIn K cdcopied "copied" = true)
    (kcopied : PySem.W.keepIn K (.ref acopied) = true)
    (nplace_of : PySem.W.nsIn K mainGlobals "place_of" = some (some (.ref aplace_of)))
    (lplace_of : K.lookup aplace_of = some ⟨ocplace_of, odplace_of, .func (PySem.W.fnOf "place_of" "place_of" (defArgs s_place_of) (defBody s_place_of) (defScope s_place_of) .none kVplace_of dcplace_of pmplace_of anplace_of cdplace_of ctplace_of), slplace_of⟩)
    (cplace_of : PySem.W.codeIn K cdplace_of "place_of" = true)
    (kplace_of : PySem.W.keepIn K (.ref aplace_of) = true)
    (nreason_of : PySem.W.nsIn K mainGlobals "reason_of" = some (some (.ref areason_of)))
    (lreason_of : K.lookup areason_of = some ⟨ocreason_of, odreason_of, .func (PySem.W.fnOf "reason_of" "reason_of" (defArgs s_reason_of) (defBody s_reason_of) (defScope s_reason_of) .none kVreason_of dcreason_of pmreason_of anreason_of cdreason_of ctreason_of), slreason_of⟩)
    (creason_of : PySem.W.codeIn K cdreason_of "reason_of" = true)
    (kreason_of : PySem.W.keepIn K (.ref areason_of) = true)
    (nlast_of : PySem.W.nsIn K mainGlobals "last_of" = some (some (.ref alast_of)))
    (llast_of : K.lookup alast_of = some ⟨oclast_of, odlast_of, .func (PySem.W.fnOf "last_of" "last_of" (defArgs s_last_of) (defBody s_last_of) (defScope s_last_of) .none kVlast_of dclast_of pmlast_of anlast_of cdlast_of ctlast_of), sllast_of⟩)
    (clast_of : PySem.W.codeIn K cdlast_of "last_of" = true)
    (klast_of : PySem.W.keepIn K (.ref alast_of) = true)
    (nothers_of : PySem.W.nsIn K mainGlobals "others_of" = some (some (.ref aothers_of)))
    (lothers_of : K.lookup aothers_of = some ⟨ocothers_of, odothers_of, .func (PySem.W.fnOf "others_of" "others_of" (defArgs s_others_of) (defBody s_others_of) (defScope s_others_of) .none kVothers_of dcothers_of pmothers_of anothers_of cdothers_of ctothers_of), slothers_of⟩)
    (cothers_of : PySem.W.codeIn K cdothers_of "others_of" = true)
    (kothers_of : PySem.W.keepIn K (.ref aothers_of) = true)
    (n_law_blend : PySem.W.nsIn K mainGlobals "_law_blend" = some (some (.ref a_law_blend)))
    (l_law_blend : K.lookup a_law_blend = some ⟨oc_law_blend, od_law_blend, .func (PySem.W.fnOf "_law_blend" "_law_blend" (defArgs s__law_blend) (defBody s__law_blend) (defScope s__law_blend) .none kV_law_blend dc_law_blend pm_law_blend an_law_blend cd_law_blend ct_law_blend), sl_law_blend⟩)
    (c_law_blend : PySem.W.codeIn K cd_law_blend "_law_blend" = true)
    (k_law_blend : PySem.W.keepIn K (.ref a_law_blend) = true)
    (n_law_pot : PySem.W.nsIn K mainGlobals "_law_pot" = some (some (.ref a_law_pot)))
    (l_law_pot : K.lookup a_law_pot = some ⟨oc_law_pot, od_law_pot, .func (PySem.W.fnOf "_law_pot" "_law_pot" (defArgs s__law_pot) (defBody s__law_pot) (defScope s__law_pot) .none kV_law_pot dc_law_pot pm_law_pot an_law_pot cd_law_pot ct_law_pot), sl_law_pot⟩)
    (c_law_pot : PySem.W.codeIn K cd_law_pot "_law_pot" = true)
    (k_law_pot : PySem.W.keepIn K (.ref a_law_pot) = true)
    (n_law_draw : PySem.W.nsIn K mainGlobals "_law_draw" = some (some (.ref a_law_draw)))
    (l_law_draw : K.lookup a_law_draw = some ⟨oc_law_draw, od_law_draw, .func (PySem.W.fnOf "_law_draw" "_law_draw" (defArgs s__law_draw) (defBody s__law_draw) (defScope s__law_draw) .none kV_law_draw dc_law_draw pm_law_draw an_law_draw cd_law_draw ct_law_draw), sl_law_draw⟩)
    (c_law_draw : PySem.W.codeIn K cd_law_draw "_law_draw" = true)
    (k_law_draw : PySem.W.keepIn K (.ref a_law_draw) = true)
    (n_law_pick : PySem.W.nsIn K mainGlobals "_law_pick" = some (some (.ref a_law_pick)))
    (l_law_pick : K.lookup a_law_pick = some ⟨oc_law_pick, od_law_pick, .func (PySem.W.fnOf "_law_pick" "_law_pick" (defArgs s__law_pick) (defBody s__law_pick) (defScope s__law_pick) .none kV_law_pick dc_law_pick pm_law_pick an_law_pick cd_law_pick ct_law_pick), sl_law_pick⟩)
    (c_law_pick : PySem.W.codeIn K cd_law_pick "_law_pick" = true)
    (k_law_pick : PySem.W.keepIn K (.ref a_law_pick) = true)
    (n_law_words : PySem.W.nsIn K mainGlobals "_law_words" = some (some (.ref a_law_words)))
    (l_law_words : K.lookup a_law_words = some ⟨oc_law_words, od_law_words, .func (PySem.W.fnOf "_law_words" "_law_words" (defArgs s__law_words) (defBody s__law_words) (defScope s__law_words) .none kV_law_words dc_law_words pm_law_words an_law_words cd_law_words ct_law_words), sl_law_words⟩)
    (c_law_words : PySem.W.codeIn K cd_law_words "_law_words" = true)
    (k_law_words : PySem.W.keepIn K (.ref a_law_words) = true)
    (n_law_pairs : PySem.W.nsIn K mainGlobals "_law_pairs" = some (some (.ref a_law_pairs)))
    (l_law_pairs : K.lookup a_law_pairs = some ⟨oc_law_pairs, od_law_pairs, .func (PySem.W.fnOf "_law_pairs" "_law_pairs" (defArgs s__law_pairs) (defBody s__law_pairs) (defScope s__law_pairs) .none kV_law_pairs dc_law_pairs pm_law_pairs an_law_pairs cd_law_pairs ct_law_pairs), sl_law_pairs⟩)
    (c_law_pairs : PySem.W.codeIn K cd_law_pairs "_law_pairs" = true)
    (k_law_pairs : PySem.W.keepIn K (.ref a_law_pairs) = true)
    (n_law_turned_round : PySem.W.nsIn K mainGlobals "_law_turned_round" = some (some (.ref a_law_turned_round)))
    (l_law_turned_round : K.lookup a_law_turned_round = some ⟨oc_law_turned_round, od_law_turned_round, .func (PySem.W.fnOf "_law_turned_round" "_law_turned_round" (defArgs s__law_turned_round) (defBody s__law_turned_round) (defScope s__law_turned_round) .none kV_law_turned_round dc_law_turned_round pm_law_turned_round an_law_turned_round cd_law_turned_round ct_law_turned_round), sl_law_turned_round⟩)
    (c_law_turned_round : PySem.W.codeIn K cd_law_turned_round "_law_turned_round" = true)
    (k_law_turned_round : PySem.W.keepIn K (.ref a_law_turned_round) = true)
    (n_law_parts : PySem.W.nsIn K mainGlobals "_law_parts" = some (some (.ref a_law_parts)))
    (l_law_parts : K.lookup a_law_parts = some ⟨oc_law_parts, od_law_parts, .func (PySem.W.fnOf "_law_parts" "_law_parts" (defArgs s__law_parts) (defBody s__law_parts) (defScope s__law_parts) .none kV_law_parts dc_law_parts pm_law_parts an_law_parts cd_law_parts ct_law_parts), sl_law_parts⟩)
    (c_law_parts : PySem.W.codeIn K cd_law_parts "_law_parts" = true)
    (k_law_parts : PySem.W.keepIn K (.ref a_law_parts) = true)
    (n_law_reason : PySem.W.nsIn K mainGlobals "_law_reason" = some (some (.ref a_law_reason)))
    (l_law_reason : K.lookup a_law_reason = some ⟨oc_law_reason, od_law_reason, .func (PySem.W.fnOf "_law_reason" "_law_reason" (defArgs s__law_reason) (defBody s__law_reason) (defScope s__law_reason) .none kV_law_reason dc_law_reason pm_law_reason an_law_reason cd_law_reason ct_law_reason), sl_law_reason⟩)
    (c_law_reason : PySem.W.codeIn K cd_law_reason "_law_reason" = true)
    (k_law_reason : PySem.W.keepIn K (.ref a_law_reason) = true)
    (n_law_values_right : PySem.W.nsIn K mainGlobals "_law_values_right" = some (some (.ref a_law_values_right)))
    (l_law_values_right : K.lookup a_law_values_right = some ⟨oc_law_values_right, od_law_values_right, .func (PySem.W.fnOf "_law_values_right" "_law_values_right" (defArgs s__law_values_right) (defBody s__law_values_right) (defScope s__law_values_right) .none kV_law_values_right dc_law_values_right pm_law_values_right an_law_values_right cd_law_values_right ct_law_values_right), sl_law_values_right⟩)
    (c_law_values_right : PySem.W.codeIn K cd_law_values_right "_law_values_right" = true)
    (k_law_values_right : PySem.W.keepIn K (.ref a_law_values_right) = true)
    (n_law_one_right : PySem.W.nsIn K mainGlobals "_law_one_right" = some (some (.ref a_law_one_right)))
    (l_law_one_right : K.lookup a_law_one_right = some ⟨oc_law_one_right, od_law_one_right, .func (PySem.W.fnOf "_law_one_right" "_law_one_right" (defArgs s__law_one_right) (defBody s__law_one_right) (defScope s__law_one_right) .none kV_law_one_right dc_law_one_right pm_law_one_right an_law_one_right cd_law_one_right ct_law_one_right), sl_law_one_right⟩)
    (c_law_one_right : PySem.W.codeIn K cd_law_one_right "_law_one_right" = true)
    (k_law_one_right : PySem.W.keepIn K (.ref a_law_one_right) = true)
    (n_law_right : PySem.W.nsIn K mainGlobals "_law_right" = some (some (.ref a_law_right)))
    (l_law_right : K.lookup a_law_right = some ⟨oc_law_right, od_law_right, .func (PySem.W.fnOf "_law_right" "_law_right" (defArgs s__law_right) (defBody s__law_right) (defScope s__law_right) .none kV_law_right dc_law_right pm_law_right an_law_right cd_law_right ct_law_right), sl_law_right⟩)
    (c_law_right : PySem.W.codeIn K cd_law_right "_law_right" = true)
    (k_law_right : PySem.W.keepIn K (.ref a_law_right) = true)
    (nlaw : PySem.W.nsIn K mainGlobals "law" = some (some (.ref alaw)))
    (llaw : K.lookup alaw = some ⟨oclaw, odlaw, .func (PySem.W.fnOf "law" "law" (defArgs s_law) (defBody s_law) (defScope s_law) .none kVlaw dclaw pmlaw anlaw cdlaw ctlaw), sllaw⟩)
    (claw : PySem.W.codeIn K cdlaw "law" = true)
    (klaw : PySem.W.keepIn K (.ref alaw) = true)
    (ii_NoMember : PySem.W.findIn K (.ref C0) "__init__" = some (some (.ref fi_NoMember)))
    (li_NoMember : K.lookup fi_NoMember = some ⟨oci_NoMember, odi_NoMember, .func (PySem.W.ksFn "__init__" "NoMember.__init__" (defArgs s_i_NoMember) (defBody s_i_NoMember) (defScope s_i_NoMember) .none kVi_NoMember dci_NoMember pmi_NoMember ani_NoMember (.ref cai_NoMember) cti_NoMember cci_NoMember), sli_NoMember⟩)
    (ci_NoMember : PySem.W.codeIn K (.ref cai_NoMember) "NoMember.__init__" = true)
    (ti_NoMember : PySem.W.typeIn K (.ref fi_NoMember) = some (.type "function"))
    (ui_NoMember : supB K P C0 cai_NoMember cci_NoMember = true)
    (hx : ([0].all fun c => excCB K ([C0, 0, 0, 0, 0, 0, 0, 0, 0, 0, 0, C11, 0, 0, 0, 0].getD c 0)) = true)
    (mCircle_init : PySem.W.findIn K (.ref C11) "__init__" = some (some (.ref aCircle_init)))
    (lCircle_init : K.lookup aCircle_init = some ⟨ocCircle_init, odCircle_init, .func (PySem.W.fnOf "__init__" "Circle.__init__" (defArgs s_Circle_init) (defBody s_Circle_init) (defScope s_Circle_init) (.ref dtCircle_init) kVCircle_init dcCircle_init pmCircle_init anCircle_init cdCircle_init ctCircle_init), slCircle_init⟩)
    (tCircle_init : K.lookup dtCircle_init = some ⟨dcCircle_initT, doCircle_init, .seq [.none, .none, .int 1 tk2Circle_init].toArray dnCircle_init, dsCircle_init⟩)
    (cCircle_init : PySem.W.codeIn K cdCircle_init "Circle.__init__" = true)
    (kCircle_init : PySem.W.keepIn K (.ref aCircle_init) = true)
    (fCircle_init : PySem.W.isFn K (.ref aCircle_init) = true)
    (mkCircle : PySem.W.makesIn K C11 = true)
    (kcCircle : PySem.W.keepIn K (.ref C11) = true)
    (mCircle_eq : PySem.W.findIn K (.ref C11) "__eq__" = some (some (.ref aCircle_eq)))
    (lCircle_eq : K.lookup aCircle_eq = some ⟨ocCircle_eq, odCircle_eq, .func (PySem.W.fnOf "__eq__" "Circle.__eq__" (defArgs s_Circle_eq) (defBody s_Circle_eq) (defScope s_Circle_eq) .none kVCircle_eq dcCircle_eq pmCircle_eq anCircle_eq cdCircle_eq ctCircle_eq), slCircle_eq⟩)
    (cCircle_eq : PySem.W.codeIn K cdCircle_eq "Circle.__eq__" = true)
    (kCircle_eq : PySem.W.keepIn K (.ref aCircle_eq) = true)
    (fCircle_eq : PySem.W.isFn K (.ref aCircle_eq) = true)
    (mCircle_len : PySem.W.findIn K (.ref C11) "__len__" = some (some (.ref aCircle_len)))
    (lCircle_len : K.lookup aCircle_len = some ⟨ocCircle_len, odCircle_len, .func (PySem.W.fnOf "__len__" "Circle.__len__" (defArgs s_Circle_len) (defBody s_Circle_len) (defScope s_Circle_len) .none kVCircle_len dcCircle_len pmCircle_len anCircle_len cdCircle_len ctCircle_len), slCircle_len⟩)
    (cCircle_len : PySem.W.codeIn K cdCircle_len "Circle.__len__" = true)
    (kCircle_len : PySem.W.keepIn K (.ref aCircle_len) = true)
    (fCircle_len : PySem.W.isFn K (.ref aCircle_len) = true)
    (mCircle_repr : PySem.W.findIn K (.ref C11) "__repr__" = some (some (.ref aCircle_repr)))
    (lCircle_repr : K.lookup aCircle_repr = some ⟨ocCircle_repr, odCircle_repr, .func (PySem.W.fnOf "__repr__" "Circle.__repr__" (defArgs s_Circle_repr) (defBody s_Circle_repr) (defScope s_Circle_repr) .none kVCircle_repr dcCircle_repr pmCircle_repr anCircle_repr cdCircle_repr ctCircle_repr), slCircle_repr⟩)
    (cCircle_repr : PySem.W.codeIn K cdCircle_repr "Circle.__repr__" = true)
    (kCircle_repr : PySem.W.keepIn K (.ref aCircle_repr) = true)
    (fCircle_repr : PySem.W.isFn K (.ref aCircle_repr) = true)
    (mCircle_str : PySem.W.findIn K (.ref C11) "__str__" = some (some (.ref aCircle_str)))
    (lCircle_str : K.lookup aCircle_str = some ⟨ocCircle_str, odCircle_str, .func (PySem.W.fnOf "__str__" "Circle.__str__" (defArgs s_Circle_str) (defBody s_Circle_str) (defScope s_Circle_str) .none kVCircle_str dcCircle_str pmCircle_str anCircle_str cdCircle_str ctCircle_str), slCircle_str⟩)
    (cCircle_str : PySem.W.codeIn K cdCircle_str "Circle.__str__" = true)
    (kCircle_str : PySem.W.keepIn K (.ref aCircle_str) = true)
    (fCircle_str : PySem.W.isFn K (.ref aCircle_str) = true)
    (mCircle_names : PySem.W.findIn K (.ref C11) "names" = some (some (.ref aCircle_names)))
    (lCircle_names : K.lookup aCircle_names = some ⟨ocCircle_names, odCircle_names, .func (PySem.W.fnOf "names" "Circle.names" (defArgs s_Circle_names) (defBody s_Circle_names) (defScope s_Circle_names) .none kVCircle_names dcCircle_names pmCircle_names anCircle_names cdCircle_names ctCircle_names), slCircle_names⟩)
    (cCircle_names : PySem.W.codeIn K cdCircle_names "Circle.names" = true)
    (kCircle_names : PySem.W.keepIn K (.ref aCircle_names) = true)
    (fCircle_names : PySem.W.isFn K (.ref aCircle_names) = true)
    (mCircle_has : PySem.W.findIn K (.ref C11) "has" = some (some (.ref aCircle_has)))
    (lCircle_has : K.lookup aCircle_has = some ⟨ocCircle_has, odCircle_has, .func (PySem.W.fnOf "has" "Circle.has" (defArgs s_Circle_has) (defBody s_Circle_has) (defScope s_Circle_has) .none kVCircle_has dcCircle_has pmCircle_has anCircle_has cdCircle_has ctCircle_has), slCircle_has⟩)
    (cCircle_has : PySem.W.codeIn K cdCircle_has "Circle.has" = true)
    (kCircle_has : PySem.W.keepIn K (.ref aCircle_has) = true)
    (fCircle_has : PySem.W.isFn K (.ref aCircle_has) = true)
    (mCircle_house_of : PySem.W.findIn K (.ref C11) "house_of" = some (some (.ref aCircle_house_of)))
    (lCircle_house_of : K.lookup aCircle_house_of = some ⟨ocCircle_house_of, odCircle_house_of, .func (PySem.W.fnOf "house_of" "Circle.house_of" (defArgs s_Circle_house_of) (defBody s_Circle_house_of) (defScope s_Circle_house_of) .none kVCircle_house_of dcCircle_house_of pmCircle_house_of anCircle_house_of cdCircle_house_of ctCircle_house_of), slCircle_house_of⟩)
    (cCircle_house_of : PySem.W.codeIn K cdCircle_house_of "Circle.house_of" = true)
    (kCircle_house_of : PySem.W.keepIn K (.ref aCircle_house_of) = true)
    (fCircle_house_of : PySem.W.isFn K (.ref aCircle_house_of) = true)
    (mCircle_reason : PySem.W.findIn K (.ref C11) "reason" = some (some (.ref aCircle_reason)))
    (lCircle_reason : K.lookup aCircle_reason = some ⟨ocCircle_reason, odCircle_reason, .func (PySem.W.fnOf "reason" "Circle.reason" (defArgs s_Circle_reason) (defBody s_Circle_reason) (defScope s_Circle_reason) .none kVCircle_reason dcCircle_reason pmCircle_reason anCircle_reason cdCircle_reason ctCircle_reason), slCircle_reason⟩)
    (cCircle_reason : PySem.W.codeIn K cdCircle_reason "Circle.reason" = true)
    (kCircle_reason : PySem.W.keepIn K (.ref aCircle_reason) = true)
    (fCircle_reason : PySem.W.isFn K (.ref aCircle_reason) = true)
    (mCircle_barred : PySem.W.findIn K (.ref C11) "barred" = some (some (.ref aCircle_barred)))
    (lCircle_barred : K.lookup aCircle_barred = some ⟨ocCircle_barred, odCircle_barred, .func (PySem.W.fnOf "barred" "Circle.barred" (defArgs s_Circle_barred) (defBody s_Circle_barred) (defScope s_Circle_barred) .none kVCircle_barred dcCircle_barred pmCircle_barred anCircle_barred cdCircle_barred ctCircle_barred), slCircle_barred⟩)
    (cCircle_barred : PySem.W.codeIn K cdCircle_barred "Circle.barred" = true)
    (kCircle_barred : PySem.W.keepIn K (.ref aCircle_barred) = true)
    (fCircle_barred : PySem.W.isFn K (.ref aCircle_barred) = true)
    (mCircle_takers : PySem.W.findIn K (.ref C11) "takers" = some (some (.ref aCircle_takers)))
    (lCircle_takers : K.lookup aCircle_takers = some ⟨ocCircle_takers, odCircle_takers, .func (PySem.W.fnOf "takers" "Circle.takers" (defArgs s_Circle_takers) (defBody s_Circle_takers) (defScope s_Circle_takers) .none kVCircle_takers dcCircle_takers pmCircle_takers anCircle_takers cdCircle_takers ctCircle_takers), slCircle_takers⟩)
    (cCircle_takers : PySem.W.codeIn K cdCircle_takers "Circle.takers" = true)
    (kCircle_takers : PySem.W.keepIn K (.ref aCircle_takers) = true)
    (fCircle_takers : PySem.W.isFn K (.ref aCircle_takers) = true)
    (mCircle_givers : PySem.W.findIn K (.ref C11) "givers" = some (some (.ref aCircle_givers)))
    (lCircle_givers : K.lookup aCircle_givers = some ⟨ocCircle_givers, odCircle_givers, .func (PySem.W.fnOf "givers" "Circle.givers" (defArgs s_Circle_givers) (defBody s_Circle_givers) (defScope s_Circle_givers) .none kVCircle_givers dcCircle_givers pmCircle_givers anCircle_givers cdCircle_givers ctCircle_givers), slCircle_givers⟩)
    (cCircle_givers : PySem.W.codeIn K cdCircle_givers "Circle.givers" = true)
    (kCircle_givers : PySem.W.keepIn K (.ref aCircle_givers) = true)
    (fCircle_givers : PySem.W.isFn K (.ref aCircle_givers) = true)
    (clCircle : clsB K C11 = true)
    (neCircle : PySem.W.findIn K (.ref C11) "__ne__" = some (some (.builtin "object.__ne__")))
    (eqCircle : eqB K [C0, 0, 0, 0, 0, 0, 0, 0, 0, 0, 0, C11, 0, 0, 0, 0] [11] ([C0, 0, 0, 0, 0, 0, 0, 0, 0, 0, 0, C11, 0, 0, 0, 0].getD 11 0) = true)
    (ioCircle : isoB K [C0, 0, 0, 0, 0, 0, 0, 0, 0, 0, 0, C11, 0, 0, 0, 0] [11] ([C0, 0, 0, 0, 0, 0, 0, 0, 0, 0, 0, C11, 0, 0, 0, 0].getD 11 0) io_Circle = true)
    (ofmembers : naB K [C0, 0, 0, 0, 0, 0, 0, 0, 0, 0, 0, C11, 0, 0, 0, 0] [11] "members" = true)
    (ofbars : naB K [C0, 0, 0, 0, 0, 0, 0, 0, 0, 0, 0, C11, 0, 0, 0, 0] [11] "bars" = true)
    (ofpast : naB K [C0, 0, 0, 0, 0, 0, 0, 0, 0, 0, 0, C11, 0, 0, 0, 0] [11] "past" = true)
    (ofgap : naB K [C0, 0, 0, 0, 0, 0, 0, 0, 0, 0, 0, C11, 0, 0, 0, 0] [11] "gap" = true)
    (flname : flB K [C0, 0, 0, 0, 0, 0, 0, 0, 0, 0, 0, C11, 0, 0, 0, 0] [0] "name" = true)
    (g_LETTERS : PySem.W.nsIn K mainGlobals "LETTERS" = some (some (.str "abcdefghijklmnopqrstuvwxyz" tkLETTERS)))
    (zabs : PySem.W.nsIn K mainGlobals "abs" = some none)
    (zall : PySem.W.nsIn K mainGlobals "all" = some none)
    (zany : PySem.W.nsIn K mainGlobals "any" = some none)
    (zbool : PySem.W.nsIn K mainGlobals "bool" = some none)
    (zdict : PySem.W.nsIn K mainGlobals "dict" = some none)
    (zenumerate : PySem.W.nsIn K mainGlobals "enumerate" = some none)
    (zisinstance : PySem.W.nsIn K mainGlobals "isinstance" = some none)
    (zlen : PySem.W.nsIn K mainGlobals "len" = some none)
    (zlist : PySem.W.nsIn K mainGlobals "list" = some none)
    (zmax : PySem.W.nsIn K mainGlobals "max" = some none)
    (zmin : PySem.W.nsIn K mainGlobals "min" = some none)
    (zrange : PySem.W.nsIn K mainGlobals "range" = some none)
    (zrepr : PySem.W.nsIn K mainGlobals "repr" = some none)
    (zsorted : PySem.W.nsIn K mainGlobals "sorted" = some none)
    (zstr : PySem.W.nsIn K mainGlobals "str" = some none)
    (ztuple : PySem.W.nsIn K mainGlobals "tuple" = some none)
    (zzip : PySem.W.nsIn K mainGlobals "zip" = some none)
    (zsuper : PySem.W.nsIn K mainGlobals "super" = some none) :
    ∃ (fd : FuncData) (g : G), g.K = K ∧ (∀ (s : Shared) (u : Value), BindsTo s fd ⟨[u], []⟩ [("_law_script", u)]) ∧ ∀ base : Heap, K.In base → base.Ns mainGlobals mg → (∃ o, base.get? sysModules = some o) → FnG P w K mg base 12 fa fd ["_law_script"] (spOf g 1 m_law) := by
  have e := hfa.symm.trans (PySem.W.mg_of X GG nlaw)
  cases e
  have Fmember_rows := fun_mk (st := s_member_rows) lmember_rows cmember_rows kmember_rows
  have Dmember_rows : DefAt K mg "member_rows" s_member_rows ["members"] _ _ := ⟨Fmember_rows, PySem.W.mg_of X GG nmember_rows, Fmember_rows.binds (ps := ["members"]) fun _ _ _ _ _ _ us hl => match us, hl with | [_], _ => rfl⟩
  have Fyear_rows := fun_mk (st := s_year_rows) lyear_rows cyear_rows kyear_rows
  have Dyear_rows : DefAt K mg "year_rows" s_year_rows ["past"] _ _ := ⟨Fyear_rows, PySem.W.mg_of X GG nyear_rows, Fyear_rows.binds (ps := ["past"]) fun _ _ _ _ _ _ us hl => match us, hl with | [_], _ => rfl⟩
  have Fcircle_rows := fun_mk (st := s_circle_rows) lcircle_rows ccircle_rows kcircle_rows
  have Dcircle_rows : DefAt K mg "circle_rows" s_circle_rows ["members", "bars", "past", "gap"] _ _ := ⟨Fcircle_rows, PySem.W.mg_of X GG ncircle_rows, Fcircle_rows.binds (ps := ["members", "bars", "past", "gap"]) fun _ _ _ _ _ _ us hl => match us, hl with | [_, _, _, _], _ => rfl⟩
  have Fis_name := fun_mk (st := s_is_name) lis_name cis_name kis_name
  have Dis_name : DefAt K mg "is_name" s_is_name ["thing"] _ _ := ⟨Fis_name, PySem.W.mg_of X GG nis_name, Fis_name.binds (ps := ["thing"]) fun _ _ _ _ _ _ us hl => match us, hl with | [_], _ => rfl⟩
  have Fcopied := fun_mk (st := s_copied) lcopied ccopied kcopied
  have Dcopied : DefAt K mg "copied" s_copied ["thing"] _ _ := ⟨Fcopied, PySem.W.mg_of X GG ncopied, Fcopied.binds (ps := ["thing"]) fun _ _ _ _ _ _ us hl => match us, hl with | [_], _ => rfl⟩
  have Fplace_of := fun_mk (st := s_place_of) lplace_of cplace_of kplace_of
  have Dplace_of : DefAt K mg "place_of" s_place_of ["pairs", "pair"] _ _ := ⟨Fplace_of, PySem.W.mg_of X GG nplace_of, Fplace_of.binds (ps := ["pairs", "pair"]) fun _ _ _ _ _ _ us hl => match us, hl with | [_, _], _ => rfl⟩
  have Freason_of := fun_mk (st := s_reason_of) lreason_of creason_of kreason_of
  have Dreason_of : DefAt K mg "reason_of" s_reason_of ["giver", "taker", "houses", "bars", "years"] _ _ := ⟨Freason_of, PySem.W.mg_of X GG nreason_of, Freason_of.binds (ps := ["giver", "taker", "houses", "bars", "years"]) fun _ _ _ _ _ _ us hl => match us, hl with | [_, _, _, _, _], _ => rfl⟩
  have Flast_of := fun_mk (st := s_last_of) llast_of clast_of klast_of
  have Dlast_of : DefAt K mg "last_of" s_last_of ["years", "gap"] _ _ := ⟨Flast_of, PySem.W.mg_of X GG nlast_of, Flast_of.binds (ps := ["years", "gap"]) fun _ _ _ _ _ _ us hl => match us, hl with | [_, _], _ => rfl⟩
  have Fothers_of := fun_mk (st := s_others_of) lothers_of cothers_of kothers_of
  have Dothers_of : DefAt K mg "others_of" s_others_of ["members", "name", "house", "gone"] _ _ := ⟨Fothers_of, PySem.W.mg_of X GG nothers_of, Fothers_of.binds (ps := ["members", "name", "house", "gone"]) fun _ _ _ _ _ _ us hl => match us, hl with | [_, _, _, _], _ => rfl⟩
  have F_law_blend := fun_mk (st := s__law_blend) l_law_blend c_law_blend k_law_blend
  have D_law_blend : DefAt K mg "_law_blend" s__law_blend ["_law_number", "_law_turn"] _ _ := ⟨F_law_blend, PySem.W.mg_of X GG n_law_blend, F_law_blend.binds (ps := ["_law_number", "_law_turn"]) fun _ _ _ _ _ _ us hl => match us, hl with | [_, _], _ => rfl⟩
  have F_law_pot := fun_mk (st := s__law_pot) l_law_pot c_law_pot k_law_pot
  have D_law_pot : DefAt K mg "_law_pot" s__law_pot ["_law_script"] _ _ := ⟨F_law_pot, PySem.W.mg_of X GG n_law_pot, F_law_pot.binds (ps := ["_law_script"]) fun _ _ _ _ _ _ us hl => match us, hl with | [_], _ => rfl⟩
  have F_law_draw := fun_mk (st := s__law_draw) l_law_draw c_law_draw k_law_draw
  have D_law_draw : DefAt K mg "_law_draw" s__law_draw ["_law_pot_here", "_law_size"] _ _ := ⟨F_law_draw, PySem.W.mg_of X GG n_law_draw, F_law_draw.binds (ps := ["_law_pot_here", "_law_size"]) fun _ _ _ _ _ _ us hl => match us, hl with | [_, _], _ => rfl⟩
  have F_law_pick := fun_mk (st := s__law_pick) l_law_pick c_law_pick k_law_pick
  have D_law_pick : DefAt K mg "_law_pick" s__law_pick ["_law_pot_here", "_law_some"] _ _ := ⟨F_law_pick, PySem.W.mg_of X GG n_law_pick, F_law_pick.binds (ps := ["_law_pot_here", "_law_some"]) fun _ _ _ _ _ _ us hl => match us, hl with | [_, _], _ => rfl⟩
  have F_law_words := fun_mk (st := s__law_words) l_law_words c_law_words k_law_words
  have D_law_words : DefAt K mg "_law_words" s__law_words ["_law_pot_here", "_law_size"] _ _ := ⟨F_law_words, PySem.W.mg_of X GG n_law_words, F_law_words.binds (ps := ["_law_pot_here", "_law_size"]) fun _ _ _ _ _ _ us hl => match us, hl with | [_, _], _ => rfl⟩
  have F_law_pairs := fun_mk (st := s__law_pairs) l_law_pairs c_law_pairs k_law_pairs
  have D_law_pairs : DefAt K mg "_law_pairs" s__law_pairs ["_law_pot_here", "_law_pool", "_law_size"] _ _ := ⟨F_law_pairs, PySem.W.mg_of X GG n_law_pairs, F_law_pairs.binds (ps := ["_law_pot_here", "_law_pool", "_law_size"]) fun _ _ _ _ _ _ us hl => match us, hl with | [_, _, _], _ => rfl⟩
  have F_law_turned_round := fun_mk (st := s__law_turned_round) l_law_turned_round c_law_turned_round k_law_turned_round
  have D_law_turned_round : DefAt K mg "_law_turned_round" s__law_turned_round ["_law_pot_here", "_law_some"] _ _ := ⟨F_law_turned_round, PySem.W.mg_of X GG n_law_turned_round, F_law_turned_round.binds (ps := ["_law_pot_here", "_law_some"]) fun _ _ _ _ _ _ us hl => match us, hl with | [_, _], _ => rfl⟩
  have F_law_parts := fun_mk (st := s__law_parts) l_law_parts c_law_parts k_law_parts
  have D_law_parts : DefAt K mg "_law_parts" s__law_parts ["_law_pot_here", "_law_most"] _ _ := ⟨F_law_parts, PySem.W.mg_of X GG n_law_parts, F_law_parts.binds (ps := ["_law_pot_here", "_law_most"]) fun _ _ _ _ _ _ us hl => match us, hl with | [_, _], _ => rfl⟩
  have F_law_reason := fun_mk (st := s__law_reason) l_law_reason c_law_reason k_law_reason
  have D_law_reason : DefAt K mg "_law_reason" s__law_reason ["_law_parts_here", "_law_one", "_law_other"] _ _ := ⟨F_law_reason, PySem.W.mg_of X GG n_law_reason, F_law_reason.binds (ps := ["_law_parts_here", "_law_one", "_law_other"]) fun _ _ _ _ _ _ us hl => match us, hl with | [_, _, _], _ => rfl⟩
  have F_law_values_right := fun_mk (st := s__law_values_right) l_law_values_right c_law_values_right k_law_values_right
  have D_law_values_right : DefAt K mg "_law_values_right" s__law_values_right ["_law_circle", "_law_parts_here"] _ _ := ⟨F_law_values_right, PySem.W.mg_of X GG n_law_values_right, F_law_values_right.binds (ps := ["_law_circle", "_law_parts_here"]) fun _ _ _ _ _ _ us hl => match us, hl with | [_, _], _ => rfl⟩
  have F_law_one_right := fun_mk (st := s__law_one_right) l_law_one_right c_law_one_right k_law_one_right
  have D_law_one_right : DefAt K mg "_law_one_right" s__law_one_right ["_law_circle", "_law_parts_here", "_law_one", "_law_some"] _ _ := ⟨F_law_one_right, PySem.W.mg_of X GG n_law_one_right, F_law_one_right.binds (ps := ["_law_circle", "_law_parts_here", "_law_one", "_law_some"]) fun _ _ _ _ _ _ us hl => match us, hl with | [_, _, _, _], _ => rfl⟩
  have F_law_right := fun_mk (st := s__law_right) l_law_right c_law_right k_law_right
  have D_law_right : DefAt K mg "_law_right" s__law_right ["_law_pot_here", "_law_circle", "_law_parts_here"] _ _ := ⟨F_law_right, PySem.W.mg_of X GG n_law_right, F_law_right.binds (ps := ["_law_pot_here", "_law_circle", "_law_parts_here"]) fun _ _ _ _ _ _ us hl => match us, hl with | [_, _, _], _ => rfl⟩
  have Flaw := fun_mk (st := s_law) llaw claw klaw
  have Dlaw : DefAt K mg "law" s_law ["_law_script"] _ _ := ⟨Flaw, PySem.W.mg_of X GG nlaw, Flaw.binds (ps := ["_law_script"]) fun _ _ _ _ _ _ us hl => match us, hl with | [_], _ => rfl⟩
  have Xi_NoMember : XI K P mg "NoMember" "NoMember.__init__" s_i_NoMember ([C0, 0, 0, 0, 0, 0, 0, 0, 0, 0, 0, C11, 0, 0, 0, 0].getD 0 0) _ _ _ _ := xi_of (st := s_i_NoMember) li_NoMember ci_NoMember ui_NoMember (PySem.W.mg_of X GG n_NoMember) (PySem.W.mg_none_of X GG zsuper) ii_NoMember ti_NoMember
  have FCircle_init : FunF K "__init__" "Circle.__init__" s_Circle_init [.non, .non, .int 1] _ _ := funF_mk (st := s_Circle_init) lCircle_init tCircle_init (.cons rfl (.cons rfl (.cons ⟨_, rfl⟩ .nil))) (by simp) cCircle_init kCircle_init
  obtain ⟨ds4Circle_init, v4Circle_init, b4Circle_init⟩ := FCircle_init.binds1 (ps := ["self", "members", "bars", "past", "gap"]) 5 3 (by simp) rfl fun T kV doc pm an cdv ct us its h1 h2 => match us, its, h1, h2 with | [_, _, _, _, _], [_, _, _], _, _ => ⟨_, rfl, rfl⟩
  obtain ⟨ds1Circle_init, v1Circle_init, b1Circle_init⟩ := FCircle_init.binds1 (ps := ["self", "members", "bars", "past", "gap"]) 2 0 (by simp) rfl fun T kV doc pm an cdv ct us its h1 h2 => match us, its, h1, h2 with | [_, _], [_, _, _], _, _ => ⟨_, rfl, rfl⟩
  have FCircle_eq := fun_mk (st := s_Circle_eq) lCircle_eq cCircle_eq kCircle_eq
  have FCircle_len := fun_mk (st := s_Circle_len) lCircle_len cCircle_len kCircle_len
  have FCircle_repr := fun_mk (st := s_Circle_repr) lCircle_repr cCircle_repr kCircle_repr
  have FCircle_str := fun_mk (st := s_Circle_str) lCircle_str cCircle_str kCircle_str
  have FCircle_names := fun_mk (st := s_Circle_names) lCircle_names cCircle_names kCircle_names
  have FCircle_has := fun_mk (st := s_Circle_has) lCircle_has cCircle_has kCircle_has
  have FCircle_house_of := fun_mk (st := s_Circle_house_of) lCircle_house_of cCircle_house_of kCircle_house_of
  have FCircle_reason := fun_mk (st := s_Circle_reason) lCircle_reason cCircle_reason kCircle_reason
  have FCircle_barred := fun_mk (st := s_Circle_barred) lCircle_barred cCircle_barred kCircle_barred
  have FCircle_takers := fun_mk (st := s_Circle_takers) lCircle_takers cCircle_takers kCircle_takers
  have FCircle_givers := fun_mk (st := s_Circle_givers) lCircle_givers cCircle_givers kCircle_givers
  let T : Tx K P mg := {
    Cs := [C0, 0, 0, 0, 0, 0, 0, 0, 0, 0, 0, C11, 0, 0, 0, 0],
    L := Lx,
    a_member_rows := _, fd_member_rows := _, d_member_rows := Dmember_rows,
    a_year_rows := _, fd_year_rows := _, d_year_rows := Dyear_rows,
    a_circle_rows := _, fd_circle_rows := _, d_circle_rows := Dcircle_rows,
    a_is_name := _, fd_is_name := _, d_is_name := Dis_name,
    a_copied := _, fd_copied := _, d_copied := Dcopied,
    a_place_of := _, fd_place_of := _, d_place_of := Dplace_of,
    a_reason_of := _, fd_reason_of := _, d_reason_of := Dreason_of,
    a_last_of := _, fd_last_of := _, d_last_of := Dlast_of,
    a_others_of := _, fd_others_of := _, d_others_of := Dothers_of,
    a__law_blend := _, fd__law_blend := _, d__law_blend := D_law_blend,
    a__law_pot := _, fd__law_pot := _, d__law_pot := D_law_pot,
    a__law_draw := _, fd__law_draw := _, d__law_draw := D_law_draw,
    a__law_pick := _, fd__law_pick := _, d__law_pick := D_law_pick,
    a__law_words := _, fd__law_words := _, d__law_words := D_law_words,
    a__law_pairs := _, fd__law_pairs := _, d__law_pairs := D_law_pairs,
    a__law_turned_round := _, fd__law_turned_round := _, d__law_turned_round := D_law_turned_round,
    a__law_parts := _, fd__law_parts := _, d__law_parts := D_law_parts,
    a__law_reason := _, fd__law_reason := _, d__law_reason := D_law_reason,
    a__law_values_right := _, fd__law_values_right := _, d__law_values_right := D_law_values_right,
    a__law_one_right := _, fd__law_one_right := _, d__law_one_right := D_law_one_right,
    a__law_right := _, fd__law_right := _, d__law_right := D_law_right,
    a_law := _, fd_law := _, d_law := Dlaw,
    fI_NoMember := _, cda_NoMember := _, cc_NoMember := _, fd_NoMember := _, x_NoMember := Xi_NoMember, b_NoMember := .all fun us hl => match us, hl with | [_, _], _ => rfl,
    cl_Circle := clsI_of clCircle,
    a_Circle_init := _, fd_Circle_init := _, d_Circle_init := ⟨FCircle_init⟩, me_Circle_init := ⟨mCircle_init, fCircle_init, kCircle_init⟩, du_Circle_init := ⟨mCircle_init, fCircle_init⟩, ds4_Circle_init := ds4Circle_init, b4_Circle_init := b4Circle_init, v4_Circle_init := v4Circle_init, ds1_Circle_init := ds1Circle_init, b1_Circle_init := b1Circle_init, v1_Circle_init := v1Circle_init, mk_Circle := ⟨mkCircle, mCircle_init, fCircle_init, kcCircle⟩,
    a_Circle_eq := _, fd_Circle_eq := _, d_Circle_eq := ⟨FCircle_eq⟩, b_Circle_eq := FCircle_eq.binds (ps := ["self", "other"]) fun _ _ _ _ _ _ us hl => match us, hl with | [_, _], _ => rfl, me_Circle_eq := ⟨mCircle_eq, fCircle_eq, kCircle_eq⟩, du_Circle_eq := ⟨mCircle_eq, fCircle_eq⟩,
    a_Circle_len := _, fd_Circle_len := _, d_Circle_len := ⟨FCircle_len⟩, b_Circle_len := FCircle_len.binds (ps := ["self"]) fun _ _ _ _ _ _ us hl => match us, hl with | [_], _ => rfl, me_Circle_len := ⟨mCircle_len, fCircle_len, kCircle_len⟩, du_Circle_len := ⟨mCircle_len, fCircle_len⟩,
    a_Circle_repr := _, fd_Circle_repr := _, d_Circle_repr := ⟨FCircle_repr⟩, b_Circle_repr := FCircle_repr.binds (ps := ["self"]) fun _ _ _ _ _ _ us hl => match us, hl with | [_], _ => rfl, me_Circle_repr := ⟨mCircle_repr, fCircle_repr, kCircle_repr⟩, du_Circle_repr := ⟨mCircle_repr, fCircle_repr⟩,
    a_Circle_str := _, fd_Circle_str := _, d_Circle_str := ⟨FCircle_str⟩, b_Circle_str := FCircle_str.binds (ps := ["self"]) fun _ _ _ _ _ _ us hl => match us, hl with | [_], _ => rfl, me_Circle_str := ⟨mCircle_str, fCircle_str, kCircle_str⟩, du_Circle_str := ⟨mCircle_str, fCircle_str⟩,
    a_Circle_names := _, fd_Circle_names := _, d_Circle_names := ⟨FCircle_names⟩, b_Circle_names := FCircle_names.binds (ps := ["self"]) fun _ _ _ _ _ _ us hl => match us, hl with | [_], _ => rfl, me_Circle_names := ⟨mCircle_names, fCircle_names, kCircle_names⟩, du_Circle_names := ⟨mCircle_names, fCircle_names⟩,
    a_Circle_has := _, fd_Circle_has := _, d_Circle_has := ⟨FCircle_has⟩, b_Circle_has := FCircle_has.binds (ps := ["self", "name"]) fun _ _ _ _ _ _ us hl => match us, hl with | [_, _], _ => rfl, me_Circle_has := ⟨mCircle_has, fCircle_has, kCircle_has⟩, du_Circle_has := ⟨mCircle_has, fCircle_has⟩,
    a_Circle_house_of := _, fd_Circle_house_of := _, d_Circle_house_of := ⟨FCircle_house_of⟩, b_Circle_house_of := FCircle_house_of.binds (ps := ["self", "name"]) fun _ _ _ _ _ _ us hl => match us, hl with | [_, _], _ => rfl, me_Circle_house_of := ⟨mCircle_house_of, fCircle_house_of, kCircle_house_of⟩, du_Circle_house_of := ⟨mCircle_house_of, fCircle_house_of⟩,
    a_Circle_reason := _, fd_Circle_reason := _, d_Circle_reason := ⟨FCircle_reason⟩, b_Circle_reason := FCircle_reason.binds (ps := ["self", "giver", "taker"]) fun _ _ _ _ _ _ us hl => match us, hl with | [_, _, _], _ => rfl, me_Circle_reason := ⟨mCircle_reason, fCircle_reason, kCircle_reason⟩, du_Circle_reason := ⟨mCircle_reason, fCircle_reason⟩,
    a_Circle_barred := _, fd_Circle_barred := _, d_Circle_barred := ⟨FCircle_barred⟩, b_Circle_barred := FCircle_barred.binds (ps := ["self"]) fun _ _ _ _ _ _ us hl => match us, hl with | [_], _ => rfl, me_Circle_barred := ⟨mCircle_barred, fCircle_barred, kCircle_barred⟩, du_Circle_barred := ⟨mCircle_barred, fCircle_barred⟩,
    a_Circle_takers := _, fd_Circle_takers := _, d_Circle_takers := ⟨FCircle_takers⟩, b_Circle_takers := FCircle_takers.binds (ps := ["self", "giver"]) fun _ _ _ _ _ _ us hl => match us, hl with | [_, _], _ => rfl, me_Circle_takers := ⟨mCircle_takers, fCircle_takers, kCircle_takers⟩, du_Circle_takers := ⟨mCircle_takers, fCircle_takers⟩,
    a_Circle_givers := _, fd_Circle_givers := _, d_Circle_givers := ⟨FCircle_givers⟩, b_Circle_givers := FCircle_givers.binds (ps := ["self", "taker"]) fun _ _ _ _ _ _ us hl => match us, hl with | [_, _], _ => rfl, me_Circle_givers := ⟨mCircle_givers, fCircle_givers, kCircle_givers⟩, du_Circle_givers := ⟨mCircle_givers, fCircle_givers⟩,
    ne_Circle := neCircle, eq_Circle := eqF_of (g := ⟨K, fun i => [C0, 0, 0, 0, 0, 0, 0, 0, 0, 0, 0, C11, 0, 0, 0, 0].getD i 0, []⟩) rfl eqCircle,
    io_Circle := iso_of ioCircle (fun c b h => by unfold io_Circle at h; split at h <;> first | assumption | cases h),
    of_members := na_of ofmembers,
    of_bars := na_of ofbars,
    of_past := na_of ofpast,
    of_gap := na_of ofgap,
    fl_name := fl_of flname,
    c_NoMember := PySem.W.mg_of X GG n_NoMember,
    c_Circle := PySem.W.mg_of X GG n_Circle,
    c_LotError := PySem.W.mg_of X GG n_LotError,
    abs := PySem.W.mg_none_of X GG zabs,
    all := PySem.W.mg_none_of X GG zall,
    any := PySem.W.mg_none_of X GG zany,
    bool := PySem.W.mg_none_of X GG zbool,
    dict := PySem.W.mg_none_of X GG zdict,
    enumerate := PySem.W.mg_none_of X GG zenumerate,
    isinstance := PySem.W.mg_none_of X GG zisinstance,
    len := PySem.W.mg_none_of X GG zlen,
    list := PySem.W.mg_none_of X GG zlist,
    max := PySem.W.mg_none_of X GG zmax,
    min := PySem.W.mg_none_of X GG zmin,
    range := PySem.W.mg_none_of X GG zrange,
    repr := PySem.W.mg_none_of X GG zrepr,
    sorted := PySem.W.mg_none_of X GG zsorted,
    str := PySem.W.mg_none_of X GG zstr,
    tuple := PySem.W.mg_none_of X GG ztuple,
    zip := PySem.W.mg_none_of X GG zzip,
    tk_LETTERS := _, g_LETTERS := PySem.W.mg_of X GG g_LETTERS }
  exact ⟨_, gOf T, rfl, fun s v => .of_eq rfl, fun base _ _ sm => (ok_law T).toG⟩
end Lw

namespace Lw
open PySem L2 Lg
local macro_rules
  | `(tactic| simp? [$ls,*]) => `(tactic| simp only [wp_ok, wp_var, wp_c, wp_op, wp_un, wp_nil, wp_cons, wp_tup, wp_lst, wp_lstL, wp_call, wp_if, wp_val, wp_band, wp_bor, wp_bnot, wp_byes, wp_andV, wp_orV, wp_notV, wp_chain, wp_rng, wp_isi, wp_isO, wp_isX, wp_xg, wp_fldO, wp_meth, wp_make, wp_fmt, exists_false, wp_js0, wp_js1, wp_sl, wp_onone, wp_osome, wp_bmt, wp_dget, wp_star, wp_emp, wp_newK, wp_newT, wp_seq, wp_zip, wp_enum, wp_range1, wp_lc, wp_lcL, wp_lc2, wp_dcL, wp_pairs0, wp_pairs1, wp_disp, wps_next, wps_brk, wps_cont, wps_seq, wps_ret, wps_retN, wps_drop, wps_if, wps_asg, wpg_name, wpg_nil1, wpg_cons1, wpg_tup, wpg_sub, wps_par, two_ok, wps_fld, wps_forI, wps_tryC, wp_def, startE, List.length_cons, List.length_nil, List.map_cons, List.map_nil, List.replicate, List.cons_append, List.nil_append, List.append_nil, List.getElem?_cons_zero, List.getElem?_cons_succ, List.set_cons_zero, List.set_cons_succ, wipeE, Option.some.injEq, exists_eq_left', exists_eq_left, exists_eq, exists_eq', D.bl.injEq, D.str.injEq, D.int.injEq, D.loc.injEq, true_and, and_true, forall_const, reduceCtorEq, false_implies, implies_true, Nat.reduceAdd, Nat.reduceSub, Nat.zero_add, sqd_l, sqd_t, sqd_x, tpd_t, tpd_x, ass_l, ass_t, ass_x, kd_non, kd_bl, kd_int, kd_str, kd_tup, kd_tupX, kd_lst, kd_emp, inn_loc, inn_non, inn_str, inn_int, inn_bl, inn_tup, inn_lst, inn_tupX, zpo_l, zpo_tt, zpo_tx, zpo_xt, zpo_xx, eno_l, eno_t, eno_x, inX_t, inX_l, inX_s, inX_x, notInX_t, notInX_l, notInX_s, notInX_x, tupx_l, sz0, sz1, sz2, sz3, sz4, sz5, sz6, sz7, sz8, sz9, sz10, sz11, sz12, sz13, sz14, sz15, sz16, sz17, sz18, sz19, sz20, sz21, sz22, sz23, sz24, decide_true, decide_false, false_and, and_false, false_or, or_false, isn, Option.isSome_none, Option.isSome_some, Bool.true_eq_false, Bool.false_eq_true, Bool.not_true, Bool.not_false, List.cons.injEq, exists_and_left, $ls,*])
/-! ### values -/
theorem Ok.az2 {ms bs : Ps} {ys : List Ps} {gap : Int} (ok : Ok ms bs ys gap) : ∀ m ∈ ms, Az2 m := fun m hm => ⟨(ok.nm m hm).az, (ok.ho m hm).1⟩
theorem pl_strs (l : List PySem.Str) (h : ∀ a ∈ l, Az a) : Pl (.tupX (l.map D.str)) (.tuple (l.map PyData.str)) := (Pl.tupX (n := 0) (d := D.str) (f := PyData.str) l (fun a ha => ⟨.str (h a ha), by simp [PyData.depth]⟩) (by decide)).1
theorem nam_ok {ms bs : Ps} {ys : List Ps} {gap : Int} (ok : Ok ms bs ys gap) : ∀ a ∈ Nam ms, Az a := fun a ha => (nam_az ok.nm ha).az
section
variable {n : Nat} {S : Store} {m b p st : D} {ms bs : Ps} {ys : List Ps} {gap : Int}
theorem values_ok (h : S[n]? = some (CiO m b p (.int gap))) (tm : Tp m (ms.map Lg.prD)) (tb : Tp b (bs.map Lg.prD)) (tp : Tp p (ys.map yrD)) (h1 : ∀ q ∈ ms, Az2 q) (h2 : ∀ q ∈ bs, Az2 q) (h3 : ∀ y ∈ ys, ∀ q ∈ y, Az2 q) (lm : ms.length ≤ 1000) : m__law_values_right [.loc n, .tup [m, b, p, .int gap, st]] S = .ok (.bl true) S := by
  refine eq_wp ?_
  have tq : tupD (.tup [m, b, p, .int gap, st]) = some [m, b, p, .int gap, st] := rfl
  have p3 := pl_few (n := 3) [⟨m, .tuple (ms.map prP)⟩, ⟨b, .tuple (bs.map prP)⟩, ⟨p, .tuple (ys.map yrP)⟩] (fun x hx => by
    simp only [List.mem_cons, List.not_mem_nil, or_false] at hx
    rcases hx with rfl | rfl | rfl
    · exact ⟨(pl_prs tm h1).1, Nat.le_trans (pl_prs tm h1).2 (by decide)⟩
    · exact ⟨(pl_prs tb h2).1, Nat.le_trans (pl_prs tb h2).2 (by decide)⟩
    · exact pl_yrs tp h3) (by decide)
  have ne3 : dNeA (.tup [m, b, p]) (.tup [m, b, p]) S = .ok (.bl false) S := p3.1.ne S
  have neg : dNeA (.int gap) (.int gap) S = .ok (.bl false) S := by rw [neI]; simp
  have f1 := ci_m h
  have f2 := ci_b h
  have f3 := ci_p h
  have f4 := ci_g h
  have l2 : ms.length < 2 ^ 500 := Nat.lt_of_le_of_lt lm (by decide)
  have re := co1_yes (want := isStrD) (base := cReprS) (ci_c h) (circle_repr_ok h tm l2) rfl
  have le := co1_yes (want := isLenD) (base := cLen) (ci_c h) (circle_len_ok h tm) (len_want lm)
  have ln := tm.len S
  rw [List.length_map] at ln
  have la := tx_len l2
  obtain ⟨c1, _, c3⟩ := len8
  have z : 2000 ≤ sizeLine := by decide
  have sr : cStr [.int ms.length] S = .ok (.str (tx ms.length)) S := str_ok (e := mC (.int ms.length)) (env := []) rfl l2
  have a1 : dAdd (.str "Circle(") (.str (tx ms.length)) S = .ok (.str ("Circle(" ++ tx ms.length)) S := addS (by rw [c1]; omega)
  have a2 : dAdd (.str ("Circle(" ++ tx ms.length)) (.str ")") S = .ok (.str (reT "Circle(" ms.length)) S := addS (by rw [Str.length_append, c1, c3]; omega)
  have ner : ∀ s : PySem.Str, dNeA (.str s) (.str s) S = .ok (.bl false) S := fun s => by rw [neS]; simp
  have nel : dNeA (.int ms.length) (.int ms.length) S = .ok (.bl false) S := by rw [neI]; simp
  have kb : kitB "int" "bool" = some false := by decide +kernel
  have nm := names_ok h tm lm
  have o := ci_o h (f := "names") rfl
  unfold m__law_values_right
  simp? [tq, f1, f2, f3, f4, ne3, neg, re, le, ln, sr, a1, a2, ner, nel, kb, nm, o, tm.seq]
  refine lc_wp Lg.prD (fun _ => true) (fun q => .str q.1) (fun S' => S' = S) ms rfl (Nat.le_trans lm (by decide)) (fun q hq S' hS => ?_) (fun S' hS => ?_)
  · subst hS
    simp? [show tupD (Lg.prD q) = some [.str q.1, .str q.2] from rfl]
  · subst hS
    rw [List.filter_eq_self.mpr fun _ _ => rfl, show (ms.map fun q => D.str q.1) = (Nam ms).map D.str by rw [List.map_map]; rfl]
    have eq := (pl_strs (Nam ms) (fun a ha => by obtain ⟨q, hq, rfl⟩ := List.mem_map.mp ha; exact (h1 q hq).1)).eq S'
    simp? [eq]
end
/-! ### one of them -/
def rP : Option PySem.Str → PyData
  | none => .none
  | some s => .str s
theorem az_r : Az "self" ∧ Az "house" ∧ Az "bar" ∧ Az "past" := by
  have k : ∀ s : PySem.Str, (s.cps.toList.all fun c => decide (97 ≤ c ∧ c ≤ 122)) = true → Az s := fun s h c hc => of_decide_eq_true (List.all_eq_true.mp h c hc)
  exact ⟨k _ (by decide +kernel), k _ (by decide +kernel), k _ (by decide +kernel), k _ (by decide +kernel)⟩
theorem pl_rsn4 (e h B Y : Bool) : Pl (rD (rsn4 e h B Y)) (rP (rsn4 e h B Y)) ∧ (rP (rsn4 e h B Y)).depth ≤ 0 := by
  obtain ⟨a1, a2, a3, a4⟩ := az_r
  have nn : Pl .non .none := ⟨rfl, rfl, by simp [PyData.depth]⟩
  cases e <;> cases h <;> cases B <;> cases Y <;> simp only [rsn4, if_true, if_false, Bool.false_eq_true, rD, rP, PyData.depth, Nat.le_refl, and_true] <;> first | exact nn | exact .str a1 | exact .str a2 | exact .str a3 | exact .str a4
theorem non_rD (r : Option PySem.Str) : isNon (rD r) = decide (r = none) := by cases r <;> rfl
theorem zip_self {α : Type} (f g : α → D) : ∀ l : List α, zipD (l.map f) (l.map g) = l.map fun a => .tup [f a, g a]
  | [] => rfl
  | a :: l => by
    have := zip_self f g l
    unfold zipD at this ⊢
    rw [List.map_cons, List.map_cons, List.zipWith_cons_cons, this, List.map_cons]
/-- the circle stands behind the pot -/
def Cx2 (n : Nat) (ms bs : Ps) (ys : List Ps) (gap : Int) (R : Store) : Prop := R[n]? = some (CiO (.tupX (ms.map Lg.prD)) (.tupX (bs.map Lg.prD)) (.tupX (ys.map yrD)) (.int gap))
def St2 (B : Store) (t n : Nat) (ms bs : Ps) (ys : List Ps) (gap : Int) (S : Store) : Prop := ∃ R, PO t R S ∧ FlatS R ∧ Cx2 n ms bs ys gap R ∧ Ext B R
section
variable {t n : Nat} {S B : Store} {ms bs : Ps} {ys : List Ps} {gap : Int} {w0 w1 : PySem.Str}
theorem St2.app (h : St2 B t n ms bs ys gap S) {o : Ob} (fo : Flat o) : St2 B t n ms bs ys gap (S ++ [o]) := by
  obtain ⟨R, hp, hf, hc, hx⟩ := h
  exact ⟨_, hp.app _, hf.app (flat1 fo), at_app _ hc, hx.app _⟩
theorem St2.at (h : St2 B t n ms bs ys gap S) : S[n + 2]? = some (CiO (.tupX (ms.map Lg.prD)) (.tupX (bs.map Lg.prD)) (.tupX (ys.map yrD)) (.int gap)) := by
  obtain ⟨R, hp, hf, hc, _⟩ := h
  exact (hp.at n).trans hc
theorem flat_dKs {kvs : List (Key × D)} (h : ∀ kv ∈ kvs, ∃ s, kv.2 = .str s) : Flat (.dK kvs) := flat_dK fun kv hk => .inr (h kv hk)
theorem flat_dKb {kvs : List (Key × D)} (h : ∀ kv ∈ kvs, kv.2 = .bl true) : Flat (.dK kvs) := flat_dK fun kv hk => .inl (h kv hk)
/-- reasons of all, by the law's own look -/
theorem reasons_wp (ok : Ok ms bs ys gap) {e : EM} {g : GM} {env : En} {some_ : List PySem.Str} (hl : some_.length ≤ 1000) (f : PySem.Str → Option PySem.Str) (h : St2 B t n ms bs ys gap S)
    (hs : ∀ o ∈ some_, ∀ S', St2 B t n ms bs ys gap S' → (g (.str o) env S').wp XF fun env1 S1 => (e env1 S1).wp XF fun d S3 => d = rD (f o) ∧ St2 B t n ms bs ys gap S3) {Q : List D → Store → Prop}
    (q : ∀ S', St2 B t n ms bs ys gap S' → Q (some_.map fun o => rD (f o)) S') : (mLcGo g bYes e env (some_.map D.str) [] S).wp XF Q := by
  refine lc_wp D.str (fun _ => true) (fun o => rD (f o)) (St2 B t n ms bs ys gap) some_ h (Nat.le_trans hl (by decide)) (fun o ho S' hS => ?_) (fun S' hS => ?_)
  · refine (hs o ho S' hS).mono fun env1 S1 h1 => ?_
    rw [wp_byes]
    exact ⟨rfl, fun _ => h1, fun e => by cases e⟩
  · rw [List.filter_eq_self.mpr fun _ _ => rfl]
    exact q S' hS
/-- those of whom there is no reason -/
theorem none_wp {env : En} {i j : Nat} (f : PySem.Str → Option PySem.Str) {l : List PySem.Str} (hl : l.length ≤ 1000) (hi : i < env.length) (hj : j < env.length) (hij : i ≠ j) {Q : List D → Store → Prop} (q : Q ((l.filter fun o => decide (f o = none)).map D.str) S) :
    (mLcGo (gmTup 2 (gmCons (gmName i) (gmCons (gmName j) gmNil))) (bVal (mOp dIsN (mVar j) (mC .non))) (mVar i) env (l.map fun o => D.tup [.str o, rD (f o)]) [] S).wp XF Q := by
  refine lc_wp (fun o => D.tup [.str o, rD (f o)]) (fun o => decide (f o = none)) D.str (fun S' => S' = S) l rfl (Nat.le_trans hl (by decide)) (fun o ho S' hS => ?_) (fun S' hS => ?_)
  · subst hS
    have tq : tupD (.tup [.str o, rD (f o)]) = some [.str o, rD (f o)] := rfl
    have g1 : ((env.set i (some (.str o))).set j (some (rD (f o))))[j]? = some (some (rD (f o))) := by simp [hj]
    have g2 : ((env.set i (some (.str o))).set j (some (rD (f o))))[i]? = some (some (.str o)) := by
      rw [List.getElem?_set_ne (Ne.symm hij)]
      simp [hi]
    simp? [tq, g1, g2, non_rD]
  · subst hS
    exact q
theorem one_right_ok (ok : Ok ms bs ys gap) {a : PySem.Str} (ha : a ∈ Nam ms) (h : St2 B t n ms bs ys gap S) : (m__law_one_right [.loc (n + 2), PaD ms bs ys gap w0 w1, .str a, .lst ((Nam ms).map D.str)] S).wp XF fun d S' => d = .bl true ∧ St2 B t n ms bs ys gap S' := by
  have lm := ok.lm
  have lb := ok.lb
  have ly := ok.ly
  have ln : (Nam ms).length ≤ 1000 := by rw [List.length_map]; omega
  have o1 := fun (S : Store) (h : St2 B t n ms bs ys gap S) => ci_o h.at (f := "takers") rfl
  have o2 := fun (S : Store) (h : St2 B t n ms bs ys gap S) => ci_o h.at (f := "givers") rfl
  have o3 := fun (S : Store) (h : St2 B t n ms bs ys gap S) => ci_o h.at (f := "reason") rfl
  have plR : ∀ f : PySem.Str → PySem.Str → Option PySem.Str, (∀ x y, ∃ e h B Y, f x y = rsn4 e h B Y) → ∀ c, Pl (.lst ((Nam ms).map fun o => rD (f c o))) (.list ((Nam ms).map fun o => rP (f c o))) := fun f hf c => (Pl.lst (n := 0) (d := fun o => rD (f c o)) (f := fun o => rP (f c o)) (Nam ms) (fun o _ => by
    obtain ⟨e, h, B, Y, q⟩ := hf c o
    rw [q]; exact pl_rsn4 e h B Y) (by decide)).1
  have p1 := plR (fun x y => rsn ms bs ys gap x y) (fun x y => ⟨_, _, _, _, rfl⟩) a
  have p2 := plR (fun x y => rsn ms bs ys gap y x) (fun x y => ⟨_, _, _, _, rfl⟩) a
  have zl : ∀ A B : List D, zipO [.lst A, .lst B] = some (zipD A B) := fun _ _ => rfl
  unfold m__law_one_right
  simp? [wp_ok]
  refine reasons_wp ok ln (fun o => rsn ms bs ys gap a o) h (fun o ho S1 hS => ?_) (fun S1 hS1 => ?_)
  · obtain ⟨kvs, q1, q2⟩ := law_reason_ok (S := S1) (w0 := w0) (w1 := w1) ok ha ho
    simp? [q1]
    exact hS.app (flat_dKs q2)
  refine reasons_wp ok ln (fun o => rsn ms bs ys gap o a) hS1 (fun o ho S2 hS => ?_) (fun S2 hS2 => ?_)
  · obtain ⟨kvs, q1, q2⟩ := law_reason_ok (S := S2) (w0 := w0) (w1 := w1) ok ho ha
    simp? [q1]
    exact hS.app (flat_dKs q2)
  obtain ⟨kv1, q1, q2⟩ := takers_ok hS2.at .x .x .x ok.nm ha (by omega) ok.g0 lb ly ok.yl
  have h3 := hS2.app (flat_dKb q2)
  obtain ⟨kv2, q3, q4⟩ := givers_ok h3.at .x .x .x ok.nm ha (by omega) ok.g0 lb ly ok.yl
  have h4 := h3.app (flat_dKb q4)
  rw [takL_eq ok.nd] at q1
  rw [givL_eq ok.nd] at q3
  have o1' := o1 _ hS2
  simp? [o1', q1, zl, zip_self]
  refine none_wp (fun o => rsn ms bs ys gap a o) ln (by simp) (by simp) (by decide) ?_
  have ne1 := (pl_strs ((Nam ms).filter fun o => decide (rsn ms bs ys gap a o = none)) (fun x hx => nam_ok ok x (List.mem_filter.mp hx).1)).ne (S2 ++ [.dK kv1])
  have ne2 := (pl_strs ((Nam ms).filter fun o => decide (rsn ms bs ys gap o a = none)) (fun x hx => nam_ok ok x (List.mem_filter.mp hx).1)).ne (S2 ++ [.dK kv1] ++ [.dK kv2])
  have o2' := o2 _ h3
  simp? [ne1, o2', q3, zl, zip_self]
  refine none_wp (fun o => rsn ms bs ys gap o a) ln (by simp) (by simp) (by decide) ?_
  simp? [ne2]
  refine reasons_wp ok ln (fun o => rsn ms bs ys gap a o) h4 (fun o ho S3 hS => ?_) (fun S3 hS3 => ?_)
  · obtain ⟨kvs, q1, q2⟩ := circle_reason_ok hS.at .x .x .x ok.nm ha ho ok.g0 lb ly ok.rb ok.az ok.ay
    have o3' := o3 _ hS
    simp? [o3', q1]
    exact hS.app (flat_dKs q2)
  have ne3 := p1.ne S3
  simp? [ne3]
  refine reasons_wp ok ln (fun o => rsn ms bs ys gap o a) hS3 (fun o ho S4 hS => ?_) (fun S4 hS4 => ?_)
  · obtain ⟨kvs, q1, q2⟩ := circle_reason_ok hS.at .x .x .x ok.nm ho ha ok.g0 lb ly ok.rb ok.az ok.ay
    have o3' := o3 _ hS
    simp? [o3', q1]
    exact hS.app (flat_dKs q2)
  have e4 := p2.eq S4
  simp? [e4]
  exact hS4
end
end Lw

namespace Lw
open PySem L2 Lg
local macro_rules
  | `(tactic| simp? [$ls,*]) => `(tactic| simp only [wp_ok, wp_var, wp_c, wp_op, wp_un, wp_nil, wp_cons, wp_tup, wp_lst, wp_lstL, wp_call, wp_if, wp_val, wp_band, wp_bor, wp_bnot, wp_byes, wp_andV, wp_orV, wp_notV, wp_chain, wp_rng, wp_isi, wp_isO, wp_isX, wp_xg, wp_fldO, wp_meth, wp_make, wp_fmt, exists_false, wp_js0, wp_js1, wp_sl, wp_onone, wp_osome, wp_bmt, wp_dget, wp_star, wp_emp, wp_newK, wp_newT, wp_seq, wp_zip, wp_enum, wp_range1, wp_lc, wp_lcL, wp_lc2, wp_dcL, wp_pairs0, wp_pairs1, wp_disp, wps_next, wps_brk, wps_cont, wps_seq, wps_ret, wps_retN, wps_drop, wps_if, wps_asg, wpg_name, wpg_nil1, wpg_cons1, wpg_tup, wpg_sub, wps_par, two_ok, wps_fld, wps_forI, wps_tryC, wp_def, startE, List.length_cons, List.length_nil, List.map_cons, List.map_nil, List.replicate, List.cons_append, List.nil_append, List.append_nil, List.getElem?_cons_zero, List.getElem?_cons_succ, List.set_cons_zero, List.set_cons_succ, wipeE, Option.some.injEq, exists_eq_left', exists_eq_left, exists_eq, exists_eq', D.bl.injEq, D.str.injEq, D.int.injEq, D.loc.injEq, true_and, and_true, forall_const, reduceCtorEq, false_implies, implies_true, Nat.reduceAdd, Nat.reduceSub, Nat.zero_add, sqd_l, sqd_t, sqd_x, tpd_t, tpd_x, ass_l, ass_t, ass_x, kd_non, kd_bl, kd_int, kd_str, kd_tup, kd_tupX, kd_lst, kd_emp, inn_loc, inn_non, inn_str, inn_int, inn_bl, inn_tup, inn_lst, inn_tupX, zpo_l, zpo_tt, zpo_tx, zpo_xt, zpo_xx, eno_l, eno_t, eno_x, inX_t, inX_l, inX_s, inX_x, notInX_t, notInX_l, notInX_s, notInX_x, tupx_l, sz0, sz1, sz2, sz3, sz4, sz5, sz6, sz7, sz8, sz9, sz10, sz11, sz12, sz13, sz14, sz15, sz16, sz17, sz18, sz19, sz20, sz21, sz22, sz23, sz24, decide_true, decide_false, false_and, and_false, false_or, or_false, isn, Option.isSome_none, Option.isSome_some, Bool.true_eq_false, Bool.false_eq_true, Bool.not_true, Bool.not_false, List.cons.injEq, exists_and_left, $ls,*])
/-! ### right -/
theorem all_true {α : Type} (l : List α) (S : Store) : cAll [.lst (l.map fun _ => D.bl true)] S = .ok (.bl true) S := by
  have := cap_all (bs := l.map fun _ => true) (S := S)
  rw [List.map_map] at this
  rw [show (l.map fun _ => D.bl true) = l.map (D.bl ∘ fun _ => true) from rfl, this]
  simp
section
variable {t n : Nat} {S B : Store} {ms bs : Ps} {ys : List Ps} {gap : Int} {w0 w1 : PySem.Str}
theorem St2.mono {t' : Nat} (h : St2 B t n ms bs ys gap S) (ht : t ≤ t') : St2 B t' n ms bs ys gap S := by
  obtain ⟨R, hp, hf, hc, hx⟩ := h
  exact ⟨R, hp.mono ht, hf, hc, hx⟩
theorem asked_wp (ok : Ok ms bs ys gap) {env : En} {l : List PySem.Str} (hl : l.length ≤ 1000) (hm : ∀ a ∈ l, a ∈ Nam ms) (h : St2 B t n ms bs ys gap S) (e1 : env[1]? = some (some (.loc (n + 2)))) (e2 : env[2]? = some (some (PaD ms bs ys gap w0 w1))) (e3 : env[3]? = some (some (.lst ((Nam ms).map D.str)))) (e5 : 5 < env.length) {Q : List D → Store → Prop}
    (q : ∀ S', St2 B t n ms bs ys gap S' → Q (l.map fun _ => D.bl true) S') : (mLcGo (gmName 5) bYes (mCall m__law_one_right (mCons (mVar 1) (mCons (mVar 2) (mCons (mVar 5) (mCons (mVar 3) mNil))))) env (l.map D.str) [] S).wp XF Q := by
  refine lc_wp D.str (fun _ => true) (fun _ => D.bl true) (St2 B t n ms bs ys gap) l h (Nat.le_trans hl (by decide)) (fun a ha S' hS => ?_) (fun S' hS => ?_)
  · have g1 : (env.set 5 (some (.str a)))[1]? = some (some (.loc (n + 2))) := by rw [List.getElem?_set_ne (by decide)]; exact e1
    have g2 : (env.set 5 (some (.str a)))[2]? = some (some (PaD ms bs ys gap w0 w1)) := by rw [List.getElem?_set_ne (by decide)]; exact e2
    have g3 : (env.set 5 (some (.str a)))[3]? = some (some (.lst ((Nam ms).map D.str))) := by rw [List.getElem?_set_ne (by decide)]; exact e3
    have g5 : (env.set 5 (some (.str a)))[5]? = some (some (.str a)) := by simp [e5]
    simp? [g1, g2, g3, g5]
    exact one_right_ok ok (hm a ha) hS
  · rw [List.filter_eq_self.mpr fun _ _ => rfl]
    exact q S' hS
theorem right_ok (ok : Ok ms bs ys gap) (h : St2 B t n ms bs ys gap S) (ht : t ≤ 900000) : (m__law_right [.loc 1, .loc (n + 2), PaD ms bs ys gap w0 w1] S).wp XF fun d S' => d = .bl true ∧ St2 B (t + 6) n ms bs ys gap S' := by
  have lm := ok.lm
  have ln : (Nam ms).length ≤ 1000 := by rw [List.length_map]; omega
  have ix0 : ∀ S, dIx (PaD ms bs ys gap w0 w1) (.int 0) S = .ok (.tupX (ms.map Lg.prD)) S := fun _ => rfl
  have at_ := all_true ms
  have o1 := ci_o h.at (f := "house_of") rfl
  have ml : ∀ S, cLen [.lst ((Nam ms).map D.str)] S = .ok (.int (Nam ms).length) S := fun S => by
    show Res.ok (D.int ((Nam ms).map D.str).length) S = _
    rw [List.length_map]
  unfold m__law_right
  simp? [ix0]
  refine lc_wp Lg.prD (fun _ => true) (fun q => .str q.1) (fun S' => S' = S) ms rfl (Nat.le_trans lm (by decide)) (fun q hq S' hS => ?_) (fun S' hS => ?_)
  · subst hS
    simp? [show tupD (Lg.prD q) = some [.str q.1, .str q.2] from rfl]
  subst hS
  rw [List.filter_eq_self.mpr fun _ _ => rfl, show (ms.map fun q => D.str q.1) = (Nam ms).map D.str by rw [List.map_map]; rfl]
  refine lc_wp Lg.prD (fun _ => true) (fun _ => .bl true) (fun S1 => S1 = S') ms rfl (Nat.le_trans lm (by decide)) (fun q hq S1 hS => ?_) (fun S1 hS => ?_)
  · subst hS
    have q1 := house_ok h.at .x ok.nm (List.mem_map_of_mem (f := (·.1)) hq)
    rw [hou_mem ok.nd hq] at q1
    have eq : dEqA (.str q.2) (.str q.2) S1 = .ok (.bl true) S1 := by show Res.ok (D.bl (decide (q.2 = q.2))) S1 = _; simp
    simp? [show tupD (Lg.prD q) = some [.str q.1, .str q.2] from rfl, o1, q1, eq]
  subst hS
  rw [List.filter_eq_self.mpr fun _ _ => rfl]
  simp? [at_, ml, ltI]
  refine ⟨fun hlt => ?_, fun hge => ?_⟩
  · refine asked_wp ok ln (fun a ha => ha) h rfl rfl rfl (by simp) fun S2 h2 => ?_
    simp? [all_true]
    exact h2.mono (by omega)
  · have hge := of_decide_eq_false hge
    refine ⟨by decide, ?_⟩
    refine lcgo_wp (fun i : Nat => D.int (0 + (i : Int))) (fun k acc S' => ∃ l : List PySem.Str, acc = l.map D.str ∧ l.length = k ∧ (∀ a ∈ l, a ∈ Nam ms) ∧ St2 B (t + k) n ms bs ys gap S') (List.range 6) 0 [] S1 ⟨[], rfl, rfl, fun _ h => absurd h List.not_mem_nil, h⟩ (by simp) (by decide) (fun i x acc S2 hx hJ => ?_) (fun acc S2 hJ => ?_)
    · obtain ⟨l, rfl, hl, hm, R, hp, hf, hc, hex⟩ := hJ
      have hi : i < 6 := by have := (List.getElem?_eq_some_iff.mp hx).1; simpa using this
      obtain ⟨r, S3, q1, p3, h3⟩ := picked (Pk.lst R ((Nam ms).map D.str)) hp (by omega) (by rw [List.length_map]; omega) (by rw [List.length_map]; omega)
      rw [List.length_map] at h3
      have ge : ((Nam ms).map D.str).getD r .non = .str (Nam ms)[r] := by
        rw [List.getD_eq_getElem?_getD, List.getElem?_map, List.getElem?_eq_getElem h3]; rfl
      rw [ge] at q1
      simp? [q1]
      refine ⟨l ++ [(Nam ms)[r]], by simp, by simp [hl], fun a ha => ?_, R, p3.mono (by omega), hf, hc, hex⟩
      rcases List.mem_append.mp ha with ha | ha
      · exact hm a ha
      · rw [List.mem_singleton.mp ha]; exact List.getElem_mem h3
    · obtain ⟨l, rfl, hl, hm, h2⟩ := hJ
      rw [List.length_range] at hl h2
      refine asked_wp ok (by omega) hm (h2.mono (show _ ≤ t + 6 by omega)) rfl rfl rfl (by simp) fun S3 h3 => ?_
      simp? [all_true]
      exact h3
end
theorem law_true : ∀ ns : List Int, ns.length ≤ 63 → (∀ z ∈ ns, Builtin.Int.intBits z ≤ 1048576) → ∃ S', m_law [.scr ns] [] = .ok (.bl true) S' := by
  intro ns hn _
  have pt : m__law_pot [.scr ns] [] = .ok (.loc 1) (Pot [] ns 0 3 0) := rfl
  obtain ⟨m, hm, tn⟩ := turns (lo := 3) (hi := 6) (by decide) hn (env := [some (.scr ns), some (.loc 1), some .non, none, none, none, none]) rfl (Pot [] ns 0 3 0)
  have key : (m_law [.scr ns] []).wp XF fun d _ => d = .bl true := by
    unfold m_law
    generalize hIF : mIf (bVal (mOp dEqA (mOp dAdd (mCall m__law_draw (mCons (mVar 1) (mCons (mC (.int 4)) mNil))) (mVar 3)) (mC (.int 0)))) (mC (.int 24)) (mC (.int 6)) = IF
    rw [show mCall cMax2 (mCons (mC (.int 3)) (mCons (mCall cMin2 (mCons (mCall cLen (mCons (mVar 0) mNil)) (mCons (mC (.int 6)) mNil))) mNil)) = mCall cMax2 (mCons (mC (.int ((3 : Nat) : Int))) (mCons (mCall cMin2 (mCons (mCall cLen (mCons (mVar 0) mNil)) (mCons (mC (.int ((6 : Nat) : Int))) mNil))) mNil)) from rfl]
    simp only [wp_def, List.length_cons, List.length_nil, startE, List.map_cons, List.map_nil, List.replicate, List.cons_append, List.nil_append, wps_seq, wps_par, two_ok, wp_c, wp_call, wp_cons, wp_nil, wp_var, List.getElem?_cons_zero, Option.some.injEq, exists_eq_left', pt, wp_ok, wpg_name, List.set_cons_succ, List.set_cons_zero, wps_forI, Nat.reduceAdd, Nat.reduceSub]
    rw [range_ok tn (by omega)]
    refine for_wp (fun i : Nat => D.int (0 + (i : Int))) (fun i env S => ∃ ah x3 x4 x5 x6 R, env = [some (.scr ns), some (.loc 1), some ah, x3, x4, x5, x6] ∧ PO (10000 * i) R S ∧ FlatS R ∧ (ah = .non ∨ ∃ n ms bs ys gap w0 w1, ah = .tup [.loc (n + 2), PaD ms bs ys gap w0 w1] ∧ Cx2 n ms bs ys gap R ∧ Ok ms bs ys gap)) (List.range m) 0 _ _ ⟨.non, _, _, _, _, [], rfl, pot0 ns hn, fun o ho => absurd ho List.not_mem_nil, .inl rfl⟩ (fun i x env S hx hJ => ?_) (fun env S hJ => ?_)
    · obtain ⟨ah, x3, x4, x5, x6, R, rfl, hp, hf, hah⟩ := hJ
      have hi : i < m := by have := (List.getElem?_eq_some_iff.mp hx).1; simpa using this
      obtain ⟨r0, S0, d1, d2, d3⟩ := drawn (size := 4) hp (by omega) (by decide) (by decide)
      obtain ⟨most, hm24, me⟩ : ∃ most : Nat, most ≤ 24 ∧ IF [some (.scr ns), some (.loc 1), some ah, some (.int (0 + (x : Int))), x4, x5, x6] S = .ok (.int most) S0 := by
        have ad : ∀ (i j : Int) S, dAdd (.int i) (.int j) S = .ok (.int (i + j)) S := fun _ _ _ => rfl
        rw [← hIF]
        refine ⟨if ((r0 : Int) + (0 + (x : Int)) = 0) then 24 else 6, by split <;> decide, eq_wp ?_⟩
        simp? [d1, ad, eqI]
        split <;> simp_all
      obtain ⟨ms, bs, ys, gap, w0, w1, R1, S1, q1, p1, ex1, ok, pa, f1⟩ := parts (most := most) d2 (by omega) hm24 hf
      have i0 : ∀ S, dIx (PaD ms bs ys gap w0 w1) (.int 0) S = .ok (.tupX (ms.map Lg.prD)) S := fun S => rfl
      have i1 : ∀ S, dIx (PaD ms bs ys gap w0 w1) (.int 1) S = .ok (.tupX (bs.map Lg.prD)) S := fun S => rfl
      have i2 : ∀ S, dIx (PaD ms bs ys gap w0 w1) (.int 2) S = .ok (.tupX (ys.map yrD)) S := fun S => rfl
      have i3 : ∀ S, dIx (PaD ms bs ys gap w0 w1) (.int 3) S = .ok (.int gap) S := fun S => rfl
      have i4 : ∀ S, dIx (PaD ms bs ys gap w0 w1) (.int 4) S = .ok (.lst [.str w0, .str w1]) S := fun S => rfl
      have ci := circle_init (.tupX (ms.map Lg.prD)) (.tupX (bs.map Lg.prD)) (.tupX (ys.map yrD)) (.int gap) rfl rfl S1
      have at1 := one_at S1 (CiO (.tupX (ms.map Lg.prD)) (.tupX (bs.map Lg.prD)) (.tupX (ys.map yrD)) (.int gap))
      have lm := ok.lm
      have v1 := values_ok (st := .lst [.str w0, .str w1]) at1 (ms := ms) (bs := bs) (ys := ys) .x .x .x ok.az2 ok.az ok.ay (by omega)
      have v1' : m__law_values_right [.loc S1.length, PaD ms bs ys gap w0 w1] (S1 ++ [CiO (.tupX (ms.map Lg.prD)) (.tupX (bs.map Lg.prD)) (.tupX (ys.map yrD)) (.int gap)]) = .ok (.bl true) (S1 ++ [CiO (.tupX (ms.map Lg.prD)) (.tupX (bs.map Lg.prD)) (.tupX (ys.map yrD)) (.int gap)]) := v1
      have p2 := p1.app [CiO (.tupX (ms.map Lg.prD)) (.tupX (bs.map Lg.prD)) (.tupX (ys.map yrD)) (.int gap)]
      have f2 := f1.app (flat1 (flat_ci (m := .tupX (ms.map Lg.prD)) (b := .tupX (bs.map Lg.prD)) (p := .tupX (ys.map yrD)) (ms := ms) (bs := bs) (ys := ys) .x .x .x gap))
      have c2 : Cx2 R1.length ms bs ys gap (R1 ++ [CiO (.tupX (ms.map Lg.prD)) (.tupX (bs.map Lg.prD)) (.tupX (ys.map yrD)) (.int gap)]) := one_at _ _
      have x2 : Ext R (R1 ++ [CiO (.tupX (ms.map Lg.prD)) (.tupX (bs.map Lg.prD)) (.tupX (ys.map yrD)) (.int gap)]) := ex1.app _
      have hl := p1.len
      simp? [me, q1, i0, i1, i2, i3, ci, v1']
      rw [hl]
      generalize R1 ++ [CiO (.tupX (ms.map Lg.prD)) (.tupX (bs.map Lg.prD)) (.tupX (ys.map yrD)) (.int gap)] = R2 at p2 f2 c2 x2
      generalize S1 ++ [CiO (.tupX (ms.map Lg.prD)) (.tupX (bs.map Lg.prD)) (.tupX (ys.map yrD)) (.int gap)] = S2 at p2
      generalize R1.length = n at c2
      refine (right_ok (B := R2) ok ⟨R2, p2, f2, c2, .refl _⟩ (by omega)).mono fun d S3 h3 => ?_
      obtain ⟨rfl, R3, p3, f3, c3, x3⟩ := h3
      have x4 : Ext R R3 := x2.trans x3
      have c0 := circle_init0 (.tupX (ms.map Lg.prD)) (.int 1) S3
      have at0 := one_at S3 (CiO (.tupX (ms.map Lg.prD)) (.tup []) (.tup []) (.int 1))
      have v2 := values_ok (st := .lst [.str w0, .str w1]) at0 (ms := ms) (bs := []) (ys := []) .x .t .t ok.az2 (fun _ h => absurd h List.not_mem_nil) (fun _ h => absurd h List.not_mem_nil) (by omega)
      have p4 := p3.app [CiO (.tupX (ms.map Lg.prD)) (.tup []) (.tup []) (.int 1)]
      have f4 := f3.app (flat1 (flat_ci (m := .tupX (ms.map Lg.prD)) (b := .tup []) (p := .tup []) (ms := ms) (bs := []) (ys := []) .x .t .t 1))
      have c4 : Cx2 n ms bs ys gap _ := at_app [CiO (.tupX (ms.map Lg.prD)) (.tup []) (.tup []) (.int 1)] c3
      rcases hah with rfl | ⟨n', ms', bs', ys', gap', w0', w1', rfl, cx', ok'⟩
      · have nn : ∀ S, dNotN .non .non S = .ok (.bl false) S := fun _ => rfl
        simp? [nn, i0, i4, c0, v2]
        refine ⟨_, _, _, _, _, ⟨rfl, rfl, rfl, rfl, rfl⟩, _, p4.mono (by omega), f4, .inr ⟨n, ms, bs, ys, gap, w0, w1, rfl, c4, ok⟩⟩
      · have nn : ∀ (x y : D) S, dNotN (.tup [x, y]) .non S = .ok (.bl true) S := fun _ _ _ => rfl
        have j0 : ∀ (x y : D) S, dIx (.tup [x, y]) (.int 0) S = .ok x S := fun _ _ _ => rfl
        have j1 : ∀ (x y : D) S, dIx (.tup [x, y]) (.int 1) S = .ok y S := fun _ _ _ => rfl
        have lm' := ok'.lm
        have v3 : m__law_values_right [.loc (n' + 2), PaD ms' bs' ys' gap' w0' w1'] S3 = .ok (.bl true) S3 := values_ok (st := .lst [.str w0', .str w1']) ((p3.at n').trans (x4 n' _ cx')) (ms := ms') (bs := bs') (ys := ys') .x .x .x ok'.az2 ok'.az ok'.ay (by omega)
        simp? [nn, j0, j1, v3, i0, i4, c0, v2]
        refine ⟨_, _, _, _, _, ⟨rfl, rfl, rfl, rfl, rfl⟩, _, p4.mono (by omega), f4, .inr ⟨n, ms, bs, ys, gap, w0, w1, rfl, c4, ok⟩⟩
    · simp? [wps_ret]
  obtain ⟨d, S', e, rfl⟩ := key.ex
  exact ⟨S', e⟩
end Lw

open PySem PySem.W PyProof.Rows in
set_option maxRecDepth 100000 in
set_option maxHeartbeats 0 in
theorem PySem.Challenge.cw_lotgivers_k02_circles_asked_holds : PySem.Challenge.rw_lotgivers_k02_circles_asked.Holds := by
  w_on; o_law; k_head; (case hw => w_witness2)
  k_fill
  refine Lg.walkG (l := PySem.Challenge.rw_lotgivers_k02_circles_asked) (n := 63) (k := 12) (x := "_law_script") (f := Lw.m_law) rfl (by decide) rfl ⟨rfl, by decide, by decide⟩ (by first | rfl | kernel_rfl) (fun w h Y => PySem.W.kIn_of Y) ?F Lw.law_true
  case F =>
    intro w mg fa h KX G hmg
    refine' Lw.all_mk KX G hmg ?n_NoMember ?n_Circle ?n_LotError ?nmember_rows ?lmember_rows ?cmember_rows ?kmember_rows ?nyear_rows ?lyear_rows ?cyear_rows ?kyear_rows ?ncircle_rows ?lcircle_rows ?ccircle_rows ?kcircle_rows ?nis_name ?lis_name ?cis_name ?kis_name ?ncopied ?lcopied ?ccopied ?kcopied ?nplace_of ?lplace_of ?cplace_of ?kplace_of ?nreason_of ?lreason_of ?creason_of ?kreason_of ?nlast_of ?llast_of ?clast_of ?klast_of ?nothers_of ?lothers_of ?cothers_of ?kothers_of ?n_law_blend ?l_law_blend ?c_law_blend ?k_law_blend ?n_law_pot ?l_law_pot ?c_law_pot ?k_law_pot ?n_law_draw ?l_law_draw ?c_law_draw ?k_law_draw ?n_law_pick ?l_law_pick ?c_law_pick ?k_law_pick ?n_law_words ?l_law_words ?c_law_words ?k_law_words ?n_law_pairs ?l_law_pairs ?c_law_pairs ?k_law_pairs ?n_law_turned_round ?l_law_turned_round ?c_law_turned_round ?k_law_turned_round ?n_law_parts ?l_law_parts ?c_law_parts ?k_law_parts ?n_law_reason ?l_law_reason ?c_law_reason ?k_law_reason ?n_law_values_right ?l_law_values_right ?c_law_values_right ?k_law_values_right ?n_law_one_right ?l_law_one_right ?c_law_one_right ?k_law_one_right ?n_law_right ?l_law_right ?c_law_right ?k_law_right ?nlaw ?llaw ?claw ?klaw ?ii_NoMember ?li_NoMember ?ci_NoMember ?ti_NoMember ?ui_NoMember ?hx ?mCircle_init ?lCircle_init ?tCircle_init ?cCircle_init ?kCircle_init ?fCircle_init ?mkCircle ?kcCircle ?mCircle_eq ?lCircle_eq ?cCircle_eq ?kCircle_eq ?fCircle_eq ?mCircle_len ?lCircle_len ?cCircle_len ?kCircle_len ?fCircle_len ?mCircle_repr ?lCircle_repr ?cCircle_repr ?kCircle_repr ?fCircle_repr ?mCircle_str ?lCircle_str ?cCircle_str ?kCircle_str ?fCircle_str ?mCircle_names ?lCircle_names ?cCircle_names ?kCircle_names ?fCircle_names ?mCircle_has ?lCircle_has ?cCircle_has ?kCircle_has ?fCircle_has ?mCircle_house_of ?lCircle_house_of ?cCircle_house_of ?kCircle_house_of ?fCircle_house_of ?mCircle_reason ?lCircle_reason ?cCircle_reason ?kCircle_reason ?fCircle_reason ?mCircle_barred ?lCircle_barred ?cCircle_barred ?kCircle_barred ?fCircle_barred ?mCircle_takers ?lCircle_takers ?cCircle_takers ?kCircle_takers ?fCircle_takers ?mCircle_givers ?lCircle_givers ?cCircle_givers ?kCircle_givers ?fCircle_givers ?clCircle ?neCircle ?eqCircle ?ioCircle ?ofmembers ?ofbars ?ofpast ?ofgap ?flname ?g_LETTERS ?zabs ?zall ?zany ?zbool ?zdict ?zenumerate ?zisinstance ?zlen ?zlist ?zmax ?zmin ?zrange ?zrepr ?zsorted ?zstr ?ztuple ?zzip ?zsuper
    (case n_NoMember => k_is)
    (case n_Circle => k_is)
    (case n_LotError => k_is)
    (case nmember_rows => k_is)
    (case lmember_rows => k_is)
    (case cmember_rows => k_is)
    (case kmember_rows => k_is)
    (case nyear_rows => k_is)
    (case lyear_rows => k_is)
    (case cyear_rows => k_is)
    (case kyear_rows => k_is)
    (case ncircle_rows => k_is)
    (case lcircle_rows => k_is)
    (case ccircle_rows => k_is)
    (case kcircle_rows => k_is)
    (case nis_name => k_is)
    (case lis_name => k_is)
    (case cis_name => k_is)
    (case kis_name => k_is)
    (case ncopied => k_is)
    (case lcopied => k_is)
    (case ccopied => k_is)
    (case kcopied => k_is)
    (case nplace_of => k_is)
    (case lplace_of => k_is)
    (case cplace_of => k_is)
    (case kplace_of => k_is)
    (case nreason_of => k_is)
    (case lreason_of => k_is)
    (case creason_of => k_is)
    (case kreason_of => k_is)
    (case nlast_of => k_is)
    (case llast_of => k_is)
    (case clast_of => k_is)
    (case klast_of => k_is)
    (case nothers_of => k_is)
    (case lothers_of => k_is)
    (case cothers_of => k_is)
    (case kothers_of => k_is)
    (case n_law_blend => k_is)
    (case l_law_blend => k_is)
    (case c_law_blend => k_is)
    (case k_law_blend => k_is)
    (case n_law_pot => k_is)
    (case l_law_pot => k_is)
    (case c_law_pot => k_is)
    (case k_law_pot => k_is)
    (case n_law_draw => k_is)
    (case l_law_draw => k_is)
    (case c_law_draw => k_is)
    (case k_law_draw => k_is)
    (case n_law_pick => k_is)
    (case l_law_pick => k_is)
    (case c_law_pick => k_is)
    (case k_law_pick => k_is)
    (case n_law_words => k_is)
    (case l_law_words => k_is)
    (case c_law_words => k_is)
    (case k_law_words => k_is)
    (case n_law_pairs => k_is)
    (case l_law_pairs => k_is)
    (case c_law_pairs => k_is)
    (case k_law_pairs => k_is)
    (case n_law_turned_round => k_is)
    (case l_law_turned_round => k_is)
    (case c_law_turned_round => k_is)
    (case k_law_turned_round => k_is)
    (case n_law_parts => k_is)
    (case l_law_parts => k_is)
    (case c_law_parts => k_is)
    (case k_law_parts => k_is)
    (case n_law_reason => k_is)
    (case l_law_reason => k_is)
    (case c_law_reason => k_is)
    (case k_law_reason => k_is)
    (case n_law_values_right => k_is)
    (case l_law_values_right => k_is)
    (case c_law_values_right => k_is)
    (case k_law_values_right => k_is)
    (case n_law_one_right => k_is)
    (case l_law_one_right => k_is)
    (case c_law_one_right => k_is)
    (case k_law_one_right => k_is)
    (case n_law_right => k_is)
    (case l_law_right => k_is)
    (case c_law_right => k_is)
    (case k_law_right => k_is)
    (case nlaw => k_is)
    (case llaw => k_is)
    (case claw => k_is)
    (case klaw => k_is)
    (case ii_NoMember => k_is)
    (case li_NoMember => k_is)
    (case ci_NoMember => k_is)
    (case ti_NoMember => k_is)
    (case ui_NoMember => kernel_rfl)
    (case hx => kernel_rfl)
    (case mCircle_init => k_is)
    (case lCircle_init => k_is)
    (case tCircle_init => k_is)
    (case cCircle_init => k_is)
    (case kCircle_init => k_is)
    (case fCircle_init => k_is)
    (case mkCircle => k_is)
    (case kcCircle => k_is)
    (case mCircle_eq => k_is)
    (case lCircle_eq => k_is)
    (case cCircle_eq => k_is)
    (case kCircle_eq => k_is)
    (case fCircle_eq => k_is)
    (case mCircle_len => k_is)
    (case lCircle_len => k_is)
    (case cCircle_len => k_is)
    (case kCircle_len => k_is)
    (case fCircle_len => k_is)
    (case mCircle_repr => k_is)
    (case lCircle_repr => k_is)
    (case cCircle_repr => k_is)
    (case kCircle_repr => k_is)
    (case fCircle_repr => k_is)
    (case mCircle_str => k_is)
    (case lCircle_str => k_is)
    (case cCircle_str => k_is)
    (case kCircle_str => k_is)
    (case fCircle_str => k_is)
    (case mCircle_names => k_is)
    (case lCircle_names => k_is)
    (case cCircle_names => k_is)
    (case kCircle_names => k_is)
    (case fCircle_names => k_is)
    (case mCircle_has => k_is)
    (case lCircle_has => k_is)
    (case cCircle_has => k_is)
    (case kCircle_has => k_is)
    (case fCircle_has => k_is)
    (case mCircle_house_of => k_is)
    (case lCircle_house_of => k_is)
    (case cCircle_house_of => k_is)
    (case kCircle_house_of => k_is)
    (case fCircle_house_of => k_is)
    (case mCircle_reason => k_is)
    (case lCircle_reason => k_is)
    (case cCircle_reason => k_is)
    (case kCircle_reason => k_is)
    (case fCircle_reason => k_is)
    (case mCircle_barred => k_is)
    (case lCircle_barred => k_is)
    (case cCircle_barred => k_is)
    (case kCircle_barred => k_is)
    (case fCircle_barred => k_is)
    (case mCircle_takers => k_is)
    (case lCircle_takers => k_is)
    (case cCircle_takers => k_is)
    (case kCircle_takers => k_is)
    (case fCircle_takers => k_is)
    (case mCircle_givers => k_is)
    (case lCircle_givers => k_is)
    (case cCircle_givers => k_is)
    (case kCircle_givers => k_is)
    (case fCircle_givers => k_is)
    (case clCircle => kernel_rfl)
    (case neCircle => k_is)
    (case eqCircle => kernel_rfl)
    (case ioCircle => kernel_rfl)
    (case ofmembers => kernel_rfl)
    (case ofbars => kernel_rfl)
    (case ofpast => kernel_rfl)
    (case ofgap => kernel_rfl)
    (case flname => kernel_rfl)
    (case g_LETTERS => k_is)
    (case zabs => k_is)
    (case zall => k_is)
    (case zany => k_is)
    (case zbool => k_is)
    (case zdict => k_is)
    (case zenumerate => k_is)
    (case zisinstance => k_is)
    (case zlen => k_is)
    (case zlist => k_is)
    (case zmax => k_is)
    (case zmin => k_is)
    (case zrange => k_is)
    (case zrepr => k_is)
    (case zsorted => k_is)
    (case zstr => k_is)
    (case ztuple => k_is)
    (case zzip => k_is)
    (case zsuper => k_is)
