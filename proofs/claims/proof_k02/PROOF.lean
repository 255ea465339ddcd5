import PyProof.Rows.All
import Wide.All
import OpenK.AllK
import Wide.FinOn
import HandS.ForMost
import HandS.ForExc
import HandS.ExcInit
import HandS.ExcValue
import HandS.Walk
import HandS.Wide
import HandS.Deep
import HandS.TupAny
import HandS.IsInst
import HandS.ExcIs
import HandS.ExcField
import KE.KExcSuper
import HandS.Defaults
import HandS.DictComp
import HandS.Dict
import HandS.Iter
import HandS.EndBits
import KE.SortData
import HandS.FStr
import HandS.Text
import HandS.Small
import HandS.Zip
import HandS.Sort
import HandS.Style
import KE.LtData
import KE.LtSeq
import HandS.SlotsOwn
import HandS.OwnEq
import HandS.MakeKw
import HandS.MakeKwOnly
import HandS.Gcd
import HandS.RaiseMore
import KE.KFmtOwn
import KE.KCallOwn
import KE.GoesMore
import PyProof.EnumMake
import HandS.Conv
import PySem.Challenge.RW_lotgivers_k02_circles_asked
set_option Elab.async false
set_option linter.all false
set_option maxRecDepth 100000
set_option maxHeartbeats 4000000

namespace Lg
open PySem L2

/-- data: by value, or (loc) an object of the store that may change -/
inductive D where
  | non | bl (b : Bool) | int (i : Int) | str (s : PySem.Str) | tup (ds : List D) | lst (ds : List D) | scr (ns : List Int) | loc (n : Nat)
  | emp (fr : Bool)
  | tupX (ds : List D)

inductive Ob where
  | lst (ds : List D) | dK (kvs : List (Key × D)) | dT (kvs : List (List Key × D)) | ins (c : Nat) (fs : List (PySem.Str × D))
  | exc (c : Nat) (d : Option Nat) | xd (fs : List (PySem.Str × D)) | ex0 (c : Nat)
abbrev Store := List Ob

/-- what the text's classes are: the place of each -/
structure G where
  K : PySem.W.Frag
  cls : Nat → Addr
  hid : List Addr := []
/-- the same, other places hidden: nothing that is known speaks of them -/
def G.hide (g : G) (l : List Addr) : G := { g with hid := l }
def Out (g : G) (ρ : List Addr) (a : Addr) : Prop := a ∉ ρ ∧ a ∉ g.hid

mutual
inductive RD (g : G) (ρ : List Addr) (H : Hp) : V → D → Prop
  | non : RD g ρ H .non .non
  | bl (b : Bool) : RD g ρ H (.bl b) (.bl b)
  | int (i : Int) : RD g ρ H (.int i) (.int i)
  | str (s : PySem.Str) : RD g ρ H (.str s) (.str s)
  | tup {a : Addr} {vs : List V} {ds : List D} (h : H a = some (.tup vs)) (n : Out g ρ a) (r : RDs g ρ H vs ds) : RD g ρ H (.ref a) (.tup ds)
  | lst {a : Addr} {vs : List V} {ds : List D} (h : H a = some (.lst vs)) (n : Out g ρ a) (r : RDs g ρ H vs ds) : RD g ρ H (.ref a) (.lst ds)
  | scr {a : Addr} {ns : List Int} (n : (∃ o, H a = some (.frz o (.lst (ns.map V.int))) ∧ Out g ρ a) ∨ ∀ H', SqL g.K H' a (ns.map V.int)) : RD g ρ H (.ref a) (.scr ns)
  | loc {n : Nat} {a : Addr} (h : ρ[n]? = some a) : RD g ρ H (.ref a) (.loc n)
  | empF {a : Addr} {o : Obj} (h : H a = some (.frz o (.dK []))) (n : Out g ρ a) : RD g ρ H (.ref a) (.emp true)
  | empU {a : Addr} (h : H a = some (.dK [])) (n : Out g ρ a) : RD g ρ H (.ref a) (.emp false)
  | tupX {a : Addr} {o : Obj} {vs : List V} {ds : List D} (h : H a = some (.frz o (.tup vs))) (hd : o.dict = none) (n : Out g ρ a) (r : RDs g ρ H vs ds) : RD g ρ H (.ref a) (.tupX ds)
inductive RDs (g : G) (ρ : List Addr) (H : Hp) : List V → List D → Prop
  | nil : RDs g ρ H [] []
  | cons {v : V} {d : D} {vs : List V} {ds : List D} (h : RD g ρ H v d) (t : RDs g ρ H vs ds) : RDs g ρ H (v :: vs) (d :: ds)
end

def RKV {κ : Type} (g : G) (ρ : List Addr) (H : Hp) : List (κ × V) → List (κ × D) → Prop := Paired fun p q => p.1 = q.1 ∧ RD g ρ H p.2 q.2

def RO (g : G) (ρ : List Addr) (H : Hp) (a : Addr) : Ob → Prop
  | .lst ds => ∃ vs, H a = some (.lst vs) ∧ RDs g ρ H vs ds
  | .dK kvs => ∃ kv, H a = some (.dK kv) ∧ RKV g ρ H kv kvs
  | .dT kvs => ∃ kv, H a = some (.dT kv) ∧ RKV g ρ H kv kvs
  | .ins c fs => ∃ dx fv, H a = some (.ins (g.cls c) dx fv) ∧ RKV g ρ H fv fs
  | .exc c none => H a = some (exo a (g.cls c) none)
  | .exc c (some n) => ∃ dx, ρ[n]? = some dx ∧ H a = some (exo a (g.cls c) (some dx))
  | .xd fs => ∃ fv, H a = some (exd a fv) ∧ RKV g ρ H fv fs
  | .ex0 c => H a = some (ExO (.ref (g.cls c)) a)

/-- no tuple -/
def NoT (o : HO) : Prop := ∀ vs, o ≠ .tup vs
structure RS (g : G) (ρ : List Addr) (S : Store) (H : Hp) : Prop where
  len : ρ.length = S.length
  nd : ρ.Nodup
  ob : ∀ (n : Nat) (a : Addr) (o : Ob), ρ[n]? = some a → S[n]? = some o → RO g ρ H a o
  hd : ∀ a, a ∈ g.hid → (∃ o, H a = some o ∧ NoT o) ∧ a ∉ ρ

/-- what is known goes on: all that is no object of the store stays -/
structure Ex (ρ : List Addr) (H : Hp) (ρ' : List Addr) (H' : Hp) : Prop where
  new : ∃ l, ρ' = ρ ++ l ∧ ∀ a ∈ l, H a = none ∧ a ∉ ρ
  keep : ∀ a o, a ∉ ρ → H a = some o → H' a = some o

theorem Ex.refl {ρ : List Addr} {H : Hp} : Ex ρ H ρ H := ⟨⟨[], by simp, by simp⟩, fun _ _ _ h => h⟩
theorem Ex.out {ρ ρ' : List Addr} {H H' : Hp} (e : Ex ρ H ρ' H') {a : Addr} {o : HO} (h : H a = some o) (n : a ∉ ρ) : a ∉ ρ' := by
  obtain ⟨l, rfl, hl⟩ := e.new
  intro m
  rcases List.mem_append.mp m with m | m
  · exact n m
  · rw [(hl a m).1] at h; cases h
theorem Ex.trans {ρ ρ1 ρ2 : List Addr} {H H1 H2 : Hp} (a : Ex ρ H ρ1 H1) (b : Ex ρ1 H1 ρ2 H2) : Ex ρ H ρ2 H2 := by
  obtain ⟨l, rfl, hl⟩ := a.new
  obtain ⟨m, rfl, hm⟩ := b.new
  refine ⟨⟨l ++ m, by simp, fun x hx => ?_⟩, fun x o n h => b.keep x o (a.out h n) (a.keep x o n h)⟩
  rcases List.mem_append.mp hx with hx | hx
  · exact hl x hx
  · obtain ⟨h1, h2⟩ := hm x hx
    have h3 : x ∉ ρ := fun q => h2 (List.mem_append_left _ q)
    refine ⟨?_, h3⟩
    cases q : H x with
    | none => rfl
    | some o => rw [a.keep x o h3 q] at h1; cases h1
theorem Ex.at {ρ ρ' : List Addr} {H H' : Hp} (e : Ex ρ H ρ' H') {n : Nat} {a : Addr} (h : ρ[n]? = some a) : ρ'[n]? = some a := by
  obtain ⟨l, rfl, _⟩ := e.new
  rw [List.getElem?_append_left (List.getElem?_eq_some_iff.mp h).1]
  exact h
/-- a new object that is no object of the store -/
theorem Ex.new1 {ρ : List Addr} {H : Hp} {p : Addr} {o : HO} (h : H p = none) : Ex ρ H ρ (upd H p o) :=
  ⟨⟨[], by simp, by simp⟩, fun a u _ e => by rw [upd_ne (ne_of_none e h)]; exact e⟩

section
variable {g : G} {ρ ρ' : List Addr} {H H' : Hp} {S : Store}
theorem RD.mono (e : Ex ρ H ρ' H') {v : V} {d : D} (r : RD g ρ H v d) : RD g ρ' H' v d := by
  refine RD.rec (motive_1 := fun v d _ => RD g ρ' H' v d) (motive_2 := fun vs ds _ => RDs g ρ' H' vs ds) .non .bl .int .str ?_ ?_ ?_ ?_ ?_ ?_ ?_ .nil ?_ r
  · intro a vs ds h n _ ih; exact .tup (e.keep a _ n.1 h) ⟨e.out h n.1, n.2⟩ ih
  · intro a vs ds h n _ ih; exact .lst (e.keep a _ n.1 h) ⟨e.out h n.1, n.2⟩ ih
  · intro a ns n
    refine .scr ?_
    rcases n with ⟨o, h, n⟩ | n
    · exact .inl ⟨o, e.keep a _ n.1 h, e.out h n.1, n.2⟩
    · exact .inr n
  · intro n a h; exact .loc (e.at h)
  · intro a o h n; exact .empF (e.keep a _ n.1 h) ⟨e.out h n.1, n.2⟩
  · intro a h n; exact .empU (e.keep a _ n.1 h) ⟨e.out h n.1, n.2⟩
  · intro a o vs ds h hd n _ ih; exact .tupX (e.keep a _ n.1 h) hd ⟨e.out h n.1, n.2⟩ ih
  · intro v d vs ds _ _ h t; exact .cons h t
theorem RDs.mono (e : Ex ρ H ρ' H') : ∀ {vs : List V} {ds : List D}, RDs g ρ H vs ds → RDs g ρ' H' vs ds
  | _, _, .nil => .nil
  | _, _, .cons h t => .cons (h.mono e) (RDs.mono e t)
theorem RDs.length : ∀ {vs : List V} {ds : List D}, RDs g ρ H vs ds → vs.length = ds.length
  | _, _, .nil => rfl
  | _, _, .cons _ t => by simp [RDs.length t]
theorem RDs.get : ∀ {vs : List V} {ds : List D} {i : Nat} {d : D}, RDs g ρ H vs ds → ds[i]? = some d → ∃ v, vs[i]? = some v ∧ RD g ρ H v d
  | _, _, _, _, .nil, e => by simp at e
  | _, _, 0, _, .cons h _, e => by simp at e; subst e; exact ⟨_, rfl, h⟩
  | _, _, i + 1, d, .cons _ t, e => by
    obtain ⟨v, h1, h2⟩ := RDs.get (i := i) (d := d) t (by simpa using e)
    exact ⟨v, by simpa using h1, h2⟩
theorem RDs.append : ∀ {vs ws : List V} {ds es : List D}, RDs g ρ H vs ds → RDs g ρ H ws es → RDs g ρ H (vs ++ ws) (ds ++ es)
  | _, _, _, _, .nil, s => s
  | _, _, _, _, .cons h t, s => .cons h (RDs.append t s)
theorem RDs.take : ∀ {vs : List V} {ds : List D} (n : Nat), RDs g ρ H vs ds → RDs g ρ H (vs.take n) (ds.take n)
  | _, _, 0, _ => .nil
  | _, _, _ + 1, .nil => .nil
  | _, _, n + 1, .cons h t => .cons h (RDs.take n t)
theorem RDs.drop : ∀ {vs : List V} {ds : List D} (n : Nat), RDs g ρ H vs ds → RDs g ρ H (vs.drop n) (ds.drop n)
  | _, _, 0, r => r
  | _, _, _ + 1, .nil => .nil
  | _, _, n + 1, .cons _ t => RDs.drop n t
theorem RDs.set {v : V} {d : D} (r : RD g ρ H v d) : ∀ {vs : List V} {ds : List D} (i : Nat), RDs g ρ H vs ds → RDs g ρ H (vs.set i v) (ds.set i d)
  | _, _, _, .nil => .nil
  | _, _, 0, .cons _ t => .cons r t
  | _, _, i + 1, .cons q t => .cons q (RDs.set r i t)
theorem RDs.eraseIdx : ∀ {vs : List V} {ds : List D} (i : Nat), RDs g ρ H vs ds → RDs g ρ H (vs.eraseIdx i) (ds.eraseIdx i)
  | _, _, _, .nil => .nil
  | _, _, 0, .cons _ t => t
  | _, _, i + 1, .cons q t => .cons q (RDs.eraseIdx i t)
theorem RDs.snoc {vs : List V} {ds : List D} {v : V} {d : D} (h : RDs g ρ H vs ds) (r : RD g ρ H v d) : RDs g ρ H (vs ++ [v]) (ds ++ [d]) := h.append (.cons r .nil)
theorem RKV.mono {κ : Type} (e : Ex ρ H ρ' H') {xs : List (κ × V)} {ys : List (κ × D)} (r : RKV g ρ H xs ys) : RKV g ρ' H' xs ys := Paired.mapP r fun _ _ h => ⟨h.1, h.2.mono e⟩

/-- the same facts elsewhere -/
theorem RD.tr {g' : G} (hK : g.K = g'.K) (hρ : ∀ (n : Nat) a, ρ[n]? = some a → ρ'[n]? = some a) (k : ∀ a o, Out g ρ a → H a = some o → Out g' ρ' a ∧ H' a = some o) {v : V} {d : D} (r : RD g ρ H v d) : RD g' ρ' H' v d := by
  refine RD.rec (motive_1 := fun v d _ => RD g' ρ' H' v d) (motive_2 := fun vs ds _ => RDs g' ρ' H' vs ds) .non .bl .int .str ?_ ?_ ?_ ?_ ?_ ?_ ?_ .nil ?_ r
  · intro a vs ds h n _ ih; exact .tup (k a _ n h).2 (k a _ n h).1 ih
  · intro a vs ds h n _ ih; exact .lst (k a _ n h).2 (k a _ n h).1 ih
  · intro a ns n
    refine .scr ?_
    rcases n with ⟨o, h, n⟩ | n
    · exact .inl ⟨o, (k a _ n h).2, (k a _ n h).1⟩
    · exact .inr (hK ▸ n)
  · intro n a h; exact .loc (hρ n a h)
  · intro a o h n; exact .empF (k a _ n h).2 (k a _ n h).1
  · intro a h n; exact .empU (k a _ n h).2 (k a _ n h).1
  · intro a o vs ds h hd n _ ih; exact .tupX (k a _ n h).2 hd (k a _ n h).1 ih
  · intro v d vs ds _ _ h t; exact .cons h t
theorem RDs.tr {g' : G} (hK : g.K = g'.K) (hρ : ∀ (n : Nat) a, ρ[n]? = some a → ρ'[n]? = some a) (k : ∀ a o, Out g ρ a → H a = some o → Out g' ρ' a ∧ H' a = some o) : ∀ {vs : List V} {ds : List D}, RDs g ρ H vs ds → RDs g' ρ' H' vs ds
  | _, _, .nil => .nil
  | _, _, .cons h t => .cons (h.tr hK hρ k) (RDs.tr hK hρ k t)
theorem RKV.tr {κ : Type} {g' : G} (hK : g.K = g'.K) (hρ : ∀ (n : Nat) a, ρ[n]? = some a → ρ'[n]? = some a) (k : ∀ a o, Out g ρ a → H a = some o → Out g' ρ' a ∧ H' a = some o) {xs : List (κ × V)} {ys : List (κ × D)} (r : RKV g ρ H xs ys) : RKV g' ρ' H' xs ys := Paired.mapP r fun _ _ h => ⟨h.1, h.2.tr hK hρ k⟩
theorem RO.tr {g' : G} (hK : g.K = g'.K) (hc : g.cls = g'.cls) (hρ : ∀ (n : Nat) a, ρ[n]? = some a → ρ'[n]? = some a) (k : ∀ a o, Out g ρ a → H a = some o → Out g' ρ' a ∧ H' a = some o) {a : Addr} (ha : ∀ o, H a = some o → H' a = some o) {ob : Ob} (r : RO g ρ H a ob) : RO g' ρ' H' a ob := by
  cases ob with
  | lst ds => obtain ⟨vs, q1, q2⟩ := r; exact ⟨vs, ha _ q1, q2.tr hK hρ k⟩
  | dK ds => obtain ⟨vs, q1, q2⟩ := r; exact ⟨vs, ha _ q1, q2.tr hK hρ k⟩
  | dT ds => obtain ⟨vs, q1, q2⟩ := r; exact ⟨vs, ha _ q1, q2.tr hK hρ k⟩
  | ins c fs => obtain ⟨dx, fv, q1, q2⟩ := r; exact ⟨dx, fv, hc ▸ ha _ q1, q2.tr hK hρ k⟩
  | exc c d => cases d with
    | none => exact (hc ▸ ha _ r : H' a = some (exo a (g'.cls c) none))
    | some n => obtain ⟨dx, q1, q2⟩ := r; exact ⟨dx, hρ n dx q1, hc ▸ ha _ q2⟩
  | xd fs => obtain ⟨fv, q1, q2⟩ := r; exact ⟨fv, ha _ q1, q2.tr hK hρ k⟩
  | ex0 c => exact (hc ▸ ha _ r : H' a = some (ExO (.ref (g'.cls c)) a))
theorem RS.there (rs : RS g ρ S H) {a : Addr} (h : a ∈ ρ) : ∃ o, H a = some o := by
  obtain ⟨n, hn, e⟩ := List.getElem_of_mem h
  have hS : n < S.length := by rw [← rs.len]; exact hn
  have r := rs.ob n a S[n] (by rw [List.getElem?_eq_getElem hn, e]) (List.getElem?_eq_getElem hS)
  cases hh : S[n] with
  | lst ds => rw [hh] at r; obtain ⟨vs, q1, _⟩ := r; exact ⟨_, q1⟩
  | dK ds => rw [hh] at r; obtain ⟨vs, q1, _⟩ := r; exact ⟨_, q1⟩
  | dT ds => rw [hh] at r; obtain ⟨vs, q1, _⟩ := r; exact ⟨_, q1⟩
  | ins c fs => rw [hh] at r; obtain ⟨dx, fv, q1, _⟩ := r; exact ⟨_, q1⟩
  | exc c d => cases d with
    | none => rw [hh] at r; exact ⟨_, r⟩
    | some n => rw [hh] at r; obtain ⟨dx, _, q⟩ := r; exact ⟨_, q⟩
  | xd fs => rw [hh] at r; obtain ⟨fv, q1, _⟩ := r; exact ⟨_, q1⟩
  | ex0 c => rw [hh] at r; exact ⟨_, r⟩
theorem RS.fresh (rs : RS g ρ S H) {a : Addr} (h : H a = none) : Out g ρ a := by
  refine ⟨fun m => ?_, fun m => ?_⟩
  · obtain ⟨o, e⟩ := rs.there m
    rw [h] at e; cases e
  · obtain ⟨⟨o, e, _⟩, _⟩ := rs.hd a m
    rw [h] at e; cases e
/-- a tuple is no object of the store, and not hidden -/
theorem RS.tup (rs : RS g ρ S H) {a : Addr} {vs : List V} (h : H a = some (.tup vs)) : Out g ρ a := by
  refine ⟨fun m => ?_, fun m => ?_⟩
  · obtain ⟨n, hn, e⟩ := List.getElem_of_mem m
    have hS : n < S.length := by rw [← rs.len]; exact hn
    have r := rs.ob n a S[n] (by rw [List.getElem?_eq_getElem hn, e]) (List.getElem?_eq_getElem hS)
    cases hh : S[n] with
    | exc c d => cases d with
      | none => rw [hh] at r; have r' := h.symm.trans (show H a = _ from r); cases r'
      | some n => rw [hh] at r; obtain ⟨dx, _, q⟩ := r; rw [h] at q; cases q
    | ex0 c => rw [hh] at r; have r' := h.symm.trans (show H a = _ from r); cases r'
    | lst ds => rw [hh] at r; obtain ⟨_, q, _⟩ := r; rw [h] at q; cases q
    | dK ds => rw [hh] at r; obtain ⟨_, q, _⟩ := r; rw [h] at q; cases q
    | dT ds => rw [hh] at r; obtain ⟨_, q, _⟩ := r; rw [h] at q; cases q
    | ins c fs => rw [hh] at r; obtain ⟨_, _, q, _⟩ := r; rw [h] at q; cases q
    | xd fs => rw [hh] at r; obtain ⟨_, q, _⟩ := r; rw [h] at q; cases q
  · obtain ⟨⟨o, e, nt⟩, _⟩ := rs.hd a m
    rw [h] at e
    cases e
    exact nt _ rfl
/-- a new place is hidden | it is let go, whatever stands there -/
theorem hide_k {l : List Addr} {p : Addr} {o : HO} (hp : H p = none) : ∀ a u, Out (g.hide l) ρ a → H a = some u → Out (g.hide (p :: l)) ρ a ∧ upd H p o a = some u := fun a u n h => by
  have ne := ne_of_none h hp
  exact ⟨⟨n.1, fun m => (List.mem_cons.mp m).elim ne n.2⟩, by rw [upd_ne ne]; exact h⟩
theorem show_k {l : List Addr} {p : Addr} (k : ∀ a, a ≠ p → H' a = H a) : ∀ a u, Out (g.hide (p :: l)) ρ a → H a = some u → Out (g.hide l) ρ a ∧ H' a = some u := fun a u n h =>
  ⟨⟨n.1, fun m => n.2 (List.mem_cons_of_mem _ m)⟩, by rw [k a fun e => n.2 (by rw [e]; exact List.mem_cons_self)]; exact h⟩
theorem RS.hide {l : List Addr} {p : Addr} {o : HO} (rs : RS (g.hide l) ρ S H) (hp : H p = none) (nt : NoT o := by intro _ h; cases h) : RS (g.hide (p :: l)) ρ S (upd H p o) := by
  refine ⟨rs.len, rs.nd, fun n a ob h1 h2 => RO.tr (g := g.hide l) (g' := g.hide (p :: l)) (H' := upd H p o) rfl rfl (fun _ _ h => h) (hide_k hp) (r := rs.ob n a ob h1 h2) (ha :=  fun u q => by rw [upd_ne (ne_of_none q hp)]; exact q), fun a m => ?_⟩
  rcases List.mem_cons.mp m with e | m
  · rw [e]; exact ⟨⟨o, upd_same, nt⟩, (rs.fresh hp).1⟩
  · obtain ⟨⟨u, h, hu⟩, n⟩ := rs.hd a m
    exact ⟨⟨u, by rw [upd_ne (ne_of_none h hp)]; exact h, hu⟩, n⟩
theorem RS.unhide {l : List Addr} {p : Addr} (hl : p ∉ l) (rs : RS (g.hide (p :: l)) ρ S H) (k : ∀ a, a ≠ p → H' a = H a) : RS (g.hide l) ρ S H' := by
  have np : p ∉ ρ := (rs.hd p List.mem_cons_self).2
  refine ⟨rs.len, rs.nd, fun n a ob h1 h2 => RO.tr (g := g.hide (p :: l)) (g' := g.hide l) (H' := H') rfl rfl (fun _ _ h => h) (show_k k) (r := rs.ob n a ob h1 h2) (ha := fun u q => ?_), fun a m => ?_⟩
  · rw [k a fun e => np (by rw [← e]; exact List.mem_of_getElem? h1)]; exact q
  · obtain ⟨⟨u, h, hu⟩, n⟩ := rs.hd a (List.mem_cons_of_mem _ m)
    exact ⟨⟨u, by rw [k a fun e => hl (by rw [← e]; exact m)]; exact h, hu⟩, n⟩
/-- a hidden place is written -/
theorem RS.hidden {l : List Addr} {p : Addr} {o : HO} (rs : RS (g.hide (p :: l)) ρ S H) (nt : NoT o := by intro _ h; cases h) : RS (g.hide (p :: l)) ρ S (upd H p o) := by
  have np : p ∉ ρ := (rs.hd p List.mem_cons_self).2
  have kk : ∀ a u, Out (g.hide (p :: l)) ρ a → H a = some u → Out (g.hide (p :: l)) ρ a ∧ upd H p o a = some u := fun a u n h => ⟨n, by rw [upd_ne fun e => n.2 (by rw [e]; exact List.mem_cons_self)]; exact h⟩
  refine ⟨rs.len, rs.nd, fun n a ob h1 h2 => (rs.ob n a ob h1 h2).tr (g' := g.hide (p :: l)) (H' := upd H p o) rfl rfl (fun _ _ h => h) kk fun u q => ?_, fun a m => ?_⟩
  · rw [upd_ne fun e => np (by rw [← e]; exact List.mem_of_getElem? h1)]; exact q
  · obtain ⟨⟨u, h, hu⟩, n⟩ := rs.hd a m
    by_cases e : a = p
    · rw [e]; exact ⟨⟨o, upd_same, nt⟩, np⟩
    · exact ⟨⟨u, by rw [upd_ne e]; exact h, hu⟩, n⟩
theorem hidden_k {l : List Addr} {p : Addr} {o : HO} : ∀ a u, Out (g.hide (p :: l)) ρ a → H a = some u → Out (g.hide (p :: l)) ρ a ∧ upd H p o a = some u := fun a u n h =>
  ⟨n, by rw [upd_ne fun e => n.2 (by rw [e]; exact List.mem_cons_self)]; exact h⟩
/-- what H didn't know may change -/
theorem Ex.mut {ρ' : List Addr} {p : Addr} {o : HO} (e : Ex ρ H ρ' H') (hp : H p = none) : Ex ρ H ρ' (upd H' p o) :=
  ⟨e.new, fun a u n h => by rw [upd_ne (ne_of_none h hp)]; exact e.keep a u n h⟩

/-! ### slots -/
abbrev En := List (Option D)
def RE (g : G) (ρ : List Addr) (H : Hp) : L2.St → En → Prop := Paired fun v d => ∀ x, d = some x → ∃ y, v = some y ∧ RD g ρ H y x
theorem RE.mono (e : Ex ρ H ρ' H') {σ : L2.St} {env : En} (r : RE g ρ H σ env) : RE g ρ' H' σ env := Paired.mapP r fun _ _ h x q => by
  obtain ⟨y, h1, h2⟩ := h x q
  exact ⟨y, h1, h2.mono e⟩
theorem RE.get : ∀ {σ : L2.St} {env : En} {i : Nat} {d : D}, RE g ρ H σ env → env[i]? = some (some d) → ∃ v, σ[i]? = some (some v) ∧ RD g ρ H v d
  | _, _, _, _, .nil, e => by simp at e
  | _, _, 0, _, .cons h _, e => by
    simp at e
    obtain ⟨y, h1, h2⟩ := h _ e
    exact ⟨y, by simp [h1], h2⟩
  | _, _, i + 1, d, .cons _ t, e => by
    obtain ⟨v, h1, h2⟩ := RE.get (i := i) (d := d) t (by simpa using e)
    exact ⟨v, by simpa using h1, h2⟩
theorem RE.set {v : V} {d : D} (r : RD g ρ H v d) : ∀ {σ : L2.St} {env : En} (i : Nat), RE g ρ H σ env → RE g ρ H (σ.set i (some v)) (env.set i (some d))
  | _, _, _, .nil => .nil
  | _, _, 0, .cons _ t => .cons (fun x q => by cases q; exact ⟨v, rfl, r⟩) t
  | _, _, i + 1, .cons q t => .cons q (RE.set r i t)
theorem RE.tr {g' : G} (hK : g.K = g'.K) (hρ : ∀ (n : Nat) a, ρ[n]? = some a → ρ'[n]? = some a) (k : ∀ a o, Out g ρ a → H a = some o → Out g' ρ' a ∧ H' a = some o) {σ : L2.St} {env : En} (r : RE g ρ H σ env) : RE g' ρ' H' σ env := Paired.mapP r fun _ _ h x q => by
  obtain ⟨y, h1, h2⟩ := h x q
  exact ⟨y, h1, h2.tr hK hρ k⟩
/-- what was known ahead of a new place is known behind, the place hidden -/
theorem ahead_k {l : List Addr} {p : Addr} (hp : H p = none) (e : Ex ρ H ρ' H') : ∀ a u, Out (g.hide l) ρ a → H a = some u → Out (g.hide (p :: l)) ρ' a ∧ H' a = some u := fun a u n h =>
  ⟨⟨e.out h n.1, fun m => (List.mem_cons.mp m).elim (ne_of_none h hp) n.2⟩, e.keep a u n.1 h⟩
theorem RE.clear : ∀ {σ : L2.St} {env : En} (i : Nat), RE g ρ H σ env → RE g ρ H (σ.set i none) (env.set i none)
  | _, _, _, .nil => .nil
  | _, _, 0, .cons _ t => .cons (fun x q => by cases q) t
  | _, _, i + 1, .cons q t => .cons q (RE.clear i t)
def wipeE (env : En) : List Nat → En
  | [] => env
  | i :: r => (wipeE env r).set i none
theorem RE.wipe {σ : L2.St} {env : En} (re : RE g ρ H σ env) : ∀ vs : List Nat, RE g ρ H (L2.wipe σ vs) (wipeE env vs)
  | [] => re
  | i :: r => by
    unfold L2.wipe wipeE
    exact (RE.wipe re r).clear i
end

/-! ### answers -/
structure Exc where
  c : Nat
  fs : Option (List (PySem.Str × D))
inductive Res (α : Type) where
  | ok (a : α) (S : Store) | err (x : Exc) (S : Store) | stuck
inductive FRes where
  | next (env : En) (S : Store) | ret (d : D) (S : Store) | brk (env : En) (S : Store) | cont (env : En) (S : Store) | err (x : Exc) (S : Store) | stuck
abbrev EM := En → Store → Res D
abbrev BM := En → Store → Res Bool
abbrev AM := En → Store → Res (List D)
abbrev SM := En → Store → FRes

def RX (g : G) (ρ : List Addr) (H : Hp) (x : Exc) (c : Value) (od : Option Addr) : Prop :=
  c = .ref (g.cls x.c) ∧ match x.fs with
    | none => od = none
    | some fs => ∃ d fv, od = some d ∧ d ∉ ρ ∧ H d = some (.xd fv) ∧ RKV g ρ H fv fs

section
variable (g : G) (E : XK) (ρ : List Addr) (H : Hp)
def PX (x : Exc) (S' : Store) : Prop := ∀ ρ' H' c od, Ex ρ H ρ' H' → RS g ρ' S' H' → RX g ρ' H' x c od → E c od H'
def PostE (Q : VK) : Res D → Prop
  | .ok d S' => ∀ ρ' H' v, Ex ρ H ρ' H' → RS g ρ' S' H' → RD g ρ' H' v d → Q v H'
  | .err x S' => PX g E ρ H x S'
  | .stuck => False
def PostT (Q : Bool → Hp → Prop) : Res Bool → Prop
  | .ok b S' => ∀ ρ' H', Ex ρ H ρ' H' → RS g ρ' S' H' → Q b H'
  | .err x S' => PX g E ρ H x S'
  | .stuck => False
def PostA (Q : List V → Hp → Prop) : Res (List D) → Prop
  | .ok ds S' => ∀ ρ' H' vs, Ex ρ H ρ' H' → RS g ρ' S' H' → RDs g ρ' H' vs ds → Q vs H'
  | .err x S' => PX g E ρ H x S'
  | .stuck => False
def PN (P : L2.St → Hp → Prop) (env' : En) (S' : Store) : Prop := ∀ ρ' H' σ', Ex ρ H ρ' H' → RS g ρ' S' H' → RE g ρ' H' σ' env' → P σ' H'
def PostS (D' : Ends) : FRes → Prop
  | .next env' S' => PN g ρ H D'.nx env' S'
  | .brk env' S' => PN g ρ H D'.bk env' S'
  | .cont env' S' => PN g ρ H D'.ct env' S'
  | .ret d S' => ∀ ρ' H' v, Ex ρ H ρ' H' → RS g ρ' S' H' → RD g ρ' H' v d → D'.rt v H'
  | .err x S' => PX g E ρ H x S'
  | .stuck => False
end
section
variable {g : G} {E : XK} {ρ ρ1 : List Addr} {H H1 : Hp}
theorem PX.ex {x : Exc} {S' : Store} (p : PX g E ρ H x S') (e : Ex ρ H ρ1 H1) : PX g E ρ1 H1 x S' := fun ρ' H' c od a b r => p ρ' H' c od (e.trans a) b r
theorem PostE.ex {Q : VK} {r : Res D} (p : PostE g E ρ H Q r) (e : Ex ρ H ρ1 H1) : PostE g E ρ1 H1 Q r := by
  cases r with
  | ok d S' => exact fun ρ' H' v a b c => p ρ' H' v (e.trans a) b c
  | err x S' => exact PX.ex p e
  | stuck => exact p
theorem PostT.ex {Q : Bool → Hp → Prop} {r : Res Bool} (p : PostT g E ρ H Q r) (e : Ex ρ H ρ1 H1) : PostT g E ρ1 H1 Q r := by
  cases r with
  | ok d S' => exact fun ρ' H' a b => p ρ' H' (e.trans a) b
  | err x S' => exact PX.ex p e
  | stuck => exact p
theorem PostA.ex {Q : List V → Hp → Prop} {r : Res (List D)} (p : PostA g E ρ H Q r) (e : Ex ρ H ρ1 H1) : PostA g E ρ1 H1 Q r := by
  cases r with
  | ok d S' => exact fun ρ' H' v a b c => p ρ' H' v (e.trans a) b c
  | err x S' => exact PX.ex p e
  | stuck => exact p
theorem PN.ex {P : L2.St → Hp → Prop} {env' : En} {S' : Store} (p : PN g ρ H P env' S') (e : Ex ρ H ρ1 H1) : PN g ρ1 H1 P env' S' := fun ρ' H' σ' a b c => p ρ' H' σ' (e.trans a) b c
theorem PostS.ex {D' : Ends} {r : FRes} (p : PostS g E ρ H D' r) (e : Ex ρ H ρ1 H1) : PostS g E ρ1 H1 D' r := by
  cases r with
  | next env' S' => exact PN.ex p e
  | brk env' S' => exact PN.ex p e
  | cont env' S' => exact PN.ex p e
  | ret d S' => exact fun ρ' H' v a b c => p ρ' H' v (e.trans a) b c
  | err x S' => exact PX.ex p e
  | stuck => exact p
end

/-! ### what goes as a plain function -/
section
variable (g : G) (E : XK)
def SimE (t : TE) (m : EM) : Prop := ∀ l σ H Q ρ S env, RE (g.hide l) ρ H σ env → RS (g.hide l) ρ S H → PostE (g.hide l) E ρ H Q (m env S) → t σ H Q
def SimT (t : TT) (m : BM) : Prop := ∀ l σ H Q ρ S env, RE (g.hide l) ρ H σ env → RS (g.hide l) ρ S H → PostT (g.hide l) E ρ H Q (m env S) → t σ H Q
def SimA (t : TA) (m : AM) : Prop := ∀ l σ H Q ρ S env, RE (g.hide l) ρ H σ env → RS (g.hide l) ρ S H → PostA (g.hide l) E ρ H Q (m env S) → t σ H Q
def SimS (t : TS) (m : SM) : Prop := ∀ l D' σ H ρ S env, RE (g.hide l) ρ H σ env → RS (g.hide l) ρ S H → PostS (g.hide l) E ρ H D' (m env S) → t D' σ H
def Res.bind {α β : Type} (r : Res α) (f : α → Store → Res β) : Res β := match r with
  | .ok a S => f a S
  | .err x S => .err x S
  | .stuck => .stuck
def Res.bindS {α : Type} (r : Res α) (f : α → Store → FRes) : FRes := match r with
  | .ok a S => f a S
  | .err x S => .err x S
  | .stuck => .stuck
end
section
variable {g : G} {E : XK}
/-- the shape of most proofs: an answer behind an answer -/
theorem SimE.bind {t : TE} {m : EM} (h : SimE g E t m) {l : List Addr} {σ : L2.St} {H : Hp} {Q Q' : VK} {ρ : List Addr} {S : Store} {env : En} {f : D → Store → Res D} (re : RE (g.hide l) ρ H σ env) (rs : RS (g.hide l) ρ S H) (p : PostE (g.hide l) E ρ H Q' ((m env S).bind f))
    (k : ∀ d S' ρ' H' v, Ex ρ H ρ' H' → RS (g.hide l) ρ' S' H' → RD (g.hide l) ρ' H' v d → RE (g.hide l) ρ' H' σ env → PostE (g.hide l) E ρ' H' Q' (f d S') → Q v H') : t σ H Q := by
  refine h l σ H Q ρ S env re rs ?_
  cases e : m env S with
  | ok d S' => rw [e] at p; exact fun ρ' H' v a b c => k d S' ρ' H' v a b c (re.mono a) (PostE.ex p a)
  | err x S' => rw [e] at p; exact p
  | stuck => rw [e] at p; exact p
theorem SimE.bindT {t : TE} {m : EM} (h : SimE g E t m) {l : List Addr} {σ : L2.St} {H : Hp} {Q : VK} {Q' : Bool → Hp → Prop} {ρ : List Addr} {S : Store} {env : En} {f : D → Store → Res Bool} (re : RE (g.hide l) ρ H σ env) (rs : RS (g.hide l) ρ S H) (p : PostT (g.hide l) E ρ H Q' ((m env S).bind f))
    (k : ∀ d S' ρ' H' v, Ex ρ H ρ' H' → RS (g.hide l) ρ' S' H' → RD (g.hide l) ρ' H' v d → RE (g.hide l) ρ' H' σ env → PostT (g.hide l) E ρ' H' Q' (f d S') → Q v H') : t σ H Q := by
  refine h l σ H Q ρ S env re rs ?_
  cases e : m env S with
  | ok d S' => rw [e] at p; exact fun ρ' H' v a b c => k d S' ρ' H' v a b c (re.mono a) (PostT.ex p a)
  | err x S' => rw [e] at p; exact p
  | stuck => rw [e] at p; exact p
theorem SimE.bindA {t : TE} {m : EM} (h : SimE g E t m) {l : List Addr} {σ : L2.St} {H : Hp} {Q : VK} {Q' : List V → Hp → Prop} {ρ : List Addr} {S : Store} {env : En} {f : D → Store → Res (List D)} (re : RE (g.hide l) ρ H σ env) (rs : RS (g.hide l) ρ S H) (p : PostA (g.hide l) E ρ H Q' ((m env S).bind f))
    (k : ∀ d S' ρ' H' v, Ex ρ H ρ' H' → RS (g.hide l) ρ' S' H' → RD (g.hide l) ρ' H' v d → RE (g.hide l) ρ' H' σ env → PostA (g.hide l) E ρ' H' Q' (f d S') → Q v H') : t σ H Q := by
  refine h l σ H Q ρ S env re rs ?_
  cases e : m env S with
  | ok d S' => rw [e] at p; exact fun ρ' H' v a b c => k d S' ρ' H' v a b c (re.mono a) (PostA.ex p a)
  | err x S' => rw [e] at p; exact p
  | stuck => rw [e] at p; exact p
theorem SimE.bindS {t : TE} {m : EM} (h : SimE g E t m) {l : List Addr} {σ : L2.St} {H : Hp} {Q : VK} {D' : Ends} {ρ : List Addr} {S : Store} {env : En} {f : D → Store → FRes} (re : RE (g.hide l) ρ H σ env) (rs : RS (g.hide l) ρ S H) (p : PostS (g.hide l) E ρ H D' ((m env S).bindS f))
    (k : ∀ d S' ρ' H' v, Ex ρ H ρ' H' → RS (g.hide l) ρ' S' H' → RD (g.hide l) ρ' H' v d → RE (g.hide l) ρ' H' σ env → PostS (g.hide l) E ρ' H' D' (f d S') → Q v H') : t σ H Q := by
  refine h l σ H Q ρ S env re rs ?_
  cases e : m env S with
  | ok d S' => rw [e] at p; exact fun ρ' H' v a b c => k d S' ρ' H' v a b c (re.mono a) (PostS.ex p a)
  | err x S' => rw [e] at p; exact p
  | stuck => rw [e] at p; exact p
theorem SimT.bind {t : TT} {m : BM} (h : SimT g E t m) {l : List Addr} {σ : L2.St} {H : Hp} {Q Q' : Bool → Hp → Prop} {ρ : List Addr} {S : Store} {env : En} {f : Bool → Store → Res Bool} (re : RE (g.hide l) ρ H σ env) (rs : RS (g.hide l) ρ S H) (p : PostT (g.hide l) E ρ H Q' ((m env S).bind f))
    (k : ∀ d S' ρ' H', Ex ρ H ρ' H' → RS (g.hide l) ρ' S' H' → RE (g.hide l) ρ' H' σ env → PostT (g.hide l) E ρ' H' Q' (f d S') → Q d H') : t σ H Q := by
  refine h l σ H Q ρ S env re rs ?_
  cases e : m env S with
  | ok d S' => rw [e] at p; exact fun ρ' H' a b => k d S' ρ' H' a b (re.mono a) (PostT.ex p a)
  | err x S' => rw [e] at p; exact p
  | stuck => rw [e] at p; exact p
theorem SimT.bindE {t : TT} {m : BM} (h : SimT g E t m) {l : List Addr} {σ : L2.St} {H : Hp} {Q : Bool → Hp → Prop} {Q' : VK} {ρ : List Addr} {S : Store} {env : En} {f : Bool → Store → Res D} (re : RE (g.hide l) ρ H σ env) (rs : RS (g.hide l) ρ S H) (p : PostE (g.hide l) E ρ H Q' ((m env S).bind f))
    (k : ∀ d S' ρ' H', Ex ρ H ρ' H' → RS (g.hide l) ρ' S' H' → RE (g.hide l) ρ' H' σ env → PostE (g.hide l) E ρ' H' Q' (f d S') → Q d H') : t σ H Q := by
  refine h l σ H Q ρ S env re rs ?_
  cases e : m env S with
  | ok d S' => rw [e] at p; exact fun ρ' H' a b => k d S' ρ' H' a b (re.mono a) (PostE.ex p a)
  | err x S' => rw [e] at p; exact p
  | stuck => rw [e] at p; exact p
theorem SimT.bindS {t : TT} {m : BM} (h : SimT g E t m) {l : List Addr} {σ : L2.St} {H : Hp} {Q : Bool → Hp → Prop} {D' : Ends} {ρ : List Addr} {S : Store} {env : En} {f : Bool → Store → FRes} (re : RE (g.hide l) ρ H σ env) (rs : RS (g.hide l) ρ S H) (p : PostS (g.hide l) E ρ H D' ((m env S).bindS f))
    (k : ∀ d S' ρ' H', Ex ρ H ρ' H' → RS (g.hide l) ρ' S' H' → RE (g.hide l) ρ' H' σ env → PostS (g.hide l) E ρ' H' D' (f d S') → Q d H') : t σ H Q := by
  refine h l σ H Q ρ S env re rs ?_
  cases e : m env S with
  | ok d S' => rw [e] at p; exact fun ρ' H' a b => k d S' ρ' H' a b (re.mono a) (PostS.ex p a)
  | err x S' => rw [e] at p; exact p
  | stuck => rw [e] at p; exact p
theorem SimA.bind {t : TA} {m : AM} (h : SimA g E t m) {l : List Addr} {σ : L2.St} {H : Hp} {Q : List V → Hp → Prop} {Q' : VK} {ρ : List Addr} {S : Store} {env : En} {f : List D → Store → Res D} (re : RE (g.hide l) ρ H σ env) (rs : RS (g.hide l) ρ S H) (p : PostE (g.hide l) E ρ H Q' ((m env S).bind f))
    (k : ∀ d S' ρ' H' v, Ex ρ H ρ' H' → RS (g.hide l) ρ' S' H' → RDs (g.hide l) ρ' H' v d → RE (g.hide l) ρ' H' σ env → PostE (g.hide l) E ρ' H' Q' (f d S') → Q v H') : t σ H Q := by
  refine h l σ H Q ρ S env re rs ?_
  cases e : m env S with
  | ok d S' => rw [e] at p; exact fun ρ' H' v a b c => k d S' ρ' H' v a b c (re.mono a) (PostE.ex p a)
  | err x S' => rw [e] at p; exact p
  | stuck => rw [e] at p; exact p
theorem SimA.bindA {t : TA} {m : AM} (h : SimA g E t m) {l : List Addr} {σ : L2.St} {H : Hp} {Q : List V → Hp → Prop} {Q' : List V → Hp → Prop} {ρ : List Addr} {S : Store} {env : En} {f : List D → Store → Res (List D)} (re : RE (g.hide l) ρ H σ env) (rs : RS (g.hide l) ρ S H) (p : PostA (g.hide l) E ρ H Q' ((m env S).bind f))
    (k : ∀ d S' ρ' H' v, Ex ρ H ρ' H' → RS (g.hide l) ρ' S' H' → RDs (g.hide l) ρ' H' v d → RE (g.hide l) ρ' H' σ env → PostA (g.hide l) E ρ' H' Q' (f d S') → Q v H') : t σ H Q := by
  refine h l σ H Q ρ S env re rs ?_
  cases e : m env S with
  | ok d S' => rw [e] at p; exact fun ρ' H' v a b c => k d S' ρ' H' v a b c (re.mono a) (PostA.ex p a)
  | err x S' => rw [e] at p; exact p
  | stuck => rw [e] at p; exact p
end
end Lg

namespace Lg
open PySem L2

/-! ### the plain functions -/
def mVar (i : Nat) : EM := fun env S => match env[i]? with
  | some (some d) => .ok d S
  | _ => .stuck
def mC (d : D) : EM := fun _ S => .ok d S
def mOp (f : D → D → Store → Res D) (a b : EM) : EM := fun env S => (a env S).bind fun x S1 => (b env S1).bind fun y S2 => f x y S2
def mUn (f : D → Store → Res D) (a : EM) : EM := fun env S => (a env S).bind f
def mNil : AM := fun _ S => .ok [] S
def mCons (a : EM) (b : AM) : AM := fun env S => (a env S).bind fun x S1 => (b env S1).bind fun y S2 => .ok (x :: y) S2
def mTup (a : AM) : EM := fun env S => (a env S).bind fun ds S1 => if ds.length ≤ sizeLine then .ok (.tup ds) S1 else .stuck
/-- a list that nobody changes | one that stands in the store -/
def mLst (a : AM) : EM := fun env S => (a env S).bind fun ds S1 => if ds.length ≤ sizeLine then .ok (.lst ds) S1 else .stuck
def mLstL (a : AM) : EM := fun env S => (a env S).bind fun ds S1 => if ds.length ≤ sizeLine then .ok (.loc S1.length) (S1 ++ [.lst ds]) else .stuck
def mCall (f : List D → Store → Res D) (a : AM) : EM := fun env S => (a env S).bind f
def mIf (c : BM) (a b : EM) : EM := fun env S => (c env S).bind fun k S1 => if k = true then a env S1 else b env S1
def bVal (a : EM) : BM := fun env S => (a env S).bind fun x S1 => match x with
  | .bl k => .ok k S1
  | _ => .stuck
def bAnd (a b : BM) : BM := fun env S => (a env S).bind fun k S1 => if k = true then b env S1 else .ok false S1
def bOr (a b : BM) : BM := fun env S => (a env S).bind fun k S1 => if k = true then .ok true S1 else b env S1
def bNot (a : BM) : BM := fun env S => (a env S).bind fun k S1 => .ok (!k) S1
def mAndV (a b : EM) : EM := fun env S => (a env S).bind fun x S1 => match x with
  | .bl k => if k = true then b env S1 else .ok (.bl false) S1
  | _ => .stuck
def mOrV (a b : EM) : EM := fun env S => (a env S).bind fun x S1 => match x with
  | .bl k => if k = true then .ok (.bl true) S1 else b env S1
  | _ => .stuck
def mNotV (a : EM) : EM := fun env S => (a env S).bind fun x S1 => match x with
  | .bl k => .ok (.bl (!k)) S1
  | _ => .stuck
/-- statements -/
def sNext : SM := fun env S => .next env S
def FRes.seq (r : FRes) (f : En → Store → FRes) : FRes := match r with
  | .next env S => f env S
  | r => r
def sSeq (a b : SM) : SM := fun env S => (a env S).seq b
def sRet (a : EM) : SM := fun env S => (a env S).bindS fun d S1 => .ret d S1
def sRetN : SM := fun _ S => .ret .non S
def sDrop (a : EM) : SM := fun env S => (a env S).bindS fun _ S1 => .next env S1
def sIf (c : BM) (a b : SM) : SM := fun env S => (c env S).bindS fun k S1 => if k = true then a env S1 else b env S1
def sNever : SM := fun _ _ => .stuck
def sBrk : SM := fun env S => .brk env S
def sCont : SM := fun env S => .cont env S
/-- targets: what is assigned, the slots, the store -/
abbrev GM := D → En → Store → Res En
def gmName (i : Nat) : GM := fun d env S => .ok (env.set i (some d)) S
def gmNil : List D → En → Store → Res En := fun ds env S => match ds with
  | [] => .ok env S
  | _ => .stuck
def gmCons (t : GM) (u : List D → En → Store → Res En) : List D → En → Store → Res En := fun ds env S => match ds with
  | d :: r => (t d env S).bind fun env' S' => u r env' S'
  | [] => .stuck
def gmTup (n : Nat) (t : List D → En → Store → Res En) : GM := fun d env S => match d with
  | .tup ds => if ds.length = n then t ds env S else .stuck
  | .tupX ds => if ds.length = n then t ds env S else .stuck
  | _ => .stuck
def gmSub (o i : EM) (f : D → D → D → Store → Option Store) : GM := fun d env S => (o env S).bind fun x S1 => (i env S1).bind fun y S2 => match f x y d S2 with
  | some S3 => .ok env S3
  | none => .stuck
def sAsg (a : EM) (g : GM) : SM := fun env S => (a env S).bindS fun d S1 => (g d env S1).bindS fun env' S2 => .next env' S2
/-- a loop over items that stand there -/
def sFor (g : GM) (b : SM) : List D → SM
  | [], env, S => .next env S
  | d :: r, env, S => (g d env S).bindS fun env1 S1 => match b env1 S1 with
    | .next env2 S2 => sFor g b r env2 S2
    | .cont env2 S2 => sFor g b r env2 S2
    | .brk env2 S2 => .next env2 S2
    | q => q
abbrev IM := En → Store → Res (List D)
def sForI (it : IM) (g : GM) (b : SM) : SM := fun env S => (it env S).bindS fun ds S1 => sFor g b ds env S1
def sWhile (c : BM) (b : SM) : Nat → SM
  | 0, _, _ => .stuck
  | n + 1, env, S => (c env S).bindS fun k S1 => if k = true then
      match b env S1 with
      | .next env2 S2 => sWhile c b n env2 S2
      | .cont env2 S2 => sWhile c b n env2 S2
      | .brk env2 S2 => .next env2 S2
      | q => q
    else .next env S1
/-- a comprehension: no error leaves it -/
def mLcGo (g : GM) (t : BM) (e : EM) (env : En) : List D → List D → Store → Res (List D)
  | [], acc, S => .ok acc S
  | d :: r, acc, S => match g d env S with
    | .ok env1 S1 => match t env1 S1 with
      | .ok true S2 => match e env1 S2 with
        | .ok x S3 => if acc.length < sizeLine then mLcGo g t e env r (acc ++ [x]) S3 else .stuck
        | _ => .stuck
      | .ok false S2 => mLcGo g t e env r acc S2
      | _ => .stuck
    | _ => .stuck
def mLc (it : IM) (g : GM) (t : BM) (e : EM) (vs : List Nat) : EM := fun env S => (it env S).bind fun ds S1 => (mLcGo g t e (wipeE env vs) ds [] S1).bind fun xs S2 => .ok (.lst xs) S2
/-- the same, the new list an object of the store -/
def mLcL (it : IM) (g : GM) (t : BM) (e : EM) (vs : List Nat) : EM := fun env S => (it env S).bind fun ds S1 => (mLcGo g t e (wipeE env vs) ds [] S1).bind fun xs S2 => .ok (.loc S2.length) (S2 ++ [.lst xs])
def bYes : BM := fun _ S => .ok true S

/-! ### objects of the store -/
section
variable {g : G} {ρ : List Addr} {S : Store} {H : Hp}
theorem RKV.mt {κ : Type} : RKV (κ := κ) g ρ H [] [] := Paired.nil
theorem RO.mono {H' : Hp} {ρ' : List Addr} {a : Addr} {ob : Ob} (r : RO g ρ H a ob) (e : Ex ρ H ρ' H') (k : ∀ o, H a = some o → H' a = some o) : RO g ρ' H' a ob := by
  cases ob with
  | lst ds => obtain ⟨vs, q1, q2⟩ := r; exact ⟨vs, k _ q1, q2.mono e⟩
  | dK ds => obtain ⟨vs, q1, q2⟩ := r; exact ⟨vs, k _ q1, q2.mono e⟩
  | dT ds => obtain ⟨vs, q1, q2⟩ := r; exact ⟨vs, k _ q1, q2.mono e⟩
  | ins c fs => obtain ⟨dx, fv, q1, q2⟩ := r; exact ⟨dx, fv, k _ q1, q2.mono e⟩
  | exc c d => cases d with
    | none => exact k _ r
    | some n => obtain ⟨dx, q1, q2⟩ := r; exact ⟨dx, e.at q1, k _ q2⟩
  | xd fs => obtain ⟨fv, q1, q2⟩ := r; exact ⟨fv, k _ q1, q2.mono e⟩
  | ex0 c => exact k _ r
/-- a new object of the store -/
theorem RS.push (rs : RS g ρ S H) {p : Addr} {o : HO} {ob : Ob} (hp : H p = none) (ho : ∀ ρ' H', Ex ρ H ρ' H' → H' p = some o → RO g ρ' H' p ob) : Ex ρ H (ρ ++ [p]) (upd H p o) ∧ RS g (ρ ++ [p]) (S ++ [ob]) (upd H p o) := by
  have hρ : p ∉ ρ := (rs.fresh hp).1
  have e : Ex ρ H (ρ ++ [p]) (upd H p o) := ⟨⟨[p], rfl, fun a ha => by rw [List.mem_singleton.mp ha]; exact ⟨hp, hρ⟩⟩, fun a u _ q => by rw [upd_ne (ne_of_none q hp)]; exact q⟩
  refine ⟨e, by simp [rs.len], ?_, fun n a o' h1 h2 => ?_, fun a m => ?_⟩
  · rw [List.nodup_append]
    exact ⟨rs.nd, by simp, fun x hx y hy => by rw [List.mem_singleton.mp hy]; exact fun q => hρ (q ▸ hx)⟩
  · by_cases hn : n < ρ.length
    · rw [List.getElem?_append_left hn] at h1
      rw [List.getElem?_append_left (by rw [← rs.len]; exact hn)] at h2
      have r := rs.ob n a o' h1 h2
      have ne : a ≠ p := fun q => hρ (q ▸ List.mem_of_getElem? h1)
      exact r.mono e fun u q => by rw [upd_ne ne]; exact q
    · have hn' : n = ρ.length := by
        have := (List.getElem?_eq_some_iff.mp h1).1
        simp at this
        omega
      subst hn'
      simp at h1
      rw [rs.len] at h2
      simp at h2
      subst h1 h2
      exact ho _ _ e upd_same
  · obtain ⟨⟨u, h, hu⟩, n⟩ := rs.hd a m
    have ne : a ≠ p := ne_of_none h hp
    exact ⟨⟨u, by rw [upd_ne ne]; exact h, hu⟩, fun q => (List.mem_append.mp q).elim n fun q => ne (List.mem_singleton.mp q)⟩
/-- an object of the store is written -/
theorem RS.put (rs : RS g ρ S H) {n : Nat} {a : Addr} {o : HO} {ob : Ob} (ha : ρ[n]? = some a) (ho : ∀ H', Ex ρ H ρ H' → H' a = some o → RO g ρ H' a ob) : Ex ρ H ρ (upd H a o) ∧ RS g ρ (S.set n ob) (upd H a o) := by
  have e : Ex ρ H ρ (upd H a o) := ⟨⟨[], by simp, by simp⟩, fun b u hb q => by rw [upd_ne (fun z => hb (by rw [z]; exact List.mem_of_getElem? ha))]; exact q⟩
  refine ⟨e, by simp [rs.len], rs.nd, fun m b o' h1 h2 => ?_, fun b m => ?_⟩
  have hnS : n < S.length := by rw [← rs.len]; exact (List.getElem?_eq_some_iff.mp ha).1
  by_cases hm : m = n
  · subst hm
    rw [ha] at h1; cases h1
    rw [List.getElem?_set_self hnS] at h2; cases h2
    exact ho _ e upd_same
  · rw [List.getElem?_set_ne (Ne.symm hm)] at h2
    have r := rs.ob m b o' h1 h2
    have ne : b ≠ a := fun q => by
      subst q
      obtain ⟨h3, e1⟩ := List.getElem?_eq_some_iff.mp h1
      obtain ⟨h4, e2⟩ := List.getElem?_eq_some_iff.mp ha
      exact hm ((List.getElem_inj rs.nd).mp (e1.trans e2.symm))
    exact r.mono e fun u q => by rw [upd_ne ne]; exact q
  · obtain ⟨⟨u, h, hu⟩, n⟩ := rs.hd b m
    exact ⟨⟨u, by rw [upd_ne fun q => n (by rw [q]; exact List.mem_of_getElem? ha)]; exact h, hu⟩, n⟩
/-- nothing of the store changes: a new thing beside it -/
theorem RS.aside (rs : RS g ρ S H) {p : Addr} {o : HO} (hp : H p = none) : RS g ρ S (upd H p o) := by
  refine ⟨rs.len, rs.nd, fun n a ob h1 h2 => ?_, fun a m => ?_⟩
  · have r := rs.ob n a ob h1 h2
    exact r.mono (Ex.new1 hp) fun u q => by rw [upd_ne (ne_of_none q hp)]; exact q
  · obtain ⟨⟨u, h, hu⟩, n⟩ := rs.hd a m
    exact ⟨⟨u, by rw [upd_ne (ne_of_none h hp)]; exact h, hu⟩, n⟩
end

/-! ### the proofs -/
section
variable {g : G} {E : XK}
theorem sim_var (i : Nat) : SimE g E (tVar i) (mVar i) := by
  intro l σ H Q ρ S env re rs p
  unfold mVar at p
  cases e : env[i]? with
  | none => rw [e] at p; exact p.elim
  | some o =>
    cases o with
    | none => rw [e] at p; exact p.elim
    | some d =>
      rw [e] at p
      obtain ⟨v, h1, h2⟩ := re.get e
      exact ⟨v, h1, p ρ H v Ex.refl rs h2⟩
theorem sim_c {v : V} {d : D} (r : ∀ l ρ H, RD (g.hide l) ρ H v d) : SimE g E (tC v) (mC d) := fun l σ H Q ρ S env re rs p => p ρ H v Ex.refl rs (r l ρ H)
def OpSim (g₀ : G) (E : XK) (r : R2) (f : D → D → Store → Res D) : Prop := ∀ l x y H Q ρ S dx dy, RD (g₀.hide l) ρ H x dx → RD (g₀.hide l) ρ H y dy → RS (g₀.hide l) ρ S H → PostE (g₀.hide l) E ρ H Q (f dx dy S) → r x y H Q
def UnSim (g₀ : G) (E : XK) (r : V → Hp → VK → Prop) (f : D → Store → Res D) : Prop := ∀ l x H Q ρ S dx, RD (g₀.hide l) ρ H x dx → RS (g₀.hide l) ρ S H → PostE (g₀.hide l) E ρ H Q (f dx S) → r x H Q
def CallSim (g₀ : G) (E : XK) (r : List V → Hp → VK → Prop) (f : List D → Store → Res D) : Prop := ∀ l xs H Q ρ S ds, RDs (g₀.hide l) ρ H xs ds → RS (g₀.hide l) ρ S H → PostE (g₀.hide l) E ρ H Q (f ds S) → r xs H Q
theorem sim_op {r : R2} {f : D → D → Store → Res D} {ta tb : TE} {a b : EM} (h : OpSim g E r f) (ha : SimE g E ta a) (hb : SimE g E tb b) : SimE g E (tOp r ta tb) (mOp f a b) := by
  intro l σ H Q ρ S env re rs p
  exact ha.bind re rs p fun x S1 ρ1 H1 v e1 rs1 rx re1 p1 => hb.bind re1 rs1 p1 fun y S2 ρ2 H2 u e2 rs2 ry re2 p2 => h l v u H2 Q ρ2 S2 x y (rx.mono e2) ry rs2 p2
theorem sim_un {r : V → Hp → VK → Prop} {f : D → Store → Res D} {ta : TE} {a : EM} (h : UnSim g E r f) (ha : SimE g E ta a) : SimE g E (tUn r ta) (mUn f a) := by
  intro l σ H Q ρ S env re rs p
  exact ha.bind re rs p fun x S1 ρ1 H1 v e1 rs1 rx re1 p1 => h l v H1 Q ρ1 S1 x rx rs1 p1
theorem sim_nil : SimA g E tNil mNil := fun l σ H Q ρ S env re rs p => p ρ H [] Ex.refl rs .nil
theorem sim_cons {ta : TE} {tb : TA} {a : EM} {b : AM} (ha : SimE g E ta a) (hb : SimA g E tb b) : SimA g E (tCons ta tb) (mCons a b) := by
  intro l σ H Q ρ S env re rs p
  exact ha.bindA re rs p fun x S1 ρ1 H1 v e1 rs1 rx re1 p1 => hb.bindA re1 rs1 p1 fun y S2 ρ2 H2 u e2 rs2 ry re2 p2 => p2 ρ2 H2 (v :: u) Ex.refl rs2 (.cons (rx.mono e2) ry)
theorem sim_tup {ta : TA} {a : AM} (ha : SimA g E ta a) : SimE g E (tTup ta) (mTup a) := by
  intro l σ H Q ρ S env re rs p
  refine ha.bind re rs p fun ds S1 ρ1 H1 vs e1 rs1 rx re1 p1 => ?_
  by_cases hz : ds.length ≤ sizeLine
  · rw [if_pos hz] at p1
    refine ⟨by rw [rx.length]; exact hz, fun q hq => ?_⟩
    exact p1 ρ1 _ _ (Ex.new1 hq) (rs1.aside hq) (.tup upd_same (rs1.fresh hq) (rx.mono (Ex.new1 hq)))
  · rw [if_neg hz] at p1; exact p1.elim
theorem sim_lst {ta : TA} {a : AM} (ha : SimA g E ta a) : SimE g E (tLst ta) (mLst a) := by
  intro l σ H Q ρ S env re rs p
  refine ha.bind re rs p fun ds S1 ρ1 H1 vs e1 rs1 rx re1 p1 => ?_
  by_cases hz : ds.length ≤ sizeLine
  · rw [if_pos hz] at p1
    refine ⟨by rw [rx.length]; exact hz, fun q hq => ?_⟩
    exact p1 ρ1 _ _ (Ex.new1 hq) (rs1.aside hq) (.lst upd_same (rs1.fresh hq) (rx.mono (Ex.new1 hq)))
  · rw [if_neg hz] at p1; exact p1.elim
theorem sim_lstL {ta : TA} {a : AM} (ha : SimA g E ta a) : SimE g E (tLst ta) (mLstL a) := by
  intro l σ H Q ρ S env re rs p
  refine ha.bind re rs p fun ds S1 ρ1 H1 vs e1 rs1 rx re1 p1 => ?_
  by_cases hz : ds.length ≤ sizeLine
  · rw [if_pos hz] at p1
    refine ⟨by rw [rx.length]; exact hz, fun q hq => ?_⟩
    obtain ⟨e, rs2⟩ := rs1.push (o := .lst vs) (ob := .lst ds) hq fun ρ' H' e q => ⟨vs, q, rx.mono e⟩
    exact p1 _ _ _ e rs2 (.loc (by rw [← rs1.len]; simp))
  · rw [if_neg hz] at p1; exact p1.elim
/-- a call by its promise -/
theorem sim_cb {r : List V → Hp → VK → Prop} {f : List D → Store → Res D} {ta : TA} {a : AM} (h : CallSim g E r f) (ha : SimA g E ta a) : SimE g E (tCB r ta) (mCall f a) := by
  intro l σ H Q ρ S env re rs p
  exact ha.bind re rs p fun ds S1 ρ1 H1 vs e1 rs1 rx re1 p1 => h l vs H1 Q ρ1 S1 ds rx rs1 p1
theorem sim_if {tc : TT} {ta tb : TE} {c : BM} {a b : EM} (hc : SimT g E tc c) (ha : SimE g E ta a) (hb : SimE g E tb b) : SimE g E (tIf tc ta tb) (mIf c a b) := by
  intro l σ H Q ρ S env re rs p
  refine hc.bindE re rs p fun k S1 ρ1 H1 e1 rs1 re1 p1 => ?_
  cases k with
  | true => exact ha l σ H1 Q ρ1 S1 env re1 rs1 p1
  | false => exact hb l σ H1 Q ρ1 S1 env re1 rs1 p1
theorem simt_test {ta : TE} {a : EM} (ha : SimE g E ta a) : SimT g E (tTest ta) (bVal a) := by
  intro l σ H Q ρ S env re rs p
  refine ha.bindT re rs p fun x S1 ρ1 H1 v e1 rs1 rx re1 p1 => ?_
  cases rx with
  | bl b => exact ⟨b, rfl, p1 ρ1 H1 Ex.refl rs1⟩
  | _ => exact p1.elim
theorem simt_tB {ta : TE} {a : EM} (ha : SimE g E ta a) : SimT g E (tB ta) (bVal a) := by
  intro l σ H Q ρ S env re rs p
  refine ha.bindT re rs p fun x S1 ρ1 H1 v e1 rs1 rx re1 p1 => ?_
  cases rx with
  | bl b => exact ⟨b, rfl, p1 ρ1 H1 Ex.refl rs1⟩
  | _ => exact p1.elim
theorem simt_and {ta tb : TT} {a b : BM} (ha : SimT g E ta a) (hb : SimT g E tb b) : SimT g E (tAnd ta tb) (bAnd a b) := by
  intro l σ H Q ρ S env re rs p
  refine ha.bind re rs p fun k S1 ρ1 H1 e1 rs1 re1 p1 => ?_
  cases k with
  | true => exact hb l σ H1 Q ρ1 S1 env re1 rs1 p1
  | false => exact p1 ρ1 H1 Ex.refl rs1
theorem simt_or {ta tb : TT} {a b : BM} (ha : SimT g E ta a) (hb : SimT g E tb b) : SimT g E (tOr ta tb) (bOr a b) := by
  intro l σ H Q ρ S env re rs p
  refine ha.bind re rs p fun k S1 ρ1 H1 e1 rs1 re1 p1 => ?_
  cases k with
  | false => exact hb l σ H1 Q ρ1 S1 env re1 rs1 p1
  | true => exact p1 ρ1 H1 Ex.refl rs1
theorem simt_not {ta : TT} {a : BM} (ha : SimT g E ta a) : SimT g E (tNot ta) (bNot a) := by
  intro l σ H Q ρ S env re rs p
  refine ha.bind re rs p fun k S1 ρ1 H1 e1 rs1 re1 p1 => ?_
  exact p1 ρ1 H1 Ex.refl rs1
theorem simt_yes : SimT g E tYes bYes := fun l σ H Q ρ S env re rs p => p ρ H Ex.refl rs
theorem sim_and {ta tb : TE} {a b : EM} (ha : SimE g E ta a) (hb : SimE g E tb b) : SimE g E (tAndV ta tb) (mAndV a b) := by
  intro l σ H Q ρ S env re rs p
  refine ha.bind re rs p fun x S1 ρ1 H1 v e1 rs1 rx re1 p1 => ?_
  cases rx with
  | bl k =>
    refine ⟨k, rfl, ?_⟩
    cases k with
    | true => exact hb l σ H1 Q ρ1 S1 env re1 rs1 p1
    | false => exact p1 ρ1 H1 _ Ex.refl rs1 (.bl false)
  | _ => exact p1.elim
theorem sim_or {ta tb : TE} {a b : EM} (ha : SimE g E ta a) (hb : SimE g E tb b) : SimE g E (tOrV ta tb) (mOrV a b) := by
  intro l σ H Q ρ S env re rs p
  refine ha.bind re rs p fun x S1 ρ1 H1 v e1 rs1 rx re1 p1 => ?_
  cases rx with
  | bl k =>
    refine ⟨k, rfl, ?_⟩
    cases k with
    | false => exact hb l σ H1 Q ρ1 S1 env re1 rs1 p1
    | true => exact p1 ρ1 H1 _ Ex.refl rs1 (.bl true)
  | _ => exact p1.elim
theorem sim_not {ta : TE} {a : EM} (ha : SimE g E ta a) : SimE g E (tNotV ta) (mNotV a) := by
  intro l σ H Q ρ S env re rs p
  refine ha.bind re rs p fun x S1 ρ1 H1 v e1 rs1 rx re1 p1 => ?_
  cases rx with
  | bl k => exact ⟨k, rfl, p1 ρ1 H1 _ Ex.refl rs1 (.bl _)⟩
  | _ => exact p1.elim
/-! statements -/
theorem sims_next : SimS g E tNext sNext := fun l D' σ H ρ S env re rs p => p ρ H σ Ex.refl rs re
theorem sims_brk : SimS g E tBreak sBrk := fun l D' σ H ρ S env re rs p => p ρ H σ Ex.refl rs re
theorem sims_cont : SimS g E tCont sCont := fun l D' σ H ρ S env re rs p => p ρ H σ Ex.refl rs re
theorem sims_never {t : TS} : SimS g E t sNever := fun l D' σ H ρ S env re rs p => p.elim
theorem PN.of {ρ : List Addr} {H : Hp} {env' : En} {S' : Store} {P : L2.St → Hp → Prop} (h : ∀ ρ' H' σ', Ex ρ H ρ' H' → RS g ρ' S' H' → RE g ρ' H' σ' env' → P σ' H') : PN g ρ H P env' S' := h
theorem sims_seq {t u : TS} {a b : SM} (ha : SimS g E t a) (hb : SimS g E u b) : SimS g E (tSeq t u) (sSeq a b) := by
  intro l D' σ H ρ S env re rs p
  refine ha l { D' with nx := u D' } σ H ρ S env re rs ?_
  unfold sSeq at p
  cases e : a env S with
  | next env1 S1 =>
    rw [e] at p
    exact fun ρ1 H1 σ1 e1 rs1 re1 => hb l D' σ1 H1 ρ1 S1 env1 re1 rs1 (PostS.ex p e1)
  | ret d S1 => rw [e] at p; exact p
  | brk env1 S1 => rw [e] at p; exact p
  | cont env1 S1 => rw [e] at p; exact p
  | err x S1 => rw [e] at p; exact p
  | stuck => rw [e] at p; exact p
theorem sims_ret {ta : TE} {a : EM} (ha : SimE g E ta a) : SimS g E (tRet ta) (sRet a) := by
  intro l D' σ H ρ S env re rs p
  exact ha.bindS re rs p fun d S1 ρ1 H1 v e1 rs1 rx re1 p1 => p1 ρ1 H1 v Ex.refl rs1 rx
theorem sims_retN : SimS g E tRetN sRetN := fun l D' σ H ρ S env re rs p => p ρ H _ Ex.refl rs .non
theorem sims_drop {ta : TE} {a : EM} (ha : SimE g E ta a) : SimS g E (tDrop ta) (sDrop a) := by
  intro l D' σ H ρ S env re rs p
  exact ha.bindS re rs p fun d S1 ρ1 H1 v e1 rs1 rx re1 p1 => p1 ρ1 H1 σ Ex.refl rs1 re1
theorem sims_if {tc : TT} {t u : TS} {c : BM} {a b : SM} (hc : SimT g E tc c) (ha : SimS g E t a) (hb : SimS g E u b) : SimS g E (tIfS tc t u) (sIf c a b) := by
  intro l D' σ H ρ S env re rs p
  refine hc.bindS re rs p fun k S1 ρ1 H1 e1 rs1 re1 p1 => ?_
  cases k with
  | true => exact ha l D' σ H1 ρ1 S1 env re1 rs1 p1
  | false => exact hb l D' σ H1 ρ1 S1 env re1 rs1 p1
/-! targets -/
def PostG (g : G) (E : XK) (ρ : List Addr) (H : Hp) (Q : L2.St → Hp → Prop) : Res En → Prop
  | .ok env' S' => PN g ρ H Q env' S'
  | .err x S' => PX g E ρ H x S'
  | .stuck => False
def SimG (g : G) (E : XK) (t : TG) (m : GM) : Prop := ∀ l v σ H Q ρ S env d, RD (g.hide l) ρ H v d → RE (g.hide l) ρ H σ env → RS (g.hide l) ρ S H → PostG (g.hide l) E ρ H Q (m d env S) → t v σ H Q
def SimGs (g : G) (E : XK) (t : TGs) (m : List D → En → Store → Res En) : Prop := ∀ l vs σ H Q ρ S env ds, RDs (g.hide l) ρ H vs ds → RE (g.hide l) ρ H σ env → RS (g.hide l) ρ S H → PostG (g.hide l) E ρ H Q (m ds env S) → t vs σ H Q
theorem simg_name (i : Nat) : SimG g E (gName i) (gmName i) := fun l v σ H Q ρ S env d rv re rs p => p ρ H _ Ex.refl rs (re.set rv i)
theorem simg_nil : SimGs g E gNil gmNil := by
  intro l vs σ H Q ρ S env ds rv re rs p
  cases rv with
  | nil => exact ⟨rfl, p ρ H σ Ex.refl rs re⟩
  | cons h t => exact p.elim
theorem PostG.ex {ρ ρ1 : List Addr} {H H1 : Hp} {Q : L2.St → Hp → Prop} {r : Res En} (p : PostG g E ρ H Q r) (e : Ex ρ H ρ1 H1) : PostG g E ρ1 H1 Q r := by
  cases r with
  | ok d S' => exact PN.ex p e
  | err x S' => exact PX.ex p e
  | stuck => exact p
theorem simg_cons {t : TG} {u : TGs} {a : GM} {b : List D → En → Store → Res En} (ha : SimG g E t a) (hb : SimGs g E u b) : SimGs g E (gCons t u) (gmCons a b) := by
  intro l vs σ H Q ρ S env ds rv re rs p
  cases rv with
  | nil => exact p.elim
  | @cons v d vs' ds' h r =>
    refine ⟨v, vs', rfl, ?_⟩
    refine ha l v σ H _ ρ S env d h re rs ?_
    have p' : PostG (g.hide l) E ρ H Q ((a d env S).bind fun env' S' => b ds' env' S') := p
    cases e : a d env S with
    | ok env1 S1 => rw [e] at p'; exact fun ρ1 H1 σ1 e1 rs1 re1 => hb l vs' σ1 H1 Q ρ1 S1 env1 ds' (r.mono e1) re1 rs1 (PostG.ex p' e1)
    | err x S1 => rw [e] at p'; exact p'
    | stuck => rw [e] at p'; exact p'
theorem simg_tup {K : PySem.W.Frag} {n : Nat} {t : TGs} {a : List D → En → Store → Res En} (ha : SimGs g E t a) : SimG g E (gTup K n t) (gmTup n a) := by
  intro l v σ H Q ρ S env d rv re rs p
  cases rv with
  | @tup ad vs ds h hn r =>
    unfold gmTup at p
    by_cases hl : ds.length = n
    · simp only [if_pos hl] at p
      exact ⟨ad, vs, rfl, SqT.of h, by rw [r.length]; exact hl, ha l vs σ H Q ρ S env ds r re rs p⟩
    · simp only [if_neg hl] at p; exact p.elim
  | @tupX ad o vs ds h hd hn r =>
    unfold gmTup at p
    by_cases hl : ds.length = n
    · simp only [if_pos hl] at p
      exact ⟨ad, vs, rfl, .inl (.inr ⟨o, h⟩), by rw [r.length]; exact hl, ha l vs σ H Q ρ S env ds r re rs p⟩
    · simp only [if_neg hl] at p; exact p.elim
  | _ => exact p.elim
def SetSim (g₀ : G) (t : TSet) (f : D → D → D → Store → Option Store) : Prop := ∀ l o i v H Q ρ S d1 d2 d3 S', RD (g₀.hide l) ρ H o d1 → RD (g₀.hide l) ρ H i d2 → RD (g₀.hide l) ρ H v d3 → RS (g₀.hide l) ρ S H → f d1 d2 d3 S = some S' →
  (∀ ρ' H', Ex ρ H ρ' H' → RS (g₀.hide l) ρ' S' H' → Q H') → t o i v H Q
theorem simg_sub {to ti : TE} {t : TSet} {o i : EM} {f : D → D → D → Store → Option Store} (ho : SimE g E to o) (hi : SimE g E ti i) (hf : SetSim g t f) : SimG g E (gSub to ti t) (gmSub o i f) := by
  intro l v σ H Q ρ S env d rv re rs p
  unfold gmSub at p
  refine ho l σ H _ ρ S env re rs ?_
  cases e : o env S with
  | ok d1 S1 =>
    rw [e] at p
    refine fun ρ1 H1 v1 e1 rs1 r1 => ?_
    have p1 := PostG.ex p e1
    simp only [Res.bind] at p1
    refine hi l σ H1 _ ρ1 S1 env (re.mono e1) rs1 ?_
    cases e' : i env S1 with
    | ok d2 S2 =>
      rw [e'] at p1
      refine fun ρ2 H2 v2 e2 rs2 r2 => ?_
      have p2 := PostG.ex p1 e2
      simp only [Res.bind] at p2
      cases e3 : f d1 d2 d S2 with
      | some S3 =>
        rw [e3] at p2
        exact hf l v1 v2 v H2 _ ρ2 S2 d1 d2 d S3 (r1.mono e2) r2 (rv.mono (e1.trans e2)) rs2 e3 fun ρ3 H3 e4 rs3 => p2 ρ3 H3 σ e4 rs3 (re.mono ((e1.trans e2).trans e4))
      | none => rw [e3] at p2; exact p2.elim
    | err x S2 => rw [e'] at p1; exact p1
    | stuck => rw [e'] at p1; exact p1
  | err x S1 => rw [e] at p; exact p
  | stuck => rw [e] at p; exact p
theorem sims_asg {te : TE} {t : TG} {a : EM} {m : GM} (ha : SimE g E te a) (hg : SimG g E t m) : SimS g E (tAsg te t) (sAsg a m) := by
  intro l D' σ H ρ S env re rs p
  refine ha.bindS re rs p fun d S1 ρ1 H1 v e1 rs1 rx re1 p1 => ?_
  refine hg l v σ H1 _ ρ1 S1 env d rx re1 rs1 ?_
  cases e : m d env S1 with
  | ok env' S2 => rw [e] at p1; exact p1
  | err x S2 => rw [e] at p1; exact p1
  | stuck => rw [e] at p1; exact p1
end
end Lg

namespace Lg
open PySem L2

/-- an iterator that gives these things, whatever is done beside it -/
def WalkD (g : G) (ρ : List Addr) (H : Hp) (J : It) (ds : List D) : Prop := ∃ (G' : Hp → Prop) (Y : Nat → Hp → V → Hp → Prop), Walk J ds.length G' Y ∧ (∀ ρ' H', Ex ρ H ρ' H' → G' H') ∧
  ∀ i ρ' H' x H'' S, i < ds.length → Ex ρ H ρ' H' → RS g ρ' S H' → Y i H' x H'' → ∃ d, ds[i]? = some d ∧ Ex ρ' H' ρ' H'' ∧ RS g ρ' S H'' ∧ RD g ρ' H'' x d ∧ ∀ p o, H' p = some o → H'' p = some o
def SimI (g : G) (E : XK) (wi : TI) (m : IM) : Prop := ∀ l σ H R ρ S env, RE (g.hide l) ρ H σ env → RS (g.hide l) ρ S H →
  (match m env S with
   | .ok ds S' => ∀ ρ' H' J, Ex ρ H ρ' H' → RS (g.hide l) ρ' S' H' → (∀ l', (∀ a, a ∈ l' → a ∈ l ∨ H' a = none) → WalkD (g.hide l') ρ' H' J ds) → R J H'
   | .err x S' => PX (g.hide l) E ρ H x S'
   | .stuck => False) → wi σ H R

theorem drop_at {α : Type} {ds : List α} {i : Nat} {d : α} (h : ds[i]? = some d) : ds.drop i = d :: ds.drop (i + 1) := by
  obtain ⟨hi, e⟩ := List.getElem?_eq_some_iff.mp h
  rw [List.drop_eq_getElem_cons hi, e]

section
variable {g : G} {E : XK}
theorem sims_for {wi : TI} {gt : TG} {tb : TS} {it : IM} {gm : GM} {bm : SM} (hi : SimI g E wi it) (hg : SimG g E gt gm) (hb : SimS g E tb bm) : SimS g E (tFor wi gt tb) (sForI it gm bm) := by
  intro l D' σ H ρ S env re rs p
  refine hi l σ H _ ρ S env re rs ?_
  unfold sForI at p
  cases e : it env S with
  | err x S' => rw [e] at p; exact p
  | stuck => rw [e] at p; exact p
  | ok ds S1 =>
    rw [e] at p
    simp only [Res.bindS] at p
    intro ρ1 H1 J e1 rs1 wd0
    obtain ⟨G', Y, w, wg, wy⟩ := wd0 l fun a h => .inl h
    refine for_it w (fun i σ' H' => ∃ ρ' S' env', Ex ρ1 H1 ρ' H' ∧ RS (g.hide l) ρ' S' H' ∧ RE (g.hide l) ρ' H' σ' env' ∧ PostS (g.hide l) E ρ' H' D' (sFor gm bm (ds.drop i) env' S')) ?_ ?_ ?_ ?_
    · exact ⟨ρ1, S1, env, Ex.refl, rs1, re.mono e1, by simpa using PostS.ex p e1⟩
    · rintro i σ' H' _ ⟨ρ', S', env', e2, _⟩
      exact wg ρ' H' e2
    · rintro i x σ' H' H'' hi' ⟨ρ', S', env', e2, rs2, re2, p2⟩ y
      obtain ⟨d, hd, e3, rs3, rx, _⟩ := wy i ρ' H' x H'' S' hi' e2 rs2 y
      rw [drop_at hd] at p2
      refine hg l x σ' H'' _ ρ' S' env' d rx (re2.mono e3) rs3 ?_
      have p3 := PostS.ex p2 e3
      have p3' : PostS (g.hide l) E ρ' H'' D' ((gm d env' S').bindS fun env1 S1 => match bm env1 S1 with
        | .next env2 S2 => sFor gm bm (ds.drop (i + 1)) env2 S2
        | .cont env2 S2 => sFor gm bm (ds.drop (i + 1)) env2 S2
        | .brk env2 S2 => .next env2 S2
        | q => q) := p3
      cases eg : gm d env' S' with
      | err x S' => rw [eg] at p3'; exact p3'
      | stuck => rw [eg] at p3'; exact p3'
      | ok env1 S2 =>
        rw [eg] at p3'
        simp only [Res.bindS] at p3'
        intro ρ4 H4 σ4 e4 rs4 re4
        refine hb l _ σ4 H4 ρ4 S2 env1 re4 rs4 ?_
        have p4 := PostS.ex p3' e4
        have e14 := (e2.trans e3).trans e4
        cases eb : bm env1 S2 with
        | next env2 S3 => rw [eb] at p4; exact fun ρ5 H5 σ5 e5 rs5 re5 => ⟨ρ5, S3, env2, e14.trans e5, rs5, re5, PostS.ex p4 e5⟩
        | cont env2 S3 => rw [eb] at p4; exact fun ρ5 H5 σ5 e5 rs5 re5 => ⟨ρ5, S3, env2, e14.trans e5, rs5, re5, PostS.ex p4 e5⟩
        | brk env2 S3 => rw [eb] at p4; exact p4
        | ret d S3 => rw [eb] at p4; exact p4
        | err x S3 => rw [eb] at p4; exact p4
        | stuck => rw [eb] at p4; exact p4
    · rintro σ' H' ⟨ρ', S', env', e2, rs2, re2, p2⟩
      rw [List.drop_length] at p2
      exact p2 ρ' H' σ' Ex.refl rs2 re2
theorem sims_while {tc : TT} {tb : TS} {cm : BM} {bm : SM} (n : Nat) (hc : SimT g E tc cm) (hb : SimS g E tb bm) : SimS g E (tWhile tc tb) (sWhile cm bm n) := by
  intro l D' σ H ρ S env re rs p
  refine ⟨fun m σ' H' => ∃ ρ' S' env', RS (g.hide l) ρ' S' H' ∧ RE (g.hide l) ρ' H' σ' env' ∧ PostS (g.hide l) E ρ' H' D' (sWhile cm bm m env' S'), ⟨n, ρ, S, env, rs, re, p⟩, ?_⟩
  rintro m σ1 H1 ⟨ρ1, S1, env1, rs1, re1, p1⟩
  cases m with
  | zero => exact p1.elim
  | succ m =>
    have p1' : PostS (g.hide l) E ρ1 H1 D' ((cm env1 S1).bindS fun k S1 => if k = true then
      match bm env1 S1 with
      | .next env2 S2 => sWhile cm bm m env2 S2
      | .cont env2 S2 => sWhile cm bm m env2 S2
      | .brk env2 S2 => .next env2 S2
      | q => q
    else .next env1 S1) := p1
    refine hc.bindS re1 rs1 p1' fun k S2 ρ2 H2 e2 rs2 re2 p2 => ?_
    cases k with
    | false => exact p2 ρ2 H2 σ1 Ex.refl rs2 re2
    | true =>
      simp only [if_true] at p2 ⊢
      refine ⟨fun σ' H' => ∃ ρ' S' env', RS (g.hide l) ρ' S' H' ∧ RE (g.hide l) ρ' H' σ' env' ∧ PostS (g.hide l) E ρ' H' D' (sWhile cm bm m env' S'), fun σ' H' q => ⟨m, Nat.lt_succ_self m, q⟩, ?_⟩
      refine hb l _ σ1 H2 ρ2 S2 env1 re2 rs2 ?_
      cases eb : bm env1 S2 with
      | next env2 S3 => rw [eb] at p2; exact fun ρ5 H5 σ5 e5 rs5 re5 => ⟨ρ5, S3, env2, rs5, re5, PostS.ex p2 e5⟩
      | cont env2 S3 => rw [eb] at p2; exact fun ρ5 H5 σ5 e5 rs5 re5 => ⟨ρ5, S3, env2, rs5, re5, PostS.ex p2 e5⟩
      | brk env2 S3 => rw [eb] at p2; exact p2
      | ret d S3 => rw [eb] at p2; exact p2
      | err x S3 => rw [eb] at p2; exact p2
      | stuck => rw [eb] at p2; exact p2
/-- no error leaves -/
theorem px0 {ρ : List Addr} {H : Hp} {x : Exc} {S' : Store} {l : List Addr} (h : False) : PX (g.hide l) E0 ρ H x S' := h.elim

/-- the comprehension's turns: Dl is the new list, hidden meanwhile -/
theorem lc_turns {wi : TI} {gt : TG} {tt : TT} {te : TE} {it : IM} {gm : GM} {tm : BM} {em : EM} {vs : List Nat} (hi : SimI g E wi it) (hg : SimG g E0 gt gm) (ht : SimT g E0 tt tm) (he : SimE g E0 te em)
    (hws : ∀ v σ H Q, gt v σ H Q → gt v σ H fun σ2 H2 => L2.wipe σ2 vs = L2.wipe σ vs ∧ Q σ2 H2)
    {l : List Addr} {σ : L2.St} {H : Hp} {Q : VK} {ρ : List Addr} {S : Store} {env : En} {f : List D → Store → Res D} (hwi : L2.wipe (L2.wipe σ vs) vs = L2.wipe σ vs) (re : RE (g.hide l) ρ H σ env) (rs : RS (g.hide l) ρ S H)
    (p : PostE (g.hide l) E ρ H Q ((it env S).bind fun ds S1 => (mLcGo gm tm em (wipeE env vs) ds [] S1).bind f))
    (k : ∀ Dl xs ws S2 ρ2 H2, Ex ρ H ρ2 H2 → RS (g.hide (Dl :: l)) ρ2 S2 H2 → Dl ∉ l → H2 Dl = some (.lst ws) → RDs (g.hide (Dl :: l)) ρ2 H2 ws xs → PostE (g.hide l) E ρ H Q (f xs S2) → H Dl = none → Dl ∉ ρ → Q (.ref Dl) H2) :
    tLc wi gt tt te vs σ H Q := by
  refine hi l σ H _ ρ S env re rs ?_
  cases e : it env S with
  | err x S' => rw [e] at p; exact p
  | stuck => rw [e] at p; exact p
  | ok ds S1 =>
    rw [e] at p
    have p : PostE (g.hide l) E ρ H Q ((mLcGo gm tm em (wipeE env vs) ds [] S1).bind f) := p
    intro ρ1 H1 J e1 rs1 wd0 Dl hD
    have nDl : Dl ∉ l := (rs1.fresh hD).2
    have nDρ1 : Dl ∉ ρ1 := (rs1.fresh hD).1
    have nDρ : Dl ∉ ρ := fun m => by
      obtain ⟨n, hn, en⟩ := List.getElem_of_mem m
      exact nDρ1 (List.mem_of_getElem? (e1.at (show ρ[n]? = some Dl by rw [List.getElem?_eq_getElem hn, en])))
    have hDn : H Dl = none := by
      cases q : H Dl with
      | none => rfl
      | some o => rw [e1.keep Dl o nDρ q] at hD; cases hD
    obtain ⟨G', Y, w, wg, wy⟩ := wd0 (Dl :: l) fun a m => (List.mem_cons.mp m).elim (fun z => .inr (z ▸ hD)) .inl
    refine lc_it w (fun i H' => ∃ ρ' S' acc ws, Ex ρ1 H1 ρ' H' ∧ RS (g.hide (Dl :: l)) ρ' S' H' ∧ H' Dl = some (.lst ws) ∧ RDs (g.hide (Dl :: l)) ρ' H' ws acc ∧
      PostE (g.hide l) E ρ H Q ((mLcGo gm tm em (wipeE env vs) (ds.drop i) acc S').bind f)) ?_ ?_ ?_ ?_
    · exact ⟨ρ1, S1, [], [], Ex.new1 hD, rs1.hide hD, upd_same, .nil, p⟩
    · rintro i H' _ ⟨ρ', S', acc, ws, e2, _⟩
      exact wg ρ' H' e2
    · rintro i x H' H'' hi' ⟨ρ', S', acc, ws, e2, rs2, hDw, racc, p2⟩ y
      obtain ⟨d, hd, e3, rs3, rx, kp⟩ := wy i ρ' H' x H'' S' hi' e2 rs2 y
      rw [drop_at hd] at p2
      have e23 := e2.trans e3
      have re3 : RE (g.hide (Dl :: l)) ρ' H'' (L2.wipe σ vs) (wipeE env vs) := RE.tr (g := g.hide l) (g' := g.hide (Dl :: l)) rfl (fun _ _ h => e23.at h) (ahead_k hD e23) ((re.mono e1).wipe vs)
      have nD' : Dl ∉ ρ' := (rs3.hd Dl List.mem_cons_self).2
      have hDw3 := kp _ _ hDw
      have racc3 := racc.mono e3
      refine hws x _ H'' _ ?_ |> fun z => by rw [hwi] at z; exact z
      refine hg (Dl :: l) x (L2.wipe σ vs) H'' _ ρ' S' (wipeE env vs) d rx re3 rs3 ?_
      have p3 : PostE (g.hide l) E ρ H Q ((match gm d (wipeE env vs) S' with
        | .ok env1 S1 => match tm env1 S1 with
          | .ok true S2 => match em env1 S2 with
            | .ok x S3 => if acc.length < sizeLine then mLcGo gm tm em (wipeE env vs) (ds.drop (i + 1)) (acc ++ [x]) S3 else .stuck
            | _ => .stuck
          | .ok false S2 => mLcGo gm tm em (wipeE env vs) (ds.drop (i + 1)) acc S2
          | _ => .stuck
        | _ => .stuck : Res (List D)).bind f) := p2
      cases eg : gm d (wipeE env vs) S' with
      | err x S' => rw [eg] at p3; exact p3.elim
      | stuck => rw [eg] at p3; exact p3.elim
      | ok env1 S2 =>
        rw [eg] at p3
        dsimp only at p3
        intro ρ4 H4 σ4 e4 rs4 re4
        refine ht (Dl :: l) σ4 H4 _ ρ4 S2 env1 re4 rs4 ?_
        cases et : tm env1 S2 with
        | err x S' => rw [et] at p3; exact p3.elim
        | stuck => rw [et] at p3; exact p3.elim
        | ok b S3 =>
          rw [et] at p3
          intro ρ5 H5 e5 rs5
          have hDw5 := e5.keep _ _ (rs4.hd Dl List.mem_cons_self).2 (e4.keep _ _ nD' hDw3)
          cases b with
          | false =>
            exact ⟨ρ5, S3, acc, ws, (e23.trans e4).trans e5, rs5, hDw5, (racc3.mono e4).mono e5, p3⟩
          | true =>
            dsimp only at p3
            refine he (Dl :: l) σ4 H5 _ ρ5 S3 env1 (re4.mono e5) rs5 ?_
            cases ee : em env1 S3 with
            | err x S' => rw [ee] at p3; exact p3.elim
            | stuck => rw [ee] at p3; exact p3.elim
            | ok z S4 =>
              rw [ee] at p3
              dsimp only at p3
              intro ρ6 H6 v6 e6 rs6 rz
              have hDw6 := e6.keep _ _ (rs5.hd Dl List.mem_cons_self).2 hDw5
              have racc6 := ((racc3.mono e4).mono e5).mono e6
              by_cases hz : acc.length < sizeLine
              · rw [if_pos hz] at p3
                have e16 := ((e23.trans e4).trans e5).trans e6
                refine ⟨ws, hDw6, by rw [racc6.length]; exact hz, ρ6, S4, acc ++ [z], ws ++ [v6], Ex.mut e16 hD, rs6.hidden, upd_same, ?_, p3⟩
                exact (RDs.tr (g := g.hide (Dl :: l)) (g' := g.hide (Dl :: l)) rfl (fun _ _ h => h) hidden_k (racc6.snoc rz))
              · rw [if_neg hz] at p3; exact p3.elim
    · rintro H' ⟨ρ', S', acc, ws, e2, rs2, hDw, racc, p2⟩
      rw [List.drop_length] at p2
      exact k Dl acc ws S' ρ' H' (e1.trans e2) rs2 nDl hDw racc p2 hDn nDρ
end
end Lg

namespace Lg
open PySem L2

/-! ### comprehensions -/
theorem wipe_set (σ : L2.St) (i : Nat) (x : Option V) : ∀ vs : List Nat, L2.wipe (σ.set i x) vs = if i ∈ vs then L2.wipe σ vs else (L2.wipe σ vs).set i x
  | [] => by simp [L2.wipe]
  | v :: vs => by
    show (L2.wipe (σ.set i x) vs).set v none = if i ∈ v :: vs then (L2.wipe σ vs).set v none else ((L2.wipe σ vs).set v none).set i x
    rw [wipe_set σ i x vs]
    by_cases h : i ∈ vs
    · rw [if_pos h, if_pos (List.mem_cons_of_mem _ h)]
    · rw [if_neg h]
      by_cases e : i = v
      · subst e
        rw [if_pos List.mem_cons_self, List.set_set]
      · rw [if_neg (by simp [e, h]), List.set_comm _ _ e]
theorem wipe_wipe (σ : L2.St) : ∀ vs : List Nat, L2.wipe (L2.wipe σ vs) vs = L2.wipe σ vs
  | [] => rfl
  | v :: vs => by
    show (L2.wipe ((L2.wipe σ vs).set v none) vs).set v none = (L2.wipe σ vs).set v none
    rw [wipe_set, wipe_wipe σ vs]
    by_cases h : v ∈ vs
    · rw [if_pos h]
    · rw [if_neg h, List.set_set]
/-- a target whose names are the comprehension's own -/
def Own (vs : List Nat) (t : TG) : Prop := ∀ v σ H Q, t v σ H Q → t v σ H fun σ2 H2 => L2.wipe σ2 vs = L2.wipe σ vs ∧ Q σ2 H2
def Owns (vs : List Nat) (t : TGs) : Prop := ∀ v σ H Q, t v σ H Q → t v σ H fun σ2 H2 => L2.wipe σ2 vs = L2.wipe σ vs ∧ Q σ2 H2
theorem own_name {vs : List Nat} {i : Nat} (h : i ∈ vs) : Own vs (gName i) := fun v σ H Q q => ⟨by rw [wipe_set, if_pos h], q⟩
theorem owns_nil {vs : List Nat} : Owns vs gNil := fun v σ H Q q => ⟨q.1, rfl, q.2⟩
theorem owns_cons {vs : List Nat} {t : TG} {u : TGs} (ht : Own vs t) (mt : ∀ v σ H Q Q', (∀ σ' H', Q σ' H' → Q' σ' H') → t v σ H Q → t v σ H Q') (hu : Owns vs u) (mu : ∀ v σ H Q Q', (∀ σ' H', Q σ' H' → Q' σ' H') → u v σ H Q → u v σ H Q') : Owns vs (gCons t u) := by
  intro v σ H Q q
  obtain ⟨x, r, e, h⟩ := q
  refine ⟨x, r, e, mt _ _ _ _ _ (fun σ' H' z => ?_) (ht _ _ _ _ h)⟩
  obtain ⟨z1, z2⟩ := z
  exact mu _ _ _ _ _ (fun σ2 H2 y => ⟨y.1.trans z1, y.2⟩) (hu _ _ _ _ z2)
theorem own_tup {vs : List Nat} {K : PySem.W.Frag} {n : Nat} {t : TGs} (h : Owns vs t) : Own vs (gTup K n t) := by
  intro v σ H Q q
  obtain ⟨a, xs, e, h1, h2, h3⟩ := q
  exact ⟨a, xs, e, h1, h2, h _ _ _ _ h3⟩
theorem mono_name {i : Nat} : ∀ v σ H (Q Q' : L2.St → Hp → Prop), (∀ σ' H', Q σ' H' → Q' σ' H') → gName i v σ H Q → gName i v σ H Q' := fun _ _ _ _ _ f q => f _ _ q
theorem monos_nil : ∀ v σ H (Q Q' : L2.St → Hp → Prop), (∀ σ' H', Q σ' H' → Q' σ' H') → gNil v σ H Q → gNil v σ H Q' := fun _ _ _ _ _ f q => ⟨q.1, f _ _ q.2⟩
theorem monos_cons {t : TG} {u : TGs} (mt : ∀ v σ H Q Q', (∀ σ' H', Q σ' H' → Q' σ' H') → t v σ H Q → t v σ H Q') (mu : ∀ v σ H Q Q', (∀ σ' H', Q σ' H' → Q' σ' H') → u v σ H Q → u v σ H Q') :
    ∀ v σ H (Q Q' : L2.St → Hp → Prop), (∀ σ' H', Q σ' H' → Q' σ' H') → gCons t u v σ H Q → gCons t u v σ H Q' := by
  intro v σ H Q Q' f q
  obtain ⟨x, r, e, h⟩ := q
  exact ⟨x, r, e, mt _ _ _ _ _ (fun σ' H' z => mu _ _ _ _ _ f z) h⟩
theorem mono_tup {K : PySem.W.Frag} {n : Nat} {t : TGs} (mt : ∀ v σ H Q Q', (∀ σ' H', Q σ' H' → Q' σ' H') → t v σ H Q → t v σ H Q') :
    ∀ v σ H (Q Q' : L2.St → Hp → Prop), (∀ σ' H', Q σ' H' → Q' σ' H') → gTup K n t v σ H Q → gTup K n t v σ H Q' := by
  intro v σ H Q Q' f q
  obtain ⟨a, xs, e, h1, h2, h3⟩ := q
  exact ⟨a, xs, e, h1, h2, mt _ _ _ _ _ f h3⟩
section
variable {g : G} {E : XK}
/-- the new list is nobody's to change -/
theorem sim_lc {wi : TI} {gt : TG} {tt : TT} {te : TE} {it : IM} {gm : GM} {tm : BM} {em : EM} {vs : List Nat} (hi : SimI g E wi it) (hg : SimG g E0 gt gm) (ho : Own vs gt) (ht : SimT g E0 tt tm) (he : SimE g E0 te em) :
    SimE g E (tLc wi gt tt te vs) (mLc it gm tm em vs) := by
  intro l σ H Q ρ S env re rs p
  refine lc_turns hi hg ht he ho (wipe_wipe σ vs) re rs (f := fun xs S2 => .ok (.lst xs) S2) p fun Dl xs ws S2 ρ2 H2 e rs2 hl hD rx p2 hn nρ => ?_
  have nD : Dl ∉ ρ2 := (rs2.hd Dl List.mem_cons_self).2
  refine p2 ρ2 H2 _ e (rs2.unhide hl fun _ _ => rfl) (.lst hD ⟨nD, hl⟩ ?_)
  exact RDs.tr (g := g.hide (Dl :: l)) (g' := g.hide l) rfl (fun _ _ h => h) (show_k fun _ _ => rfl) rx
theorem sim_lcL {wi : TI} {gt : TG} {tt : TT} {te : TE} {it : IM} {gm : GM} {tm : BM} {em : EM} {vs : List Nat} (hi : SimI g E wi it) (hg : SimG g E0 gt gm) (ho : Own vs gt) (ht : SimT g E0 tt tm) (he : SimE g E0 te em) :
    SimE g E (tLc wi gt tt te vs) (mLcL it gm tm em vs) := by
  intro l σ H Q ρ S env re rs p
  refine lc_turns hi hg ht he ho (wipe_wipe σ vs) re rs (f := fun xs S2 => .ok (.loc S2.length) (S2 ++ [Ob.lst xs])) p fun Dl xs ws S2 ρ2 H2 e rs2 hl hD rx p2 hn nρ => ?_
  have nD : Dl ∉ ρ2 := (rs2.hd Dl List.mem_cons_self).2
  let H3 : Hp := fun a => if a = Dl then none else H2 a
  have k3 : ∀ a, a ≠ Dl → H3 a = H2 a := fun a h => if_neg h
  have rs3 : RS (g.hide l) ρ2 S2 H3 := rs2.unhide hl k3
  have hD3 : H3 Dl = none := if_pos rfl
  have e3 : Ex ρ H ρ2 H3 := ⟨e.new, fun a o n h => by rw [k3 a (ne_of_none h hn)]; exact e.keep a o n h⟩
  have u3 : upd H3 Dl (.lst ws) = H2 := by
    funext a
    by_cases h : a = Dl
    · rw [h, upd_same, hD]
    · rw [upd_ne h, k3 a h]
  have rx3 : RDs (g.hide l) ρ2 H3 ws xs := RDs.tr (g := g.hide (Dl :: l)) (g' := g.hide l) rfl (fun _ _ h => h) (show_k k3) rx
  obtain ⟨e4, rs4⟩ := rs3.push (o := .lst ws) (ob := .lst xs) hD3 fun ρ' H' e' q => ⟨ws, q, rx3.mono e'⟩
  rw [u3] at e4 rs4
  exact p2 _ H2 _ (e3.trans e4) rs4 (.loc (by rw [← rs2.len]; simp))
end

/-! ### defs -/
def startE (n : Nat) (ds : List D) : En := ds.map some ++ List.replicate (n - ds.length) none
def mDef (n np : Nat) (m : SM) (ds : List D) (S : Store) : Res D := if ds.length = np then
    match m (startE n ds) S with
    | .ret d S' => .ok d S'
    | .next _ S' => .ok .non S'
    | .err x S' => .err x S'
    | _ => .stuck
  else .stuck
/-- the promise of a def that goes as f -/
def spOf (g : G) (n : Nat) (f : List D → Store → Res D) : Sp := fun vs H Q E => ∃ l ρ S ds, vs.length = n ∧ RDs (g.hide l) ρ H vs ds ∧ RS (g.hide l) ρ S H ∧ PostE (g.hide l) E ρ H Q (f ds S)
section
variable {g : G} {ρ : List Addr} {H : Hp}
theorem re_none (k : Nat) : RE g ρ H (List.replicate k none) (List.replicate k none) := by
  induction k with
  | zero => exact .nil
  | succ k ih => exact .cons (fun x q => by cases q) ih
theorem re_app : ∀ {σ σ' : L2.St} {e e' : En}, RE g ρ H σ e → RE g ρ H σ' e' → RE g ρ H (σ ++ σ') (e ++ e')
  | _, _, _, _, .nil, s => s
  | _, _, _, _, .cons h t, s => .cons h (re_app t s)
theorem re_some : ∀ {vs : List V} {ds : List D}, RDs g ρ H vs ds → RE g ρ H (vs.map some) (ds.map some)
  | _, _, .nil => .nil
  | _, _, .cons h t => .cons (fun x q => by cases q; exact ⟨_, rfl, h⟩) (re_some t)
theorem re_start {N : List PySem.Str} {vs : List V} {ds : List D} (r : RDs g ρ H vs ds) : RE g ρ H (L2.start N vs) (startE N.length ds) := by
  unfold L2.start startE
  rw [r.length]
  exact re_app (re_some r) (re_none _)
end
section
variable {P : Program} {w : World} {K : PySem.W.Frag} {mg : PySem.Str → Option Value} {base : Heap} {g : G}
/-- THE RULE for a def -/
theorem fn_sim {x qual : PySem.Str} {st : Stmt} {f : Addr} {fd : FuncData} {N ps : List PySem.Str} {k : Nat} {m : SM} (F : Fun K x qual st f fd) (Sc : FnScope N ps (defScope st))
    (hb : ∀ (cdv : Value) (A : Around) (outer : List Env) (s : Shared) (H : Hp) (E : XK), Room k (A.deeper (PyProof.Rows.envOfC qual (defScope st) s.heap.objs.size f cdv)) →
      ∃ t, PSs (cxOf (L2.CX P w) P w K mg base N qual (defScope st) f cdv A outer s H E) (defBody st) t ∧ SimS g E t m) :
    FnOk P w K mg base (L2.CX P w) (k + 1) f fd ps (spOf g ps.length (mDef N.length ps.length m)) := by
  refine F.okX Sc (fun vs H Q E h => ?_) (fun cdv A outer s H vs Q E hr h => ?_)
  · obtain ⟨l, ρ, S, ds, hl, _⟩ := h
    exact hl
  · obtain ⟨l, ρ, S, ds, hl, rd, rs, p⟩ := h
    obtain ⟨t, ht, hs⟩ := hb cdv A outer s H E hr
    refine ⟨t, ht, hs l _ _ H ρ S (startE N.length ds) (re_start rd) rs ?_⟩
    unfold mDef at p
    rw [if_pos (by rw [← rd.length]; exact hl)] at p
    cases e : m (startE N.length ds) S with
    | ret d S' => rw [e] at p; exact p
    | next env' S' => rw [e] at p; exact fun ρ' H' σ' e1 rs1 re1 => p ρ' H' .non e1 rs1 .non
    | err x S' => rw [e] at p; exact p
    | brk env' S' => rw [e] at p; exact p.elim
    | cont env' S' => rw [e] at p; exact p.elim
    | stuck => rw [e] at p; exact p.elim
end
theorem mDef_len {n np : Nat} {m : SM} {ds : List D} {S : Store} (h : ds.length ≠ np) : mDef n np m ds S = .stuck := by
  unfold mDef; rw [if_neg h]
/-- what goes only with n things -/
def Ar (n : Nat) (f : List D → Store → Res D) : Prop := ∀ ds S, ds.length ≠ n → f ds S = .stuck
theorem ar_def {n np : Nat} {m : SM} : Ar np (mDef n np m) := fun _ _ h => mDef_len h
section
variable {g : G} {E : XK}
theorem sp_go {n : Nat} {f : List D → Store → Res D} (ha : Ar n f) {l : List Addr} {ρ : List Addr} {S : Store} {H : Hp} {Q : VK} {vs : List V} {ds : List D} (r : RDs (g.hide l) ρ H vs ds) (rs : RS (g.hide l) ρ S H) (p : PostE (g.hide l) E ρ H Q (f ds S)) : spOf g n f vs H Q E := by
  refine ⟨l, ρ, S, ds, ?_, r, rs, p⟩
  by_cases h : ds.length = n
  · rw [r.length]; exact h
  · rw [ha ds S h] at p; exact p.elim
theorem sim_call {n : Nat} {f : List D → Store → Res D} {ta : TA} {a : AM} (hf : Ar n f) (ha : SimA g E ta a) : SimE g E (tCall (spOf g n f) [] E ta) (mCall f a) := by
  intro l σ H Q ρ S env re rs p
  refine ha.bind re rs p fun ds S1 ρ1 H1 vs e1 rs1 rx re1 p1 => ?_
  show spOf g n f (vs ++ []) H1 Q E
  rw [List.append_nil]
  exact sp_go hf rx rs1 p1
/-- with defaults -/
def mCallD (f : List D → Store → Res D) (dd : List D) (a : AM) : EM := fun env S => (a env S).bind fun ds S1 => f (ds ++ dd) S1
theorem sim_callD {n : Nat} {f : List D → Store → Res D} {ta : TA} {a : AM} {dvs : List V} {dd : List D} (hf : Ar n f) (hd : ∀ l ρ H, RDs (g.hide l) ρ H dvs dd) (ha : SimA g E ta a) : SimE g E (tCall (spOf g n f) dvs E ta) (mCallD f dd a) := by
  intro l σ H Q ρ S env re rs p
  exact ha.bind re rs p fun ds S1 ρ1 H1 vs e1 rs1 rx re1 p1 => sp_go hf (rx.append (hd l ρ1 H1)) rs1 p1

/-! ### objects -/
def lookF (f : PySem.Str) (fs : List (PySem.Str × D)) : Option D := fs.lookup f
/-- the object of the class c at d: its fields -/
def insAt (c : Nat) (d : D) (S : Store) : Option (List (PySem.Str × D)) := match d with
  | .loc n => match S[n]? with
    | some (.ins c' fs) => if c' = c then some fs else none
    | _ => none
  | _ => none
def mFld (c : Nat) (f : PySem.Str) (a : EM) : EM := fun env S => (a env S).bind fun d S1 => match insAt c d S1 with
  | some fs => match fs.lookup f with
    | some x => .ok x S1
    | none => .stuck
  | none => .stuck
def mMeth (c : Nat) (m : PySem.Str) (f : List D → Store → Res D) (dd : List D) (a : EM) (as : AM) : EM := fun env S => (a env S).bind fun d S1 => match insAt c d S1 with
  | some fs => match fs.lookup m with
    | none => (as env S1).bind fun ds S2 => f (d :: (ds ++ dd)) S2
    | some _ => .stuck
  | none => .stuck
def mMake (c : Nat) (f : List D → Store → Res D) (dd : List D) (as : AM) : EM := fun env S => (as env S).bind fun ds S1 => (f (.loc S1.length :: (ds ++ dd)) (S1 ++ [.ins c []])).bind fun v S2 => match v with
  | .non => .ok (.loc S1.length) S2
  | _ => .stuck
def putD (f : PySem.Str) (v : D) : List (PySem.Str × D) → List (PySem.Str × D)
  | [] => [(f, v)]
  | (h, x) :: r => if h = f then (h, v) :: r else (h, x) :: putD f v r
def sFldM (c : Nat) (f : PySem.Str) (o a : EM) : SM := fun env S => (a env S).bindS fun y S1 => (o env S1).bindS fun d S2 => match d with
  | .loc n => match S2[n]? with
    | some (.ins c' fs) => if c' = c ∧ fs.length < 1000 then .next env (S2.set n (.ins c (putD f y fs))) else .stuck
    | _ => .stuck
  | _ => .stuck
theorem RKV.lookup {ρ : List Addr} {H : Hp} {f : PySem.Str} : ∀ {xs : List (PySem.Str × V)} {ys : List (PySem.Str × D)}, RKV g ρ H xs ys → (∀ d, ys.lookup f = some d → ∃ v, xs.lookup f = some v ∧ RD g ρ H v d) ∧ (ys.lookup f = none → xs.lookup f = none)
  | _, _, .nil => ⟨fun d h => (nomatch h), fun _ => rfl⟩
  | (k1, v1) :: xs, (k2, d2) :: ys, .cons h t => by
    obtain ⟨e, r⟩ := h
    have e : k1 = k2 := e
    subst e
    have ih := RKV.lookup (f := f) t
    by_cases q : f = k1
    · subst q
      refine ⟨fun d h => ?_, fun h => ?_⟩
      · simp [List.lookup_cons_self] at h ⊢
        subst h; exact r
      · simp [List.lookup_cons_self] at h
    · have q' : (f == k1) = false := by simpa using q
      simp only [List.lookup_cons, q']
      exact ih
theorem RKV.length {κ : Type} {ρ : List Addr} {H : Hp} {xs : List (κ × V)} {ys : List (κ × D)} (r : RKV g ρ H xs ys) : xs.length = ys.length := Paired.length r
theorem RKV.putF {ρ : List Addr} {H : Hp} {f : PySem.Str} {v : V} {d : D} (rv : RD g ρ H v d) : ∀ {xs : List (PySem.Str × V)} {ys : List (PySem.Str × D)}, RKV g ρ H xs ys → RKV g ρ H (L2.putF f v xs) (putD f d ys)
  | _, _, .nil => .cons ⟨rfl, rv⟩ .nil
  | (k1, v1) :: xs, (k2, d2) :: ys, .cons h t => by
    obtain ⟨e, r⟩ := h
    have e : k1 = k2 := e
    subst e
    show RKV g ρ H (if k1 = f then (k1, v) :: xs else (k1, v1) :: L2.putF f v xs) (if k1 = f then (k1, d) :: ys else (k1, d2) :: putD f d ys)
    by_cases q : k1 = f
    · rw [if_pos q, if_pos q]; exact .cons ⟨rfl, rv⟩ t
    · rw [if_neg q, if_neg q]; exact .cons ⟨rfl, r⟩ (RKV.putF rv t)
theorem ins_at {l : List Addr} {ρ : List Addr} {S : Store} {H : Hp} {c : Nat} {v : V} {d : D} {fs : List (PySem.Str × D)} (rs : RS (g.hide l) ρ S H) (r : RD (g.hide l) ρ H v d) (h : insAt c d S = some fs) : ∃ n a dx fv, d = .loc n ∧ ρ[n]? = some a ∧ v = .ref a ∧ S[n]? = some (.ins c fs) ∧ H a = some (.ins (g.cls c) dx fv) ∧ RKV (g.hide l) ρ H fv fs := by
  cases r with
  | @loc n a hn =>
    unfold insAt at h
    dsimp only at h
    cases e : S[n]? with
    | none => rw [e] at h; cases h
    | some ob =>
      rw [e] at h
      cases ob with
      | ins c' fs' =>
        dsimp only at h
        by_cases q : c' = c
        · subst q
          rw [if_pos rfl] at h; cases h
          obtain ⟨dx, fv, h1, h2⟩ := rs.ob n a _ hn e
          exact ⟨n, a, dx, fv, rfl, hn, rfl, e, h1, h2⟩
        · rw [if_neg q] at h; cases h
      | _ => cases h
  | _ => cases h
theorem sim_fld {c : Nat} {f : PySem.Str} {K : PySem.W.Frag} {ta : TE} {a : EM} (cl : Cls K (g.cls c)) (na : NoAttr K (g.cls c) f) (ha : SimE g E ta a) : SimE g E (tFld K ta f) (mFld c f a) := by
  intro l σ H Q ρ S env re rs p
  refine ha.bind re rs p fun d S1 ρ1 H1 v e1 rs1 rx re1 p1 => ?_
  cases hI : insAt c d S1 with
  | none => rw [hI] at p1; exact p1.elim
  | some fs =>
    rw [hI] at p1
    dsimp only at p1
    obtain ⟨n, ad, dx, fv, e2, hn, e3, hS, hH, rk⟩ := ins_at rs1 rx hI
    cases hF : fs.lookup f with
    | none => rw [hF] at p1; exact p1.elim
    | some x =>
      rw [hF] at p1
      obtain ⟨y, h1, h2⟩ := (rk.lookup (f := f)).1 x hF
      exact ⟨ad, _, dx, fv, y, e3, hH, cl, na, h1, p1 ρ1 H1 y Ex.refl rs1 h2⟩
theorem sim_meth {n : Nat} {c : Nat} {m : PySem.Str} {f : List D → Store → Res D} {ta : TE} {a : EM} {tas : TA} {as : AM} {dvs : List V} {dd : List D} (hf : Ar n f) (hd : ∀ l ρ H, RDs (g.hide l) ρ H dvs dd) (ha : SimE g E ta a) (has : SimA g E tas as) :
    SimE g E (tMeth (g.cls c) m (spOf g n f) dvs E ta tas) (mMeth c m f dd a as) := by
  intro l σ H Q ρ S env re rs p
  refine ha.bind re rs p fun d S1 ρ1 H1 v e1 rs1 rx re1 p1 => ?_
  cases hI : insAt c d S1 with
  | none => rw [hI] at p1; exact p1.elim
  | some fs =>
    rw [hI] at p1
    dsimp only at p1
    obtain ⟨n, ad, dx, fv, e2, hn, e3, hS, hH, rk⟩ := ins_at rs1 rx hI
    cases hF : fs.lookup m with
    | some x => rw [hF] at p1; exact p1.elim
    | none =>
      rw [hF] at p1
      dsimp only at p1
      refine ⟨ad, dx, fv, e3, hH, (rk.lookup (f := m)).2 hF, ?_⟩
      exact has.bind re1 rs1 p1 fun ds S2 ρ2 H2 vs e4 rs2 ry re2 p2 => sp_go hf (.cons (rx.mono e4) (ry.append (hd l ρ2 H2))) rs2 p2
theorem sim_make {n : Nat} {c : Nat} {f : List D → Store → Res D} {tas : TA} {as : AM} {dvs : List V} {dd : List D} (hf : Ar n f) (hd : ∀ l ρ H, RDs (g.hide l) ρ H dvs dd) (has : SimA g E tas as) : SimE g E (tMake (g.cls c) (spOf g n f) dvs E tas) (mMake c f dd as) := by
  intro l σ H Q ρ S env re rs p
  refine has.bind re rs p fun ds S1 ρ1 H1 vs e1 rs1 rx re1 p1 => ?_
  intro x dx hx hdx ne
  have e2 : Ex ρ1 H1 ρ1 (upd H1 dx (.own x)) := Ex.new1 hdx
  have rs2 := rs1.aside (o := .own x) hdx
  have hx2 : upd H1 dx (.own x) x = none := by rw [upd_ne (Ne.symm ne)]; exact hx
  obtain ⟨e3, rs3⟩ := rs2.push (o := .ins (g.cls c) dx []) (ob := .ins c []) hx2 fun ρ' H' e' q => ⟨dx, [], q, RKV.mt⟩
  have e13 := e2.trans e3
  have rself : RD (g.hide l) (ρ1 ++ [x]) (upd (upd H1 dx (.own x)) x (.ins (g.cls c) dx [])) (.ref x) (.loc S1.length) := .loc (by rw [← rs1.len]; simp)
  refine sp_go hf (.cons rself ((rx.mono e13).append (hd l _ _))) rs3 ?_
  have p2 := PostE.ex p1 e13
  cases ef : f (.loc S1.length :: (ds ++ dd)) (S1 ++ [.ins c []]) with
  | err x' S' => rw [ef] at p2; exact p2
  | stuck => rw [ef] at p2; exact p2.elim
  | ok v S2 =>
    rw [ef] at p2
    simp only [Res.bind] at p2
    intro ρ' H' u e4 rs4 ru
    cases ru with
    | non => exact ⟨rfl, p2 ρ' H' _ e4 rs4 (.loc (e4.at (by rw [← rs1.len]; simp)))⟩
    | _ => exact p2.elim
theorem sims_fld {c : Nat} {f : PySem.Str} {K : PySem.W.Frag} {to ta : TE} {o a : EM} (cl : Cls K (g.cls c)) (na : NoAttr K (g.cls c) f) (ho : SimE g E to o) (ha : SimE g E ta a) : SimS g E (sFld K to ta f) (sFldM c f o a) := by
  intro l D' σ H ρ S env re rs p
  refine ha.bindS re rs p fun y S1 ρ1 H1 v e1 rs1 ry re1 p1 => ?_
  refine ho.bindS re1 rs1 p1 fun d S2 ρ2 H2 u e2 rs2 rd re2 p2 => ?_
  cases rd with
  | @loc n ad hn =>
    dsimp only at p2
    cases e : S2[n]? with
    | none => rw [e] at p2; exact p2.elim
    | some ob =>
      rw [e] at p2
      cases ob with
      | ins c' fs =>
        dsimp only at p2
        by_cases q : c' = c ∧ fs.length < 1000
        · rw [if_pos q] at p2
          obtain ⟨rfl, hl⟩ := q
          obtain ⟨dx, fv, h1, h2⟩ := rs2.ob n ad _ hn e
          obtain ⟨e3, rs3⟩ := rs2.put (o := .ins (g.cls c') dx (putF f v fv)) (ob := .ins c' (putD f y fs)) hn fun H' e' q' => ⟨dx, _, q', (h2.mono e').putF ((ry.mono e2).mono e')⟩
          exact ⟨ad, _, dx, fv, rfl, h1, cl, na, by rw [h2.length]; exact hl, p2 ρ2 _ σ e3 rs3 (re2.mono e3)⟩
        · rw [if_neg q] at p2; exact p2.elim
      | _ => exact p2.elim
  | _ => exact p2.elim
end
end Lg
namespace Lg
open PySem L2
section
variable {P : Program} {w : World} {K : PySem.W.Frag} {mg : PySem.Str → Option Value} {base : Heap} {N : List PySem.Str} {qual : PySem.Str} {scope : Scope} {f : Addr} {cd : Value} {A : Around} {outer : List Env} {s : Shared} {H : Hp} {E : XK}
theorem pD : Passes (L2.CX P w) (cxOf (L2.CX P w) P w K mg base N qual scope f cd A outer s H E) E := passes_call (takes_of rfl rfl rfl rfl) (fun _ _ _ _ h => h)
end
end Lg

namespace Lg
open PySem L2

/-! ### data as the library's data -/
mutual
def D.py : D → Option PyData
  | .non => some .none
  | .bl b => some (.bool b)
  | .int i => some (.int i)
  | .str s => some (.str s)
  | .tup ds => (pys ds).map .tuple
  | .tupX ds => (pys ds).map .tuple
  | .lst ds => (pys ds).map .list
  | _ => none
def pys : List D → Option (List PyData)
  | [] => some []
  | d :: ds => match d.py, pys ds with
    | some p, some ps => some (p :: ps)
    | _, _ => none
end
section
variable {g : G} {K : PySem.W.Frag} {ρ : List Addr} {H : Hp}
theorem dp_both {v : V} {d : D} (r : RD g ρ H v d) : ∀ p, d.py = some p → Dp K H v p := by
  refine RD.rec (motive_1 := fun v d _ => ∀ p, d.py = some p → Dp K H v p) (motive_2 := fun vs ds _ => ∀ ps, pys ds = some ps → DpAll K H vs ps) ?_ ?_ ?_ ?_ ?_ ?_ ?_ ?_ ?_ ?_ ?_ ?_ ?_ r
  · intro p h; simp [D.py] at h; subst h; exact .non
  · intro b p h; simp [D.py] at h; subst h; exact .bl b
  · intro i p h; simp [D.py] at h; subst h; exact .int i
  · intro s p h; simp [D.py] at h; subst h; exact .str s
  · intro a vs ds h n _ ih p e
    simp only [D.py, Option.map_eq_some_iff] at e
    obtain ⟨ps, e1, rfl⟩ := e
    exact .tup (SqT.of h) (ih ps e1)
  · intro a vs ds h n _ ih p e
    simp only [D.py, Option.map_eq_some_iff] at e
    obtain ⟨ps, e1, rfl⟩ := e
    exact .lst (SqL.of h) (ih ps e1)
  · intro a ns n p e; simp [D.py] at e
  · intro n a h p e; simp [D.py] at e
  · intro a o h n p e; simp [D.py] at e
  · intro a h n p e; simp [D.py] at e
  · intro a o vs ds h hd n _ ih p e
    simp only [D.py, Option.map_eq_some_iff] at e
    obtain ⟨ps, e1, rfl⟩ := e
    exact .tup (.inl (.inr ⟨o, h⟩)) (ih ps e1)
  · intro ps e; simp [pys] at e; subst e; exact .nil
  · intro v d vs ds _ _ ih1 ih2 ps e
    simp only [pys] at e
    split at e
    · rename_i p ps' e1 e2
      cases e
      exact .cons (ih1 p e1) (ih2 ps' e2)
    · cases e
theorem dps_of : ∀ {vs : List V} {ds : List D} {ps : List PyData}, RDs g ρ H vs ds → pys ds = some ps → DpAll K H vs ps
  | _, _, ps, .nil, e => by simp [pys] at e; subst e; exact .nil
  | _, _, ps, .cons h t, e => by
    simp only [pys] at e
    split at e
    · rename_i p ps' e1 e2
      cases e
      exact .cons (dp_both h p e1) (dps_of t e2)
    · cases e
end
/-- the items of a list, wherever it stands -/
def asL (d : D) (S : Store) : Option (List D) := match d with
  | .lst ds => some ds
  | .loc n => match S[n]? with
    | some (.lst ds) => some ds
    | _ => none
  | _ => none
def pyOf (d : D) (S : Store) : Option PyData := match d with
  | .loc n => match S[n]? with
    | some (.lst ds) => (pys ds).map .list
    | _ => none
  | d => d.py
section
variable {g : G} {K : PySem.W.Frag} {ρ : List Addr} {H : Hp} {S : Store} {v : V} {d : D}
theorem as_l {ds : List D} (rs : RS g ρ S H) (r : RD g ρ H v d) (h : asL d S = some ds) : ∃ a vs, v = .ref a ∧ H a = some (.lst vs) ∧ RDs g ρ H vs ds := by
  cases r with
  | @lst a vs ds' h1 n r => cases h; exact ⟨a, vs, rfl, h1, r⟩
  | @loc n a hn =>
    simp only [asL] at h
    split at h
    · rename_i ds' e
      cases h
      obtain ⟨vs, h1, h2⟩ := rs.ob n a _ hn e
      exact ⟨a, vs, rfl, h1, h2⟩
    · cases h
  | _ => cases h
theorem py_of {p : PyData} (rs : RS g ρ S H) (r : RD g ρ H v d) (h : pyOf d S = some p) : Dp K H v p := by
  cases r with
  | @loc n a hn =>
    simp only [pyOf] at h
    split at h
    · rename_i ds' e
      obtain ⟨vs, h1, h2⟩ := rs.ob n a _ hn e
      simp only [Option.map_eq_some_iff] at h
      obtain ⟨ps, e1, rfl⟩ := h
      exact .lst (SqL.of h1) (dps_of h2 e1)
    · cases h
  | non => exact dp_both (g := g) (ρ := ρ) .non p h
  | bl b => exact dp_both (g := g) (ρ := ρ) (.bl b) p h
  | int i => exact dp_both (g := g) (ρ := ρ) (.int i) p h
  | str s => exact dp_both (g := g) (ρ := ρ) (.str s) p h
  | tup h1 n r => exact dp_both (.tup h1 n r) p h
  | lst h1 n r => exact dp_both (.lst h1 n r) p h
  | scr n => exact dp_both (.scr n) p h
  | empF h1 n => exact dp_both (.empF h1 n) p h
  | empU h1 n => exact dp_both (.empU h1 n) p h
  | tupX h1 hd n r => exact dp_both (.tupX h1 hd n r) p h
end

/-! ### arithmetic, gluing -/
def dAdd (x y : D) (S : Store) : Res D := match x, y with
  | .int i, .int j => .ok (.int (i + j)) S
  | .str a, .str b => if a.length + b.length ≤ sizeLine then .ok (.str (a ++ b)) S else .stuck
  | .tup a, .tup b => if a.length + b.length ≤ sizeLine then .ok (.tup (a ++ b)) S else .stuck
  | x, y => match asL x S, asL y S with
    | some a, some b => if a.length + b.length ≤ sizeLine then .ok (.lst (a ++ b)) S else .stuck
    | _, _ => .stuck
def dInt (f : Int → Int → Option D) (x y : D) (S : Store) : Res D := match x, y with
  | .int i, .int j => match f i j with
    | some d => .ok d S
    | none => .stuck
  | _, _ => .stuck
abbrev dSub := dInt fun i j => some (.int (i - j))
instance (i j : Int) : Decidable (CMulW i j) := inferInstanceAs (Decidable (_ < _))
instance (i j : Int) : Decidable (CDivW i j) := inferInstanceAs (Decidable (_ ∧ _))
instance (i j : Int) : Decidable (CPow i j) := inferInstanceAs (Decidable (_ ∧ _ ∧ _))
abbrev dMul := dInt fun i j => if CMulW i j then some (.int (i * j)) else none
abbrev dDiv := dInt fun i j => if CDivW i j then some (.int (i / j)) else none
abbrev dMod := dInt fun i j => if 0 < j then some (.int (i % j)) else none
abbrev dPow := dInt fun i j => if CPow i j then some (.int (i ^ j.toNat)) else none
abbrev dLt := dInt fun i j => some (.bl (decide (i < j)))
abbrev dLe := dInt fun i j => some (.bl (decide (i ≤ j)))
abbrev dGt := dInt fun i j => some (.bl (decide (j < i)))
abbrev dGe := dInt fun i j => some (.bl (decide (j ≤ i)))
def dNeg (x : D) (S : Store) : Res D := match x with
  | .int i => .ok (.int (-i)) S
  | _ => .stuck
def dEqB (x y : D) (S : Store) : Option Bool := match pyOf x S, pyOf y S with
  | some p, some q => if SeqAt.shaped p = true ∧ SeqAt.shaped q = true then some (PyData.eqv p q) else none
  | _, _ => none
def dEq (x y : D) (S : Store) : Res D := match dEqB x y S with
  | some b => .ok (.bl b) S
  | none => .stuck
def dNe (x y : D) (S : Store) : Res D := match dEqB x y S with
  | some b => .ok (.bl (!b)) S
  | none => .stuck
def dIsN (x y : D) (S : Store) : Res D := match x, y with
  | .non, .non => .ok (.bl true) S
  | _, .non => .ok (.bl false) S
  | _, _ => .stuck
def dNotN (x y : D) (S : Store) : Res D := match x, y with
  | .non, .non => .ok (.bl false) S
  | _, .non => .ok (.bl true) S
  | _, _ => .stuck

section
variable {g : G} {E : XK} {K : PySem.W.Frag} {X : Cx}
theorem rd_int {l : List Addr} {ρ : List Addr} {H : Hp} {v : V} {i : Int} (r : RD (g.hide l) ρ H v (.int i)) : v = .int i := by cases r; rfl
theorem sim_int0 {f : Int → Int → D} {h : Int → Int → V} (hr : ∀ i j l ρ H, RD (g.hide l) ρ H (h i j) (f i j)) : OpSim g E (rI0 h) (dInt fun i j => some (f i j)) := by
  intro l x y H Q ρ S dx dy rx ry rs p
  unfold dInt at p
  split at p
  · cases rx; cases ry
    exact ⟨_, _, rfl, rfl, p ρ H _ Ex.refl rs (hr _ _ _ _ _)⟩
  · exact p.elim
theorem sim_intC {C : Int → Int → Prop} [∀ i j, Decidable (C i j)] {f : Int → Int → D} {h : Int → Int → V} (hr : ∀ i j l ρ H, RD (g.hide l) ρ H (h i j) (f i j)) : OpSim g E (rI C h) (dInt fun i j => if C i j then some (f i j) else none) := by
  intro l x y H Q ρ S dx dy rx ry rs p
  unfold dInt at p
  split at p
  · rename_i i j
    cases rx; cases ry
    by_cases c : C i j
    · simp only [if_pos c] at p
      exact ⟨_, _, rfl, rfl, c, p ρ H _ Ex.refl rs (hr _ _ _ _ _)⟩
    · simp only [if_neg c] at p; exact p.elim
  · exact p.elim
theorem sim_sub : OpSim g E (rI0 fun i j => .int (i - j)) dSub := sim_int0 fun _ _ _ _ _ => .int _
theorem sim_mul : OpSim g E (rI CMulW fun i j => .int (i * j)) dMul := sim_intC fun _ _ _ _ _ => .int _
theorem sim_div : OpSim g E (rI CDivW fun i j => .int (i / j)) dDiv := sim_intC fun _ _ _ _ _ => .int _
theorem sim_mod : OpSim g E (rI (fun _ j => 0 < j) fun i j => .int (i % j)) dMod := sim_intC (C := fun _ j => 0 < j) fun _ _ _ _ _ => .int _
theorem sim_pow : OpSim g E (rI CPow fun i j => .int (i ^ j.toNat)) dPow := sim_intC fun _ _ _ _ _ => .int _
theorem sim_lt : OpSim g E (rI0 fun i j => .bl (decide (i < j))) dLt := sim_int0 fun _ _ _ _ _ => .bl _
theorem sim_le : OpSim g E (rI0 fun i j => .bl (decide (i ≤ j))) dLe := sim_int0 fun _ _ _ _ _ => .bl _
theorem sim_gt : OpSim g E (rI0 fun i j => .bl (decide (j < i))) dGt := sim_int0 fun _ _ _ _ _ => .bl _
theorem sim_ge : OpSim g E (rI0 fun i j => .bl (decide (j ≤ i))) dGe := sim_int0 fun _ _ _ _ _ => .bl _
theorem sim_neg : UnSim g E (rU fun i => .int (-i)) dNeg := by
  intro l x H Q ρ S dx rx rs p
  cases rx with
  | int i => exact ⟨i, rfl, p ρ H _ Ex.refl rs (.int _)⟩
  | _ => exact p.elim
/-- + of all kinds -/
def rAddA (K : PySem.W.Frag) : R2 := fun x y H Q => (∃ i j, x = .int i ∧ y = .int j ∧ Q (.int (i + j)) H) ∨ (∃ i j, x = .str i ∧ y = .str j ∧ i.length + j.length ≤ sizeLine ∧ Q (.str (i ++ j)) H) ∨ rCatA K x y H Q ∨ rCat x y H Q
theorem op_addA : OpR X (binaryOp .Add) (rAddA X.K) := op_add.or (op_add_str.or (op_catA.or op_cat))
theorem sim_add : OpSim g E (rAddA K) dAdd := by
  intro l x y H Q ρ S dx dy rx ry rs p
  unfold dAdd at p
  split at p
  · cases rx; cases ry
    exact .inl ⟨_, _, rfl, rfl, p ρ H _ Ex.refl rs (.int _)⟩
  · cases rx; cases ry
    split at p
    · rename_i hz; exact .inr (.inl ⟨_, _, rfl, rfl, hz, p ρ H _ Ex.refl rs (.str _)⟩)
    · exact p.elim
  · cases rx with
    | @tup a vs ds ha na ra =>
      cases ry with
      | @tup b ws es hb nb rb =>
        split at p
        · rename_i hz
          refine .inr (.inr (.inl ⟨a, b, vs, ws, rfl, rfl, SqT.of ha, SqT.of hb, by rw [ra.length, rb.length]; exact hz, fun e => ?_, fun e e' => ?_, fun e e' q hq => ?_⟩))
          · subst e
            cases ra
            exact p ρ H _ Ex.refl rs (.tup hb nb (by simpa using rb))
          · subst e'
            cases rb
            exact p ρ H _ Ex.refl rs (.tup ha na (by simpa using ra))
          · exact p ρ _ _ (Ex.new1 hq) (rs.aside hq) (.tup upd_same (rs.fresh hq) ((ra.append rb).mono (Ex.new1 hq)))
        · exact p.elim
  · split at p
    · rename_i a b ea eb
      obtain ⟨a1, vs, rfl, h1, r1⟩ := as_l rs rx ea
      obtain ⟨b1, ws, rfl, h2, r2⟩ := as_l rs ry eb
      split at p
      · rename_i hz
        refine .inr (.inr (.inr ⟨a1, b1, vs, ws, rfl, rfl, h1, h2, by rw [r1.length, r2.length]; exact hz, fun q hq => ?_⟩))
        exact p ρ _ _ (Ex.new1 hq) (rs.aside hq) (.lst upd_same (rs.fresh hq) ((r1.append r2).mono (Ex.new1 hq)))
      · exact p.elim
    · exact p.elim
theorem sim_eq : OpSim g E (rEqD K) dEq := by
  intro l x y H Q ρ S dx dy rx ry rs p
  unfold dEq dEqB at p
  split at p
  · rename_i b e
    split at e
    · rename_i p1 p2 e1 e2
      split at e
      · rename_i hs
        cases e
        exact ⟨p1, p2, py_of rs rx e1, py_of rs ry e2, hs.1, hs.2, p ρ H _ Ex.refl rs (.bl _)⟩
      · cases e
    · cases e
  · exact p.elim
theorem sim_ne : OpSim g E (rNeD K) dNe := by
  intro l x y H Q ρ S dx dy rx ry rs p
  unfold dNe dEqB at p
  split at p
  · rename_i b e
    split at e
    · rename_i p1 p2 e1 e2
      split at e
      · rename_i hs
        cases e
        exact ⟨p1, p2, py_of rs rx e1, py_of rs ry e2, hs.1, hs.2, p ρ H _ Ex.refl rs (.bl _)⟩
      · cases e
    · cases e
  · exact p.elim
theorem sim_isN : OpSim g E (fun x y H Q => y = .non ∧ Q (.bl (decide (x = .non))) H) dIsN := by
  intro l x y H Q ρ S dx dy rx ry rs p
  unfold dIsN at p
  split at p
  · cases rx; cases ry; exact ⟨rfl, p ρ H _ Ex.refl rs (.bl _)⟩
  · rename_i hne
    cases ry
    refine ⟨rfl, ?_⟩
    have : decide (x = .non) = false := by
      cases rx with
      | non => exact absurd rfl hne
      | _ => rfl
    rw [this]; exact p ρ H _ Ex.refl rs (.bl _)
  · exact p.elim
theorem sim_notN : OpSim g E (fun x y H Q => y = .non ∧ Q (.bl (!decide (x = .non))) H) dNotN := by
  intro l x y H Q ρ S dx dy rx ry rs p
  unfold dNotN at p
  split at p
  · cases rx; cases ry; exact ⟨rfl, p ρ H _ Ex.refl rs (.bl _)⟩
  · rename_i hne
    cases ry
    refine ⟨rfl, ?_⟩
    have : decide (x = .non) = false := by
      cases rx with
      | non => exact absurd rfl hne
      | _ => rfl
    rw [this]; exact p ρ H _ Ex.refl rs (.bl _)
  · exact p.elim
end

/-! ### items, slices -/
def strAt (z : PySem.Str) (i : Int) : Option D := (atI z.cps.toList i).map fun c => .str ⟨#[c]⟩
def dIx (x y : D) (S : Store) : Res D := match x, y with
  | .tup ds, .int i => match atI ds i with
    | some d => .ok d S
    | none => .stuck
  | .tupX ds, .int i => match atI ds i with
    | some d => .ok d S
    | none => .stuck
  | .str z, .int i => if z.length ≤ sizeLine then match strAt z i with
    | some d => .ok d S
    | none => .stuck
    else .stuck
  | x, .int i => match asL x S with
    | some ds => match atI ds i with
      | some d => .ok d S
      | none => .stuck
    | none => .stuck
  | _, _ => .stuck
theorem atI_rel {g : G} {ρ : List Addr} {H : Hp} {vs : List V} {ds : List D} {i : Int} {d : D} (r : RDs g ρ H vs ds) (h : atI ds i = some d) : ∃ v, atI vs i = some v ∧ RD g ρ H v d := by
  unfold atI at h ⊢
  rw [r.length]
  cases e : ixN ds.length i with
  | none => rw [e] at h; cases h
  | some j =>
    rw [e] at h
    exact r.get h
def rIxA (K : PySem.W.Frag) : R2 := rIx K
section
variable {g : G} {E : XK} {K : PySem.W.Frag}
theorem sim_ix : OpSim g E (rIx K) dIx := by
  intro l x y H Q ρ S dx dy rx ry rs p
  unfold dIx at p
  split at p
  · rename_i ds i
    cases ry
    cases rx with
    | @tup a vs ds ha na ra =>
      split at p
      · rename_i d e
        obtain ⟨v, h1, h2⟩ := atI_rel ra e
        exact .inr (.inl ⟨a, vs, i, v, rfl, rfl, SqT.of ha, h1, p ρ H _ Ex.refl rs h2⟩)
      · exact p.elim
  · rename_i ds i
    cases ry
    cases rx with
    | @tupX a o vs ds ha hd na ra =>
      split at p
      · rename_i d e
        obtain ⟨v, h1, h2⟩ := atI_rel ra e
        exact .inr (.inl ⟨a, vs, i, v, rfl, rfl, .inl (.inr ⟨o, ha⟩), h1, p ρ H _ Ex.refl rs h2⟩)
      · exact p.elim
  · rename_i z i
    cases ry; cases rx
    split at p
    · rename_i hz
      split at p
      · rename_i d e
        unfold strAt at e
        simp only [Option.map_eq_some_iff] at e
        obtain ⟨c, e1, rfl⟩ := e
        exact .inr (.inr ⟨z, i, c, rfl, rfl, hz, e1, p ρ H _ Ex.refl rs (.str _)⟩)
      · exact p.elim
    · exact p.elim
  · rename_i i _ _ _
    cases ry
    split at p
    · rename_i ds e
      obtain ⟨a, vs, rfl, h1, r1⟩ := as_l rs rx e
      split at p
      · rename_i d e2
        obtain ⟨v, h2, h3⟩ := atI_rel r1 e2
        exact .inl ⟨a, vs, i, v, rfl, rfl, SqL.of h1, h2, p ρ H _ Ex.refl rs h3⟩
      · exact p.elim
    · exact p.elim
  · exact p.elim
/-- o[i] = v of a list of the store -/
def dSet (o i v : D) (S : Store) : Option Store := match o, i with
  | .loc n, .int k => match S[n]? with
    | some (.lst ds) => match ixN ds.length k with
      | some j => some (S.set n (.lst (ds.set j v)))
      | none => none
    | _ => none
  | _, _ => none
theorem sim_set : SetSim g rSetL dSet := by
  intro l o i v H Q ρ S d1 d2 d3 S' r1 r2 r3 rs h q
  unfold dSet at h
  split at h
  · rename_i n k
    cases r2
    cases r1 with
    | @loc n a hn =>
      split at h
      · rename_i ds e
        split at h
        · rename_i j ej
          cases h
          obtain ⟨vs, h1, h2⟩ := rs.ob n a _ hn e
          obtain ⟨e3, rs3⟩ := rs.put (o := .lst (vs.set j v)) (ob := .lst (ds.set j d3)) hn fun H' e' q' => ⟨_, q', (h2.mono e').set (r3.mono e') j⟩
          exact ⟨a, vs, k, j, rfl, rfl, h1, by rw [h2.length]; exact ej, q ρ _ e3 rs3⟩
        · cases h
      · cases h
  · cases h
end

/-! ### built-ins -/
def cLen (ds : List D) (S : Store) : Res D := match ds with
  | [.str z] => if z.length ≤ sizeLine then .ok (.int z.length) S else .stuck
  | [.tup xs] => .ok (.int xs.length) S
  | [.tupX xs] => .ok (.int xs.length) S
  | [.scr ns] => .ok (.int ns.length) S
  | [x] => match asL x S with
    | some xs => .ok (.int xs.length) S
    | none => .stuck
  | _ => .stuck
def cAbs (ds : List D) (S : Store) : Res D := match ds with
  | [.int i] => .ok (.int (if i < 0 then -i else i)) S
  | _ => .stuck
def cMax2 (ds : List D) (S : Store) : Res D := match ds with
  | [.int i, .int j] => .ok (.int (if j > i then j else i)) S
  | _ => .stuck
def cMin2 (ds : List D) (S : Store) : Res D := match ds with
  | [.int i, .int j] => .ok (.int (if j < i then j else i)) S
  | _ => .stuck
/-- the items of a list, a tuple, the script -/
def asSeq (d : D) (S : Store) : Option (List D) := match d with
  | .tup ds => some ds
  | .tupX ds => some ds
  | .scr ns => some (ns.map .int)
  | d => asL d S
/-- list(x), a list nobody changes | one of the store -/
def cList (ds : List D) (S : Store) : Res D := match ds with
  | [x] => match asSeq x S with
    | some xs => .ok (.lst xs) S
    | none => .stuck
  | _ => .stuck
def cListL (ds : List D) (S : Store) : Res D := match ds with
  | [x] => match asSeq x S with
    | some xs => .ok (.loc S.length) (S ++ [.lst xs])
    | none => .stuck
  | _ => .stuck
def cTuple (ds : List D) (S : Store) : Res D := match ds with
  | [.tup xs] => .ok (.tup xs) S
  | [.tupX xs] => .ok (.tupX xs) S
  | [x] => match asL x S with
    | some xs => .ok (.tup xs) S
    | none => .stuck
  | _ => .stuck
def bls : List D → Option (List Bool)
  | [] => some []
  | .bl b :: ds => (bls ds).map (b :: ·)
  | _ => none
def cAll (ds : List D) (S : Store) : Res D := match ds with
  | [x] => match asL x S with
    | some xs => match bls xs with
      | some bs => .ok (.bl (bs.all id)) S
      | none => .stuck
    | none => .stuck
  | _ => .stuck
def cAny (ds : List D) (S : Store) : Res D := match ds with
  | [x] => match asL x S with
    | some xs => match bls xs with
      | some bs => .ok (.bl (bs.any id)) S
      | none => .stuck
    | none => .stuck
  | _ => .stuck
section
variable {g : G} {E : XK} {K : PySem.W.Frag}
theorem RDs.one {g : G} {ρ : List Addr} {H : Hp} {vs : List V} {d : D} (r : RDs g ρ H vs [d]) : ∃ v, vs = [v] ∧ RD g ρ H v d := by
  cases r with
  | cons h t => cases t; exact ⟨_, rfl, h⟩
theorem RDs.two {g : G} {ρ : List Addr} {H : Hp} {vs : List V} {d e : D} (r : RDs g ρ H vs [d, e]) : ∃ v w, vs = [v, w] ∧ RD g ρ H v d ∧ RD g ρ H w e := by
  cases r with
  | cons h t => obtain ⟨w, rfl, q⟩ := t.one; exact ⟨_, w, rfl, h, q⟩
theorem rds_ints {g : G} {ρ : List Addr} {H : Hp} : ∀ ns : List Int, RDs g ρ H (ns.map V.int) (ns.map D.int)
  | [] => .nil
  | n :: ns => .cons (.int n) (rds_ints ns)
theorem scr_l {l : List Addr} {ρ : List Addr} {H : Hp} {v : V} {ns : List Int} (r : RD (g.hide l) ρ H v (.scr ns)) : ∃ a, v = .ref a ∧ SqL g.K H a (ns.map V.int) := by
  cases r with
  | @scr a ns n =>
    rcases n with ⟨o, h, _⟩ | n
    · exact ⟨a, rfl, .inl (.inr ⟨o, h⟩)⟩
    · exact ⟨a, rfl, n H⟩
theorem sim_len : CallSim g E (fun xs H Q => ∃ x n, xs = [x] ∧ LenV g.K x H n ∧ Q (.int n) H) cLen := by
  intro l xs H Q ρ S ds rx rs p
  unfold cLen at p
  split at p
  · obtain ⟨v, rfl, r⟩ := rx.one
    cases r
    split at p
    · rename_i hz; exact ⟨_, _, rfl, ⟨hz, rfl⟩, p ρ H _ Ex.refl rs (.int _)⟩
    · exact p.elim
  · obtain ⟨v, rfl, r⟩ := rx.one
    cases r with
    | @tup a vs ds ha na ra => exact ⟨_, _, rfl, .inr ⟨vs, SqT.of ha, rfl⟩, by rw [ra.length]; exact p ρ H _ Ex.refl rs (.int _)⟩
  · obtain ⟨v, rfl, r⟩ := rx.one
    cases r with
    | @tupX a o vs ds ha hd na ra => exact ⟨_, _, rfl, .inr ⟨vs, .inl (.inr ⟨o, ha⟩), rfl⟩, by rw [ra.length]; exact p ρ H _ Ex.refl rs (.int _)⟩
  · rename_i ns
    obtain ⟨v, rfl, r⟩ := rx.one
    obtain ⟨a, rfl, h⟩ := scr_l r
    exact ⟨_, ns.length, rfl, .inl ⟨_, h, by simp⟩, p ρ H _ Ex.refl rs (.int _)⟩
  · obtain ⟨v, rfl, r⟩ := rx.one
    split at p
    · rename_i xs' e
      obtain ⟨a, vs, rfl, h1, r1⟩ := as_l rs r e
      exact ⟨_, _, rfl, .inl ⟨vs, SqL.of h1, rfl⟩, by rw [r1.length]; exact p ρ H _ Ex.refl rs (.int _)⟩
    · exact p.elim
  · exact p.elim
theorem sim_abs : CallSim g E (fun xs H Q => ∃ i, xs = [.int i] ∧ Q (.int (if i < 0 then -i else i)) H) cAbs := by
  intro l xs H Q ρ S ds rx rs p
  unfold cAbs at p
  split at p
  · obtain ⟨v, rfl, r⟩ := rx.one
    cases r
    exact ⟨_, rfl, p ρ H _ Ex.refl rs (.int _)⟩
  · exact p.elim
theorem sim_max2 : CallSim g E (fun xs H Q => ∃ i j, xs = [.int i, .int j] ∧ Q (.int (if j > i then j else i)) H) cMax2 := by
  intro l xs H Q ρ S ds rx rs p
  unfold cMax2 at p
  split at p
  · obtain ⟨v, w, rfl, r1, r2⟩ := rx.two
    cases r1; cases r2
    exact ⟨_, _, rfl, p ρ H _ Ex.refl rs (.int _)⟩
  · exact p.elim
theorem sim_min2 : CallSim g E (fun xs H Q => ∃ i j, xs = [.int i, .int j] ∧ Q (.int (if j < i then j else i)) H) cMin2 := by
  intro l xs H Q ρ S ds rx rs p
  unfold cMin2 at p
  split at p
  · obtain ⟨v, w, rfl, r1, r2⟩ := rx.two
    cases r1; cases r2
    exact ⟨_, _, rfl, p ρ H _ Ex.refl rs (.int _)⟩
  · exact p.elim
theorem seq_of {l : List Addr} {ρ : List Addr} {H : Hp} {S : Store} {v : V} {d : D} {ds : List D} (rs : RS (g.hide l) ρ S H) (r : RD (g.hide l) ρ H v d) (h : asSeq d S = some ds) : ∃ a vs, v = .ref a ∧ (SqL g.K H a vs ∨ SqT g.K H a vs) ∧ RDs (g.hide l) ρ H vs ds := by
  cases r with
  | @tup a vs ds' ha na ra => cases h; exact ⟨a, vs, rfl, .inr (SqT.of ha), ra⟩
  | @tupX a o vs ds' ha hd na ra => cases h; exact ⟨a, vs, rfl, .inr (.inl (.inr ⟨o, ha⟩)), ra⟩
  | @scr a ns n =>
    cases h
    obtain ⟨a', e, h1⟩ := scr_l (g := g) (l := l) (RD.scr n)
    cases e
    exact ⟨a, _, rfl, .inl h1, rds_ints ns⟩
  | lst h1 n1 r1 => obtain ⟨a, vs, e, h2, r2⟩ := as_l rs (.lst h1 n1 r1) h; exact ⟨a, vs, e, .inl (SqL.of h2), r2⟩
  | loc h1 => obtain ⟨a, vs, e, h2, r2⟩ := as_l rs (.loc h1) h; exact ⟨a, vs, e, .inl (SqL.of h2), r2⟩
  | _ => cases h
abbrev rListA (K : PySem.W.Frag) : List V → Hp → VK → Prop := fun xs H Q => ∃ p ys, xs = [.ref p] ∧ (SqL K H p ys ∨ SqT K H p ys) ∧ ∀ l, H l = none → Q (.ref l) (upd H l (.lst ys))
theorem sim_list : CallSim g E (rListA g.K) cList := by
  intro l xs H Q ρ S ds rx rs p
  unfold cList at p
  split at p
  · obtain ⟨v, rfl, r⟩ := rx.one
    split at p
    · rename_i xs' e
      obtain ⟨a, vs, rfl, h1, r1⟩ := seq_of rs r e
      exact ⟨a, vs, rfl, h1, fun q hq => p ρ _ _ (Ex.new1 hq) (rs.aside hq) (.lst upd_same (rs.fresh hq) (r1.mono (Ex.new1 hq)))⟩
    · exact p.elim
  · exact p.elim
theorem sim_listL : CallSim g E (rListA g.K) cListL := by
  intro l xs H Q ρ S ds rx rs p
  unfold cListL at p
  split at p
  · obtain ⟨v, rfl, r⟩ := rx.one
    split at p
    · rename_i xs' e
      obtain ⟨a, vs, rfl, h1, r1⟩ := seq_of rs r e
      refine ⟨a, vs, rfl, h1, fun q hq => ?_⟩
      obtain ⟨e3, rs3⟩ := rs.push (o := .lst vs) (ob := .lst xs') hq fun ρ' H' e' q' => ⟨vs, q', r1.mono e'⟩
      exact p _ _ _ e3 rs3 (.loc (by rw [← rs.len]; simp))
    · exact p.elim
  · exact p.elim
abbrev rTupleA (K : PySem.W.Frag) : List V → Hp → VK → Prop := fun xs H Q => ∃ p ys, xs = [.ref p] ∧ ((SqL K H p ys ∧ ∀ l, H l = none → Q (.ref l) (upd H l (.tup ys))) ∨ (SqT K H p ys ∧ Q (.ref p) H))
theorem sim_tuple : CallSim g E (rTupleA K) cTuple := by
  intro l xs H Q ρ S ds rx rs p
  unfold cTuple at p
  split at p
  · obtain ⟨v, rfl, r⟩ := rx.one
    cases r with
    | @tup a vs ds ha na ra => exact ⟨a, vs, rfl, .inr ⟨SqT.of ha, p ρ H _ Ex.refl rs (.tup ha na ra)⟩⟩
  · obtain ⟨v, rfl, r⟩ := rx.one
    cases r with
    | @tupX a o vs ds ha hd na ra => exact ⟨a, vs, rfl, .inr ⟨.inl (.inr ⟨o, ha⟩), p ρ H _ Ex.refl rs (.tupX ha hd na ra)⟩⟩
  · obtain ⟨v, rfl, r⟩ := rx.one
    split at p
    · rename_i xs' e
      obtain ⟨a, vs, rfl, h1, r1⟩ := as_l rs r e
      exact ⟨a, vs, rfl, .inl ⟨SqL.of h1, fun q hq => p ρ _ _ (Ex.new1 hq) (rs.aside hq) (.tup upd_same (rs.fresh hq) (r1.mono (Ex.new1 hq)))⟩⟩
    · exact p.elim
  · exact p.elim
theorem bls_rel {ρ : List Addr} {H : Hp} : ∀ {ds : List D} {vs : List V} {bs : List Bool}, RDs g ρ H vs ds → bls ds = some bs → vs = bs.map V.bl
  | [], _, _, .nil, e => by simp [bls] at e; subst e; rfl
  | .bl b :: ds, _, bs, .cons h t, e => by
    simp only [bls, Option.map_eq_some_iff] at e
    obtain ⟨bs', e1, rfl⟩ := e
    cases h
    rw [bls_rel t e1]; rfl
theorem sim_all : CallSim g E (rAll K) cAll := by
  intro l xs H Q ρ S ds rx rs p
  unfold cAll at p
  split at p
  · obtain ⟨v, rfl, r⟩ := rx.one
    split at p
    · rename_i xs' e
      obtain ⟨a, vs, rfl, h1, r1⟩ := as_l rs r e
      split at p
      · rename_i bs eb
        have := bls_rel r1 eb
        subst this
        exact ⟨a, bs, rfl, SqL.of h1, p ρ H _ Ex.refl rs (.bl _)⟩
      · exact p.elim
    · exact p.elim
  · exact p.elim
theorem sim_any : CallSim g E (rAny K) cAny := by
  intro l xs H Q ρ S ds rx rs p
  unfold cAny at p
  split at p
  · obtain ⟨v, rfl, r⟩ := rx.one
    split at p
    · rename_i xs' e
      obtain ⟨a, vs, rfl, h1, r1⟩ := as_l rs r e
      split at p
      · rename_i bs eb
        have := bls_rel r1 eb
        subst this
        exact ⟨a, bs, rfl, SqL.of h1, p ρ H _ Ex.refl rs (.bl _)⟩
      · exact p.elim
    · exact p.elim
  · exact p.elim
end

/-! ### methods of lists -/
def mBM (f : D → List D → Store → Res D) (o : EM) (as : AM) : EM := fun env S => (o env S).bind fun d S1 => (as env S1).bind fun ds S2 => f d ds S2
def tyD (T : String) (d : D) (S : Store) : Bool := match d with
  | .str _ => T == "str"
  | .lst _ => T == "list"
  | .loc n => match S[n]? with
    | some (.lst _) => T == "list"
    | some (.dK _) => T == "dict"
    | some (.dT _) => T == "dict"
    | _ => false
  | _ => false
def qAppend (d : D) (ds : List D) (S : Store) : Res D := match d, ds with
  | .loc n, [x] => match S[n]? with
    | some (.lst xs) => if xs.length < sizeLine then .ok .non (S.set n (.lst (xs ++ [x]))) else .stuck
    | _ => .stuck
  | _, _ => .stuck
def qPopAt (d : D) (ds : List D) (S : Store) : Res D := match d, ds with
  | .loc n, [.int i] => match S[n]? with
    | some (.lst xs) => if -(2 ^ 63) ≤ i ∧ i < 2 ^ 63 then match seqIndex? i xs.length with
      | some k => match xs[k]? with
        | some x => .ok x (S.set n (.lst (xs.eraseIdx k)))
        | none => .stuck
      | none => .stuck
      else .stuck
    | _ => .stuck
  | _, _ => .stuck
def MtSim (g₀ : G) (E : XK) (r : V → List V → Hp → VK → Prop) (f : D → List D → Store → Res D) : Prop := ∀ l x xs H Q ρ S d ds, RD (g₀.hide l) ρ H x d → RDs (g₀.hide l) ρ H xs ds → RS (g₀.hide l) ρ S H → PostE (g₀.hide l) E ρ H Q (f d ds S) → r x xs H Q
section
variable {g : G} {E : XK} {K : PySem.W.Frag}
theorem sim_append : MtSim g E rAppend qAppend := by
  intro l x xs H Q ρ S d ds rx rxs rs p
  unfold qAppend at p
  split at p
  · rename_i n y
    obtain ⟨v, rfl, r⟩ := rxs.one
    cases rx with
    | @loc n a hn =>
      split at p
      · rename_i zs e
        obtain ⟨vs, h1, h2⟩ := rs.ob n a _ hn e
        split at p
        · rename_i hz
          obtain ⟨e3, rs3⟩ := rs.put (o := .lst (vs ++ [v])) (ob := .lst (zs ++ [y])) hn fun H' e' q' => ⟨_, q', (h2.mono e').snoc (r.mono e')⟩
          exact ⟨a, vs, v, rfl, rfl, h1, by rw [h2.length]; exact hz, p ρ _ _ e3 rs3 .non⟩
        · exact p.elim
      · exact p.elim
  · exact p.elim
theorem sim_popAt : MtSim g E rPopAt qPopAt := by
  intro l x xs H Q ρ S d ds rx rxs rs p
  unfold qPopAt at p
  split at p
  · rename_i n i
    obtain ⟨v, rfl, r⟩ := rxs.one
    cases r
    cases rx with
    | @loc n a hn =>
      split at p
      · rename_i zs e
        obtain ⟨vs, h1, h2⟩ := rs.ob n a _ hn e
        split at p
        · rename_i hz
          split at p
          · rename_i k ek
            split at p
            · rename_i y ey
              obtain ⟨v, h3, h4⟩ := h2.get ey
              obtain ⟨e3, rs3⟩ := rs.put (o := .lst (vs.eraseIdx k)) (ob := .lst (zs.eraseIdx k)) hn fun H' e' q' => ⟨_, q', (h2.mono e').eraseIdx k⟩
              exact ⟨a, vs, i, k, v, rfl, rfl, h1, hz.1, hz.2, by rw [h2.length]; exact ek, h3, p ρ _ _ e3 rs3 (h4.mono e3)⟩
            · exact p.elim
          · exact p.elim
        · exact p.elim
      · exact p.elim
  · exact p.elim
/-- what the receiver is -/
theorem ty_of {l : List Addr} {ρ : List Addr} {H : Hp} {S : Store} {v : V} {d : D} {T : String} (rs : RS (g.hide l) ρ S H) (r : RD (g.hide l) ρ H v d) (h : tyD T d S = true) : tyV K T v H := by
  cases r with
  | str s => exact beq_iff_eq.mp h |> fun e => by subst e; rfl
  | @lst a vs ds ha na ra => exact beq_iff_eq.mp h |> fun e => by subst e; exact .inl ⟨rfl, _, SqL.of ha⟩
  | @loc n a hn =>
    simp only [tyD] at h
    split at h
    · rename_i zs e
      obtain ⟨vs, h1, h2⟩ := rs.ob n a _ hn e
      exact beq_iff_eq.mp h |> fun e => by subst e; exact .inl ⟨rfl, _, SqL.of h1⟩
    · rename_i kvs e
      obtain ⟨kv, h1, h2⟩ := rs.ob n a _ hn e
      exact beq_iff_eq.mp h |> fun e => by subst e; exact .inr (.inr (.inl ⟨rfl, .inl ⟨_, h1⟩⟩))
    · rename_i kvs e
      obtain ⟨kv, h1, h2⟩ := rs.ob n a _ hn e
      exact beq_iff_eq.mp h |> fun e => by subst e; exact .inr (.inr (.inl ⟨rfl, .inr ⟨_, h1⟩⟩))
    · cases h
  | _ => cases h
def mBMt (T : String) (f : D → List D → Store → Res D) (o : EM) (as : AM) : EM := fun env S => (o env S).bind fun d S1 => if tyD T d S1 = true then (as env S1).bind fun ds S2 => f d ds S2 else .stuck
theorem sim_bm {T : String} {r : V → List V → Hp → VK → Prop} {f : D → List D → Store → Res D} {to : TE} {ta : TA} {o : EM} {a : AM} (h : MtSim g E r f) (ho : SimE g E to o) (ha : SimA g E ta a) : SimE g E (tBM K T r to ta) (mBMt T f o a) := by
  intro l σ H Q ρ S env re rs p
  refine ho.bind re rs p fun d S1 ρ1 H1 v e1 rs1 rx re1 p1 => ?_
  by_cases ht : tyD T d S1 = true
  · rw [if_pos ht] at p1
    refine ⟨ty_of rs1 rx ht, ?_⟩
    exact ha.bind re1 rs1 p1 fun ds S2 ρ2 H2 vs e2 rs2 ry re2 p2 => h l v vs H2 Q ρ2 S2 d ds (rx.mono e2) ry rs2 p2
  · rw [if_neg ht] at p1; exact p1.elim
theorem sim_bm0 {T : String} {r : V → List V → Hp → VK → Prop} {f : D → List D → Store → Res D} {to : TE} {o : EM} (h : MtSim g E r f) (ho : SimE g E to o) : SimE g E (tBM0 K T r to) (mBMt T f o mNil) := by
  intro l σ H Q ρ S env re rs p
  refine ho.bind re rs p fun d S1 ρ1 H1 v e1 rs1 rx re1 p1 => ?_
  by_cases ht : tyD T d S1 = true
  · rw [if_pos ht] at p1
    exact ⟨ty_of rs1 rx ht, h l v [] H1 Q ρ1 S1 d [] rx .nil rs1 p1⟩
  · rw [if_neg ht] at p1; exact p1.elim
end

/-! ### slices -/
abbrev OM := En → Store → Res (Option Int)
def oNone : OM := fun _ S => .ok none S
def oSome (a : EM) : OM := fun env S => (a env S).bind fun d S1 => match d with
  | .int i => .ok (some i) S1
  | _ => .stuck
def SimO (g : G) (E : XK) (t : TO) (m : OM) : Prop := ∀ l σ H (Q : Option Int → Hp → Prop) ρ S env, RE (g.hide l) ρ H σ env → RS (g.hide l) ρ S H →
  (match m env S with
   | .ok o S' => ∀ ρ' H', Ex ρ H ρ' H' → RS (g.hide l) ρ' S' H' → Q o H'
   | .err x S' => PX (g.hide l) E ρ H x S'
   | .stuck => False) → t σ H Q
def cutD (xs : List D) (lo hi : Option Int) : List D := (xs.drop (HT.sIx xs.length 0 lo)).take (HT.sIx xs.length xs.length hi - HT.sIx xs.length 0 lo)
def dSl (x : D) (lo hi : Option Int) (S : Store) : Res D := match x with
  | .tup ds => .ok (.tup (cutD ds lo hi)) S
  | .str z => if z.length ≤ sizeLine then .ok (.str (cutS z lo hi)) S else .stuck
  | .scr ns => .ok (.lst (cutD (ns.map D.int) lo hi)) S
  | x => match asL x S with
    | some ds => .ok (.lst (cutD ds lo hi)) S
    | none => .stuck
def mSl (a : EM) (lo hi : OM) : EM := fun env S => (a env S).bind fun x S1 => (lo env S1).bind fun i S2 => (hi env S2).bind fun j S3 => dSl x i j S3
section
variable {g : G} {E : XK} {K : PySem.W.Frag}
theorem simo_none : SimO g E tNoPart oNone := fun l σ H Q ρ S env re rs p => p ρ H Ex.refl rs
theorem simo_some {te : TE} {a : EM} (ha : SimE g E te a) : SimO g E (tPart te) (oSome a) := by
  intro l σ H Q ρ S env re rs p
  refine ha l σ H _ ρ S env re rs ?_
  unfold oSome at p
  cases e : a env S with
  | ok d S1 =>
    rw [e] at p
    intro ρ1 H1 v e1 rs1 rx
    simp only [Res.bind] at p
    cases rx with
    | int i => exact ⟨i, rfl, p ρ1 H1 e1 rs1⟩
    | _ => exact p.elim
  | err x S1 => rw [e] at p; exact p
  | stuck => rw [e] at p; exact p
abbrev rSlAll (K : PySem.W.Frag) : V → Option Int → Option Int → Hp → VK → Prop := fun x lo hi H Q => rSlA K x lo hi H Q ∨ rSlS x lo hi H Q ∨ rSlL K x lo hi H Q
theorem sl_all {X : Cx} : SlR X (rSlAll X.K) := sl_tupA.or (sl_str.or sl_list)
theorem cut_rel {ρ : List Addr} {H : Hp} {vs : List V} {ds : List D} {lo hi : Option Int} (r : RDs g ρ H vs ds) : RDs g ρ H (cutV vs lo hi) (cutD ds lo hi) := by
  unfold cutV cutD
  rw [r.length]
  exact (r.drop _).take _
theorem sim_slice {te : TE} {tl th : TO} {a : EM} {lo hi : OM} (ha : SimE g E te a) (hl : SimO g E tl lo) (hh : SimO g E th hi) : SimE g E (tSl (rSlAll g.K) te tl th) (mSl a lo hi) := by
  intro l σ H Q ρ S env re rs p
  refine ha.bind re rs p fun d S1 ρ1 H1 v e1 rs1 rx re1 p1 => ?_
  refine hl l σ H1 _ ρ1 S1 env re1 rs1 ?_
  cases e : lo env S1 with
  | err x S2 => rw [e] at p1; exact p1
  | stuck => rw [e] at p1; exact p1
  | ok i S2 =>
    rw [e] at p1
    intro ρ2 H2 e2 rs2
    have p2 := PostE.ex p1 e2
    simp only [Res.bind] at p2
    refine hh l σ H2 _ ρ2 S2 env (re1.mono e2) rs2 ?_
    cases e' : hi env S2 with
    | err x S3 => rw [e'] at p2; exact p2
    | stuck => rw [e'] at p2; exact p2
    | ok j S3 =>
      rw [e'] at p2
      intro ρ3 H3 e3 rs3
      have p3 : PostE (g.hide l) E ρ3 H3 Q (dSl d i j S3) := PostE.ex p2 e3
      have rx3 := rx.mono (e2.trans e3)
      unfold dSl at p3
      split at p3
      · cases rx3 with
        | @tup ad vs ds ha' na ra =>
          refine .inl ⟨ad, vs, rfl, SqT.of ha', fun hw => ?_, fun hw q hq => ?_⟩
          · refine p3 ρ3 H3 _ Ex.refl rs3 (.tup ha' na ?_)
            rename_i ds0
            have : cutD _ i j = _ := show cutD ds0 i j = ds0 by
              unfold cutD
              rw [← ra.length, hw.1, hw.2]
              simp [ra.length]
            rw [this]; exact ra
          · exact p3 ρ3 _ _ (Ex.new1 hq) (rs3.aside hq) (.tup upd_same (rs3.fresh hq) ((cut_rel ra).mono (Ex.new1 hq)))
      · cases rx3
        split at p3
        · rename_i hz; exact .inr (.inl ⟨_, rfl, hz, p3 ρ3 H3 _ Ex.refl rs3 (.str _)⟩)
        · exact p3.elim
      · obtain ⟨ad, rfl, hq⟩ := scr_l rx3
        exact .inr (.inr ⟨ad, _, rfl, hq, fun q hq' => p3 ρ3 _ _ (Ex.new1 hq') (rs3.aside hq') (.lst upd_same (rs3.fresh hq') ((cut_rel (rds_ints _)).mono (Ex.new1 hq')))⟩)
      · split at p3
        · rename_i ds e4
          obtain ⟨ad, vs, rfl, h1, r1⟩ := as_l rs3 rx3 e4
          exact .inr (.inr ⟨ad, vs, rfl, SqL.of h1, fun q hq => p3 ρ3 _ _ (Ex.new1 hq) (rs3.aside hq) (.lst upd_same (rs3.fresh hq) ((cut_rel r1).mono (Ex.new1 hq)))⟩)
        · exact p3.elim
end

/-! ### iterators -/
def itSeq (a : EM) : IM := fun env S => (a env S).bind fun d S1 => match d with
  | .lst ds => .ok ds S1
  | .tup ds => .ok ds S1
  | .tupX ds => .ok ds S1
  | _ => .stuck
def itList (a : EM) : IM := fun env S => (a env S).bind fun d S1 => match d with
  | .lst ds => .ok ds S1
  | _ => .stuck
def itTup (a : EM) : IM := fun env S => (a env S).bind fun d S1 => match d with
  | .tup ds => .ok ds S1
  | _ => .stuck
def itRange1 (a : AM) : IM := fun env S => (a env S).bind fun ds S1 => match ds with
  | [.int j] => if -(2 ^ 62) ≤ j ∧ j < 2 ^ 62 then .ok ((List.range j.toNat).map fun i : Nat => D.int (0 + (i : Int))) S1 else .stuck
  | _ => .stuck
def itStr (a : EM) : IM := fun env S => (a env S).bind fun d S1 => match d with
  | .str z => .ok (z.cps.toList.map fun c => D.str ⟨#[c]⟩) S1
  | _ => .stuck
section
variable {g : G} {E : XK} {K : PySem.W.Frag}
theorem walkd_at {l : List Addr} {ρ : List Addr} {H : Hp} {J : It} {vs : List V} {ds : List D} {G' : Hp → Prop} (w : Walk J vs.length G' (YAt vs)) (hG : ∀ ρ' H', Ex ρ H ρ' H' → G' H') (r : RDs (g.hide l) ρ H vs ds) : WalkD (g.hide l) ρ H J ds := by
  refine ⟨G', YAt vs, by rw [← r.length]; exact w, hG, fun i ρ' H' x H'' S hi e rs y => ?_⟩
  obtain ⟨rfl, hx⟩ := y
  have hd : ds[i]? = some ds[i] := List.getElem?_eq_getElem hi
  obtain ⟨v, h1, h2⟩ := r.get hd
  rw [hx] at h1; cases h1
  exact ⟨ds[i], hd, Ex.refl, rs, h2.mono e, fun _ _ h => h⟩
theorem rds_hide {l l' : List Addr} {ρ : List Addr} {H : Hp} {vs : List V} {ds : List D} (hl : ∀ a, a ∈ l' → a ∈ l ∨ H a = none) (r : RDs (g.hide l) ρ H vs ds) : RDs (g.hide l') ρ H vs ds :=
  RDs.tr (g := g.hide l) (g' := g.hide l') rfl (fun _ _ h => h) (fun a o n h => ⟨⟨n.1, fun m => (hl a m).elim n.2 fun z => by rw [z] at h; cases h⟩, h⟩) r
abbrev iSeq (K : PySem.W.Frag) (te : TE) : TI := fun σ H R => te σ H fun x H1 => (∃ a, x = .ref a ∧ (∃ xs, SqL K H1 a xs) ∧ R (Itl K a) H1) ∨ (∃ a, x = .ref a ∧ (∃ xs, SqT K H1 a xs) ∧ R (Itt K a) H1)
theorem simi_list {te : TE} {a : EM} (ha : SimE g E te a) : SimI g E (iList K te) (itList a) := by
  intro l σ H R ρ S env re rs p
  unfold itList at p
  refine ha l σ H _ ρ S env re rs ?_
  cases e : a env S with
  | err x S2 => rw [e] at p; exact p
  | stuck => rw [e] at p; exact p
  | ok d S1 =>
    rw [e] at p
    simp only [Res.bind] at p
    intro ρ1 H1 v e1 rs1 rx
    cases rx with
    | @lst ad vs ds h n r =>
      exact ⟨ad, rfl, ⟨vs, SqL.of h⟩, p ρ1 H1 _ e1 rs1 fun l' hl => walkd_at walk_list (fun ρ' H' ex => SqL.of (ex.keep _ _ n.1 h)) (rds_hide hl r)⟩
    | _ => exact p.elim
theorem simi_tup {te : TE} {a : EM} (ha : SimE g E te a) : SimI g E (iTup K te) (itTup a) := by
  intro l σ H R ρ S env re rs p
  unfold itTup at p
  refine ha l σ H _ ρ S env re rs ?_
  cases e : a env S with
  | err x S2 => rw [e] at p; exact p
  | stuck => rw [e] at p; exact p
  | ok d S1 =>
    rw [e] at p
    simp only [Res.bind] at p
    intro ρ1 H1 v e1 rs1 rx
    cases rx with
    | @tup ad vs ds h n r =>
      exact ⟨ad, rfl, ⟨vs, SqT.of h⟩, p ρ1 H1 _ e1 rs1 fun l' hl => walkd_at walk_tup (fun ρ' H' ex => SqT.of (ex.keep _ _ n.1 h)) (rds_hide hl r)⟩
    | _ => exact p.elim
theorem simi_range1 {ta : TA} {a : AM} (ha : SimA g E ta a) : SimI g E (iRng1 ta) (itRange1 a) := by
  intro l σ H R ρ S env re rs p
  refine ha l σ H _ ρ S env re rs ?_
  unfold itRange1 at p
  cases e : a env S with
  | err x S2 => rw [e] at p; exact p
  | stuck => rw [e] at p; exact p
  | ok ds S1 =>
    rw [e] at p
    simp only [Res.bind] at p
    intro ρ1 H1 vs e1 rs1 rx
    split at p
    · rename_i q hq
      split at hq
      · rename_i j
        split at hq
        · rename_i hj
          cases hq
          obtain ⟨v, rfl, r⟩ := rx.one
          cases r
          refine ⟨j, rfl, hj.1, hj.2, p ρ1 H1 _ e1 rs1 fun l' hl => ?_⟩
          refine ⟨fun _ => True, YFn fun i => .int (0 + i), by rw [show (List.map (fun i : Nat => D.int (0 + (i : Int))) (List.range j.toNat)).length = j.toNat by simp]; exact walk_range, fun _ _ _ => trivial, fun i ρ' H' x H'' S' hi e2 rs2 y => ?_⟩
          obtain ⟨rfl, rfl⟩ := y
          have hi' : i < j.toNat := by simpa using hi
          exact ⟨.int (0 + i), by simp [hi'], Ex.refl, rs2, .int _, fun _ _ h => h⟩
        · cases hq
      · cases hq
    · rename_i hq
      split at hq
      · split at hq <;> cases hq
      · cases hq
    · exact p.elim
theorem simi_str {te : TE} {a : EM} (ha : SimE g E te a) : SimI g E (iStr te) (itStr a) := by
  intro l σ H R ρ S env re rs p
  refine ha l σ H _ ρ S env re rs ?_
  unfold itStr at p
  cases e : a env S with
  | err x S2 => rw [e] at p; exact p
  | stuck => rw [e] at p; exact p
  | ok d S1 =>
    rw [e] at p
    simp only [Res.bind] at p
    intro ρ1 H1 v e1 rs1 rx
    cases rx with
    | str z =>
      refine ⟨z, rfl, p ρ1 H1 _ e1 rs1 fun l' hl => ?_⟩
      refine ⟨fun _ => True, _, by simpa using walk_str (z := z), fun _ _ _ => trivial, fun i ρ' H' x H'' S' hi e2 rs2 y => ?_⟩
      obtain ⟨rfl, c, hc, rfl⟩ := y
      exact ⟨.str ⟨#[c]⟩, by simp [hc], Ex.refl, rs2, .str _, fun _ _ h => h⟩
    | _ => exact p.elim
end
end Lg

namespace L2
open PySem PySem.Spec PyProof.Rows
section
variable {X : Cx} {tg : Expr}
/-- over a list or a tuple -/
theorem pi_seq {l : Expr} {tl : TE} (hl : PE X l tl) : PI X tg l (Lg.iSeq X.K tl) := by
  refine ⟨fun pins s σ H R I h => ?_⟩
  refine thn (hl.run pins s σ H _ I h) fun v s1 ⟨x, H1, I1, r1, q1⟩ => ?_
  rcases q1 with ⟨a, e, ⟨xs, hq⟩, q⟩ | ⟨a, e, ⟨xs, hq⟩, q⟩
  · subst e
    cases r1
    obtain ⟨its, rv, p, hz⟩ := I1.list hq
    refine wpAny_pyIter_list p.isList ?_
    refine ⟨s1.heap.objs.size, [s1.heap.objs.size], _, _, H1, rfl, I1.kept (t' := s1.toks) fun b o e => Heap.get?_push_of_some _ e, turn_list a _, ⟨_, Heap.get?_push_size _ rfl, rfl, rfl⟩, fun b hb => ?_, q⟩
    have e : b = s1.heap.objs.size := by simpa using hb
    subst e
    exact I1.fpOk (Nat.le_refl _) (I1.hok.fresh (Nat.le_refl _))
  · subst e
    cases r1
    obtain ⟨its, rv, p, hz⟩ := I1.tuple hq
    refine wpAny_pyIter_tuple (show s1.heap.IsTuple a its.toArray from p) ?_
    refine ⟨s1.heap.objs.size, [s1.heap.objs.size], _, _, H1, rfl, I1.kept (t' := s1.toks) fun b o e => Heap.get?_push_of_some _ e, turn_tuple a _, ⟨_, Heap.get?_push_size _ rfl, rfl, rfl⟩, fun b hb => ?_, q⟩
    have e : b = s1.heap.objs.size := by simpa using hb
    subst e
    exact I1.fpOk (Nat.le_refl _) (I1.hok.fresh (Nat.le_refl _))
/-- x in a tuple of data -/
def rInT (K : PySem.W.Frag) : R2 := fun x y H Q => ∃ d ds, Dp K H x d ∧ Dp K H y (.tuple ds) ∧ SeqAt.shaped d = true ∧ SeqAt.shaped (.tuple ds) = true ∧ Q (.bl (ds.any fun z => PyData.eqv z d)) H
def rNotInT (K : PySem.W.Frag) : R2 := fun x y H Q => ∃ d ds, Dp K H x d ∧ Dp K H y (.tuple ds) ∧ SeqAt.shaped d = true ∧ SeqAt.shaped (.tuple ds) = true ∧ Q (.bl (!ds.any fun z => PyData.eqv z d)) H
theorem op_inT (hu : X.A.units + 65 < cLine) : OpR X (compareOp .In) (rInT X.K) := by
  intro pins s σ H x y v u Q I rx ry h
  obtain ⟨d, ds, hd, he, sd, se, q⟩ := h
  obtain ⟨as, r1⟩ := Dp.reads I d x v hd rx
  obtain ⟨bs, r2⟩ := Dp.reads I (.tuple ds) y u he ry
  exact SeqAt.in_tuple_reads r2 r1 (SeqAt.canLay_of_shaped se) (SeqAt.canLay_of_shaped sd) (room_in_shaped sd hu) ⟨.bl _, H, I, rfl, q⟩
theorem op_notInT (hu : X.A.units + 65 < cLine) : OpR X (compareOp .NotIn) (rNotInT X.K) := by
  intro pins s σ H x y v u Q I rx ry h
  obtain ⟨d, ds, hd, he, sd, se, q⟩ := h
  obtain ⟨as, r1⟩ := Dp.reads I d x v hd rx
  obtain ⟨bs, r2⟩ := Dp.reads I (.tuple ds) y u he ry
  exact SeqAt.notIn_tuple_reads r2 r1 (SeqAt.canLay_of_shaped se) (SeqAt.canLay_of_shaped sd) (room_in_shaped sd hu) ⟨.bl _, H, I, rfl, q⟩
end
end L2

namespace Lg
open PySem L2
section
variable {g : G} {E : XK} {K : PySem.W.Frag}
theorem simi_seq {te : TE} {a : EM} (ha : SimE g E te a) : SimI g E (iSeq K te) (itSeq a) := by
  intro l σ H R ρ S env re rs p
  refine ha l σ H _ ρ S env re rs ?_
  unfold itSeq at p
  cases e : a env S with
  | err x S2 => rw [e] at p; exact p
  | stuck => rw [e] at p; exact p
  | ok d S1 =>
    rw [e] at p
    simp only [Res.bind] at p
    intro ρ1 H1 v e1 rs1 rx
    cases rx with
    | @tup ad vs ds h n r =>
      exact .inr ⟨ad, rfl, ⟨vs, SqT.of h⟩, p ρ1 H1 _ e1 rs1 fun l' hl => walkd_at walk_tup (fun ρ' H' ex => SqT.of (ex.keep _ _ n.1 h)) (rds_hide hl r)⟩
    | @tupX ad o vs ds h hd n r =>
      exact .inr ⟨ad, rfl, ⟨vs, .inl (.inr ⟨o, h⟩)⟩, p ρ1 H1 _ e1 rs1 fun l' hl => walkd_at walk_tup (fun ρ' H' ex => .inl (.inr ⟨o, ex.keep _ _ n.1 h⟩)) (rds_hide hl r)⟩
    | @lst ad vs ds h n r =>
      exact .inl ⟨ad, rfl, ⟨vs, SqL.of h⟩, p ρ1 H1 _ e1 rs1 fun l' hl => walkd_at walk_list (fun ρ' H' ex => SqL.of (ex.keep _ _ n.1 h)) (rds_hide hl r)⟩
    | _ => exact p.elim
/-- a, b = x, y -/
def sPar (i j : Nat) (a : AM) : SM := fun env S => (a env S).bindS fun ds S1 => match ds with
  | [x, y] => .next ((env.set i (some x)).set j (some y)) S1
  | _ => .stuck
theorem SimA.bindS {t : TA} {m : AM} (h : SimA g E t m) {l : List Addr} {σ : L2.St} {H : Hp} {Q : List V → Hp → Prop} {D' : Ends} {ρ : List Addr} {S : Store} {env : En} {f : List D → Store → FRes} (re : RE (g.hide l) ρ H σ env) (rs : RS (g.hide l) ρ S H) (p : PostS (g.hide l) E ρ H D' ((m env S).bindS f))
    (k : ∀ d S' ρ' H' v, Ex ρ H ρ' H' → RS (g.hide l) ρ' S' H' → RDs (g.hide l) ρ' H' v d → RE (g.hide l) ρ' H' σ env → PostS (g.hide l) E ρ' H' D' (f d S') → Q v H') : t σ H Q := by
  refine h l σ H Q ρ S env re rs ?_
  cases e : m env S with
  | ok d S' => rw [e] at p; exact fun ρ' H' v a b c => k d S' ρ' H' v a b c (re.mono a) (PostS.ex p a)
  | err x S' => rw [e] at p; exact p
  | stuck => rw [e] at p; exact p
theorem sims_par {i j : Nat} {ta : TA} {a : AM} (ha : SimA g E ta a) : SimS g E (tPar i j ta) (sPar i j a) := by
  intro l D' σ H ρ S env re rs p
  refine ha.bindS re rs p fun ds S1 ρ1 H1 vs e1 rs1 rx re1 p1 => ?_
  split at p1
  · obtain ⟨v, w, rfl, r1, r2⟩ := rx.two
    exact ⟨v, w, rfl, p1 ρ1 H1 _ Ex.refl rs1 ((re1.set r1 i).set r2 j)⟩
  · exact p1.elim
/-! ### x in xs -/
def pyL (ps : List PyData) (p : PyData) : Bool := ps.any fun z => PyData.eqv z p
def dInB (x y : D) (S : Store) : Option Bool := match pyOf x S, pyOf y S with
  | some p, some (.list qs) => if SeqAt.shaped p = true ∧ SeqAt.shaped (.list qs) = true then some (pyL qs p) else none
  | some p, some (.tuple qs) => if SeqAt.shaped p = true ∧ SeqAt.shaped (.tuple qs) = true then some (pyL qs p) else none
  | some (.str a), some (.str b) => match a.cps.toList with
    | [c] => some (decide (c ∈ b.cps.toList))
    | _ => none
  | _, _ => none
def dIn (x y : D) (S : Store) : Res D := match dInB x y S with
  | some b => .ok (.bl b) S
  | none => .stuck
def dNotIn (x y : D) (S : Store) : Res D := match dInB x y S with
  | some b => .ok (.bl (!b)) S
  | none => .stuck
abbrev rInA (K : PySem.W.Frag) : R2 := fun x y H Q => rInD K x y H Q ∨ rInT K x y H Q ∨ ∃ (c : Nat) (z : PySem.Str), x = .str ⟨#[c]⟩ ∧ y = .str z ∧ Q (.bl (decide (c ∈ z.cps.toList))) H
abbrev rNotInA (K : PySem.W.Frag) : R2 := fun x y H Q => rNotInD K x y H Q ∨ rNotInT K x y H Q ∨ ∃ (c : Nat) (z : PySem.Str), x = .str ⟨#[c]⟩ ∧ y = .str z ∧ Q (.bl (!decide (c ∈ z.cps.toList))) H
theorem op_inA {X : Cx} (hu : X.A.units + 65 < cLine) : OpR X (compareOp .In) (rInA X.K) := (op_inD hu).or ((op_inT hu).or op_in_sign)
theorem op_notInA {X : Cx} (hu : X.A.units + 65 < cLine) : OpR X (compareOp .NotIn) (rNotInA X.K) := (op_notInD hu).or ((op_notInT hu).or op_notIn_sign)
theorem str_of_py {ρ : List Addr} {H : Hp} {S : Store} {v : V} {d : D} {a : PySem.Str} (rs : RS g ρ S H) (r : RD g ρ H v d) (h : pyOf d S = some (.str a)) : v = .str a := by
  have := py_of (K := ([] : PySem.W.Frag)) rs r h
  cases this; rfl
theorem str_one {a : PySem.Str} {c : Nat} (h : a.cps.toList = [c]) : a = ⟨#[c]⟩ := by
  obtain ⟨cps⟩ := a
  simp only at h
  congr 1
  rw [← Array.toArray_toList (xs := cps), h]
theorem sim_in : OpSim g E (rInA K) dIn := by
  intro l x y H Q ρ S dx dy rx ry rs p
  unfold dIn dInB at p
  split at p
  · rename_i b e
    split at e
    · rename_i p1 qs e1 e2
      split at e
      · rename_i hs; cases e
        exact .inl ⟨p1, qs, py_of rs rx e1, py_of rs ry e2, hs.1, hs.2, p ρ H _ Ex.refl rs (.bl _)⟩
      · cases e
    · rename_i p1 qs e1 e2
      split at e
      · rename_i hs; cases e
        exact .inr (.inl ⟨p1, qs, py_of rs rx e1, py_of rs ry e2, hs.1, hs.2, p ρ H _ Ex.refl rs (.bl _)⟩)
      · cases e
    · rename_i a b' e1 e2
      split at e
      · rename_i c ec
        cases e
        refine .inr (.inr ⟨c, b', ?_, str_of_py rs ry e2, p ρ H _ Ex.refl rs (.bl _)⟩)
        rw [str_of_py rs rx e1, str_one ec]
      · cases e
    · cases e
  · exact p.elim
theorem sim_notIn : OpSim g E (rNotInA K) dNotIn := by
  intro l x y H Q ρ S dx dy rx ry rs p
  unfold dNotIn dInB at p
  split at p
  · rename_i b e
    split at e
    · rename_i p1 qs e1 e2
      split at e
      · rename_i hs; cases e
        exact .inl ⟨p1, qs, py_of rs rx e1, py_of rs ry e2, hs.1, hs.2, p ρ H _ Ex.refl rs (.bl _)⟩
      · cases e
    · rename_i p1 qs e1 e2
      split at e
      · rename_i hs; cases e
        exact .inr (.inl ⟨p1, qs, py_of rs rx e1, py_of rs ry e2, hs.1, hs.2, p ρ H _ Ex.refl rs (.bl _)⟩)
      · cases e
    · rename_i a b' e1 e2
      split at e
      · rename_i c ec
        cases e
        refine .inr (.inr ⟨c, b', ?_, str_of_py rs ry e2, p ρ H _ Ex.refl rs (.bl _)⟩)
        rw [str_of_py rs rx e1, str_one ec]
      · cases e
    · cases e
  · exact p.elim
/-! ### what kind a thing is of: a built-in type by its name -/
def kindD (d : D) (S : Store) : Option String := match d with
  | .non => some "NoneType"
  | .bl _ => some "bool"
  | .int _ => some "int"
  | .str _ => some "str"
  | .tup _ => some "tuple"
  | .tupX _ => some "tuple"
  | .lst _ => some "list"
  | .emp _ => some "dict"
  | .loc n => match S[n]? with
    | some (.lst _) => some "list"
    | some (.dK _) => some "dict"
    | some (.dT _) => some "dict"
    | _ => none
  | _ => none
def mIsi (T : String) (a : EM) : EM := fun env S => (a env S).bind fun d S1 => match kindD d S1 with
  | some k => match kitB k T with
    | some b => .ok (.bl b) S1
    | none => .stuck
  | none => .stuck
theorem kind_ty {l : List Addr} {ρ : List Addr} {H : Hp} {S : Store} {v : V} {d : D} {k : String} (rs : RS (g.hide l) ρ S H) (r : RD (g.hide l) ρ H v d) (h : kindD d S = some k) : TyX K H v (.type k) := by
  cases r with
  | non => cases h; exact .base .non
  | bl b => cases h; exact .base (.bl b)
  | int i => cases h; exact .base (.int i)
  | str s => cases h; exact .base (.str s)
  | tup h1 n r => cases h; exact .base (.tup h1)
  | tupX h1 hd n r => cases h; exact .fTuple h1
  | lst h1 n r => cases h; exact .base (.lst h1)
  | scr n => cases h
  | empF h1 n => cases h; exact .fDict h1
  | empU h1 n => cases h; exact .base (.dK h1)
  | @loc n a hn =>
    simp only [kindD] at h
    split at h
    · rename_i zs e
      obtain ⟨vs, h1, h2⟩ := rs.ob n a _ hn e
      cases h; exact .base (.lst h1)
    · rename_i zs e
      obtain ⟨vs, h1, h2⟩ := rs.ob n a _ hn e
      cases h; exact .base (.dK h1)
    · rename_i zs e
      obtain ⟨vs, h1, h2⟩ := rs.ob n a _ hn e
      cases h; exact .base (.dT h1)
    · cases h
theorem sim_isi {T : String} {ta : TE} {a : EM} (ha : SimE g E ta a) : SimE g E (tCB (rIsi K) (tCons ta (tCons (tC (.ty T)) tNil))) (mIsi T a) := by
  intro l σ H Q ρ S env re rs p
  refine ha.bind re rs p fun d S1 ρ1 H1 v e1 rs1 rx re1 p1 => ?_
  split at p1
  · rename_i k ek
    split at p1
    · rename_i b eb
      exact ⟨v, .ty T, .type k, .type T, b, rfl, .ty T, kind_ty rs1 rx ek, kit_ty eb, p1 ρ1 H1 _ Ex.refl rs1 (.bl _)⟩
    · exact p1.elim
  · exact p1.elim
end
end Lg

namespace Lg
open PySem PySem.Spec L2
abbrev sEnv (qual : PySem.Str) (scope : Scope) (s : Shared) (f cda cc : Addr) : Env := PySem.W.ksEnv qual scope s.heap.objs.size f (.ref cda) cc
def cxS (P : Program) (w : World) (K : PySem.W.Frag) (mg : PySem.Str → Option Value) (base : Heap) (N : List PySem.Str) (qual : PySem.Str) (scope : Scope) (f cda cc : Addr) (A : Around) (outer : List Env) (s : Shared) (H : Hp) (E : XK) : Cx where
  prog := P
  w := w
  K := K
  mg := mg
  base := base
  A := A.deeper (sEnv qual scope s f cda cc)
  N := N
  s_0 := s
  H_0 := H
  env := sEnv qual scope s f cda cc
  outer := outer
  stack := sEnv qual scope s f cda cc :: outer
  ex := []
  calm := true
  fn := fun _ => false
  pn := []
  xe := fun e s' => wpAny (model P w) (A.deeper (sEnv qual scope s f cda cc)) (leaving (sEnv qual scope s f cda cc) e) (fun _ s'' => L2.CX P w outer H s E e s'') (fun e' s'' => L2.CX P w outer H s E e' s'') s'
structure ScS (N ps : List PySem.Str) (sc : Scope) : Prop where
  kind : sc.kind = .function
  co : sc.isCoroutine = false
  gen : sc.isGenerator = false
  nd : N.Nodup
  pre : N.take ps.length = ps
  par : ∀ x ∈ ps, sc.names.lookup x = some .local
  nocell : ∀ y ∈ sc.names, y.2 ≠ .cell
  free : ∀ y ∈ sc.names, y.2 = .free → y.1 = "__class__"
  su : sc.names.lookup ("super" : PySem.Str) = some .globalImplicit
  cl : sc.names.lookup ("__class__" : PySem.Str) = some .free
theorem zip_out {x : PySem.Str} : ∀ {ps : List PySem.Str} {us : List Value}, x ∉ ps → (ps.zip us).reverse.lookup x = none := by
  intro ps us h
  have : ∀ l : List (PySem.Str × Value), (∀ p ∈ l, p.1 ≠ x) → l.lookup x = none := by
    intro l
    induction l with
    | nil => intro _; rfl
    | cons p l ih =>
      intro q
      obtain ⟨k, v⟩ := p
      have q1 : k ≠ x := q (k, v) List.mem_cons_self
      rw [List.lookup_cons, show (x == k) = false by simpa using Ne.symm q1]
      exact ih fun p hp => q p (List.mem_cons_of_mem _ hp)
  refine this _ fun p hp e => h ?_
  have hp := List.mem_reverse.mp hp
  obtain ⟨k, v⟩ := p
  have e : k = x := e
  subst e
  exact (List.of_mem_zip hp).1
theorem zip_get {x : PySem.Str} {u : Value} : ∀ {ps : List PySem.Str} {us : List Value} {i : Nat}, ps.Nodup → ps[i]? = some x → us[i]? = some u → (ps.zip us).reverse.lookup x = some u
  | [], _, _, _, h, _ => by simp at h
  | _ :: _, [], _, _, _, h => by simp at h
  | p :: ps, v :: us, 0, nd, h1, h2 => by
    simp at h1 h2; subst h1; subst h2
    rw [List.zip_cons_cons, List.reverse_cons, List.lookup_append, zip_out (List.nodup_cons.mp nd).1]
    simp
  | p :: ps, v :: us, i + 1, nd, h1, h2 => by
    rw [List.zip_cons_cons, List.reverse_cons, List.lookup_append, zip_get (i := i) (List.nodup_cons.mp nd).2 (by simpa using h1) (by simpa using h2)]
    rfl
section
variable {P : Program} {w : World} {K : PySem.W.Frag} {mg : PySem.Str → Option Value} {base : Heap} {N ps : List PySem.Str} {qual : PySem.Str} {scope : Scope} {f cda cc : Addr} {A : Around} {outer : List Env} {s : Shared} {H : Hp} {E : XK} {us : List Value} {vs : List V}
theorem kind_sup {cl : List (PySem.Str × Addr)} (S : ScS N ps scope) {x : PySem.Str} (h : scope.names.lookup x = some .cell ∨ scope.names.lookup x = some .free) : x = "__class__" := by
  rcases h with h | h
  · exact absurd rfl (S.nocell _ (PySem.mem_of_lookup h))
  · exact S.free _ (PySem.mem_of_lookup h) rfl
theorem look1 {cc c : Addr} {x : PySem.Str} (h : ([("__class__", cc)] : List (PySem.Str × Addr)).lookup x = some c) : x = "__class__" ∧ c = cc := by
  rw [List.lookup_cons] at h
  by_cases e : x = "__class__"
  · subst e
    simp at h
    exact ⟨rfl, h.symm⟩
  · rw [show (x == ("__class__" : PySem.Str)) = false by simpa using e] at h
    cases h
theorem inv_startS (S : ScS N ps scope) {cl : Value} {cld : Option Addr} {csl : Array (Option Value)} {D : Addr} (hcell : K.lookup cc = some ⟨cl, cld, .cell (some (.ref D)), csl⟩) (hd : A.handled = none) (e0 : Env0 P w K mg base A outer s H) (hl : vs.length = ps.length) (r : Vals vs us)
    {h0 : Heap} {t : Nat} (hns : h0.Ns s.heap.objs.size (fun x => (ps.zip us).reverse.lookup x)) (hk : ∀ b o, s.heap.get? b = some o → h0.get? b = some o) :
    Inv (cxS P w K mg base N qual scope f cda cc A outer s H E) [] (L2.start N vs) H { s with heap := h0, toks := t } := by
  have hpl : ps.length ≤ N.length := by have := congrArg List.length S.pre; rw [List.length_take] at this; omega
  have noA : ∀ b : Addr, b ∉ (cxS P w K mg base N qual scope f cda cc A outer s H E).ex := fun b z => absurd (show b ∈ ([] : List Addr) from z) (by simp)
  have hB := e0.mod.kin _ _ hcell
  refine ⟨⟨e0.mod, S.kind, rfl, rfl, Nat.le_refl _, fun y z c h1 h2 => ?_, fun y hy => ?_, fun y c q h => ?_, fun _ => hd, Around.frames_deeper e0.frames, .inr ⟨rfl, rfl⟩, fun b z => absurd z (noA b), e0.bs, e0.bsz, fun b _ _ => noA b, fun b z => absurd z (noA b), e0.funs, e0.frf⟩,
    rfl, e0.bare, Un.kept hk, ⟨_, hns, fun i y v h1 h2 h3 => ?_⟩, fun y c h => ?_, e0.hok.fresh (Nat.le_refl _), fun y c h => ?_, fun p hp => absurd (show p ∈ ([] : List (Addr × Obj)) from hp) (by simp), e0.hok.kept hk, ?_⟩
  · rw [(look1 h1).1, (look1 h2).1]
  · rw [kind_sup (cl := []) S hy]
    exact ⟨cc, List.lookup_cons_self (k := PySem.Str.ofString "__class__")⟩
  · exact absurd (show false = true from q) (by decide)
  · have hi : i < vs.length := by
      unfold L2.start at h2
      by_cases hi : i < vs.length
      · exact hi
      · rw [List.getElem?_append_right (by simpa using hi)] at h2
        rw [List.getElem?_replicate] at h2
        split at h2 <;> cases h2
    have ha : vs[i]? = some v := by
      unfold L2.start at h2
      rw [List.getElem?_append_left (by simpa using hi), List.getElem?_map] at h2
      cases e : vs[i]? with
      | none => rw [e] at h2; cases h2
      | some a => rw [e] at h2; cases h2; rfl
    obtain ⟨u, hu, rv⟩ := r.get ha
    have hp : ps[i]? = some y := by
      rw [← S.pre, List.getElem?_take_of_lt (by omega)]; exact h1
    have ndP : ps.Nodup := by rw [← S.pre]; exact S.nd.sublist (List.take_sublist _ _)
    exact ⟨u, rv, .inl ⟨S.par y (List.mem_of_getElem? hp), zip_get ndP hp hu⟩⟩
  · obtain ⟨_, rfl⟩ := look1 h
    exact ⟨some (.ref D), _, hk _ _ (e0.bs _ _ hB).1, rfl⟩
  · obtain ⟨_, rfl⟩ := look1 h
    exact (e0.bs _ _ hB).2
  · unfold L2.start
    show _ = N.length
    rw [List.length_append, List.length_map, List.length_replicate]
    omega
end

/-- what the written part says, for super().__init__ in the own __init__ of the exception class at C -/
structure SupC (K : PySem.W.Frag) (prog : Program) (C cda cc : Addr) : Prop where
  T : OexC K C
  hm : PySem.W.ks_superIn K C C "__init__" = some (some (.builtin "ValueError.__init__"))
  hB : PySem.W.subIn K (.ref C) (.type "ValueError") = some true
  hsub : PySem.W.mroIn K C (.ref C) = some true
  ho : PySem.W.nsIn K cStatics "thirdparty.any" = some none
  code : ∃ ccl cdd vs ccs file tf, K.lookup cda = some ⟨ccl, cdd, .fields vs, ccs⟩ ∧ vs[2]? = some (.str file tf) ∧ ((prog.main.file : PySem.Str) == file) = true
  cell : ∃ cl cld csl, K.lookup cc = some ⟨cl, cld, .cell (some (.ref C)), csl⟩
  top : (prog.main.scope.names.lookup ("super" : PySem.Str)).isSome = false
theorem boot_super : bootBuiltins "super" = some (.type "super") := PyProof.Rows.Boot.super
section
variable {A : Around} {E : Value → Shared → Prop} {s : Shared}
/-- the wrapper called -/
theorem wrap_call {X : Cx} {pins : List (Addr × Obj)} {σ : L2.St} {H : Hp} {C a u : Addr} {rest : List Value} {Q : Value → Shared → Prop} (T : OexC X.K C) (I : Inv X pins σ H s) (e : H a = some (exo a C none)) (hu : s.heap.get? u = some (PySem.W.kxs_mw "ValueError.__init__" a)) (hz : rest.length ≤ sizeLine)
    (h : ∀ s', Inv X pins σ H s' → Q .none s') : wpAny (model X.prog X.w) A (call (.ref u) rest) Q E s := by
  obtain ⟨nm, q, N, bs, bm, sn, sub, ab, col, dd, k0, k1, k2, k3, k5, hC, hbm⟩ := T.cls
  obtain ⟨t1, ho⟩ := exo_at I.hok e
  have hC' := I.kIn _ _ hC
  obtain ⟨hh, g, d, tk, os⟩ := s
  refine wpAny_call (codeAny_of_tree ?_)
  show wpAny _ A.in1 (callAny (.ref u) ⟨rest, []⟩) _ _ _
  simp only [callAny]
  refine wpAny_bind (wpAny_load hu ?_)
  simp only [PySem.W.kxs_mw, show (Value.type "method-wrapper" == Value.type "method" || Value.type "method-wrapper" == Value.type "builtin_function_or_method" || Value.type "method-wrapper" == Value.type "method-wrapper") = true by decide, if_true]
  refine PySem.W.KFB.if_so (by decide) ?_
  refine wpAny_bind (PySem.W.check_bound_init F.excBase_ValueError.toExcCallFacts hC' ho rfl ?_)
  refine wpAny_bind (wpAny_pure (wpAny_pure ?_))
  refine ⟨plainId_quiet F.excBase_ValueError.init.plain _, codeAny_builtin F.excBase_ValueError.initEntry ?_⟩
  refine PySem.W.exc_init_tree (cls := .ref C) (t0 := t1) (dv := none) (c2 := .none) (c3 := .none) (b4 := .bool false) ho hz fun h' k hx _ => ?_
  have J := I.write (t' := tk) (x := a) (e := a) (o := exo a C none) (by rw [e]; exact True.intro) (.inl rfl) k ⟨_, hx⟩ (exo_ok hx)
  have eu : upd H a (exo a C none) = H := by
    funext b
    by_cases hb : b = a
    · rw [hb, upd_same, e]
    · rw [upd_ne hb]
  rw [eu] at J
  exact h _ J
end

section
variable {P : Program} {w : World} {K : PySem.W.Frag} {mg : PySem.Str → Option Value} {base : Heap}
theorem fn_super {N ps : List PySem.Str} {k : Nat} {sp : Sp} {f C cda cc : Addr} {name qual z : PySem.Str} {params : Arguments} {rest : List Stmt} {scope : Scope} {dV kV doc pm ct oc : Value} {an od : Option Addr} {osl : Array (Option Value)} {p0 p1 p2 p3 p4 p5 : Pos} {j : Nat} {ar : Arg}
    (lk : K.lookup f = some ⟨oc, od, .func (PySem.W.ksFn name qual params (.Expr (.Call (.Attribute (.Call (.Name "super" p0) [] [] p1) "__init__" p2) [.Constant (.str z) j p3] [] p4) p5 :: rest) scope dV kV doc pm an (.ref cda) ct cc), osl⟩)
    (hcd : PySem.W.codeIn K (.ref cda) qual = true) (S : ScS N ps scope) (U : SupC K P C cda cc) (hsu : mg "super" = none) (hp : (params.posonlyargs ++ params.args).head? = some ar) {pl : Shared → Sem Bool}
    (hev : ∀ s : Shared, eval (.Call (.Attribute (.Call (.Name "super" p0) [] [] p1) "__init__" p2) [.Constant (.str z) j p3] [] p4) (sEnv qual scope s f cda cc) = (do
      let ov ← attributeBase (.Call (.Name "super" p0) [] [] p1) "__init__" (sEnv qual scope s f cda cc) (eval (.Call (.Name "super" p0) [] [] p1) (sEnv qual scope s f cda cc))
      standAt p2.atName
      let (g, first) ← holding [ov] (getMethod ov "__init__" (pl s))
      callWith p4 g first (backTo p4 (starEach [.Constant (.str z) j p3] (sEnv qual scope s f cda cc))) []))
    (hps : ps.head? = some ar.arg)
    (len : ∀ vs H Q E, sp vs H Q E → vs.length = ps.length) (hself : ∀ vs H Q E, sp vs H Q E → ∃ a ws, vs = .ref a :: ws ∧ H a = some (exo a C none))
    (hbody : ∀ (A : Around) (outer : List Env) (s : Shared) (H : Hp) (vs : List V) (Q : VK) (E : XK), Room k (A.deeper (sEnv qual scope s f cda cc)) → sp vs H Q E →
      ∃ t, PSs (cxS P w K mg base N qual scope f cda cc A outer s H E) rest t ∧ t { nx := fun _ H' => Q .non H', rt := Q } (L2.start N vs) H) :
    FnOk P w K mg base (L2.CX P w) (k + 1) f (PySem.W.ksFn name qual params (.Expr (.Call (.Attribute (.Call (.Name "super" p0) [] [] p1) "__init__" p2) [.Constant (.str z) j p3] [] p4) p5 :: rest) scope dV kV doc pm an (.ref cda) ct cc) ps sp := by
  refine ⟨len, fun A outer s H args us vs Q E hr e0 hb r hsp => ?_⟩
  obtain ⟨a, ws, rfl, ha⟩ := hself _ _ _ _ hsp
  have hl := len _ _ _ _ hsp
  have KX : K.In s.heap := e0.mod.kin.keeps fun b o e => (e0.bs b o e).1
  have lim : s.heap.NoLimit := e0.mod.nolimit.keeps fun b o e => (e0.bs b o e).1
  obtain ⟨cl, cld, csl, hcell⟩ := U.cell
  obtain ⟨ccl, cdd, fvs, ccs, file, tf, hcode, hvs, hfile⟩ := U.code
  refine PySem.ks_codeAny_call_defAt (binds := ps.zip us) hr.depth (KX _ _ lk) rfl lim (PySem.W.codeRec_of KX hcd) rfl hb S.nocell (fun y hy => S.par _ (List.of_mem_zip (a := y.1) (b := y.2) hy).1) (fun h0 hns hk => ?_) S.co S.gen S.kind
  have I : Inv (cxS P w K mg base N qual scope f cda cc A outer s H E) [] (L2.start N (.ref a :: ws)) H ⟨h0, s.gens, s.drawn, s.toks + (ps.zip us).length, s.os⟩ := inv_startS S hcell hr.hd e0 hl r hns hk
  show _root_.PySem.wpAt (model P w) (A.deeper (sEnv qual scope s f cda cc)) (.func _ (sEnv qual scope s f cda cc)) (execs _ (sEnv qual scope s f cda cc)) _ _ _
  refine PySem.ks_wpAt_execs_cons ?_
  refine PySem.ks_wpAt_Expr_any ?_ (by unfold interactive; rw [show (sEnv qual scope s f cda cc).scope.kind = .function from S.kind]; rfl)
  refine PySem.ks_wpAt_MethodCall ?_ (hev s)
  obtain ⟨pr, rfl⟩ : ∃ pr, ps = ar.arg :: pr := by
    cases ps with
    | nil => cases hps
    | cons p pr => cases hps; exact ⟨pr, rfl⟩
  obtain ⟨ur, rfl⟩ : ∃ ur, us = .ref a :: ur := by
    cases r with
    | @cons _ u0 _ ur ra rr => obtain rfl : u0 = Value.ref a := ra; exact ⟨ur, rfl⟩
  have hv0 : ((ar.arg :: pr).zip (Value.ref a :: ur)).reverse.lookup ar.arg = some (.ref a) := zip_get (i := 0) (by rw [← S.pre]; exact S.nd.sublist (List.take_sublist _ _)) rfl rfl
  obtain ⟨nm, q, NN, bs, bm, sn, sub, ab, col, dd, k0, k1, k2, k3, k5, hC, hbm⟩ := U.T.cls
  have hcl : PySem.W.clsIn K C = some { name := nm, bases := bs, mro := .ref C :: bm, ns := NN, qualname := q, hasDict := true, slotNames := sn, subclasses := sub, abstract := ab, collection := col, hasDel := false } := by unfold PySem.W.clsIn; rw [hC] <;> rfl
  have hC1 := I.kIn _ _ hC
  obtain ⟨t1, hob⟩ := exo_at I.hok ha
  refine PySem.ks_wpAt_super_base (env := sEnv qual scope s f cda cc) S.su S.cl (by decide) rfl (I.kIn _ _ lk) rfl hp rfl (I.kIn _ _ hcode) rfl hvs hfile U.top ?_
  obtain ⟨mb, hb1, hb2⟩ := I.mod.blt
  refine PySem.W.ks_loadName_global S.kind S.su (Calls.loadGlobal_builtin (env := sEnv qual scope s f cda cc) (I.mod.glob.keeps I.bk) hsu (hb1.keeps I.bk) ((hb2 _ (by decide)).trans boot_super) ⟨rfl, ?_⟩)
  refine wpAny_loadName_free S.kind S.cl rfl ⟨_, I.kIn _ _ hcell, rfl⟩ ?_
  refine wpAny_loadName_local S.kind (S.par _ List.mem_cons_self) hns hv0 ?_
  refine ks_wpAny_isType_cls hC1 rfl ⟨rfl, ?_⟩
  refine ks_wpAny_call_super hC1 rfl hob rfl (fun c e => by cases e) (PySem.W.looks_mroIn I.kIn U.hsub) (fun h1 e1 k1 => ?_)
  have I1 : Inv (cxS P w K mg base N qual scope f cda cc A outer s H E) [] (L2.start N (.ref a :: ws)) H ⟨h1, s.gens, s.drawn, s.toks + ((ar.arg :: pr).zip (Value.ref a :: ur)).length, s.os⟩ := I.kept k1
  have hob1 := k1 _ _ hob
  have IA : PySem.W.InstAt h1 a { cls := .ref C, dict := none, data := .fields #[.ref t1, .none, .none, .none, .bool false, .none] } C none := ⟨hob1, rfl, rfl, trivial⟩
  have hm := U.hm
  unfold PySem.W.ks_superIn at hm
  rw [hcl] at hm
  refine PySem.W.kxs_getMethod PySem.W.kxs_ValueError e1 (PySem.W.looks_opaque I1.kIn U.ho) (l₀ := .ref C :: bm) (fun A Q E s k q => wpAny_bind ((PySem.W.looks_clsIn I1.kIn hcl) A _ E s k (wpAny_pure q))) rfl I1.kIn hm (IA.type.andThen (PySem.W.looks_subIn I1.kIn U.hB)) (PySem.W.ks_ne I1.kIn IA hcl) (by decide) ?_
  have I2 : Inv (cxS P w K mg base N qual scope f cda cc A outer s H E) [] (L2.start N (.ref a :: ws)) H ⟨h1.push (PySem.W.kxs_mw "ValueError.__init__" a), s.gens, s.drawn, s.toks + ((ar.arg :: pr).zip (Value.ref a :: ur)).length + 1, s.os⟩ := I1.kept fun b o e => Heap.get?_push_of_some _ e
  have hu2 : (h1.push (PySem.W.kxs_mw "ValueError.__init__" a)).get? h1.objs.size = some (PySem.W.kxs_mw "ValueError.__init__" a) := Heap.get?_push_at rfl rfl
  have I3 : Inv (cxS P w K mg base N qual scope f cda cc A outer s H E) [(h1.objs.size, PySem.W.kxs_mw "ValueError.__init__" a)] (L2.start N (.ref a :: ws)) H ⟨h1.push (PySem.W.kxs_mw "ValueError.__init__" a), s.gens, s.drawn, s.toks + ((ar.arg :: pr).zip (Value.ref a :: ur)).length + 1, s.os⟩ := by
    refine I2.pins_of fun p hp => ?_
    rw [List.mem_singleton.mp hp]
    exact ⟨hu2, I1.hok.fresh (Nat.le_refl _), Nat.ne_of_gt I1.lt, I1.nofs (Nat.le_refl _), fun v z => by cases z⟩
  refine PySem.W.kxs_callWith (i := "ValueError.__init__") (x := a) rfl ?_
  refine Calls.evalArgs_plain ?_
  refine wpAny_mono ((pa_cons (X := cxS P w K mg base N qual scope f cda cc A outer s H E) pe_str pa_nil).run p4 _ _ _ H (fun vs H' => H' = H ∧ vs = [.str z]) I3 ⟨rfl, rfl⟩) (fun us1 s3 hs3 => ?_) fun _ _ x => x
  obtain ⟨vs3, H3, I4, r3, e3, rfl⟩ := hs3
  rw [e3] at I4
  have hu4 := (I4.pin _ (List.mem_append_right _ (List.mem_singleton.mpr rfl))).1
  refine ⟨hu4, ?_⟩
  have hl3 : us1.length ≤ sizeLine := by
    rw [← Paired.length r3, sizeLine_eq]
    show 1 ≤ _
    omega
  refine wrap_call (X := cxS P w K mg base N qual scope f cda cc A outer s H E) U.T I4 ha hu4 hl3 fun s5 I5 => ?_
  refine wpAt_of_wpAny ?_
  obtain ⟨t, ht, hq⟩ := hbody A outer s H (.ref a :: ws) Q E (hr.deeper _) hsp
  have I6 : Inv (cxS P w K mg base N qual scope f cda cc A outer s H E) [] (L2.start N (.ref a :: ws)) H s5 := I5.pins_of fun p hp => absurd hp (by simp)
  refine wpAny_mono (ht.run [] s5 _ _ _ I6 hq) (fun fl s' hs => ?_) fun e s' hs => hs
  have fin : ∀ {σ' : L2.St} {H' : Hp} {v : V} {u : Value}, Inv (cxS P w K mg base N qual scope f cda cc A outer s H E) [] σ' H' s' → RelV v u → Q v H' → CE outer P w H s Q u s' :=
    fun {σ' H' v u} J rv q => ⟨v, H', J.os, J.bare, J.base, J.hok, rv, q⟩
  cases fl with
  | ret u =>
    obtain ⟨v, σ', H', J, rv, q⟩ := hs
    exact fin J rv q
  | next =>
    obtain ⟨σ', H', J, q⟩ := hs
    exact fin (v := V.non) (u := Value.none) J rfl q
  | brk =>
    obtain ⟨_, _, _, q⟩ := hs
    exact False.elim q
  | cont =>
    obtain ⟨_, _, _, q⟩ := hs
    exact False.elim q
end
end Lg

namespace Lg
open PySem PySem.Spec L2

/-! ### self.f = v within an own exception's __init__ -/
def putX (f : PySem.Str) (y : D) (n c : Nat) (S : Store) : Option Store := match S[n]? with
  | some (.exc c' none) => if c' = c then some ((S ++ [Ob.xd [(f, y)]]).set n (Ob.exc c (some S.length))) else none
  | some (.exc c' (some m)) => if c' = c then match S[m]? with
    | some (.xd fs) => if fs.length ≤ 900 then some (S.set m (.xd ((f, y) :: fs))) else none
    | _ => none
    else none
  | _ => none
def sFldX (c : Nat) (f : PySem.Str) (o a : EM) : SM := fun env S => (a env S).bindS fun y S1 => (o env S1).bindS fun d S2 => match d with
  | .loc n => match putX f y n c S2 with
    | some S3 => .next env S3
    | none => .stuck
  | _ => .stuck
theorem kv1 {g : G} {ρ : List Addr} {H : Hp} {f : PySem.Str} {v : V} {d : D} {fv : List (PySem.Str × V)} {fs : List (PySem.Str × D)} (r : RD g ρ H v d) (t : RKV g ρ H fv fs) : RKV g ρ H ((f, v) :: fv) ((f, d) :: fs) := .cons ⟨rfl, r⟩ t
section
variable {g : G} {E : XK} {K : PySem.W.Frag}
theorem sims_fldX {c : Nat} {f : PySem.Str} {to te : TE} {o a : EM} (T : OexC K (g.cls c)) (na : PySem.W.findIn K (.ref (g.cls c)) f = some none) (ho : SimE g E to o) (ha : SimE g E te a) : SimS g E (tOst K f to te) (sFldX c f o a) := by
  intro l D' σ H ρ S env re rs p
  refine ha.bindS re rs p fun y S1 ρ1 H1 v e1 rs1 ry re1 p1 => ?_
  refine ho.bindS re1 rs1 p1 fun d S2 ρ2 H2 u e2 rs2 rd re2 p2 => ?_
  cases rd with
  | @loc n ad hn =>
    dsimp only at p2
    unfold putX at p2
    cases e : S2[n]? with
    | none => rw [e] at p2; exact p2.elim
    | some ob =>
      rw [e] at p2
      have ob2 := rs2.ob n ad _ hn e
      refine ⟨ad, g.cls c, rfl, T, ?_⟩
      cases ob with
      | exc c' dd =>
        cases dd with
        | none =>
          by_cases q : c' = c
          · subst q
            simp only [if_true] at p2
            refine ⟨na, .inl ⟨ob2, fun dx hdx ne => ?_⟩⟩
            obtain ⟨e3, rs3⟩ := rs2.push (o := exd dx [(f, v)]) (ob := .xd [(f, y)]) hdx fun ρ' H' e' q' => ⟨[(f, v)], q', kv1 ((ry.mono e2).mono e') .nil⟩
            obtain ⟨e4, rs4⟩ := rs3.put (o := exo ad (g.cls c') (some dx)) (ob := .exc c' (some S2.length)) (e3.at hn) fun H' e' q' => ⟨dx, by rw [← rs2.len]; simp, q'⟩
            exact p2 _ _ σ (e3.trans e4) rs4 ((re2.mono e3).mono e4)
          · simp only [if_neg q] at p2; exact p2.elim
        | some m =>
          by_cases q : c' = c
          · subst q
            simp only [if_true] at p2
            obtain ⟨dx, hm, hx⟩ := ob2
            cases e5 : S2[m]? with
            | none => rw [e5] at p2; exact p2.elim
            | some ob5 =>
              rw [e5] at p2
              cases ob5 with
              | xd fs =>
                dsimp only at p2
                by_cases hz : fs.length ≤ 900
                · rw [if_pos hz] at p2
                  obtain ⟨fv, h1, h2⟩ := rs2.ob m dx _ hm e5
                  obtain ⟨e4, rs4⟩ := rs2.put (o := exd dx ((f, v) :: fv)) (ob := .xd ((f, y) :: fs)) hm fun H' e' q' => ⟨_, q', kv1 ((ry.mono e2).mono e') (h2.mono e')⟩
                  exact ⟨na, .inr ⟨dx, fv, hx, h1, by rw [h2.length]; exact hz, p2 _ _ σ e4 rs4 (re2.mono e4)⟩⟩
                · rw [if_neg hz] at p2; exact p2.elim
              | _ => exact p2.elim
          · simp only [if_neg q] at p2; exact p2.elim
      | _ => exact p2.elim
  | _ => exact p2.elim
end

/-! ### C(e, ..) as a value -/
def tMkV (C : Addr) (sp : Sp) (dvs : List V) (ta : TA) : TE := fun σ H Q => ta σ H fun vs H1 => vs.length ≤ 1000 ∧ ∀ a, H1 a = none → sp (.ref a :: (vs ++ dvs)) (upd H1 a (exo a C none)) (fun v H2 => v = .non ∧ Q (.ref a) H2) E0
def mMkX (c : Nat) (f : List D → Store → Res D) (dd : List D) (as : AM) : EM := fun env S => (as env S).bind fun ds S1 => if ds.length ≤ 1000 then match f (.loc S1.length :: (ds ++ dd)) (S1 ++ [.exc c none]) with
  | .ok .non S2 => .ok (.loc S1.length) S2
  | _ => .stuck
  else .stuck
section
variable {g : G} {E : XK} {K : PySem.W.Frag}
theorem sim_mkX {n c : Nat} {f : List D → Store → Res D} {tas : TA} {as : AM} {dvs : List V} {dd : List D} (hf : Ar n f) (hd : ∀ l ρ H, RDs (g.hide l) ρ H dvs dd) (has : SimA g E tas as) : SimE g E (tMkV (g.cls c) (spOf g n f) dvs tas) (mMkX c f dd as) := by
  intro l σ H Q ρ S env re rs p
  refine has.bind re rs p fun ds S1 ρ1 H1 vs e1 rs1 rx re1 p1 => ?_
  by_cases hz : ds.length ≤ 1000
  · rw [if_pos hz] at p1
    refine ⟨by rw [rx.length]; exact hz, fun a ha => ?_⟩
    obtain ⟨e3, rs3⟩ := rs1.push (o := exo a (g.cls c) none) (ob := .exc c none) ha fun ρ' H' e' q => q
    have rself : RD (g.hide l) (ρ1 ++ [a]) (upd H1 a (exo a (g.cls c) none)) (.ref a) (.loc S1.length) := .loc (by rw [← rs1.len]; simp)
    refine sp_go hf (.cons rself ((rx.mono e3).append (hd l _ _))) rs3 ?_
    have p2 := PostE.ex p1 e3
    split at p2
    · rename_i S2 e
      rw [e]
      intro ρ' H' u e4 rs4 ru
      cases ru with
      | non => exact ⟨rfl, p2 ρ' H' _ e4 rs4 (.loc (e4.at (by rw [← rs1.len]; simp)))⟩
    · exact p2.elim
  · rw [if_neg hz] at p1; exact p1.elim
end
section
variable {X : Cx} {x : PySem.Str} {e : Expr} {es : List Expr} {ta : TA} {p pos : Pos}
/-- the rule: positional -/
theorem pe_mkV {k : Nat} {C fI : Addr} {fd : FuncData} {ps : List PySem.Str} {sp : Sp} {ds : List Value} {dvs : List V} (T : OexC X.K C) (iC : PySem.W.findIn X.K (.ref C) "__init__" = some (some (.ref fI))) (tI : PySem.W.typeIn X.K (.ref fI) = some (.type "function"))
    (F1 : FnOk X.prog X.w X.K X.mg X.base (L2.CX X.prog X.w) k fI fd ps sp) (hr : Room (k + 1) X.A) (hb : Binds X.K fd ps ds) (hd : Vals dvs ds) (hg : Gl X x) (hm : X.mg x = some (.ref C)) (ha : PA X (e :: es) ta)
    (hdb : (x == ("__debug__" : PySem.Str)) = false := by decide) (he : starEach (e :: es) X.env = (false, eval e X.env) :: starEach es X.env := by rfl) (hpl : (backTo pos (starEach es X.env)).any (·.1) = false := by rfl) :
    PE X (.Call (.Name x p) (e :: es) [] pos) (tMkV C sp dvs ta) := by
  refine ⟨fun pins s σ H Q I h => ?_⟩
  obtain ⟨nm, q, N, bs, bm, sn, sub, ab, col, dd, k0, k1, k2, k3, k5, hC, hbm⟩ := T.cls
  refine wpAny_Call_Name_kw (ld_glob I hg hm ?_ hdb)
  refine PySem.W.callWith_K (h₀ := X.base) I.ok.mod.kin T.kC (thn (ha.run pos pins s σ H _ I h) fun us s1 ⟨vs, H1, I1, r1, hz, q1⟩ => ⟨I1.kIn, ?_⟩) he hpl
  show wpAny _ _ (call (.ref C) us) _ _ _
  obtain ⟨hp, gg, dr, tk, os⟩ := s1
  have hsz : hp.objs.size ≤ hp.objs.size + 1 := Nat.le_succ _
  have hq := q1 (hp.objs.size + 1) (I1.hok.fresh hsz)
  have kk : ∀ b o, hp.get? b = some o → ((hp.push (PySem.W.kdv_tup us)).push (PySem.HandSPX.excO C hp.objs.size)).get? b = some o := fun b o e => Heap.get?_push_of_some _ (Heap.get?_push_of_some _ e)
  have I2 : Inv X pins σ (upd H1 (hp.objs.size + 1) (exo (hp.objs.size + 1) C none)) ⟨(hp.push (PySem.W.kdv_tup us)).push (PySem.HandSPX.excO C hp.objs.size), gg, dr, tk, os⟩ :=
    I1.laid (t' := tk) kk hsz (exo_ok (t1 := hp.objs.size) (by heap_get))
  have r2 : Vals (V.ref (hp.objs.size + 1) :: (vs ++ dvs)) (Value.ref (hp.objs.size + 1) :: (us ++ ds)) := .cons rfl (r1.append hd)
  have hl : (Value.ref (hp.objs.size + 1) :: us ++ ds).length = ps.length := r2.length.symm.trans (F1.len _ _ _ _ hq)
  have hus : us.length ≤ sizeLine := by
    rw [← Paired.length r1, sizeLine_eq]
    omega
  refine wpAny_call (PySem.HandSPX.call_own F.excBase_ValueError (fun Y => PySem.HandSPX.refsVE_contains Y bm hbm) (I1.kIn _ _ hC) (PySem.W.looks_findIn I1.kIn iC) (fun self => PySem.W.bind_fn I1.kIn self tI) hus ?_)
  refine codeAny_mono (F1.run _ X.stack _ _ ⟨Value.ref (hp.objs.size + 1) :: us, []⟩ (Value.ref (hp.objs.size + 1) :: (us ++ ds)) _ _ E0 (hr.make C us []) (I2.env0.make C us []) (hb _ (Value.ref (hp.objs.size + 1) :: us) I2.kIn hl) r2 hq) fun r s' hq' => ?_
  cases r with
  | error er => exact passL pins σ _ _ er s' I2 hq'
  | ok fl =>
    cases fl with
    | ret u =>
      obtain ⟨v, H', I3, rv, ev, q3⟩ := I2.after hq'
      subst ev
      exact ⟨rv, ⟨V.ref (hp.objs.size + 1), H', I3, rfl, q3⟩⟩
    | next => exact False.elim hq'
    | brk => exact False.elim hq'
    | cont => exact False.elim hq'
end

/-! ### C(k = e, ..) -/
section
variable {prog : Program} {w : World} {A : Around} {E : Value → Shared → Prop} {M : Model} {R : Result → Shared → Prop} {h : Heap} {g : Array GenState} {d : Drawn} {t : Nat} {os : OsState}
variable {nm q : PySem.Str} {C N : Addr} {bs bm bmB : List Value} {hdct : Bool} {sn : List PySem.Str} {sub : List Value} {ab : Bool} {col : Option Bool} {dd : Option Addr} {k0 k1 k2 k3 k5 : Option Value} {B newId initId : String}
theorem newK_check (F : ExcBaseFacts B newId initId bmB) (hT : ∀ X : String, bm.contains (.type X) = bmB.contains (.type X)) {rest : List Value} {kw : List (PySem.Str × Value)} {Q : Unit → Shared → Prop}
    (hC : h.get? C = some (excClassObj nm q C N bs bm hdct sn sub ab col dd k0 k1 k2 k3 k5 newId)) (hq : Q () ⟨h, g, d, t, os⟩) : wpAny M A (checkBuiltinCall newId ⟨.ref C :: rest, kw⟩) Q E ⟨h, g, d, t, os⟩ := by
  have i1 : (Value.ref C :: bm).contains (.type B) = true := by rw [List.contains_cons, hT, F.hasB, Bool.or_true]
  have i2 := F.noStar
  simp only [checkBuiltinCall, F.newKind, F.newSplit, F.newRow]
  repeat (first
    | refine wpAny_loadPart_at hC ?_
    | (refine wpAny_isSubtype_exc hC ?_; rw [i1])
    | refine wpAny_staticBase_exc hC ?_
    | refine wpAny_madeBy_exc hC ?_
    | simp only [bne_self_eq_false, Bool.false_eq_true, if_false]
    | wp_step)
  all_goals exact hq
end
section
variable {prog : Program} {w : World} {A : Around} {E : Value → Shared → Prop} {R : Result → Shared → Prop} {h : Heap} {g : Array GenState} {d : Drawn} {t : Nat} {os : OsState}
variable {nm q : PySem.Str} {C N : Addr} {bs bm bmB : List Value} {hdct : Bool} {sn : List PySem.Str} {sub : List Value} {ab : Bool} {col : Option Bool} {dd : Option Addr} {k0 k1 k2 k3 k5 : Option Value} {B newId initId : String}
theorem newK_run (F : ExcBaseFacts B newId initId bmB) (hT : ∀ X : String, bm.contains (.type X) = bmB.contains (.type X)) {rest : List Value} {kw : List (PySem.Str × Value)}
    (hC : h.get? C = some (excClassObj nm q C N bs bm hdct sn sub ab col dd k0 k1 k2 k3 k5 newId)) (hz : rest.length ≤ sizeLine)
    (hq : R (.ok (.ret (.ref (h.objs.size + 1)))) ⟨(h.push (PySem.W.kdv_tup rest)).push (PySem.HandSPX.excO C h.objs.size), g, d, t, os⟩) :
    codeAny (model prog w) A (.builtin newId ⟨.ref C :: rest, kw⟩) R ⟨h, g, d, t, os⟩ := by
  have i0 := F.ends
  have i1 : (Value.ref C :: bm).contains (.type B) = true := by rw [List.contains_cons, hT, F.hasB, Bool.or_true]
  have i2 : (Value.ref C :: bm).contains (.type "AttributeError") = false := by rw [List.contains_cons, hT, F.noAttr] <;> rfl
  have i3 : (Value.ref C :: bm).contains (.type "NameError") = false := by rw [List.contains_cons, hT, F.noName] <;> rfl
  refine codeAny_builtinAt F.entry ?_
  unfold Builtin.«BaseException.__new__»
  refine wpAt_bind ?_
  show wpAt _ _ _ (stack >>= _) _ _ _
  refine wpAt_bind (wpAt_stack fun p below => wpAt_of_wpAny ?_)
  wp_walk
  refine wpAt_of_wpAny ?_
  rw [F.owner]
  repeat (first
    | with_reducible refine wpAny_madeHere_exc F.canon hC ?_
    | with_reducible refine wpAny_loadPart_at hC ?_
    | (with_reducible refine wpAny_isSubtype_exc hC ?_; first | rw [i1] | rw [i2] | rw [i3])
    | wp_step)
  show R _ _
  rw [Heap.size_push]
  exact hq
theorem tcK (F : ExcBaseFacts B newId initId bmB) (hT : ∀ X : String, bm.contains (.type X) = bmB.contains (.type X)) {rest : List Value} {kw : List (PySem.Str × Value)} {fI : Addr} {Q : Fin → Shared → Prop}
    (hC : h.get? C = some (excClassObj nm q C N bs bm hdct sn sub ab col dd k0 k1 k2 k3 k5 newId)) (hi : PySem.W.Looks (model prog w) h (typeLookup (.ref C) "__init__") (some (.ref fI)))
    (hb : ∀ self, PySem.W.Looks (model prog w) h (bindSpecial (.ref fI) self) (.ref fI, [self])) (hz : rest.length ≤ sizeLine)
    (hq : codeAny (model prog w) A (.call (.ref fI) ⟨.ref (h.objs.size + 1) :: rest, kw⟩)
      (fun r s' => match r with | .ok (.ret v) => v = .none ∧ Q (.done (.ret (.ref (h.objs.size + 1)))) s' | .ok _ => False | .error e => E e s')
      ⟨(h.push (PySem.W.kdv_tup rest)).push (PySem.HandSPX.excO C h.objs.size), g, d, t, os⟩) : wpAny (model prog w) A (Builtin.«type.__call__» ⟨.ref C :: rest, kw⟩) Q E ⟨h, g, d, t, os⟩ := by
  repeat (first
    | with_reducible refine wpAny_loadPart_at hC ?_
    | with_reducible refine wpAny_madeBy_exc hC ?_
    | wp_step)
  refine codeAny_call_builtin_code (Code.quiet_builtin _ F.quiet) (newK_check F hT hC ?_)
  refine newK_run F hT hC hz ?_
  show wpAny _ _ _ _ _ _
  have k : ∀ b o, h.get? b = some o → ((h.push (PySem.W.kdv_tup rest)).push (PySem.HandSPX.excO C h.objs.size)).get? b = some o := fun b o e => Heap.get?_push_of_some _ (Heap.get?_push_of_some _ e)
  have kC := k _ _ hC
  have kN : ((h.push (PySem.W.kdv_tup rest)).push (PySem.HandSPX.excO C h.objs.size)).get? (h.objs.size + 1) = some (PySem.HandSPX.excO C h.objs.size) := by heap_get
  have cC : (Value.ref C :: bm).contains (.ref C) = true := by simp
  unfold isInstance
  repeat (first
    | with_reducible refine wpAny_loadPart_at kN ?_
    | (with_reducible refine wpAny_isSubtype_exc kC ?_; rw [cC])
    | wp_step)
  show wpAny _ _ (typeLookup (.ref C) _) _ _ _
  refine (hi.keeps k).at ?_
  refine wpAny_holding (wpAny_bind (((hb (.ref (h.objs.size + 1))).keeps k).at ?_))
  refine wpAny_bind (wpAny_call (codeAny_mono hq fun r s' z => ?_))
  rcases r with e | (v | _ | _ | _) <;> first | exact z | exact z.elim | skip
  obtain ⟨rfl, z⟩ := z
  first
    | exact wpAny_pure (wpAny_pure z)
    | (wp_walk; exact z)
theorem tcK_check {M : Model} {rest : List Value} {kw : List (PySem.Str × Value)} {Q : Unit → Shared → Prop} (hC : h.get? C = some (excClassObj nm q C N bs bm hdct sn sub ab col dd k0 k1 k2 k3 k5 newId)) (hq : Q () ⟨h, g, d, t, os⟩) :
    wpAny M A (checkBuiltinCall "type.__call__" ⟨.ref C :: rest, kw⟩) Q E ⟨h, g, d, t, os⟩ := by
  have i1 := tc_sub
  have i2 : (⟨h, g, d, t, os⟩ : Shared).TypeIs (.ref C) "type" := ⟨_, hC, rfl⟩
  simp only [checkBuiltinCall, tc_kind, tc_split]
  repeat (any_goals (first
    | assumption
    | with_reducible refine wpAny_loadPart_at hC ?_
    | with_reducible refine wpAny_onRaise ?_
    | with_reducible refine wpAny_map ?_
    | wp_step))
theorem callK (F : ExcBaseFacts B newId initId bmB) (hT : ∀ X : String, bm.contains (.type X) = bmB.contains (.type X)) {rest : List Value} {kw : List (PySem.Str × Value)} {fI : Addr}
    (hC : h.get? C = some (excClassObj nm q C N bs bm hdct sn sub ab col dd k0 k1 k2 k3 k5 newId)) (hi : PySem.W.Looks (model prog w) h (typeLookup (.ref C) "__init__") (some (.ref fI)))
    (hb : ∀ self, PySem.W.Looks (model prog w) h (bindSpecial (.ref fI) self) (.ref fI, [self])) (hz : rest.length ≤ sizeLine)
    (hq : codeAny (model prog w) (A.under (.builtin "type.__call__" ⟨.ref C :: rest, kw⟩)) (.call (.ref fI) ⟨.ref (h.objs.size + 1) :: rest, kw⟩) (PySem.W.InitBack (h.objs.size + 1) R)
      ⟨(h.push (PySem.W.kdv_tup rest)).push (PySem.HandSPX.excO C h.objs.size), g, d, t, os⟩) : codeAny (model prog w) A (.call (.ref C) ⟨rest, kw⟩) R ⟨h, g, d, t, os⟩ := by
  have f1 := tc_lookup
  have f2 := tc_bind (.ref C)
  have hTy : (⟨h, g, d, t, os⟩ : Shared).TypeIs (.ref C) "type" := ⟨_, hC, rfl⟩
  refine codeAny_of_tree ?_
  show wpAny _ _ (callAny (.ref C) _) _ _ _
  repeat (any_goals (first | assumption | with_reducible refine wpAny_loadPart_at hC ?_ | wp_step))
  refine ⟨rfl, ?_⟩
  refine codeAny_call_builtin_at (Code.quiet_builtin _ (by decide +kernel)) entry_typeCall (tcK_check hC (tcK F hT hC hi hb hz ?_))
  refine codeAny_mono hq fun r s' z => ?_
  rcases r with e | (v | _ | _ | _) <;> exact z
end

def tMkVk (C : Addr) (m : Nat) (sp : Sp) (gV : List V → List V → List V) (tk : TA) : TE := fun σ H Q => tk σ H fun zs H1 => zs.length = m ∧ ∀ a, H1 a = none → sp (gV [.ref a] zs) (upd H1 a (exo a C none)) (fun v H2 => v = .non ∧ Q (.ref a) H2) E0
section
variable {X : Cx} {x : PySem.Str} {kws : List Keyword} {tk : TA} {p pos : Pos}
theorem pe_mkVk {k : Nat} {C fI : Addr} {fd : FuncData} {ps ks : List PySem.Str} {sp : Sp} {gg : List Value → List Value → List Value} {gV : List V → List V → List V} (T : OexC X.K C) (iC : PySem.W.findIn X.K (.ref C) "__init__" = some (some (.ref fI))) (tI : PySem.W.typeIn X.K (.ref fI) = some (.type "function"))
    (F1 : FnOk X.prog X.w X.K X.mg X.base (L2.CX X.prog X.w) k fI fd ps sp) (hr : Room (k + 1) X.A) (hb : KBn X.K fd ps 1 ks gg gV) (hg : Gl X x) (hm : X.mg x = some (.ref C)) (hkw : PK X kws tk)
    (hall : (backToKw pos (keywordEach kws X.env)).all (·.1.isSome) = true := by rfl) (hks : (backToKw pos (keywordEach kws X.env)).filterMap (·.1) = ks := by rfl)
    (hdb : (x == ("__debug__" : PySem.Str)) = false := by decide) (hpl : ((backTo pos (starEach [] X.env)).any (·.1) || (backToKw pos (keywordEach kws X.env)).any (·.1.isNone)) = false := by rfl) :
    PE X (.Call (.Name x p) [] kws pos) (tMkVk C ks.length sp gV tk) := by
  refine ⟨fun pins s σ H Q I h => ?_⟩
  obtain ⟨nm, q, N, bs, bm, sn, sub, ab, col, dd, k0, k1, k2, k3, k5, hC, hbm⟩ := T.cls
  refine wpAny_Call_Name_kw (ld_glob I hg hm ?_ hdb)
  refine PySem.W.callWith_KW0 (h₀ := X.base) I.ok.mod.kin T.kC hall (thn (hkw.run pos pins s σ H _ I h) fun ws s1 ⟨zs, H1, I1, r1, hz, q1⟩ => ⟨I1.kIn, ?_⟩) hpl
  rw [hks]
  show wpAny _ _ (call (.ref C) [] (ks.zip ws)) _ _ _
  obtain ⟨hp, gs, dr, tk, os⟩ := s1
  have hsz : hp.objs.size ≤ hp.objs.size + 1 := Nat.le_succ _
  have hq := q1 (hp.objs.size + 1) (I1.hok.fresh hsz)
  have kk : ∀ b o, hp.get? b = some o → ((hp.push (PySem.W.kdv_tup [])).push (PySem.HandSPX.excO C hp.objs.size)).get? b = some o := fun b o e => Heap.get?_push_of_some _ (Heap.get?_push_of_some _ e)
  have I2 : Inv X pins σ (upd H1 (hp.objs.size + 1) (exo (hp.objs.size + 1) C none)) ⟨(hp.push (PySem.W.kdv_tup [])).push (PySem.HandSPX.excO C hp.objs.size), gs, dr, tk, os⟩ :=
    I1.laid (t' := tk) kk hsz (exo_ok (t1 := hp.objs.size) (by heap_get))
  have rs : Vals [V.ref (hp.objs.size + 1)] [Value.ref (hp.objs.size + 1)] := .cons rfl .nil
  refine wpAny_call (callK F.excBase_ValueError (fun Y => PySem.HandSPX.refsVE_contains Y bm hbm) (I1.kIn _ _ hC) (PySem.W.looks_findIn I1.kIn iC) (fun self => PySem.W.bind_fn I1.kIn self tI) (Nat.zero_le _) ?_)
  refine codeAny_mono (F1.run _ X.stack _ _ ⟨[Value.ref (hp.objs.size + 1)], ks.zip ws⟩ (gg [Value.ref (hp.objs.size + 1)] ws) _ _ E0 (hr.make C [] (ks.zip ws)) (I2.env0.make C [] (ks.zip ws)) (hb.to _ [Value.ref (hp.objs.size + 1)] ws I2.kIn rfl (r1.length.symm.trans hz)) (hb.rel rs r1) hq) fun r s' hq' => ?_
  cases r with
  | error er => exact passL pins σ _ _ er s' I2 hq'
  | ok fl =>
    cases fl with
    | ret u =>
      obtain ⟨v, H', I3, rv, ev, q3⟩ := I2.after hq'
      subst ev
      exact ⟨rv, ⟨V.ref (hp.objs.size + 1), H', I3, rfl, q3⟩⟩
    | next => exact False.elim hq'
    | brk => exact False.elim hq'
    | cont => exact False.elim hq'
end
def mMkXk (c m : Nat) (f : List D → Store → Res D) (gD : List D → List D → List D) (as : AM) : EM := fun env S => (as env S).bind fun ds S1 => if ds.length = m then match f (gD [.loc S1.length] ds) (S1 ++ [.exc c none]) with
  | .ok .non S2 => .ok (.loc S1.length) S2
  | _ => .stuck
  else .stuck
theorem sim_mkXk {g : G} {E : XK} {n c m : Nat} {f : List D → Store → Res D} {tas : TA} {as : AM} {gV : List V → List V → List V} {gD : List D → List D → List D} (hf : Ar n f) (hrel : ∀ {l : List Addr} {ρ : List Addr} {H : Hp} {vs zs : List V} {ds es : List D}, RDs (g.hide l) ρ H vs ds → RDs (g.hide l) ρ H zs es → RDs (g.hide l) ρ H (gV vs zs) (gD ds es)) (has : SimA g E tas as) :
    SimE g E (tMkVk (g.cls c) m (spOf g n f) gV tas) (mMkXk c m f gD as) := by
  intro l σ H Q ρ S env re rs p
  refine has.bind re rs p fun ds S1 ρ1 H1 vs e1 rs1 rx re1 p1 => ?_
  by_cases hz : ds.length = m
  · rw [if_pos hz] at p1
    refine ⟨by rw [rx.length]; exact hz, fun a ha => ?_⟩
    obtain ⟨e3, rs3⟩ := rs1.push (o := exo a (g.cls c) none) (ob := .exc c none) ha fun ρ' H' e' q => q
    have rself : RD (g.hide l) (ρ1 ++ [a]) (upd H1 a (exo a (g.cls c) none)) (.ref a) (.loc S1.length) := .loc (by rw [← rs1.len]; simp)
    refine sp_go hf (hrel (.cons rself .nil) (rx.mono e3)) rs3 ?_
    have p2 := PostE.ex p1 e3
    split at p2
    · rename_i S2 e
      rw [e]
      intro ρ' H' u e4 rs4 ru
      cases ru with
      | non => exact ⟨rfl, p2 ρ' H' _ e4 rs4 (.loc (e4.at (by rw [← rs1.len]; simp)))⟩
    · exact p2.elim
  · rw [if_neg hz] at p1; exact p1.elim

/-! ### an exception class without an own __init__ -/
def mEx0 (c : Nat) (as : EM) : EM := fun env S => (as env S).bind fun _ S1 => .ok (.loc S1.length) (S1 ++ [.ex0 c])
theorem sim_ex0 {g : G} {E : XK} {c : Nat} {ta : TE} {a : EM} (ha : SimE g E ta a) : SimE g E (fun σ H Q => ta σ H fun _ H1 => ∀ a, H1 a = none → Q (.ref a) (upd H1 a (ExO (.ref (g.cls c)) a))) (mEx0 c a) := by
  intro l σ H Q ρ S env re rs p
  refine ha.bind re rs p fun d S1 ρ1 H1 v e1 rs1 rx re1 p1 => ?_
  intro a hn
  obtain ⟨e3, rs3⟩ := rs1.push (o := ExO (.ref (g.cls c)) a) (ob := .ex0 c) hn fun ρ' H' e' q => q
  exact p1 _ _ _ e3 rs3 (.loc (by rw [← rs1.len]; simp))

/-! ### e.f of an exception -/
def tXg (K : PySem.W.Frag) (f : PySem.Str) (te : TE) : TE := fun σ H Q => te σ H fun x H1 => ∃ (a C dx : Addr) (fs : List (PySem.Str × V)) (v : V), x = .ref a ∧ H1 a = some (exo a C (some dx)) ∧ H1 dx = some (exd dx fs) ∧ fs.lookup f = some v ∧ XfC K C ∧ PySem.W.findIn K (.ref C) f = some none ∧ Q v H1
theorem pe_xg {X : Cx} {e : Expr} {te : TE} {pos : Pos} {n : PySem.Str} (he : PE X e te) (hb : attributeBase e n X.env (eval e X.env) = eval e X.env := by rfl) : PE X (.Attribute e n pos) (tXg X.K n te) := by
  refine ⟨fun pins s σ H Q I h => ?_⟩
  refine attr_of hb (thn (he.run pins s σ H _ I h) fun u s1 hh => ?_)
  obtain ⟨x, H1, I1, rx, a, C, dx, fs, v, ex, ea, ed, l, T, hno, q⟩ := hh
  subst ex
  obtain rfl : u = Value.ref a := rx
  obtain ⟨t1, ho⟩ := exo_at I1.hok ea
  obtain ⟨mA, hns, hr⟩ := exd_at I1.hok ed
  obtain ⟨od, hod, hl⟩ := lookIn_ns hns
  obtain ⟨u, hu, ru⟩ := RelO.some_of (v := v) (o := mA n) (by rw [← l]; exact hr n)
  have J : PySem.W.InstAt s1.heap a { cls := .ref C, dict := some dx, data := .fields #[.ref t1, .none, .none, .none, .bool false, .none] } C (some od) := ⟨ho, rfl, rfl, hod⟩
  exact PySem.HandSPX.exc_get I1.kIn J T.ga T.gg T.exC (PySem.W.findObj_own T.hdC hno rfl (by rw [hl, hu])) (handed_of ru) ⟨v, H1, I1.tok _, ru, q⟩
def fldX (ok : Nat → Bool) (f : PySem.Str) (d : D) (S : Store) : Option D := match d with
  | .loc n => match S[n]? with
    | some (.exc c' (some m)) => if ok c' = true then match S[m]? with
      | some (.xd fs) => fs.lookup f
      | _ => none
      else none
    | _ => none
  | _ => none
def mXg (ok : Nat → Bool) (f : PySem.Str) (a : EM) : EM := fun env S => (a env S).bind fun d S1 => match fldX ok f d S1 with
  | some x => .ok x S1
  | none => .stuck
theorem sim_xg {g : G} {E : XK} {K : PySem.W.Frag} {ok : Nat → Bool} {f : PySem.Str} {te : TE} {a : EM} (T : ∀ c, ok c = true → XfC K (g.cls c) ∧ PySem.W.findIn K (.ref (g.cls c)) f = some none) (ha : SimE g E te a) : SimE g E (tXg K f te) (mXg ok f a) := by
  intro l σ H Q ρ S env re rs p
  refine ha.bind re rs p fun d S1 ρ1 H1 v e1 rs1 rx re1 p1 => ?_
  cases hF : fldX ok f d S1 with
  | none => rw [hF] at p1; exact p1.elim
  | some x =>
    rw [hF] at p1
    cases rx with
    | @loc n ad hn =>
      simp only [fldX] at hF
      split at hF
      · rename_i c' m e
        split at hF
        · rename_i q
          split at hF
          · rename_i fs e5
            obtain ⟨dx, hm, hx⟩ := rs1.ob n ad _ hn e
            obtain ⟨fv, h1, h2⟩ := rs1.ob m dx _ hm e5
            obtain ⟨y, h3, h4⟩ := (h2.lookup (f := f)).1 x hF
            exact ⟨ad, _, dx, fv, y, rfl, hx, h1, h3, (T _ q).1, (T _ q).2, p1 ρ1 H1 y Ex.refl rs1 h4⟩
          · cases hF
        · cases hF
      · cases hF
    | _ => cases hF

/-! ### isinstance of an exception -/
open PySem.W in
theorem getO {prog : Program} {w : World} {A : Around} {E : Value → Shared → Prop} {s : Shared} {K : Frag} {x D : Addr} {ox : Obj} {od : Option Obj} {Q : Option Value → Shared → Prop} (C : ExcC K D) (X : K.In s.heap) (I : InstAt s.heap x ox D od) (h : Q (some (.ref D)) { s with toks := s.toks + 1 }) :
    wpAny (model prog w) A (getAttr? (.ref x) "__class__") Q E s := by
  have hf : findObj K D od "__class__" = some (.bind (.builtin "getset_descriptor.__get__") (.builtin "object.__class__")) := by
    obtain ⟨cd, hc, _⟩ := any_some C.hd
    unfold findObj
    rw [hc, Option.bind_some, C.ha, Option.bind_some]
    simp [C.hn, C.ht]
  obtain ⟨hp, g, d, t, os⟩ := s
  have a0 := I.type (M := model prog w)
  have a3 := looks_find (M := model prog w) X I hf
  have b2 : (Value.builtin "BaseException.__getattribute__" == Value.builtin "object.__getattribute__") = false := by decide +kernel
  have b1 : (onTheHeap (Value.ref D) && Value.builtin "BaseException.__getattribute__" == Value.builtin "object.__getattribute__") = false := by rw [b2] <;> rfl
  unfold getAttr? getAttrBy? getAttrBy
  refine wpAny_bind (wpAny_mkText (wpAny_bind (wpAny_attempt (wpAny_holding (wpAny_bind (a0.at (wpAny_bind ((looks_findIn X C.hg).at ?_))))))))
  show wpAny _ _ (if (onTheHeap (Value.ref D) && Value.builtin "BaseException.__getattribute__" == Value.builtin "object.__getattribute__") = true then _ else _) _ _ _
  rw [b1, if_neg Bool.false_ne_true]
  unfold getAttrByItsOwn hookBefore
  refine wpAny_bind ?_
  rw [if_pos (show onTheHeap (Value.ref D) = true from rfl)]
  refine (looks_findIn X C.hk).at ?_
  refine wpAny_bind (wpAny_attempt (wpAny_holding ?_))
  unfold callGetattribute
  rw [show (false && onTheHeap (Value.builtin "BaseException.__getattribute__")) = false from rfl, if_neg Bool.false_ne_true]
  unfold boundAndCalled
  rw [PySem.F.excAttr_ValueError.ga.bind (.ref x)]
  refine wpAny_bind (wpAny_pure ?_)
  show wpAny _ _ (call (.builtin "BaseException.__getattribute__") [.ref x, .str "__class__" t]) _ _ _
  refine wpAny_call (codeAny_call_builtin PySem.F.excAttr_ValueError.ga.plain PySem.F.entry_bexc_ga ?_)
  refine @check_slot (model prog w) _ _ ⟨hp, g, d, t + 1, os⟩ "BaseException.__getattribute__" "BaseException" "__getattribute__" (.ref x) [.str "__class__" t] [] _ (by decide +kernel) (by decide +kernel) (a0.andThen (looks_subIn X C.hs)) (PySem.F.args_bexc_ga (.ref x) (.str "__class__" t)) ?_
  unfold Builtin.«object.__getattribute__»
  refine wpAny_bind (wpAny_of_eq (a := ((Value.ref x : Value), [Value.str "__class__" t])) (by first | rfl | (simp only [slotArgs]; rfl)) ?_)
  refine wpAny_bind (wpAny_pure (wpAny_bind (a0.at (wpAny_bind (a3.at ?_)))))
  show wpAny _ _ (holding [Value.builtin "object.__class__"] (call (.builtin "getset_descriptor.__get__") [.builtin "object.__class__", .ref x, .ref D]) >>= ret) _ _ _
  refine wpAny_bind (wpAny_holding (wpAny_call (class_get (s := ⟨hp, g, d, t + 1, os⟩) (ox := ox) (od := od) X I C.hm ?_)))
  refine wpAny_pure ?_
  show wpAny _ _ (handedOut (.ref D)) _ _ _
  rw [handedOut_of (v := .ref D) rfl]
  first
    | exact wpAny_pure (wpAny_pure h)
    | exact wpAny_pure h
    | exact wpAny_pure (wpAny_bind (wpAny_pure (wpAny_pure h)))
open PySem.W in
theorem kitO {K : Frag} {x D : Addr} (C : ExcC K D) : KitX K (.ref x) (.ref D) (fun h => ∃ ox od, InstAt h x ox D od) where
  ty := fun _ _ _ ⟨_, _, I⟩ => I.type
  it := fun _ _ X _ => by
    obtain ⟨cd, hc, _⟩ := any_some C.hd
    unfold clsIn at hc
    split at hc
    · rename_i ho
      exact fun A' Q' E' s' k q => wpAny_bind (wpAny_loadPart (k _ _ (X _ _ ho)) (wpAny_pure q))
    · cases hc
  ne := fun h tp dd its n sl X htp => by
    obtain ⟨cd, hc, _⟩ := any_some C.hd
    refine Bool.eq_false_iff.mpr fun q => ?_
    have e : D = tp := Value.ref.inj (beq_iff_eq.mp q)
    subst e
    unfold clsIn at hc
    split at hc
    · rename_i ho
      cases (X _ _ ho).symm.trans htp
    · cases hc
  ca := fun X ⟨_, _, I⟩ k => getO C X I k
/-- isinstance(e, c), e an exception of the store -/
def rIsX (K : PySem.W.Frag) : List V → Hp → VK → Prop := fun xs H Q => ∃ (a D : Addr) (c : V) (cv : Value) (b : Bool), xs = [.ref a, c] ∧ ((∃ d, H a = some (exo a D d) ∧ ∀ dx, d = some dx → ∃ fs, H dx = some (exd dx fs)) ∨ H a = some (ExO (.ref D) a)) ∧
  (∀ u, RelV c u → u = cv) ∧ ExcC K D ∧ PySem.W.kitOne K (.ref D) cv = some b ∧ Q (.bl b) H
theorem call_isX {X : Cx} : CallR X (.builtin "isinstance") (rIsX X.K) := by
  intro pins s σ H xs us Q I r h
  obtain ⟨a, D, c, cv, b, rfl, ha, hcv, C, e, q⟩ := h
  obtain ⟨u1, u2, rfl, r1, r2⟩ := vals2 r
  have e2 := hcv _ r2
  subst e2
  obtain rfl : u1 = Value.ref a := r1
  have J : ∃ ox od, PySem.W.InstAt s.heap a ox D od := by
    rcases ha with ⟨d, ha, hd⟩ | ha
    · obtain ⟨t1, ho⟩ := exo_at I.hok ha
      cases d with
      | none => exact ⟨_, none, ho, rfl, rfl, trivial⟩
      | some dx =>
        obtain ⟨fs, hx⟩ := hd dx rfl
        obtain ⟨mA, ⟨o, es, ep, hoo, _⟩, _⟩ := exd_at I.hok hx
        exact ⟨_, some o, ho, rfl, rfl, hoo⟩
    · obtain ⟨⟨oe, vs, ho, hz, hd, _⟩, _, _⟩ := I.hok a _ ha
      obtain ⟨oc, od, oda, osl⟩ := oe
      obtain ⟨h1, h2⟩ := hz
      dsimp only at h1 h2 hd
      subst h1 h2 hd
      exact ⟨_, none, ho, rfl, rfl, trivial⟩
  exact PySem.W.kia_one (kitO C) I.kIn J e (fun z => nomatch z) fun tk => ⟨.bl b, H, I.tok tk, rfl, q⟩
def excCls (d : D) (S : Store) : Option Nat := match d with
  | .loc n => match S[n]? with
    | some (.exc c none) => some c
    | some (.exc c (some m)) => match S[m]? with
      | some (.xd _) => some c
      | _ => none
    | some (.ex0 c) => some c
    | _ => none
  | _ => none
/-- isi: what isinstance says of the class c -/
def mIsX (isi : Nat → Option Bool) (a : EM) : EM := fun env S => (a env S).bind fun d S1 => match excCls d S1 with
  | some c => match isi c with
    | some b => .ok (.bl b) S1
    | none => .stuck
  | none => .stuck
theorem sim_isX {g : G} {E : XK} {K : PySem.W.Frag} {isi : Nat → Option Bool} {cv : V} {u0 : Value} {ta : TE} {a : EM} (hu : ∀ u, RelV cv u → u = u0) (hi : ∀ c b, isi c = some b → ExcC K (g.cls c) ∧ PySem.W.kitOne K (.ref (g.cls c)) u0 = some b) (ha : SimE g E ta a) :
    SimE g E (tCB (rIsX K) (tCons ta (tCons (tC cv) tNil))) (mIsX isi a) := by
  intro l σ H Q ρ S env re rs p
  refine ha.bind re rs p fun d S1 ρ1 H1 v e1 rs1 rx re1 p1 => ?_
  cases hc : excCls d S1 with
  | none => rw [hc] at p1; exact p1.elim
  | some c =>
    rw [hc] at p1
    dsimp only at p1
    cases hb : isi c with
    | none => rw [hb] at p1; exact p1.elim
    | some b =>
      rw [hb] at p1
      obtain ⟨i1, i2⟩ := hi c b hb
      cases rx with
      | @loc n ad hn =>
        simp only [excCls] at hc
        split at hc
        · rename_i c' e
          cases hc
          exact ⟨ad, _, cv, u0, b, rfl, .inl ⟨none, rs1.ob n ad _ hn e, fun dx z => by cases z⟩, hu, i1, i2, p1 ρ1 H1 _ Ex.refl rs1 (.bl _)⟩
        · rename_i c' m e
          split at hc
          · rename_i fs e5
            cases hc
            obtain ⟨dx, hm, hx⟩ := rs1.ob n ad _ hn e
            obtain ⟨fv, h1, h2⟩ := rs1.ob m dx _ hm e5
            exact ⟨ad, _, cv, u0, b, rfl, .inl ⟨some dx, hx, fun dx' z => by cases z; exact ⟨fv, h1⟩⟩, hu, i1, i2, p1 ρ1 H1 _ Ex.refl rs1 (.bl _)⟩
          · cases hc
        · rename_i c' e
          cases hc
          exact ⟨ad, _, cv, u0, b, rfl, .inr (rs1.ob n ad _ hn e), hu, i1, i2, p1 ρ1 H1 _ Ex.refl rs1 (.bl _)⟩
        · cases hc
      | _ => cases hc
end Lg

namespace Lg
open PySem PySem.Spec L2
section
variable {X : Cx} {pins : List (Addr × Obj)} {σ : L2.St} {H : Hp} {s : Shared}
theorem unsuiteP {a : Addr} {q : Addr × Obj} {pn' : List (Addr × Obj)} (I : Inv (X.suite a (q :: (X.pn ++ pins))) pn' σ H s) (ok : X.Ok) : Inv X (q :: pins) σ H s :=
  ⟨ok, I.os, I.bare, I.base, I.loc, I.cell, I.free, I.freeC, fun p hp => I.pin p (List.mem_append_left _ (by
    rcases List.mem_append.mp hp with m | m
    · exact List.mem_cons_of_mem _ (List.mem_append_left _ m)
    · rcases List.mem_cons.mp m with rfl | m
      · exact List.mem_cons_self
      · exact List.mem_cons_of_mem _ (List.mem_append_right _ m))), I.hok, I.len⟩
/-- the clause catches; its suite goes on with Nx -/
def wKeep (K : PySem.W.Frag) (c : Value) (i : Nat) (ts : Addr → Value → Option Addr → TS) (Nx : Addr → Value → Option Addr → L2.St → Hp → Prop) : WX := fun cls d σ H =>
  PySem.W.exmOne K cls c = some true ∧ ∀ a, H a = none → ts a cls d { nx := fun σ' H' => Nx a cls d (σ'.set i none) H', rt := fun _ _ => False, bk := fun _ _ => False, ct := fun _ _ => False } (σ.set i (some (.ref a))) H
def Kept (X : Cx) (pins : List (Addr × Obj)) (Nx : Addr → Value → Option Addr → L2.St → Hp → Prop) (f : Flow) (s' : Shared) : Prop :=
  f = .next ∧ ∃ a oe cls d σ H, Zc cls d oe ∧ (∃ vs, oe.data = .fields vs) ∧ Inv X ((a, oe) :: pins) σ H s' ∧ Nx a cls d σ H
theorem try_keep {x n : PySem.Str} {c : Value} {i : Nat} {body suite : List Stmt} {b₀ : Stmt} {np pos pos' : Pos} {tb : WX → TS} {ts : Addr → Value → Option Addr → TS} {Nx : Addr → Value → Option Addr → L2.St → Hp → Prop}
    (hs : X.stack = X.env :: X.outer) (hf : X.env.frame = some X.env.locals) (hN : X.N.Nodup) (hi : X.N[i]? = some n) (hln : X.env.kindOf n = some .local) (hc : Names X x c)
    (hb : ∀ (W : WX) (pn : List (Addr × Obj)) (xe : Value → Shared → Prop), Takes (X.tr pn xe) W → PassesOwn (model X.prog X.w) X.A X.env xe → PSs (X.tr pn xe) body (tb W))
    (hsu : ∀ (a : Addr) (oe : Obj) (cls : Value) (d : Option Addr) (pn : List (Addr × Obj)), Zc cls d oe → (∃ vs, oe.data = .fields vs) → PSs (X.suite a ((a, oe) :: pn)) (b₀ :: suite) (ts a cls d))
    (I : Inv X pins σ H s) (h : tb (wKeep X.K c i ts Nx) { nx := fun _ _ => False, rt := fun _ _ => False } σ H) :
    wpAny (model X.prog X.w) X.A (exec (.Try body [.ExceptHandler (some (.Name x np)) (some n) (b₀ :: suite) pos'] [] [] pos) X.env) (Kept X pins Nx) X.xe s := by
  have ok := I.ok
  have hfr : X.A.frames = some (X.env :: X.outer) := by rw [ok.frames, hs]
  refine wpAny_Try_except ?_
  refine wpAny_mono ((hb (wKeep X.K c i ts Nx) (X.pn ++ pins) (fun e s₁ => wpAny (model X.prog X.w) X.A (noteFrame e X.env) (fun _ s₂ => wpAny (model X.prog X.w) X.A (setFlight e none) (fun _ s₃ =>
    wpAny (model X.prog X.w) X.A (handleBy e X.env [.ExceptHandler (some (.Name x np)) (some n) (b₀ :: suite) pos']) (Kept X pins Nx) X.xe s₃) X.xe s₂) X.xe s₁) (fun u s' xx => ?_) PassesOwn.looking).run [] s σ H _ (I.toTry _) h) (fun f s1 hsp => ?_) (fun e s1 he => he)
  · obtain ⟨a, B, sI, pins', σ', H', cls, d, rfl, J', nb, up, sky, na, os, ag, hyes, go⟩ := xx
    have J : Inv X pins σ' H' sI := J'.ofTry ok
    have sky' : Sky B (X.env :: X.outer) a (Zc cls d) X.env.locals s'.heap := by rw [← hs]; exact sky
    show wpAny (model X.prog X.w) X.A (noteFrame (.ref a) X.env) _ _ _
    refine Sky.land Zc.steady hfr hf sky' fun h3 fl3 up3 => ?_
    have J3 : Inv X pins σ' H' { s' with heap := h3 } := J.landed nb fl3.1 (up.trans up3) os ag
    obtain ⟨oe3, vs3, he3, hz3, hd3⟩ := fl3.there
    have nfr : a ∉ frs (X.env :: X.outer) := fun hm => by
      obtain ⟨_, o', e', hnf⟩ := fl3.2.2.1.mem hm
      rw [he3] at e'; cases e'
      exact hnf _ hd3
    have nL : a ≠ X.env.locals := fun z => nfr (List.mem_filterMap.mpr ⟨X.env, List.mem_cons_self, by rw [hf, z]⟩)
    have nF : a ∉ X.fs := fun hm => by
      obtain ⟨e, he, q⟩ := List.mem_filterMap.mp hm
      exact nfr (List.mem_filterMap.mpr ⟨e, List.mem_cons_of_mem _ he, q⟩)
    have S3 := J3.suite he3 hd3 na nL nF
    refine wpAny_handleBy_cons (codeAny_handlers_test ?_) (by intro q; cases q)
    have LT : PySem.W.Looks (model X.prog X.w) h3 (typeOf (.ref a)) cls := fun A Q E s k q => wpAny_typeOf_ref (k _ _ he3) (by rw [hz3.1]; exact q)
    have LM := PySem.W.exm_one (M := model X.prog X.w) (J3.kIn) LT hyes
    have test : ∀ {Q : Value → Shared → Prop} {E : Value → Shared → Prop}, Q c { s' with heap := h3 } → wpAny (model X.prog X.w) (X.A.mark (some (.ref a))) (eval (.Name x np) X.env) Q E { s' with heap := h3 } := fun {Q E} q => by
      obtain ⟨hg, hdbg, hm | ⟨hm, hv, hnn⟩⟩ := hc
      · exact ld_glob (X := X.suite a ((a, oe3) :: (X.pn ++ pins))) S3 hg hm q hdbg
      · exact ld_blt (X := X.suite a ((a, oe3) :: (X.pn ++ pins))) S3 hg hm hv q hnn hdbg
    refine test (LM.here ?_)
    refine codeAny_handlers_suite_as ?_
    refine HandSPX.lands_againZ fl3 fun h4 fl4 up4 => ?_
    have J4 : Inv X pins σ' H' { s' with heap := h4 } := J.landed nb fl4.1 ((up.trans up3).trans up4) os ag
    obtain ⟨oe4, vs4, he4, hz4, hd4⟩ := fl4.there
    have S4 := J4.suite he4 hd4 na nL nF
    refine store_ok (X := X.suite a ((a, oe4) :: (X.pn ++ pins))) (v := .ref a) S4 hN hi (.inl hln) rfl (fun s5 S5 => ?_) (.inr hln)
    refine wpAny_mono ((hsu a oe4 cls d (X.pn ++ pins) hz4 ⟨_, hd4⟩).run [] s5 _ H' _ S5 (go a na)) (fun f s6 hsp => ?_) (fun _ _ z => False.elim z)
    cases f with
    | next =>
      obtain ⟨σ6, H6, S6, q6⟩ := hsp
      exact gone_ok (unsuiteP S6 ok) hN hi hln fun s7 J7 => ⟨rfl, a, oe4, cls, d, _, _, hz4, ⟨_, hd4⟩, J7, q6⟩
    | brk =>
      obtain ⟨_, _, _, q6⟩ := hsp
      exact False.elim q6
    | cont =>
      obtain ⟨_, _, _, q6⟩ := hsp
      exact False.elim q6
    | ret u =>
      obtain ⟨_, _, _, _, _, q6⟩ := hsp
      exact False.elim q6
  · cases f with
    | next =>
      obtain ⟨_, _, _, q⟩ := hsp
      exact False.elim q
    | brk =>
      obtain ⟨_, _, _, q⟩ := hsp
      exact False.elim q
    | cont =>
      obtain ⟨_, _, _, q⟩ := hsp
      exact False.elim q
    | ret u =>
      obtain ⟨_, _, _, _, _, q⟩ := hsp
      exact False.elim q
end

/-- behind the try the kept exception's field is given back -/
def NxF (C : Addr) (j : Nat) (f : PySem.Str) (D : Ends) : Addr → Value → Option Addr → L2.St → Hp → Prop := fun a cls d σ' H' => cls = .ref C ∧ σ'[j]? = some (some (.ref a)) ∧ ∃ (dd : Addr) (fs : List (PySem.Str × V)) (v : V), d = some dd ∧ H' dd = some (.xd fs) ∧ fs.lookup f = some v ∧ D.rt v H'
def tKeepF (K : PySem.W.Frag) (c : Value) (i j : Nat) (C : Addr) (f : PySem.Str) (tmk : L2.St → Hp → XK → Prop) : TS := fun D σ H => tmk σ H fun cls d H' => wKeep K c i (fun _ _ _ => tAsg (tVar i) (gName j)) (NxF C j f D) cls d σ H'
section
variable {X : Cx} {i j : Nat} {x n y f : PySem.Str} {c : Value} {C : Addr} {e : Expr} {b₀ : Stmt} {suite : List Stmt} {np p1 p2 p3 p4 pos pos' : Pos} {tmk : L2.St → Hp → XK → Prop}
theorem pss_keepF (hs : X.stack = X.env :: X.outer) (hf : X.env.frame = some X.env.locals) (hcalm : X.calm = true) (hN : X.N.Nodup) (hi : X.N[i]? = some n) (hln : X.env.kindOf n = some .local) (hj : X.N[j]? = some y) (hlj : X.env.kindOf y = some .local) (hc : Names X x c)
    (T : XfC X.K C) (hno : PySem.W.findIn X.K (.ref C) f = some none) (hmk : ∀ (pn : List (Addr × Obj)) (xe : Value → Shared → Prop), PMk (X.tr pn xe) e tmk) (hsu : ∀ (a : Addr) (oe : Obj) (pn : List (Addr × Obj)), PSs (X.suite a ((a, oe) :: pn)) (b₀ :: suite) (tAsg (tVar i) (gName j)))
    (hb : attributeBase (.Name y p3) f X.env (eval (.Name y p3) X.env) = eval (.Name y p3) X.env := by rfl) (hd1 : (y == ("__debug__" : PySem.Str)) = false := by decide) (hd2 : (y == ("__classdict__" : PySem.Str)) = false := by decide) :
    PSs X [.Try [.Raise (some e) none p1] [.ExceptHandler (some (.Name x np)) (some n) (b₀ :: suite) pos'] [] [] pos, .Return (some (.Attribute (.Name y p3) f p2)) p4] (tKeepF X.K c i j C f tmk) := by
  refine ⟨fun pins s σ H D I h => ?_⟩
  have W := try_keep (X := X) (body := [.Raise (some e) none p1]) (np := np) (pos := pos) (pos' := pos') (tb := fun W _ σ H => tmk σ H fun cls d H' => W cls d σ H') (ts := fun _ _ _ => tAsg (tVar i) (gName j)) (Nx := NxF C j f D) hs hf hN hi hln hc (fun W pn xe tk _ => pss_one (ps_raise hcalm tk (hmk pn xe))) (fun a oe cls d pn _ _ => hsu a oe pn) I h
  refine wpAny_execs_cons (wpAny_mono W (fun fl s1 hk => ?_) fun _ _ z => z)
  obtain ⟨rfl, a, oe, cls, d, σ1, H1, hz, ⟨vs, hd⟩, I1, rfl, hσ, dd, fs, v, rfl, ha, hl, q⟩ := hk
  refine wpAny_execs_cons (wpAny_Return_some (attr_of hb (thn ((pe_var (X := X) hj (.inl hlj) hd1 hd2).run _ s1 σ1 H1 (fun x H2 => x = .ref a ∧ H2 = H1) I1 ⟨.ref a, hσ, rfl, rfl⟩) fun u s2 hh => ?_)))
  obtain ⟨x2, H2, I2, rx, rfl, rfl⟩ := hh
  obtain rfl : u = Value.ref a := rx
  have hget := (I2.pin (a, oe) (List.mem_append_right _ List.mem_cons_self)).1
  have hx : ObjOk X.prog X.w H2 s2.heap dd (.xd fs) := I2.hok dd _ ha
  obtain ⟨mA, hns, hr⟩ := hx
  obtain ⟨od, ho, hlk⟩ := lookIn_ns hns
  obtain ⟨w, hw, rw'⟩ := RelO.some_of (v := v) (o := mA f) (by rw [← hl]; exact hr f)
  have J : PySem.W.InstAt s2.heap a oe C (some od) := ⟨hget, hz.1, by unfold PySem.W.notCls; rw [hd] <;> rfl, by rw [hz.2]; exact ho⟩
  refine PySem.HandSPX.exc_get I2.kIn J T.ga T.gg T.exC (PySem.W.findObj_own T.hdC hno rfl (by rw [hlk, hw])) (handed_of rw') ?_
  have I3 : Inv X pins σ1 H2 { s2 with toks := s2.toks + 1 } := (I2.tok _).pins_of (fun p hp => I2.pin p (List.mem_append_right _ (List.mem_cons_of_mem _ hp)))
  exact ⟨v, σ1, H2, I3, rw', q⟩
end

/-! ### letting the last objects of the store go -/
mutual
def D.und (n : Nat) : D → Bool
  | .loc m => decide (m < n)
  | .tup ds => unds n ds
  | .tupX ds => unds n ds
  | .lst ds => unds n ds
  | _ => true
def unds (n : Nat) : List D → Bool
  | [] => true
  | d :: ds => d.und n && unds n ds
end
def undkv {κ : Type} (n : Nat) (l : List (κ × D)) : Bool := l.all fun p => p.2.und n
def Ob.und (n : Nat) : Ob → Bool
  | .lst ds => unds n ds
  | .dK kvs => undkv n kvs
  | .dT kvs => undkv n kvs
  | .ins _ fs => undkv n fs
  | .exc _ none => true
  | .exc _ (some m) => decide (m < n)
  | .xd fs => undkv n fs
  | .ex0 _ => true
section
variable {g : G} {ρ x : List Addr} {H H' : Hp}
theorem RD.cut (k : ∀ a, a ∉ x → H' a = H a) {v : V} {d : D} (r : RD g (ρ ++ x) H v d) : d.und ρ.length = true → RD g ρ H' v d := by
  have out : ∀ {a o}, H a = some o → Out g (ρ ++ x) a → H' a = some o ∧ Out g ρ a := fun {a o} h n => ⟨by rw [k a fun m => n.1 (List.mem_append_right _ m)]; exact h, fun m => n.1 (List.mem_append_left _ m), n.2⟩
  refine RD.rec (motive_1 := fun v d _ => d.und ρ.length = true → RD g ρ H' v d) (motive_2 := fun vs ds _ => unds ρ.length ds = true → RDs g ρ H' vs ds) (fun _ => .non) (fun b _ => .bl b) (fun i _ => .int i) (fun s _ => .str s) ?_ ?_ ?_ ?_ ?_ ?_ ?_ (fun _ => .nil) ?_ r
  · intro a vs ds h n _ ih u; exact .tup (out h n).1 (out h n).2 (ih (by simpa [D.und] using u))
  · intro a vs ds h n _ ih u; exact .lst (out h n).1 (out h n).2 (ih (by simpa [D.und] using u))
  · intro a ns n u
    refine .scr ?_
    rcases n with ⟨o, h, n⟩ | n
    · exact .inl ⟨o, (out h n).1, (out h n).2⟩
    · exact .inr n
  · intro n a h u
    have u : n < ρ.length := by simpa [D.und] using u
    exact .loc (by rw [List.getElem?_append_left u] at h; exact h)
  · intro a o h n u; exact .empF (out h n).1 (out h n).2
  · intro a h n u; exact .empU (out h n).1 (out h n).2
  · intro a o vs ds h hd n _ ih u; exact .tupX (out h n).1 hd (out h n).2 (ih (by simpa [D.und] using u))
  · intro v d vs ds _ _ h t u
    simp only [unds, Bool.and_eq_true] at u
    exact .cons (h u.1) (t u.2)
theorem RDs.cut (k : ∀ a, a ∉ x → H' a = H a) : ∀ {vs : List V} {ds : List D}, RDs g (ρ ++ x) H vs ds → unds ρ.length ds = true → RDs g ρ H' vs ds
  | _, _, .nil, _ => .nil
  | _, _, .cons h t, u => by
    simp only [unds, Bool.and_eq_true] at u
    exact .cons (h.cut k u.1) (RDs.cut k t u.2)
theorem RKV.cut {κ : Type} (k : ∀ a, a ∉ x → H' a = H a) : ∀ {xs : List (κ × V)} {ys : List (κ × D)}, RKV g (ρ ++ x) H xs ys → undkv ρ.length ys = true → RKV g ρ H' xs ys
  | _, _, .nil, _ => .nil
  | _, _, .cons h t, u => by
    simp only [undkv, List.all_cons, Bool.and_eq_true] at u
    exact .cons ⟨h.1, h.2.cut k u.1⟩ (RKV.cut k t u.2)
theorem RO.cut (k : ∀ a, a ∉ x → H' a = H a) {a : Addr} (ha : H' a = H a) {ob : Ob} (r : RO g (ρ ++ x) H a ob) (u : ob.und ρ.length = true) : RO g ρ H' a ob := by
  cases ob with
  | lst ds => obtain ⟨vs, q1, q2⟩ := r; exact ⟨vs, ha ▸ q1, q2.cut k u⟩
  | dK ds => obtain ⟨vs, q1, q2⟩ := r; exact ⟨vs, ha ▸ q1, q2.cut k u⟩
  | dT ds => obtain ⟨vs, q1, q2⟩ := r; exact ⟨vs, ha ▸ q1, q2.cut k u⟩
  | ins c fs => obtain ⟨dx, fv, q1, q2⟩ := r; exact ⟨dx, fv, ha ▸ q1, q2.cut k u⟩
  | exc c d => cases d with
    | none => exact (ha ▸ r : H' a = some (exo a (g.cls c) none))
    | some n =>
      obtain ⟨dx, q1, q2⟩ := r
      have u : n < ρ.length := by simpa [Ob.und] using u
      exact ⟨dx, by rw [List.getElem?_append_left u] at q1; exact q1, ha ▸ q2⟩
  | xd fs => obtain ⟨fv, q1, q2⟩ := r; exact ⟨fv, ha ▸ q1, q2.cut k u⟩
  | ex0 c => exact (ha ▸ r : H' a = some (ExO (.ref (g.cls c)) a))
theorem RS.cut (k : ∀ a, a ∉ x → H' a = H a) {S : Store} (rs : RS g (ρ ++ x) S H) (u : (S.take ρ.length).all (Ob.und ρ.length) = true) : RS g ρ (S.take ρ.length) H' := by
  have hle : ρ.length ≤ S.length := by rw [← rs.len, List.length_append]; exact Nat.le_add_right _ _
  have nd := List.nodup_append.mp rs.nd
  refine ⟨by rw [List.length_take]; omega, nd.1, fun n a ob h1 h2 => ?_, fun a m => ?_⟩
  · have hn : n < ρ.length := (List.getElem?_eq_some_iff.mp h1).1
    rw [List.getElem?_take_of_lt hn] at h2
    have hx : a ∉ x := fun m => nd.2.2 a (List.mem_of_getElem? h1) a m rfl
    refine (rs.ob n a ob (by rw [List.getElem?_append_left hn]; exact h1) h2).cut k (k a hx) ?_
    exact List.all_eq_true.mp u ob (List.mem_of_getElem? (by rw [List.getElem?_take_of_lt hn]; exact h2))
  · obtain ⟨⟨o, h, ho⟩, n⟩ := rs.hd a m
    exact ⟨⟨o, by rw [k a fun m => n (List.mem_append_right _ m)]; exact h, ho⟩, fun m => n (List.mem_append_left _ m)⟩
end
def sKeepF (c i j : Nat) (fld : PySem.Str) (f : List D → Store → Res D) (as : AM) : SM := fun env S => (as env S).bindS fun ds S1 => match f (.loc S1.length :: ds) (S1 ++ [.exc c none]) with
  | .ok .non S2 => match S2[S1.length]?, S2[S1.length + 1]? with
    | some (.exc c' (some m)), some (.xd fs) => if ds.length ≤ 1000 ∧ S2.length = S1.length + 2 ∧ c' = c ∧ m = S1.length + 1 ∧ (S2.take S1.length).all (Ob.und S1.length) = true ∧ i < env.length ∧ j < env.length ∧ i ≠ j then match fs.lookup fld with
      | some d => if d.und S1.length = true then .ret d (S2.take S1.length) else .stuck
      | none => .stuck
      else .stuck
    | _, _ => .stuck
  | _ => .stuck
theorem sims_keepF {g : G} {E : XK} {K : PySem.W.Frag} {c n i j : Nat} {fld : PySem.Str} {f : List D → Store → Res D} {cv : Value} {tas : TA} {as : AM} (hf : Ar n f) (hex : PySem.W.exmOne K (.ref (g.cls c)) cv = some true) (has : SimA g E tas as) :
    SimS g E (tKeepF K cv i j (g.cls c) fld (tMkO (g.cls c) (spOf g n f) [] tas)) (sKeepF c i j fld f as) := by
  intro l D' σ H ρ S env re rs p
  refine has.bindS re rs p fun ds S1 ρ1 H1 vs e1 rs1 rx re1 p1 => ?_
  have lσ : σ.length = env.length := Paired.length re1
  cases ef : f (.loc S1.length :: ds) (S1 ++ [.exc c none]) with
  | err x S2 => rw [ef] at p1; exact p1.elim
  | stuck => rw [ef] at p1; exact p1.elim
  | ok v0 S2 =>
    rw [ef] at p1
    cases v0 with
    | non =>
      dsimp only at p1
      split at p1
      · rename_i c' m fs en en1
        split at p1
        · rename_i hc
          obtain ⟨hz, hl2, rfl, rfl, hu, hi, hj, hij⟩ := hc
          split at p1
          · rename_i d hfd
            split at p1
            · rename_i hdu
              refine ⟨by rw [rx.length]; exact hz, fun a ha => ?_⟩
              obtain ⟨e3, rs3⟩ := rs1.push (o := exo a (g.cls c') none) (ob := .exc c' none) ha fun ρ' H' e' q => q
              have rself : RD (g.hide l) (ρ1 ++ [a]) (upd H1 a (exo a (g.cls c') none)) (.ref a) (.loc S1.length) := .loc (by rw [← rs1.len]; simp)
              rw [List.append_nil]
              refine sp_go hf (.cons rself (rx.mono e3)) rs3 ?_
              rw [ef]
              intro ρ2 H2 u e4 rs4 ru
              cases ru
              refine ⟨rfl, ?_⟩
              obtain ⟨l2, rfl, hl⟩ := e4.new
              have ll : l2.length = 1 := by
                have := rs4.len
                rw [hl2, List.length_append, List.length_append, rs1.len] at this
                simp at this
                omega
              obtain ⟨dx, rfl⟩ := List.length_eq_one_iff.mp ll
              have an : (ρ1 ++ [a] ++ [dx])[S1.length]? = some a := by rw [← rs1.len]; simp
              have dn : (ρ1 ++ [a] ++ [dx])[S1.length + 1]? = some dx := by rw [← rs1.len]; simp
              obtain ⟨dx', q1, q2⟩ := rs4.ob _ a _ an en
              rw [dn] at q1; cases q1
              obtain ⟨fv, q3, q4⟩ := rs4.ob _ dx _ dn en1
              have hdx := (hl dx List.mem_cons_self).1
              have dxa : dx ≠ a := fun z => by rw [z, upd_same] at hdx; cases hdx
              have hdx1 : H1 dx = none := by rw [upd_ne dxa] at hdx; exact hdx
              refine ⟨dx, fv, q2, q3, hdx1, hex, fun a' _ => ?_⟩
              have kk : ∀ b, b ∉ [a, dx] → upd (del H2 a) dx (HO.xd fv) b = H2 b := fun b hb => by
                rw [upd_ne (fun z => hb (by simp [z])), del_ne (fun z => hb (by simp [z]))]
              have rs5 : RS (g.hide l) ρ1 (S2.take S1.length) (upd (del H2 a) dx (.xd fv)) := by
                have r := RS.cut (g := g.hide l) (ρ := ρ1) (x := [a, dx]) kk (S := S2) (by simpa using rs4) (by rw [rs1.len]; exact hu)
                rw [rs1.len] at r; exact r
              have e5 : Ex ρ1 H1 ρ1 (upd (del H2 a) dx (.xd fv)) := ⟨⟨[], by simp, by simp⟩, fun b o nb hb => by
                have ba : b ≠ a := ne_of_none hb ha
                have bd : b ≠ dx := ne_of_none hb hdx1
                rw [kk b (by simp [ba, bd])]
                exact e4.keep b o (by simp [nb, ba]) (by rw [upd_ne ba]; exact hb)⟩
              obtain ⟨y, h3, h4⟩ := (q4.lookup (f := fld)).1 d hfd
              have h5 : RD (g.hide l) ρ1 (upd (del H2 a) dx (.xd fv)) y d := RD.cut (x := [a, dx]) kk (by simpa using h4) (by rw [rs1.len]; exact hdu)
              refine ⟨.ref a', by rw [List.getElem?_set_self (by rw [lσ]; exact hi)], ?_⟩
              refine ⟨rfl, ?_, dx, fv, y, rfl, upd_same, h3, p1 ρ1 _ y e5 rs5 h5⟩
              rw [List.getElem?_set_ne hij, List.getElem?_set_self (by simp [lσ]; exact hj)]
            · exact p1.elim
          · exact p1.elim
        · exact p1.elim
      · exact p1.elim
    | _ => exact p1.elim
end Lg

namespace Lg
open PySem PySem.Spec L2

mutual
def D.pd : D → Option PyData
  | .non => some .none
  | .bl b => some (.bool b)
  | .int i => some (.int i)
  | .str s => some (.str s)
  | .tup ds => (pds ds).map .tuple
  | .tupX ds => (pds ds).map .tuple
  | .lst ds => (pds ds).map .list
  | .emp _ => some (.dict [])
  | _ => none
def pds : List D → Option (List PyData)
  | [] => some []
  | d :: ds => match d.pd, pds ds with
    | some p, some ps => some (p :: ps)
    | _, _ => none
end
section
variable {X : Cx} {pins : List (Addr × Obj)} {σ : L2.St} {H : Hp} {s : Shared} {g : G} {ρ : List Addr}
def Trk (H : Hp) (as : List Addr) : Prop := ∀ b ∈ as, ∃ o, H b = some o
theorem empty_dict (I : Inv X pins σ H s) {a : Addr} {u : HO} (hk : ObjOk X.prog X.w H s.heap a (.dK [])) : Reads s.heap (.ref a) (.dict []) [a] := by
  obtain ⟨_, _, vs, kv, o, es, ep, ho, hx, hd, r⟩ := hk
  cases kv
  have he : es = #[] := by
    have l1 := r.2.1.length
    have : es.toList = [] := by simpa using l1
    exact Array.toList_eq_nil_iff.mp this
  subst he
  exact .dict (as := []) (bs := []) ho hx.1 hd .nil .nil
theorem reads_all (I : Inv X pins σ H s) {v : V} {d : D} (r : RD g ρ H v d) : ∀ p u, d.pd = some p → RelV v u → ∃ as, Reads s.heap u p as ∧ Trk H as := by
  refine RD.rec (motive_1 := fun v d _ => ∀ p u, d.pd = some p → RelV v u → ∃ as, Reads s.heap u p as ∧ Trk H as) (motive_2 := fun vs ds _ => ∀ ps us, pds ds = some ps → Vals vs us → ∃ as, ReadsAll s.heap us ps as ∧ Trk H as) ?_ ?_ ?_ ?_ ?_ ?_ ?_ ?_ ?_ ?_ ?_ ?_ ?_ r
  · intro p u e ru; cases e; cases (show u = Value.none from ru); exact ⟨[], .none, fun _ h => nomatch h⟩
  · intro b p u e ru; cases e; cases (show u = Value.bool b from ru); exact ⟨[], .bool b, fun _ h => nomatch h⟩
  · intro i p u e ru; cases e; obtain ⟨t, q⟩ := (show ∃ t, u = Value.int i t from ru); cases q; exact ⟨[], .int i t, fun _ h => nomatch h⟩
  · intro x p u e ru; cases e; obtain ⟨t, q⟩ := (show ∃ t, u = Value.str x t from ru); cases q; exact ⟨[], .str x t, fun _ h => nomatch h⟩
  · intro a vs ds h n _ ih p u e ru
    simp only [D.pd, Option.map_eq_some_iff] at e
    obtain ⟨ps, e1, rfl⟩ := e
    cases (show u = Value.ref a from ru)
    obtain ⟨_, its, rv, o, h1, h2, m, h3⟩ := (show ObjOk X.prog X.w H s.heap a (.tup vs) from I.hok a _ h)
    obtain ⟨as, q1, q2⟩ := ih ps its e1 rv
    exact ⟨as, .tuple h1 h2 h3 (by simpa using q1), q2⟩
  · intro a vs ds h n _ ih p u e ru
    simp only [D.pd, Option.map_eq_some_iff] at e
    obtain ⟨ps, e1, rfl⟩ := e
    cases (show u = Value.ref a from ru)
    obtain ⟨_, its, m, rv, h1⟩ := (show ObjOk X.prog X.w H s.heap a (.lst vs) from I.hok a _ h)
    obtain ⟨as, q1, q2⟩ := ih ps its e1 rv
    exact ⟨a :: as, .list h1 rfl rfl (by simpa using q1), fun b hb => (List.mem_cons.mp hb).elim (fun z => ⟨_, z ▸ h⟩) (q2 b)⟩
  · intro a ns n p u e ru; simp [D.pd] at e
  · intro n a h p u e ru; simp [D.pd] at e
  · intro a o h n p u e ru
    cases e
    cases (show u = Value.ref a from ru)
    exact ⟨[a], empty_dict (u := .dK []) I (show ObjOk X.prog X.w H s.heap a (.frz o (.dK [])) from I.hok a _ h).2, fun b hb => ⟨_, (List.mem_singleton.mp hb) ▸ h⟩⟩
  · intro a h n p u e ru
    cases e
    cases (show u = Value.ref a from ru)
    exact ⟨[a], empty_dict (u := .dK []) I (I.hok a _ h), fun b hb => ⟨_, (List.mem_singleton.mp hb) ▸ h⟩⟩
  · intro a o vs ds h hd n _ ih p u e ru
    simp only [D.pd, Option.map_eq_some_iff] at e
    obtain ⟨ps, e1, rfl⟩ := e
    cases (show u = Value.ref a from ru)
    obtain ⟨_, _, its, rv, o', h1, h2, m, h3⟩ := (show ObjOk X.prog X.w H s.heap a (.frz o (.tup vs)) from I.hok a _ h)
    obtain ⟨as, q1, q2⟩ := ih ps its e1 rv
    exact ⟨as, .tuple h1 h2 h3 (by simpa using q1), q2⟩
  · intro ps us e ru; simp [pds] at e; subst e; cases ru; exact ⟨[], .nil, fun _ h => nomatch h⟩
  · intro v d vs ds _ _ ih1 ih2 ps us e ru
    simp only [pds] at e
    split at e
    · rename_i p ps' e1 e2
      cases e
      cases ru with
      | cons r1 r2 =>
        obtain ⟨as, q1, q2⟩ := ih1 p _ e1 r1
        obtain ⟨bs, q3, q4⟩ := ih2 ps' _ e2 r2
        exact ⟨as ++ bs, .cons q1 q3, fun b hb => (List.mem_append.mp hb).elim (q2 b) (q4 b)⟩
    · cases e
end
/-- what the context must know for repr -/
structure Rg (X : Cx) : Prop where
  g : X.A.guards = some []
  sm : ∃ o, X.base.get? sysModules = some o
  u : X.A.units + 64 < cLine
/-- repr(x) -/
def rRepr : List V → Hp → VK → Prop := fun xs H Q => ∃ (v : V) (g : G) (ρ : List Addr) (d : D) (p : PyData), xs = [v] ∧ RD g ρ H v d ∧ d.pd = some p ∧ p.showable = true ∧ p.shown.length ≤ sizeLine ∧ p.depth ≤ 40 ∧ Q (.str p.shown) H
theorem call_repr {X : Cx} (R : Rg X) : CallR X (.builtin "repr") rRepr := by
  intro pins s σ H xs us Q I r h
  obtain ⟨v, g, ρ, d, p, rfl, rd, e, hs, hz, hd, q⟩ := h
  obtain ⟨u, rfl, ru⟩ := vals1 r
  obtain ⟨as, rr, tr⟩ := reads_all I rd p u e ru
  obtain ⟨o1, h1⟩ := R.sm
  have ns : sysModules ∉ as := fun m => by
    obtain ⟨o, ho⟩ := tr _ m
    rw [(I.bs _ _ h1).2] at ho
    cases ho
  cases u with
  | ref a =>
    exact repr_of_reads' rr hs (fun _ => ns) R.g (by have := R.u; omega) (fun _ _ e => e) (fun h' u tk hk => ⟨.str _, H, I.kept (t' := tk) hk, ⟨_, rfl⟩, q⟩) hz
  | none => cases rr; exact PySem.P.repr_of_none ⟨.str _, H, I.tok _, ⟨_, rfl⟩, q⟩
  | bool b => cases rr; exact PySem.P.repr_of_bool ⟨.str _, H, I.tok _, ⟨_, rfl⟩, q⟩
  | int i t => cases rr; exact PySem.P.repr_of_int (of_decide_eq_true hs) ⟨.str _, H, I.tok _, ⟨_, rfl⟩, q⟩
  | str x t => cases rr; exact PySem.P.repr_of_str ⟨.str _, H, I.tok _, ⟨_, rfl⟩, q⟩ hz
  | _ => cases rr
def cRepr (ds : List D) (S : Store) : Res D := match ds with
  | [d] => match d.pd with
    | some p => if p.showable = true ∧ p.shown.length ≤ sizeLine ∧ p.depth ≤ 40 then .ok (.str p.shown) S else .stuck
    | none => .stuck
  | _ => .stuck
theorem sim_repr {g : G} {E : XK} : CallSim g E rRepr cRepr := by
  intro l xs H Q ρ S ds rx rs p
  unfold cRepr at p
  split at p
  · rename_i d
    split at p
    · rename_i pp e
      split at p
      · rename_i h
        obtain ⟨v, rfl, r⟩ := rx.one
        exact ⟨v, _, ρ, d, pp, rfl, r, e, h.1, h.2.1, h.2.2, p ρ H _ Ex.refl rs (.str _)⟩
      · exact p.elim
    · exact p.elim
  · exact p.elim

/-! ### defs that are called with nothing guarded -/
structure FnG (P : Program) (w : World) (K : PySem.W.Frag) (mg : PySem.Str → Option Value) (base : Heap) (k : Nat) (f : Addr) (fd : FuncData) (ps : List PySem.Str) (sp : Sp) : Prop where
  len : ∀ vs H Q E, sp vs H Q E → vs.length = ps.length
  run : ∀ (A : Around) (outer : List Env) (s : Shared) (H : Hp) (args : Args) (us : List Value) (vs : List V) (Q : VK) (E : XK), Room k A → A.guards = some [] → Env0 P w K mg base A outer s H → BindsTo s fd args (ps.zip us) → Vals vs us → sp vs H Q E →
    codeAny (model P w) A (.call (.ref f) args) (CR (L2.CX P w) outer P w H s Q E) s
section
variable {X : Cx} {k : Nat} {f : Addr} {fd : FuncData} {ps : List PySem.Str} {sp : Sp} {dvs : List V} {ds : List Value} {E : XK} {x : PySem.Str} {p pos : Pos} {e : Expr} {es : List Expr} {t : TA}
theorem pe_callG (F : FnG X.prog X.w X.K X.mg X.base k f fd ps sp) (gg : X.A.guards = some []) (hr : Room k X.A) (hg : Gl X x) (hm : X.mg x = some (.ref f)) (hk : PySem.W.keepIn X.K (.ref f) = true) (hb : Binds X.K fd ps ds) (hd : Vals dvs ds) (hx : Passes (L2.CX X.prog X.w) X E)
    (ha : PA X (e :: es) t) (hdb : (x == ("__debug__" : PySem.Str)) = false := by decide) (he : starEach (e :: es) X.env = (false, eval e X.env) :: starEach es X.env := by rfl) (hpl : (backTo pos (starEach es X.env)).any (·.1) = false := by rfl) :
    PE X (.Call (.Name x p) (e :: es) [] pos) (tCall sp dvs E t) := by
  refine ⟨fun pins s σ H Q I h => ?_⟩
  refine wpAny_Call_Name_kw (ld_glob I hg hm ?_ hdb)
  refine PySem.W.callWith_K (h₀ := X.base) I.ok.mod.kin hk (thn (ha.run pos pins s σ H _ I h) fun us s1 ⟨vs, H1, I1, r, q⟩ => ⟨I1.kIn, ?_⟩) he hpl
  have r2 : Vals (vs ++ dvs) (us ++ ds) := r.append hd
  refine wpAny_call (codeAny_mono (F.run X.A X.stack s1 H1 ⟨us, []⟩ (us ++ ds) (vs ++ dvs) Q E hr gg I1.env0 (hb s1 us I1.kIn (r2.length.symm.trans (F.len _ _ _ _ q))) r2 q) fun r s' hq => ?_)
  cases r with
  | error e => exact hx pins σ H1 s1 e s' I1 hq
  | ok fl =>
    cases fl with
    | ret u => exact I1.after hq
    | next => exact False.elim hq
    | brk => exact False.elim hq
    | cont => exact False.elim hq
end
section
variable {P : Program} {w : World} {K : PySem.W.Frag} {mg : PySem.Str → Option Value} {base : Heap} {g : G}
theorem fn_simG {x qual : PySem.Str} {st : Stmt} {f : Addr} {fd : FuncData} {N ps : List PySem.Str} {k : Nat} {m : SM} (F : Fun K x qual st f fd) (S : FnScope N ps (defScope st)) (sm : ∃ o, base.get? sysModules = some o)
    (hb : ∀ (cdv : Value) (A : Around) (outer : List Env) (s : Shared) (H : Hp) (E : XK), Room k (A.deeper (PyProof.Rows.envOfC qual (defScope st) s.heap.objs.size f cdv)) → Rg (cxOf (L2.CX P w) P w K mg base N qual (defScope st) f cdv A outer s H E) →
      ∃ t, PSs (cxOf (L2.CX P w) P w K mg base N qual (defScope st) f cdv A outer s H E) (defBody st) t ∧ SimS g E t m) :
    FnG P w K mg base (k + 1) f fd ps (spOf g ps.length (mDef N.length ps.length m)) := by
  obtain ⟨oc, od, kV, doc, pm, an, cdv, ct, osl, rfl, lk, hcd⟩ := F.ex
  refine ⟨fun vs H Q E h => by obtain ⟨l, ρ, S, ds, hl, _⟩ := h; exact hl, fun A outer s H args us vs Q E hr gg e0 hbd r hsp => ?_⟩
  obtain ⟨l, ρ, S0, ds, hl, rd, rs, p⟩ := hsp
  have KX : K.In s.heap := e0.mod.kin.keeps fun b o e => (e0.bs b o e).1
  have lim : s.heap.NoLimit := e0.mod.nolimit.keeps fun b o e => (e0.bs b o e).1
  refine codeAny_call_function hr.depth (KX _ _ lk) rfl S.co S.gen rfl (PySem.W.codeRec_of KX hcd) (hbd _ _ _ _ ?_)
  refine wpAny_newFunctionEnv_cells S.kind (fun ⟨n, v⟩ hy => ?_) fun env he s1 xx => ?_
  · rcases S.par n (List.of_mem_zip hy).1 with q | q
    · exact .inl q
    · exact .inr ⟨q, PySem.W.cellsFrom_some _ _ _ (.inl q)⟩
  subst he
  refine ⟨lim.keeps xx.toInCall.keep, codeAny_func ?_⟩
  have hr2 := hr.deeper (PyProof.Rows.envOfC qual (defScope st) s.heap.objs.size f cdv)
  obtain ⟨t, ht, hs⟩ := hb cdv A outer s H E hr2 ⟨gg, sm, hr2.units⟩
  have hq : t { nx := fun _ H' => Q .non H', rt := Q } (L2.start N vs) H := by
    refine hs l _ _ H ρ S0 (startE N.length ds) (re_start rd) rs ?_
    unfold mDef at p
    rw [if_pos (by rw [← rd.length]; exact hl)] at p
    cases e : m (startE N.length ds) S0 with
    | ret d S' => rw [e] at p; exact p
    | next env' S' => rw [e] at p; exact fun ρ' H' σ' e1 rs1 re1 => p ρ' H' .non e1 rs1 .non
    | err x S' => rw [e] at p; exact p
    | brk env' S' => rw [e] at p; exact p.elim
    | cont env' S' => rw [e] at p; exact p.elim
    | stuck => rw [e] at p; exact p.elim
  have I : Inv (cxOf (L2.CX P w) P w K mg base N qual (defScope st) f cdv A outer s H E) [] (L2.start N vs) H s1 := inv_start S hr.hd e0 hl r xx
  refine wpAny_mono (ht.run [] s1 (L2.start N vs) H _ I hq) (fun fl s' hs => ?_) fun e s' hs => hs
  cases fl with
  | ret u =>
    obtain ⟨v, σ', H', J, rv, q⟩ := hs
    exact ⟨v, H', J.os, J.bare, J.base, J.hok, rv, q⟩
  | next =>
    obtain ⟨σ', H', J, q⟩ := hs
    exact ⟨.non, H', J.os, J.bare, J.base, J.hok, rfl, q⟩
  | brk =>
    obtain ⟨_, _, _, q⟩ := hs
    exact False.elim q
  | cont =>
    obtain ⟨_, _, _, q⟩ := hs
    exact False.elim q
end
end Lg

namespace Lg
open PySem PySem.Spec L2
def tDNewF : TE := fun _ H Q => ∀ p o, H p = none → Q (.ref p) (upd H p (.frz o (.dK [])))
theorem pe_dnewF {X : Cx} {pos : Pos} : PE X (.Dict [] [] pos) tDNewF := ⟨fun pins s σ H Q I h =>
  wpAny_Dict_empty ⟨.ref s.heap.objs.size, _, I.laid (a := s.heap.objs.size) (o := .frz { cls := .type "dict", data := .dict #[] } (.dK [])) (t' := s.toks) (fun _ _ q => Heap.get?_push_of_some _ q) (Nat.le_refl _) ⟨Heap.get?_push_size _ rfl, dk_empty s.heap I.big⟩, rfl, h _ _ (I.hok.fresh (Nat.le_refl _))⟩⟩
def mEmp : EM := fun _ S => .ok (.emp true) S
theorem sim_emp {g : G} {E : XK} : SimE g E tDNewF mEmp := by
  intro l σ H Q ρ S env re rs p q o hq
  exact p ρ _ _ (Ex.new1 hq) (rs.aside hq) (.empF upd_same (rs.fresh hq))
/-- {k: v for .. in d.items()}, d the empty dict -/
def mDc0 (a : EM) : EM := fun env S => (a env S).bind fun d S1 => match d with
  | .emp true => .ok (.emp false) S1
  | _ => .stuck
theorem sim_dc0 {g : G} {E : XK} {te : TE} {a : EM} {gt : TG} {tt : TT} {tk tv : TE} {vs : List Nat} (ha : SimE g E te a) : SimE g E (tDc (iItems te) gt tt tk tv vs) (mDc0 a) := by
  intro l σ H Q ρ S env re rs p
  refine ha.bind re rs p fun d S1 ρ1 H1 v e1 rs1 rx re1 p1 => ?_
  cases rx with
  | @empF ad o h n =>
    refine ⟨ad, o, [], rfl, h, fun D hD => ?_⟩
    refine ⟨fun i _ H' => i = 0 ∧ H' = upd H1 D (.dK []), ⟨0, rfl, rfl⟩, ?_⟩
    rintro i m H' ⟨rfl, rfl⟩
    exact .inl ⟨⟨by rw [upd_ne (ne_of_none h hD)]; exact h, Nat.le_refl _⟩, p1 ρ1 _ _ (Ex.new1 hD) (rs1.aside hD) (.empU upd_same (rs1.fresh hD))⟩
  | _ => exact p1.elim

/-! ### signs repeated -/
instance (x : PySem.Str) (n : Int) : Decidable (MulOk x n) := by unfold MulOk; infer_instance
def rMulS : R2 := fun x y H Q => ∃ (a : PySem.Str) (n : Int), x = .str a ∧ y = .int n ∧ MulOk a n ∧ Q (.str (Txt.mul a n)) H
theorem op_mulS {X : Cx} : OpR X (binaryOp .Mult) rMulS := by
  intro pins s σ H x y v u Q I rx ry h
  obtain ⟨a, n, rfl, rfl, ok, q⟩ := h
  obtain ⟨t, e⟩ := (show ∃ t, v = Value.str a t from rx)
  obtain ⟨t', e'⟩ := (show ∃ t, u = Value.int n t from ry)
  cases e; cases e'
  exact SB.mul ok fun t'' k => ⟨.str _, H, I.tok k, ⟨_, rfl⟩, q⟩
def dMulS (x y : D) (S : Store) : Res D := match x, y with
  | .str a, .int n => if MulOk a n then .ok (.str (Txt.mul a n)) S else .stuck
  | _, _ => .stuck
theorem sim_mulS {g : G} {E : XK} : OpSim g E rMulS dMulS := by
  intro l x y H Q ρ S dx dy rx ry rs p
  unfold dMulS at p
  split at p
  · cases rx; cases ry
    split at p
    · rename_i h
      exact ⟨_, _, rfl, rfl, h, p ρ H _ Ex.refl rs (.str _)⟩
    · exact p.elim
  · exact p.elim

/-! ### == with texts of any signs -/
def rEqA (K : PySem.W.Frag) : R2 := fun x y H Q => rEqD K x y H Q ∨ ∃ a b : PySem.Str, x = .str a ∧ y = .str b ∧ Q (.bl (decide (a = b))) H
def rNeA (K : PySem.W.Frag) : R2 := fun x y H Q => rNeD K x y H Q ∨ ∃ a b : PySem.Str, x = .str a ∧ y = .str b ∧ Q (.bl (!decide (a = b))) H
theorem op_eqT {X : Cx} : OpR X (compareOp .Eq) (fun x y H Q => ∃ a b : PySem.Str, x = .str a ∧ y = .str b ∧ Q (.bl (decide (a = b))) H) := by
  intro pins s σ H x y v u Q I rx ry h
  obtain ⟨a, b, rfl, rfl, q⟩ := h
  refine op_eq pins s σ H _ _ v u Q I rx ry ⟨rfl, ?_⟩
  rw [show decide (V.str a = V.str b) = decide (a = b) by simp]
  exact q
theorem op_neT {X : Cx} : OpR X (compareOp .NotEq) (fun x y H Q => ∃ a b : PySem.Str, x = .str a ∧ y = .str b ∧ Q (.bl (!decide (a = b))) H) := by
  intro pins s σ H x y v u Q I rx ry h
  obtain ⟨a, b, rfl, rfl, q⟩ := h
  refine op_ne pins s σ H _ _ v u Q I rx ry ⟨rfl, ?_⟩
  rw [show decide (V.str a = V.str b) = decide (a = b) by simp]
  exact q
theorem op_eqA {X : Cx} (hu : X.A.units + 64 < cLine) : OpR X (compareOp .Eq) (rEqA X.K) := (op_eqD hu).or op_eqT
theorem op_neA {X : Cx} (hu : X.A.units + 64 < cLine) : OpR X (compareOp .NotEq) (rNeA X.K) := (op_neD hu).or op_neT
def dEqA (x y : D) (S : Store) : Res D := match x, y with
  | .str a, .str b => .ok (.bl (decide (a = b))) S
  | x, y => dEq x y S
def dNeA (x y : D) (S : Store) : Res D := match x, y with
  | .str a, .str b => .ok (.bl (!decide (a = b))) S
  | x, y => dNe x y S
theorem sim_eqA {g : G} {E : XK} {K : PySem.W.Frag} : OpSim g E (rEqA K) dEqA := by
  intro l x y H Q ρ S dx dy rx ry rs p
  unfold dEqA at p
  split at p
  · cases rx; cases ry
    exact .inr ⟨_, _, rfl, rfl, p ρ H _ Ex.refl rs (.bl _)⟩
  · exact .inl (sim_eq l x y H Q ρ S dx dy rx ry rs p)
theorem sim_neA {g : G} {E : XK} {K : PySem.W.Frag} : OpSim g E (rNeA K) dNeA := by
  intro l x y H Q ρ S dx dy rx ry rs p
  unfold dNeA at p
  split at p
  · cases rx; cases ry
    exact .inr ⟨_, _, rfl, rfl, p ρ H _ Ex.refl rs (.bl _)⟩
  · exact .inl (sim_ne l x y H Q ρ S dx dy rx ry rs p)
end Lg

namespace Lg
open PySem PySem.Spec L2
def mInit (c n np : Nat) (m : SM) (ds : List D) (S : Store) : Res D := match ds with
  | .loc i :: _ => match S[i]? with
    | some (.exc c' none) => if c' = c then mDef n np m ds S else .stuck
    | _ => .stuck
  | _ => .stuck
theorem ar_init {c n np : Nat} {m : SM} : Ar np (mInit c n np m) := fun ds S h => by
  unfold mInit
  split
  · split
    · split
      · exact mDef_len h
      · rfl
    · rfl
  · rfl
section
variable {P : Program} {w : World} {K : PySem.W.Frag} {mg : PySem.Str → Option Value} {base : Heap} {N : List PySem.Str} {qual : PySem.Str} {scope : Scope} {f cda cc : Addr} {A : Around} {outer : List Env} {s : Shared} {H : Hp} {E : XK}
theorem pS : Passes (L2.CX P w) (cxS P w K mg base N qual scope f cda cc A outer s H E) E := passes_call (takes_of rfl rfl rfl rfl) (fun _ _ _ _ h => h)
end
/-- an own exception class with its own __init__, as it stands behind the top; st: the def's statement -/
structure XI (K : PySem.W.Frag) (prog : Program) (mg : PySem.Str → Option Value) (n qual : PySem.Str) (st : Stmt) (C fI cda cc : Addr) (fd : FuncData) : Prop where
  ex : ∃ (oc : Value) (od : Option Addr) (kV doc pm : Value) (an : Option Addr) (ct : Value) (osl : Array (Option Value)), fd = PySem.W.ksFn "__init__" qual (defArgs st) (defBody st) (defScope st) .none kV doc pm an (.ref cda) ct cc ∧ K.lookup fI = some ⟨oc, od, .func fd, osl⟩
  cd : PySem.W.codeIn K (.ref cda) qual = true
  U : SupC K prog C cda cc
  m : mg n = some (.ref C)
  su : mg "super" = none
  iC : PySem.W.findIn K (.ref C) "__init__" = some (some (.ref fI))
  tI : PySem.W.typeIn K (.ref fI) = some (.type "function")
section
variable {P : Program} {w : World} {K : PySem.W.Frag} {mg : PySem.Str → Option Value} {base : Heap} {g : G}
theorem fn_init {n qual z : PySem.Str} {st : Stmt} {C fI cda cc : Addr} {fd : FuncData} {N ps : List PySem.Str} {k c j : Nat} {m : SM} {p0 p1 p2 p3 p4 p5 : Pos} {rest : List Stmt} {ar : Arg} {pl : Shared → Sem Bool}
    (F : XI K P mg n qual st C fI cda cc fd) (hc : g.cls c = C) (hst : defBody st = .Expr (.Call (.Attribute (.Call (.Name "super" p0) [] [] p1) "__init__" p2) [.Constant (.str z) j p3] [] p4) p5 :: rest) (S : ScS N ps (defScope st)) (hp : ((defArgs st).posonlyargs ++ (defArgs st).args).head? = some ar) (hps : ps.head? = some ar.arg)
    (hev : ∀ s : Shared, eval (.Call (.Attribute (.Call (.Name "super" p0) [] [] p1) "__init__" p2) [.Constant (.str z) j p3] [] p4) (sEnv qual (defScope st) s fI cda cc) = (do
      let ov ← attributeBase (.Call (.Name "super" p0) [] [] p1) "__init__" (sEnv qual (defScope st) s fI cda cc) (eval (.Call (.Name "super" p0) [] [] p1) (sEnv qual (defScope st) s fI cda cc))
      standAt p2.atName
      let (g, first) ← holding [ov] (getMethod ov "__init__" (pl s))
      callWith p4 g first (backTo p4 (starEach [.Constant (.str z) j p3] (sEnv qual (defScope st) s fI cda cc))) []))
    (hb : ∀ (A : Around) (outer : List Env) (s : Shared) (H : Hp) (E : XK), Room k (A.deeper (sEnv qual (defScope st) s fI cda cc)) → ∃ t, PSs (cxS P w K mg base N qual (defScope st) fI cda cc A outer s H E) rest t ∧ SimS g E t m) :
    FnOk P w K mg base (L2.CX P w) (k + 1) fI fd ps (spOf g ps.length (mInit c N.length ps.length m)) := by
  obtain ⟨oc, od, kV, doc, pm, an, ct, osl, rfl, lk⟩ := F.ex
  rw [hst] at lk ⊢
  subst hc
  refine fn_super (C := g.cls c) (pl := pl) lk F.cd S F.U F.su hp hev hps (fun vs H Q E h => ?_) (fun vs H Q E h => ?_) fun A outer s H vs Q E hr h => ?_
  · obtain ⟨l, ρ, S, ds, hl, _⟩ := h
    exact hl
  · obtain ⟨l, ρ, S, ds, hl, rd, rs, p⟩ := h
    unfold mInit at p
    split at p
    · rename_i i ds'
      split at p
      · rename_i c' e
        split at p
        · rename_i q
          subst q
          cases rd with
          | cons r t =>
            cases r with
            | loc hn => exact ⟨_, _, rfl, rs.ob i _ _ hn e⟩
        · exact p.elim
      · exact p.elim
    · exact p.elim
  · obtain ⟨l, ρ, S, ds, hl, rd, rs, p⟩ := h
    obtain ⟨t, ht, hs⟩ := hb A outer s H E hr
    refine ⟨t, ht, hs l _ _ H ρ S (startE N.length ds) (re_start rd) rs ?_⟩
    unfold mInit at p
    split at p
    · split at p
      · split at p
        · unfold mDef at p
          rw [if_pos (by rw [← rd.length]; exact hl)] at p
          split at p
          · rename_i d S' e; rw [e]; exact p
          · rename_i env' S' e; rw [e]; exact fun ρ' H' σ' e1 rs1 re1 => p ρ' H' .non e1 rs1 .non
          · rename_i x S' e; rw [e]; exact p
          · exact p.elim
        · exact p.elim
      · exact p.elim
    · exact p.elim
end
theorem RDs.reverse {g : G} {ρ : List Addr} {H : Hp} : ∀ {vs : List V} {ds : List D}, RDs g ρ H vs ds → RDs g ρ H vs.reverse ds.reverse
  | _, _, .nil => .nil
  | _, _, .cons h t => by rw [List.reverse_cons, List.reverse_cons]; exact (RDs.reverse t).append (.cons h .nil)
end Lg

namespace Lg
open PySem PySem.Spec L2 PyProof.Rows
section
variable {P : Program} {w : World} {K : PySem.W.Frag} {mg mb : PySem.Str → Option Value} {k : Nat} {fa a : Addr} {fd : FuncData} {x : PySem.Str} {f : List D → Store → Res D} {g : G} {s₁ : Shared} {vs : List Value} {ns : List Int}
theorem law_callG (KX : K.In s₁.heap) (hns : s₁.heap.Ns mainGlobals mg) (hb : s₁.heap.Ns builtinsNs mb) (hbb : ∀ x : PySem.Str, x ≠ "__name__" → mb x = bootBuiltins x) (hlim : s₁.heap.NoLimit) (hsm : ∃ mm, s₁.heap.Ns sysModules mm) (hg : s₁.gens = #[])
    (ha : s₁.heap.get? a = some { cls := .type "list", data := .seq vs.toArray }) (hi : IntsAre vs ns) (hl : ns.length ≤ sizeLine) (hr : Room k callerA) (gK : g.K = K)
    (F : ∀ base : Heap, K.In base → base.Ns mainGlobals mg → (∃ o, base.get? sysModules = some o) → FnG P w K mg base k fa fd [x] (spOf g 1 f)) (hbind : ∀ (s : Shared) (u : Value), BindsTo s fd ⟨[u], []⟩ [(x, u)]) {S' : Store} (hf : f [.scr ns] [] = .ok (.bl true) S') :
    codeAny (model P w) callerA (.call (.ref fa) ⟨[.ref a], []⟩) (fun r s' => r = .ok (.ret (.bool true)) ∧ OldK s₁.heap s'.heap ∧ s'.os = s₁.os ∧ AllBare s'.gens) s₁ := by
  have rv := vals_ints hi
  have lenV := hi.length
  obtain ⟨mm, osm, esm, epm, hsm1, hsm2, _⟩ := hsm
  have core : ∀ H : Hp, (∀ b u, H b = some u → b = a ∧ K.lookup a = none ∧ ∃ o, u = .frz o (.lst (ns.map V.int))) → ((∃ o, H a = some (.frz o (.lst (ns.map V.int)))) ∨ ∀ H', SqL K H' a (ns.map V.int)) → HOk P w H s₁.heap →
      codeAny (model P w) callerA (.call (.ref fa) ⟨[.ref a], []⟩) (fun r s' => r = .ok (.ret (.bool true)) ∧ OldK s₁.heap s'.heap ∧ s'.os = s₁.os ∧ AllBare s'.gens) s₁ := by
    intro H hA hS hok
    have keep : ∀ {b : Addr} {o : Obj}, s₁.heap.get? b = some o → H b = none → (hidT s₁.heap H).get? b = some o := fun e n => hidT_get e n
    have dictFree : ∀ {b : Addr} {o : Obj} {es : Array DictEntry} {ep : Nat}, s₁.heap.get? b = some o → o.data = .dict es ep → H b = none := fun {b o es ep} e d => by
      cases q : H b with
      | none => rfl
      | some u =>
        rw [(hA b u q).1, ha] at e
        cases e
        cases (show Data.seq vs.toArray _ = Data.dict es ep from d)
    have nsK : ∀ {b : Addr} {m : PySem.Str → Option Value}, s₁.heap.Ns b m → (hidT s₁.heap H).Ns b m := fun {b m} ⟨o, es, ep, e, d, r⟩ => ⟨o, es, ep, keep e (dictFree e d), d, r⟩
    have inK : K.In (hidT s₁.heap H) := fun b o e => keep (KX b o e) (by
      cases q : H b with
      | none => rfl
      | some u =>
        obtain ⟨rfl, z, _⟩ := hA b u q
        rw [z] at e; cases e)
    have hM : Mod K mg (hidT s₁.heap H) := ⟨inK, nsK hns, ⟨mb, nsK hb, hbb⟩, let ⟨mc, h1, h2⟩ := hlim; ⟨mc, nsK h1, h2⟩⟩
    have e0 : Env0 P w K mg (hidT s₁.heap H) callerA [] s₁ H := ⟨rfl, hM, fun b o e => of_hidT e, Nat.le_of_eq (hidT_size _ _), trivial, fun b hb => absurd (show b ∈ ([] : List Addr) from hb) (by simp), hok, .of_eq hg⟩
    have FF := F _ inK (nsK hns) ⟨osm, keep hsm1 (dictFree hsm1 hsm2)⟩
    have rs : RS (g.hide []) [] [] H := ⟨rfl, List.nodup_nil, fun n a o h => by simp at h, fun b m => absurd (show b ∈ ([] : List Addr) from m) (by simp)⟩
    have rd : RD (g.hide []) [] H (.ref a) (.scr ns) := .scr (by
      rcases hS with ⟨o, h⟩ | h
      · exact .inl ⟨o, h, by simp, fun m => absurd (show a ∈ ([] : List Addr) from m) (by simp)⟩
      · exact .inr fun H' => by
          have : (g.hide []).K = K := gK
          rw [this]; exact h H')
    refine codeAny_mono (FF.run callerA [] s₁ H ⟨[.ref a], []⟩ [.ref a] [.ref a] (fun v _ => v = .bl true) (fun _ _ _ => False) hr rfl e0 (hbind s₁ (.ref a)) (.cons rfl .nil) ⟨[], [], [], [.scr ns], rfl, .cons rd .nil, rs, ?_⟩) fun r s' h => ?_
    · rw [hf]
      intro ρ' H' v _ _ rv'
      cases rv'
      rfl
    cases r with
    | error e =>
      obtain ⟨_, _, _, _, _, _, _, _, _, _, _, _, z⟩ := h
      exact z.elim
    | ok fl =>
      cases fl with
      | next => exact False.elim h
      | brk => exact False.elim h
      | cont => exact False.elim h
      | ret u =>
        obtain ⟨v, H', os, bare, un, hok', r', q⟩ := h
        obtain rfl : v = .bl true := q
        obtain rfl : u = Value.bool true := r'
        refine ⟨rfl, OldK.of_keep fun b o e => ?_, os, bare⟩
        cases q : H b with
        | none => exact un.keep b o e q (by intro z; exact absurd (show b ∈ ([] : List Addr) from z) (by simp)) (by simp)
        | some u =>
          obtain ⟨_, _, ob, rfl⟩ := hA b u q
          obtain ⟨e1, _⟩ := hok b _ q
          obtain ⟨e2, _⟩ := hok' b _ (un.frzs b ob _ q)
          rw [e] at e1; cases e1
          exact e2
  cases hk : K.lookup a with
  | some o =>
    have e := KX a o hk
    rw [ha] at e
    cases e
    exact core (fun _ => none) (fun b u z => nomatch z) (.inr fun H' => .inr ⟨_, vs.toArray, _, hk, rfl, rfl, rfl, by rw [List.size_toArray, lenV]; exact hl, by simpa using rv⟩) (fun b u z => nomatch z)
  | none =>
    refine core (fun b => if b = a then some (.frz { cls := .type "list", data := .seq vs.toArray } (.lst (ns.map V.int))) else none) (fun b u z => ?_) (.inl ⟨_, if_pos rfl⟩) (fun b u z => ?_)
    · by_cases hb : b = a
      · have z' := (if_pos hb).symm.trans z
        cases z'
        exact ⟨hb, hk, _, rfl⟩
      · cases (if_neg hb).symm.trans z
    · by_cases hb : b = a
      · have z' := (if_pos hb).symm.trans z
        cases z'
        subst hb
        exact ⟨ha, by rw [List.length_map]; exact hl, vs, _, rv, ha⟩
      · cases (if_neg hb).symm.trans z
end

theorem walkG {l : PySem.W.OpenLaw} {n k : Nat} {q : Program} {loose : List PySem.Str} {XP : (PySem.Str → Option Value) → Heap → Prop} {YP : World → Heap → Prop} {d : DefRec} {K : Params → PySem.W.Frag} {x : PySem.Str} {f : List D → Store → Res D}
    (hn : l.most = some n) (hn2 : n ≤ sizeLine) (hdf : d.params.defaults = []) (hr : Room k callerA) (hin : importsNone q = true) (hY : ∀ (w : World) (h : Heap), YP w h → (K w.params).In h)
    (F : ∀ (w : World) (mg : PySem.Str → Option Value) (fa : Addr) (h : Heap), (K w.params).In h → h.Ns mainGlobals mg → mg d.name = some (.ref fa) →
      ∃ (fd : FuncData) (g : G), g.K = K w.params ∧ (∀ (s : Shared) (u : Value), BindsTo s fd ⟨[u], []⟩ [(x, u)]) ∧
        ∀ base : Heap, (K w.params).In base → base.Ns mainGlobals mg → (∃ o, base.get? sysModules = some o) → FnG l.prog w (K w.params) mg base k fa fd [x] (spOf g 1 f))
    (hf : ∀ ns : List Int, ns.length ≤ n → (∀ z ∈ ns, Builtin.Int.intBits z ≤ 1048576) → ∃ S', f [.scr ns] [] = .ok (.bl true) S') :
    PySem.W.WalkO q loose XP YP l.row.toRowW d [] (fun f vs => PySem.call f vs) := by
  refine Att.attach_callB hn hdf fun w s₀ s₁ mg mb fa o pm cd doc a vs ns G Y ho hd hcd hmg hobj hints hlen hbits hg => ?_
  have KX := hY w _ Y
  obtain ⟨fd, g, gK, hb, hF⟩ := F w mg fa _ KX G.T.g hmg
  obtain ⟨S', e⟩ := hf ns hlen hbits
  obtain ⟨mm, hm, _⟩ := (G.T.seer hin).mods
  exact law_callG KX G.T.g G.T.b G.T.builtins G.T.nolimit ⟨mm, hm⟩ hg hobj hints (Nat.le_trans hlen hn2) hr gK hF hb e
end Lg

namespace Lg
open PySem PySem.Spec L2
section
variable {K : PySem.W.Frag} {P : Program} {C fI cda cc : Addr}
def ecB (K : PySem.W.Frag) (C : Addr) : Bool := match K.lookup C with
  | some ⟨.type t, _, .cls cd, sl⟩ => (match cd.mro, sl.toList with
    | .ref C' :: bm, [_, _, _, _, some (.builtin n), _] => decide (t = "type") && decide (C' = C) && decide (n = "ValueError.__new__") && !cd.hasDel && cd.hasDict && PySem.HandSPX.refsVE bm
    | _, _ => false)
  | _ => false
theorem ec_of (h : ecB K C = true) : ∃ nm q N bs bm sn sub ab col dd k0 k1 k2 k3 k5, K.lookup C = some (excClassObj nm q C N bs bm true sn sub ab col dd k0 k1 k2 k3 k5 "ValueError.__new__") ∧ PySem.HandSPX.refsVE bm = true := by
  unfold ecB at h
  split at h
  · rename_i t dd cd sl ho
    split at h
    · rename_i C' bm k0 k1 k2 k3 n k5 hm hs
      simp only [Bool.and_eq_true, decide_eq_true_eq, Bool.not_eq_true'] at h
      obtain ⟨⟨⟨⟨⟨rfl, rfl⟩, rfl⟩, hdel⟩, hh⟩, ht⟩ := h
      obtain ⟨nm, bs, mro, ns, qn, hd, sn, sub, ab, col, del⟩ := cd
      dsimp only at hm hdel hh
      subst hm hdel hh
      have hsl : sl = #[k0, k1, k2, k3, some (.builtin "ValueError.__new__"), k5] := by
        obtain ⟨l⟩ := sl
        simp only at hs
        rw [hs]
      subst hsl
      exact ⟨nm, qn, ns, bs, bm, sn, sub, ab, col, dd, k0, k1, k2, k3, k5, ho, ht⟩
    · cases h
  · cases h
def oexB (K : PySem.W.Frag) (C : Addr) : Bool := ecB K C && decide (PySem.W.findIn K (.ref C) "__setattr__" = some (some (.builtin "object.__setattr__"))) && decide (PySem.W.subIn K (.ref C) (.type "BaseException") = some true) && decide (PySem.W.typeIn K (.ref C) = some (.type "type")) && PySem.W.keepIn K (.ref C)
theorem oex_of (h : oexB K C = true) : OexC K C := by
  unfold oexB at h
  simp only [Bool.and_eq_true, decide_eq_true_eq] at h
  obtain ⟨⟨⟨⟨h1, h2⟩, h3⟩, h4⟩, h5⟩ := h
  exact ⟨ec_of h1, h2, h3, h4, h5⟩
def codeB (K : PySem.W.Frag) (P : Program) (cda : Addr) : Bool := match K.lookup cda with
  | some ⟨_, _, .fields vs, _⟩ => (match (vs : Array Value)[2]? with
    | some (Value.str file _) => (P.main.file : PySem.Str) == file
    | _ => false)
  | _ => false
def cellB (K : PySem.W.Frag) (C cc : Addr) : Bool := match K.lookup cc with
  | some ⟨_, _, .cell (some (.ref D)), _⟩ => decide (D = C)
  | _ => false
def supB (K : PySem.W.Frag) (P : Program) (C cda cc : Addr) : Bool := oexB K C && decide (PySem.W.ks_superIn K C C "__init__" = some (some (.builtin "ValueError.__init__"))) && decide (PySem.W.subIn K (.ref C) (.type "ValueError") = some true) && decide (PySem.W.mroIn K C (.ref C) = some true) &&
  decide (PySem.W.nsIn K cStatics "thirdparty.any" = some none) && codeB K P cda && cellB K C cc && !(P.main.scope.names.lookup ("super" : PySem.Str)).isSome
theorem sup_of (h : supB K P C cda cc = true) : SupC K P C cda cc := by
  unfold supB at h
  simp only [Bool.and_eq_true, decide_eq_true_eq, Bool.not_eq_true'] at h
  obtain ⟨⟨⟨⟨⟨⟨⟨h1, h2⟩, h3⟩, h4⟩, h5⟩, h6⟩, h7⟩, h8⟩ := h
  refine ⟨oex_of h1, h2, h3, h4, h5, ?_, ?_, h8⟩
  · unfold codeB at h6
    split at h6
    · rename_i a b vs c ho
      split at h6
      · rename_i file tk hv
        exact ⟨a, b, vs, c, file, tk, ho, hv, h6⟩
      · cases h6
    · cases h6
  · unfold cellB at h7
    split at h7
    · rename_i a b D c ho
      have e := of_decide_eq_true h7
      subst e
      exact ⟨a, b, c, ho⟩
    · cases h7
def excCB (K : PySem.W.Frag) (D : Addr) : Bool := decide (PySem.W.findIn K (.ref D) "__getattribute__" = some (some (.builtin "BaseException.__getattribute__"))) && decide (PySem.W.findIn K (.ref D) "__getattr__" = some none) && decide (PySem.W.subIn K (.ref D) (.type "BaseException") = some true) && PySem.W.hasDictIn K D &&
  decide (PySem.W.findIn K (.ref D) "__class__" = some (some (.builtin "object.__class__"))) && decide (PySem.W.specialIn K (.builtin "object.__class__") "__get__" = some (some (.builtin "getset_descriptor.__get__"))) && decide (PySem.W.takesIn K (.builtin "object.__class__") = some true) && decide (PySem.W.mroIn K D (.type "object") = some true)
theorem excC_of (h : excCB K C = true) : ExcC K C := by
  unfold excCB at h
  simp only [Bool.and_eq_true, decide_eq_true_eq] at h
  obtain ⟨⟨⟨⟨⟨⟨⟨h1, h2⟩, h3⟩, h4⟩, h5⟩, h6⟩, h7⟩, h8⟩ := h
  exact ⟨h1, h2, h3, h4, h5, h6, h7, h8⟩
/-- what isinstance says of the classes 0 .. n - 1 -/
def isiB (K : PySem.W.Frag) (Cs : List Addr) (n : Nat) (u : Value) (t : Nat → Option Bool) : Bool := (List.range n).all fun c => decide (PySem.W.kitOne K (.ref (Cs.getD c 0)) u = t c)
theorem isi_of {Cs : List Addr} {n : Nat} {u : Value} {t : Nat → Option Bool} (hx : ((List.range n).all fun c => excCB K (Cs.getD c 0)) = true) (h : isiB K Cs n u t = true) (ht : ∀ c b, t c = some b → c < n) : ∀ c b, t c = some b → ExcC K (Cs.getD c 0) ∧ PySem.W.kitOne K (.ref (Cs.getD c 0)) u = some b := by
  intro c b e
  have hc := List.mem_range.mpr (ht c b e)
  refine ⟨excC_of (List.all_eq_true.mp hx c hc), ?_⟩
  rw [← e]
  exact of_decide_eq_true (List.all_eq_true.mp h c hc)
def flB (K : PySem.W.Frag) (Cs : List Addr) (cs : List Nat) (f : PySem.Str) : Bool := cs.all fun c => xfB K (Cs.getD c 0) && decide (PySem.W.findIn K (.ref (Cs.getD c 0)) f = some none)
theorem fl_of {Cs : List Addr} {cs : List Nat} {f : PySem.Str} (h : flB K Cs cs f = true) : ∀ c, cs.contains c = true → XfC K (Cs.getD c 0) ∧ PySem.W.findIn K (.ref (Cs.getD c 0)) f = some none := by
  intro c hc
  have := List.all_eq_true.mp h c (by simpa using hc)
  simp only [Bool.and_eq_true, decide_eq_true_eq] at this
  exact ⟨xfB_ok this.1, this.2⟩
theorem xi_of {mg : PySem.Str → Option Value} {n qual : PySem.Str} {st : Stmt} {oc kV doc pm ct : Value} {od an : Option Addr} {osl : Array (Option Value)} (lk : K.lookup fI = some ⟨oc, od, .func (PySem.W.ksFn "__init__" qual (defArgs st) (defBody st) (defScope st) .none kV doc pm an (.ref cda) ct cc), osl⟩)
    (cd : PySem.W.codeIn K (.ref cda) qual = true) (U : supB K P C cda cc = true) (m : mg n = some (.ref C)) (su : mg "super" = none) (iC : PySem.W.findIn K (.ref C) "__init__" = some (some (.ref fI))) (tI : PySem.W.typeIn K (.ref fI) = some (.type "function")) :
    XI K P mg n qual st C fI cda cc (PySem.W.ksFn "__init__" qual (defArgs st) (defBody st) (defScope st) .none kV doc pm an (.ref cda) ct cc) :=
  ⟨⟨oc, od, kV, doc, pm, an, ct, osl, rfl, lk⟩, cd, sup_of U, m, su, iC, tI⟩
theorem kbn_of {fd : FuncData} {p : PySem.Str} {ps ks : List PySem.Str} {g : List Value → List Value → List Value} {gV : List V → List V → List V} (hrel : ∀ {vs : List V} {us : List Value} {zs : List V} {ws : List Value}, Vals vs us → Vals zs ws → Vals (gV vs zs) (g us ws))
    (h : ∀ (a : Value) (ws : List Value), ws.length = ks.length → bindArgs fd ⟨[a], ks.zip ws⟩ = pure ((p :: ps).zip (g [a] ws))) : KBn K fd (p :: ps) 1 ks g gV :=
  ⟨fun s us ws X l1 l2 => by
    obtain ⟨a, rfl⟩ := List.length_eq_one_iff.mp l1
    exact .of_eq (h a ws l2), hrel⟩
theorem vals_rev : ∀ {zs : List V} {ws : List Value}, Vals zs ws → Vals zs.reverse ws.reverse
  | _, _, .nil => .nil
  | _, _, .cons h t => by rw [List.reverse_cons, List.reverse_cons]; exact (vals_rev t).append (.cons h .nil)
end
end Lg

namespace Lg
open PySem PySem.Spec L2
def sRaiseX (c : Nat) (f : List D → Store → Res D) (as : AM) : SM := fun env S => (as env S).bindS fun ds S1 => match f (.loc S1.length :: ds) (S1 ++ [.exc c none]) with
  | .ok .non S2 => match S2[S1.length]?, S2[S1.length + 1]? with
    | some (.exc c' (some m)), some (.xd fs) => if ds.length ≤ 1000 ∧ S2.length = S1.length + 2 ∧ c' = c ∧ m = S1.length + 1 ∧ (S2.take S1.length).all (Ob.und S1.length) = true ∧ undkv S1.length fs = true then .err ⟨c, some fs⟩ (S2.take S1.length) else .stuck
    | _, _ => .stuck
  | _ => .stuck
theorem sims_raiseX {g : G} {E : XK} {c n : Nat} {f : List D → Store → Res D} {tas : TA} {as : AM} (hf : Ar n f) (has : SimA g E tas as) :
    SimS g E (fun _ σ H => tMkO (g.cls c) (spOf g n f) [] tas σ H fun cls d H' => E cls d H') (sRaiseX c f as) := by
  intro l D' σ H ρ S env re rs p
  refine has.bindS re rs p fun ds S1 ρ1 H1 vs e1 rs1 rx re1 p1 => ?_
  cases ef : f (.loc S1.length :: ds) (S1 ++ [.exc c none]) with
  | err x S2 => rw [ef] at p1; exact p1.elim
  | stuck => rw [ef] at p1; exact p1.elim
  | ok v0 S2 =>
    rw [ef] at p1
    cases v0 with
    | non =>
      dsimp only at p1
      split at p1
      · rename_i c' m fs en en1
        split at p1
        · rename_i hc
          obtain ⟨hz, hl2, rfl, rfl, hu, hfu⟩ := hc
          refine ⟨by rw [rx.length]; exact hz, fun a ha => ?_⟩
          obtain ⟨e3, rs3⟩ := rs1.push (o := exo a (g.cls c') none) (ob := .exc c' none) ha fun ρ' H' e' q => q
          have rself : RD (g.hide l) (ρ1 ++ [a]) (upd H1 a (exo a (g.cls c') none)) (.ref a) (.loc S1.length) := .loc (by rw [← rs1.len]; simp)
          rw [List.append_nil]
          refine sp_go hf (.cons rself (rx.mono e3)) rs3 ?_
          rw [ef]
          intro ρ2 H2 u e4 rs4 ru
          cases ru
          refine ⟨rfl, ?_⟩
          obtain ⟨l2, rfl, hl⟩ := e4.new
          have ll : l2.length = 1 := by
            have := rs4.len
            rw [hl2, List.length_append, List.length_append, rs1.len] at this
            simp at this
            omega
          obtain ⟨dx, rfl⟩ := List.length_eq_one_iff.mp ll
          have an : (ρ1 ++ [a] ++ [dx])[S1.length]? = some a := by rw [← rs1.len]; simp
          have dn : (ρ1 ++ [a] ++ [dx])[S1.length + 1]? = some dx := by rw [← rs1.len]; simp
          obtain ⟨dx', q1, q2⟩ := rs4.ob _ a _ an en
          rw [dn] at q1; cases q1
          obtain ⟨fv, q3, q4⟩ := rs4.ob _ dx _ dn en1
          have hdx := (hl dx List.mem_cons_self).1
          have dxa : dx ≠ a := fun z => by rw [z, upd_same] at hdx; cases hdx
          have hdx1 : H1 dx = none := by rw [upd_ne dxa] at hdx; exact hdx
          refine ⟨dx, fv, q2, q3, hdx1, ?_⟩
          have kk : ∀ b, b ∉ [a, dx] → upd (del H2 a) dx (HO.xd fv) b = H2 b := fun b hb => by
            rw [upd_ne (fun z => hb (by simp [z])), del_ne (fun z => hb (by simp [z]))]
          have rs5 : RS (g.hide l) ρ1 (S2.take S1.length) (upd (del H2 a) dx (.xd fv)) := by
            have r := RS.cut (g := g.hide l) (ρ := ρ1) (x := [a, dx]) kk (S := S2) (by simpa using rs4) (by rw [rs1.len]; exact hu)
            rw [rs1.len] at r; exact r
          have e5 : Ex ρ1 H1 ρ1 (upd (del H2 a) dx (.xd fv)) := ⟨⟨[], by simp, by simp⟩, fun b o nb hb => by
            have ba : b ≠ a := ne_of_none hb ha
            have bd : b ≠ dx := ne_of_none hb hdx1
            rw [kk b (by simp [ba, bd])]
            exact e4.keep b o (by simp [nb, ba]) (by rw [upd_ne ba]; exact hb)⟩
          have h5 : RKV (g.hide l) ρ1 (upd (del H2 a) dx (.xd fv)) fv fs := RKV.cut (x := [a, dx]) kk (by simpa using q4) (by rw [rs1.len]; exact hfu)
          exact p1 ρ1 _ _ _ e5 rs5 ⟨rfl, dx, fv, rfl, (rs1.fresh hdx1).1, upd_same, h5⟩
        · exact p1.elim
      · exact p1.elim
    | _ => exact p1.elim
/-- the rule's form in a def's body -/
theorem ps_raiseX {P : Program} {w : World} {K : PySem.W.Frag} {mg : PySem.Str → Option Value} {base : Heap} {N : List PySem.Str} {qual : PySem.Str} {scope : Scope} {f : Addr} {cd : Value} {A : Around} {outer : List Env} {s : Shared} {H : Hp} {E : XK} {e : Expr} {t : L2.St → Hp → XK → Prop} {pos : Pos}
    (he : PMk (cxOf (L2.CX P w) P w K mg base N qual scope f cd A outer s H E) e t) : PS (cxOf (L2.CX P w) P w K mg base N qual scope f cd A outer s H E) (.Raise (some e) none pos) (fun _ σ H' => t σ H' fun cls d H'' => E cls d H'') := ps_raise rfl (takes_of rfl rfl rfl rfl) he
end Lg

namespace Lg
open PySem PySem.Spec L2
theorem each_of {R : Value → (V × PyData) → Prop} (h : ∀ v b, RelV b.1 v → R v b) : ∀ {bs : List (V × PyData)} {us : List Value}, Vals (bs.map (·.1)) us → PySem.W.EachIs R us bs
  | [], _, r => by cases r; exact .nil
  | b :: bs, _, r => by
    cases r with
    | cons r1 r2 => exact .cons (h _ _ r1) (each_of h r2)
theorem each_back : ∀ {bs : List (V × PyData)} {us : List Value}, PySem.W.EachIs (fun v (b : V × PyData) => RelV b.1 v) us bs → Vals (bs.map (·.1)) us
  | [], _, .nil => .nil
  | _ :: _, _, .cons r t => .cons r (each_back t)
/-- sorted(xs): the items' data tell the order -/
def rSortD (K : PySem.W.Frag) : List V → Hp → VK → Prop := fun vs H Q => ∃ (a : Addr) (bs : List (V × PyData)), vs = [.ref a] ∧ SqL K H a (bs.map (·.1)) ∧ (∀ b ∈ bs, Dp K H b.1 b.2) ∧ PySem.W.AllAlike (bs.map (·.2)) ∧ PySem.W.Sortable (bs.map (·.2)) ∧ (∀ b ∈ bs, b.2.depth ≤ 40) ∧
  ∀ p, H p = none → Q (.ref p) (upd H p (.lst ((bs.mergeSort (PySem.W.dataLe false (·.2))).map (·.1))))
theorem call_sortD {X : Cx} (hu : X.A.units + 64 < cLine) : CallR X (.builtin "sorted") (rSortD X.K) := by
  intro pins s σ H xs us Q I r h
  obtain ⟨a, bs, rfl, hs, hd, hal, hk, hdep, q⟩ := h
  obtain ⟨its, rv, hl, hz⟩ := I.list hs
  rw [Vals.ref1 r]
  have hlen : bs.length = its.length := by have := rv.length; rwa [List.length_map] at this
  have rd : ∀ {v : Value} {b : V × PyData}, b ∈ bs → RelV b.1 v → ∃ as, Reads s.heap v b.2 as := fun {v b} hb rv => Dp.reads I b.2 b.1 v (hd b hb) rv
  have e1 : PySem.W.EachIs (fun v (b : V × PyData) => RelV b.1 v) its bs := each_of (fun _ _ h => h) rv
  have e2 : PySem.W.EachIs (fun v (b : V × PyData) => ∃ as, Reads s.heap v b.2 as) its bs := by
    have key : ∀ {cs : List (V × PyData)} {us : List Value}, (∀ b ∈ cs, b ∈ bs) → Vals (cs.map (·.1)) us → PySem.W.EachIs (fun v (b : V × PyData) => ∃ as, Reads s.heap v b.2 as) us cs := by
      intro cs
      induction cs with
      | nil => intro us _ r; cases r; exact .nil
      | cons c cs ih =>
        intro us hm r
        cases r with
        | cons r1 r2 => exact .cons (rd (hm c List.mem_cons_self) r1) (ih (fun b hb => hm b (List.mem_cons_of_mem _ hb)) r2)
    exact key (fun _ h => h) rv
  have hz' : bs.length ≤ sizeLine := by simpa using hz
  refine PySem.W.sorted_data (enc := fun b : V × PyData => b.2) hl.isList e1 e2 hal hk hz' (fun b hb => by have := hdep b hb; omega) fun out ho eo => ?_
  obtain ⟨ep, he'⟩ := PyProof.Rows.sortedAll_at s.heap its out.toArray
  have hlen2 : ((bs.mergeSort (PySem.W.dataLe false (·.2))).map (·.1)).length ≤ sizeLine := by rw [List.length_map, List.length_mergeSort]; exact hz'
  exact ⟨.ref _, upd H (s.heap.objs.size + 1) (.lst ((bs.mergeSort (PySem.W.dataLe false (·.2))).map (·.1))), I.laid (t' := s.toks) (fun _ _ => PyProof.Rows.sortedAll_old) (Nat.le_succ _) ⟨hlen2, out, ep, each_back eo, he'⟩, rfl, q _ (I.hok.fresh (Nat.le_succ _))⟩
def alikeB (ps : List PyData) : Bool := ps.all fun d => ps.all fun d' => PySem.W.alike d d'
theorem alike_of {ps : List PyData} (h : alikeB ps = true) : PySem.W.AllAlike ps := fun d hd d' hd' => List.all_eq_true.mp (List.all_eq_true.mp h d hd) d' hd'
def tupB : PyData → Bool
  | .tuple (_ :: _) => true
  | _ => false
def othB : PyData → Bool
  | .none => false
  | .tuple _ => false
  | _ => true
def sortB (ps : List PyData) : Bool := ps.all tupB || ps.all othB
theorem sortable_of {ps : List PyData} (h : sortB ps = true) : PySem.W.Sortable ps := by
  unfold sortB at h
  rcases Bool.or_eq_true_iff.mp h with h | h
  · refine .inl fun d hd => ?_
    have := List.all_eq_true.mp h d hd
    unfold tupB at this
    split at this
    · exact ⟨_, _, rfl⟩
    · cases this
  · refine .inr fun d hd => ?_
    have := List.all_eq_true.mp h d hd
    unfold othB at this
    split at this
    · cases this
    · cases this
    · rename_i h1 h2
      exact ⟨h1, h2⟩
def withPy : List D → Option (List (D × PyData))
  | [] => some []
  | d :: ds => match d.py, withPy ds with
    | some p, some r => some ((d, p) :: r)
    | _, _ => none
def sortD (x : List (D × PyData)) : List D := (x.mergeSort (PySem.W.dataLe false (·.2))).map (·.1)
def cSort (ds : List D) (S : Store) : Res D := match ds with
  | [x] => match asL x S with
    | some xs => match withPy xs with
      | some bs => if alikeB (bs.map (·.2)) = true ∧ sortB (bs.map (·.2)) = true ∧ (bs.all fun b => decide (b.2.depth ≤ 40)) = true then .ok (.lst (sortD bs)) S else .stuck
      | none => .stuck
    | none => .stuck
  | _ => .stuck
theorem with_py {g : G} {ρ : List Addr} {H : Hp} : ∀ {vs : List V} {ds : List D} {bs : List (D × PyData)}, RDs g ρ H vs ds → withPy ds = some bs → ∃ ts : List (V × D × PyData), ts.map (·.1) = vs ∧ ts.map (fun t => (t.2.1, t.2.2)) = bs ∧ ∀ t ∈ ts, RD g ρ H t.1 t.2.1 ∧ t.2.1.py = some t.2.2
  | _, _, bs, .nil, e => by cases e; exact ⟨[], rfl, rfl, fun _ h => nomatch h⟩
  | _, _, bs, .cons (v := v) (d := d) h t, e => by
    simp only [withPy] at e
    split at e
    · rename_i p r e1 e2
      cases e
      obtain ⟨ts, q1, q2, q3⟩ := with_py t e2
      refine ⟨(v, d, p) :: ts, by simp [q1], by simp [q2], fun t ht => ?_⟩
      rcases List.mem_cons.mp ht with rfl | ht
      · exact ⟨h, e1⟩
      · exact q3 t ht
    · cases e
theorem rds_map {g : G} {ρ : List Addr} {H : Hp} : ∀ {ts : List (V × D × PyData)}, (∀ t ∈ ts, RD g ρ H t.1 t.2.1) → RDs g ρ H (ts.map (·.1)) (ts.map fun t => t.2.1)
  | [], _ => .nil
  | t :: ts, h => .cons (h t List.mem_cons_self) (rds_map fun x hx => h x (List.mem_cons_of_mem _ hx))
theorem sim_sort {g : G} {E : XK} {K : PySem.W.Frag} : CallSim g E (rSortD K) cSort := by
  intro l xs H Q ρ S ds rx rs p
  unfold cSort at p
  split at p
  · rename_i x
    split at p
    · rename_i ys e
      split at p
      · rename_i bs eb
        split at p
        · rename_i hc
          obtain ⟨v, rfl, r⟩ := rx.one
          obtain ⟨a, vs, rfl, h1, r1⟩ := as_l rs r e
          obtain ⟨ts, q1, q2, q3⟩ := with_py r1 eb
          have m2 : (ts.map fun t => (t.1, t.2.2)).map (·.2) = bs.map (·.2) := by rw [← q2]; simp [List.map_map, Function.comp_def]
          have m1 : (ts.map fun t => (t.1, t.2.2)).map (·.1) = vs := by rw [← q1]; simp [List.map_map, Function.comp_def]
          have s1 : (ts.map fun t => (t.1, t.2.2)).mergeSort (PySem.W.dataLe false (·.2)) = (ts.mergeSort fun a b => PySem.W.dataLe false (·.2) (a.1, a.2.2) (b.1, b.2.2)).map fun t => (t.1, t.2.2) := (List.map_mergeSort (f := fun t : V × D × PyData => (t.1, t.2.2)) (fun _ _ _ _ => rfl)).symm
          have s2 : bs.mergeSort (PySem.W.dataLe false (·.2)) = (ts.mergeSort fun a b => PySem.W.dataLe false (·.2) (a.1, a.2.2) (b.1, b.2.2)).map fun t => (t.2.1, t.2.2) := by
            rw [← q2]
            exact (List.map_mergeSort (f := fun t : V × D × PyData => (t.2.1, t.2.2)) (fun _ _ _ _ => rfl)).symm
          refine ⟨a, ts.map fun t => (t.1, t.2.2), rfl, by rw [m1]; exact SqL.of h1, fun b hb => ?_, by rw [m2]; exact alike_of hc.1, by rw [m2]; exact sortable_of hc.2.1, fun b hb => ?_, fun q hq => ?_⟩
          · obtain ⟨t, ht, rfl⟩ := List.mem_map.mp hb
            exact dp_both (q3 t ht).1 _ (q3 t ht).2
          · obtain ⟨t, ht, rfl⟩ := List.mem_map.mp hb
            have : (t.2.1, t.2.2) ∈ bs := by rw [← q2]; exact List.mem_map.mpr ⟨t, ht, rfl⟩
            exact of_decide_eq_true (List.all_eq_true.mp hc.2.2 _ this)
          · refine p ρ _ _ (Ex.new1 hq) (rs.aside hq) (.lst upd_same (rs.fresh hq) ?_)
            unfold sortD
            rw [s1, s2]
            simp only [List.map_map, Function.comp_def]
            have hm : ∀ t ∈ (ts.mergeSort fun a b => PySem.W.dataLe false (·.2) (a.1, a.2.2) (b.1, b.2.2)), RD (g.hide l) ρ H t.1 t.2.1 := fun t ht => (q3 t (List.mem_mergeSort.mp ht)).1
            exact (rds_map hm).mono (Ex.new1 hq)
        · exact p.elim
      · exact p.elim
    · exact p.elim
  · exact p.elim
end Lg

namespace Lg
open PySem PySem.Spec L2
theorem _root_.L2.Room.units2 {k : Nat} {A : Around} (h : Room k A) : A.units + 65 < cLine := by
  have := h.un
  omega
def mChain (f f' : D → D → Store → Res D) (a b c : EM) : EM := fun env S => (a env S).bind fun x S1 => (b env S1).bind fun y S2 => (f x y S2).bind fun z S3 => match z with
  | .bl k => if k = true then (c env S3).bind fun w S4 => f' y w S4 else .ok (.bl false) S3
  | _ => .stuck
theorem OpSim.bind {g : G} {E : XK} {r : R2} {f : D → D → Store → Res D} (h : OpSim g E r f) {l : List Addr} {x y : V} {H : Hp} {Q Q' : VK} {ρ : List Addr} {S : Store} {dx dy : D} {k : D → Store → Res D} (rx : RD (g.hide l) ρ H x dx) (ry : RD (g.hide l) ρ H y dy) (rs : RS (g.hide l) ρ S H) (p : PostE (g.hide l) E ρ H Q' ((f dx dy S).bind k))
    (c : ∀ d S' ρ' H' v, Ex ρ H ρ' H' → RS (g.hide l) ρ' S' H' → RD (g.hide l) ρ' H' v d → PostE (g.hide l) E ρ' H' Q' (k d S') → Q v H') : r x y H Q := by
  refine h l x y H Q ρ S dx dy rx ry rs ?_
  cases e : f dx dy S with
  | ok d S' => rw [e] at p; exact fun ρ' H' v a b q => c d S' ρ' H' v a b q (PostE.ex p a)
  | err x S' => rw [e] at p; exact p
  | stuck => rw [e] at p; exact p
theorem sim_chain {g : G} {E : XK} {r r' : R2} {f f' : D → D → Store → Res D} {ta tb tc : TE} {a b c : EM} (h : OpSim g E r f) (h' : OpSim g E r' f') (ha : SimE g E ta a) (hb : SimE g E tb b) (hc : SimE g E tc c) : SimE g E (tChain r r' ta tb tc) (mChain f f' a b c) := by
  intro l σ H Q ρ S env re rs p
  refine ha.bind re rs p fun x S1 ρ1 H1 v e1 rs1 rx re1 p1 => ?_
  refine hb.bind re1 rs1 p1 fun y S2 ρ2 H2 u e2 rs2 ry re2 p2 => ?_
  refine h.bind (rx.mono e2) ry rs2 p2 fun z S3 ρ3 H3 t e3 rs3 rz p3 => ?_
  cases rz with
  | bl k =>
    refine ⟨k, rfl, ?_⟩
    cases k with
    | true =>
      simp only [if_true] at p3 ⊢
      exact hc.bind (re2.mono e3) rs3 p3 fun w S4 ρ4 H4 w' e4 rs4 rw' re4 p4 => h' l u w' H4 Q ρ4 S4 y w ((ry.mono e3).mono e4) rw' rs4 p4
    | false => exact p3 ρ3 H3 _ Ex.refl rs3 (.bl false)
  | _ => exact p3.elim

/-! ### join -/
def txs : List D → Option (List PySem.Str)
  | [] => some []
  | .str s :: ds => (txs ds).map (s :: ·)
  | _ => none
theorem txs_of {g : G} {ρ : List Addr} {H : Hp} : ∀ {vs : List V} {ds : List D} {ys : List PySem.Str}, RDs g ρ H vs ds → txs ds = some ys → vs = ys.map V.str
  | _, _, _, .nil, e => by cases e; rfl
  | _, _, ys, .cons (d := d) h t, e => by
    cases h with
    | str s =>
      simp only [txs, Option.map_eq_some_iff] at e
      obtain ⟨zs, e1, rfl⟩ := e
      rw [txs_of t e1]
      rfl
    | _ => simp [txs] at e
def asLT (d : D) (S : Store) : Option (List D) := match d with
  | .tup ds => some ds
  | d => asL d S
def qJoin (d : D) (ds : List D) (S : Store) : Res D := match d, ds with
  | .str a, [x] => match asLT x S with
    | some xs => match txs xs with
      | some ys => if (ys.map (·.length)).sum + ys.length * a.length ≤ 16777216 then .ok (.str (Txt.join a ys)) S else .stuck
      | none => .stuck
    | none => .stuck
  | _, _ => .stuck
theorem sim_join {g : G} {E : XK} {K : PySem.W.Frag} : MtSim g E (fun x xs H Q => ∃ a p, ∃ ys : List PySem.Str, x = .str a ∧ xs = [.ref p] ∧ (SqL K H p (ys.map V.str) ∨ SqT K H p (ys.map V.str)) ∧ (ys.map (·.length)).sum + ys.length * a.length ≤ 16777216 ∧ Q (.str (Txt.join a ys)) H) qJoin := by
  intro l x xs H Q ρ S d ds rx ry rs p
  unfold qJoin at p
  split at p
  · rename_i a y
    cases rx
    obtain ⟨v, rfl, r⟩ := ry.one
    split at p
    · rename_i zs e
      split at p
      · rename_i ys e2
        split at p
        · rename_i hz
          unfold asLT at e
          split at e
          · cases e
            cases r with
            | tup h n r => exact ⟨a, _, ys, rfl, rfl, .inr (by rw [← txs_of r e2]; exact SqT.of h), hz, p ρ H _ Ex.refl rs (.str _)⟩
          · obtain ⟨b, vs, rfl, h1, r1⟩ := as_l rs r e
            exact ⟨a, b, ys, rfl, rfl, .inl (by rw [← txs_of r1 e2]; exact SqL.of h1), hz, p ρ H _ Ex.refl rs (.str _)⟩
        · exact p.elim
      · exact p.elim
    · exact p.elim
  · exact p.elim
/-! ### f-strings -/
def mFmt (a : EM) : EM := fun env S => (a env S).bind fun d S1 => match d with
  | .str y => if y.length ≤ sizeLine then .ok (.str y) S1 else .stuck
  | .int i => if i.natAbs.log2 < 1920 then .ok (.str (toString i)) S1 else .stuck
  | _ => .stuck
theorem sim_fmt {g : G} {E : XK} {ta : TE} {a : EM} (ha : SimE g E ta a) : SimE g E (tFmt ta) (mFmt a) := by
  intro l σ H Q ρ S env re rs p
  refine ha.bind re rs p fun d S1 ρ1 H1 v e1 rs1 rx re1 p1 => ?_
  cases rx with
  | str y =>
    dsimp only at p1
    split at p1
    · rename_i h; exact .inl ⟨y, rfl, h, p1 ρ1 H1 _ Ex.refl rs1 (.str _)⟩
    · exact p1.elim
  | int i =>
    dsimp only at p1
    split at p1
    · rename_i h; exact .inr ⟨i, rfl, h, p1 ρ1 H1 _ Ex.refl rs1 (.str _)⟩
    · exact p1.elim
  | _ => exact p1.elim
def mJs : List EM → PySem.Str → EM
  | [], acc => fun _ S => .ok (.str acc) S
  | a :: r, acc => fun env S => (a env S).bind fun d S1 => match d with
    | .str y => if (acc ++ y).length ≤ sizeLine then mJs r (acc ++ y) env S1 else .stuck
    | _ => .stuck
inductive SimEs (g : G) (E : XK) : List TE → List EM → Prop
  | nil : SimEs g E [] []
  | cons {t : TE} {a : EM} {ts : List TE} {as : List EM} (h : SimE g E t a) (r : SimEs g E ts as) : SimEs g E (t :: ts) (a :: as)
theorem js_sim {g : G} {E : XK} {ts : List TE} {as : List EM} (h : SimEs g E ts as) : ∀ (acc : PySem.Str) (l : List Addr) (σ : L2.St) (H : Hp) (Q : VK) (ρ : List Addr) (S : Store) (env : En), RE (g.hide l) ρ H σ env → RS (g.hide l) ρ S H → PostE (g.hide l) E ρ H Q (mJs as acc env S) → tJs ts acc σ H fun out H1 => Q (.str out) H1 := by
  induction h with
  | nil => exact fun acc l σ H Q ρ S env re rs p => p ρ H _ Ex.refl rs (.str _)
  | cons h r ih =>
    intro acc l σ H Q ρ S env re rs p
    refine h.bind re rs p fun d S1 ρ1 H1 v e1 rs1 rx re1 p1 => ?_
    cases rx with
    | str y =>
      dsimp only at p1
      split at p1
      · rename_i hz; exact ⟨y, rfl, hz, ih _ l σ H1 Q ρ1 S1 env re1 rs1 p1⟩
      · exact p1.elim
    | _ => exact p1.elim
theorem sim_joined {g : G} {E : XK} {ts : List TE} {as : List EM} (h : SimEs g E ts as) : SimE g E (fun σ H Q => tJs ts PySem.Str.empty σ H fun out H1 => Q (.str out) H1) (mJs as PySem.Str.empty) := fun l σ H Q ρ S env re rs p => js_sim h PySem.Str.empty l σ H Q ρ S env re rs p
end Lg

namespace Lg
open PySem PySem.Spec L2
def keyD : D → Option Key
  | .int i => some (.inl i)
  | .str s => some (.inr s)
  | _ => none
def keysD : List D → Option (List Key)
  | [] => some []
  | d :: ds => match keyD d, keysD ds with
    | some k, some ks => some (k :: ks)
    | _, _ => none
theorem key_of_rd {g : G} {ρ : List Addr} {H : Hp} {v : V} {d : D} {k : Key} (r : RD g ρ H v d) (h : keyD d = some k) : v = kV k := by
  cases r with
  | int i => cases h; rfl
  | str s => cases h; rfl
  | _ => cases h
theorem keys_of_rds {g : G} {ρ : List Addr} {H : Hp} : ∀ {vs : List V} {ds : List D} {ks : List Key}, RDs g ρ H vs ds → keysD ds = some ks → vs = ks.map kV
  | _, _, _, .nil, e => by cases e; rfl
  | _, _, _, .cons h t, e => by
    simp only [keysD] at e
    split at e
    · rename_i k ks e1 e2
      cases e
      rw [key_of_rd h e1, keys_of_rds t e2]
      rfl
    · cases e
def putKD {κ : Type} [DecidableEq κ] (kvs : List (κ × D)) (k : κ) (v : D) : List (κ × D) := if (kvs.any fun kv => decide (kv.1 = k)) = true then kvs.map (fun kv => if kv.1 = k then (kv.1, v) else kv) else kvs ++ [(k, v)]
theorem rkv_any {κ : Type} [DecidableEq κ] {g : G} {ρ : List Addr} {H : Hp} {k : κ} : ∀ {xs : List (κ × V)} {ys : List (κ × D)}, RKV g ρ H xs ys → (xs.any fun kv => decide (kv.1 = k)) = ys.any fun kv => decide (kv.1 = k)
  | _, _, .nil => rfl
  | (a, v) :: xs, (b, d) :: ys, .cons h t => by
    have e : a = b := h.1
    subst e
    rw [List.any_cons, List.any_cons, rkv_any t]
theorem rkv_upd {κ : Type} [DecidableEq κ] {g : G} {ρ : List Addr} {H : Hp} {k : κ} {v : V} {d : D} (r : RD g ρ H v d) : ∀ {xs : List (κ × V)} {ys : List (κ × D)}, RKV g ρ H xs ys → RKV g ρ H (xs.map fun kv => if kv.1 = k then (kv.1, v) else kv) (ys.map fun kv => if kv.1 = k then (kv.1, d) else kv)
  | _, _, .nil => .nil
  | (a, w) :: xs, (b, e) :: ys, .cons h t => by
    have q : a = b := h.1
    subst q
    refine .cons (show (if a = k then (a, v) else (a, w)).1 = (if a = k then (a, d) else (a, e)).1 ∧ RD g ρ H (if a = k then (a, v) else (a, w)).2 (if a = k then (a, d) else (a, e)).2 from ?_) (rkv_upd r t)
    by_cases z : a = k
    · rw [if_pos z, if_pos z]; exact ⟨rfl, r⟩
    · rw [if_neg z, if_neg z]; exact ⟨rfl, h.2⟩
theorem rkv_snoc {κ : Type} {g : G} {ρ : List Addr} {H : Hp} {p : κ × V} {q : κ × D} (e : p.1 = q.1 ∧ RD g ρ H p.2 q.2) : ∀ {xs : List (κ × V)} {ys : List (κ × D)}, RKV g ρ H xs ys → RKV g ρ H (xs ++ [p]) (ys ++ [q])
  | _, _, .nil => .cons e .nil
  | _, _, .cons h t => .cons h (rkv_snoc e t)
theorem RKV.putK {κ : Type} [DecidableEq κ] {g : G} {ρ : List Addr} {H : Hp} {k : κ} {v : V} {d : D} {xs : List (κ × V)} {ys : List (κ × D)} (r : RD g ρ H v d) (t : RKV g ρ H xs ys) : RKV g ρ H (L2.putK xs k v) (putKD ys k d) := by
  unfold L2.putK putKD
  rw [rkv_any t]
  split
  · exact rkv_upd r t
  · exact rkv_snoc ⟨rfl, r⟩ t
/-- o[i] = v -/
def dSetK (o i v : D) (S : Store) : Option Store := match o with
  | .loc n => match S[n]? with
    | some (.dK kvs) => match keyD i with
      | some k => if kvs.length < sizeLine then some (S.set n (.dK (putKD kvs k v))) else none
      | none => none
    | some (.dT kvs) => match i with
      | .tup ds => match keysD ds with
        | some ks => if kvs.length < sizeLine then some (S.set n (.dT (putKD kvs ks v))) else none
        | none => none
      | _ => none
    | _ => none
  | _ => none
theorem sim_setK {g : G} : SetSim g rSetD dSetK := by
  intro l o i v H Q ρ S d1 d2 d3 S' r1 r2 r3 rs h q
  unfold dSetK at h
  split at h
  · rename_i n
    cases r1 with
    | @loc n a hn =>
      split at h
      · rename_i kvs e
        obtain ⟨xs, h1, h2⟩ := rs.ob n a _ hn e
        split at h
        · rename_i k ek
          split at h
          · rename_i hz
            cases h
            obtain ⟨e3, rs3⟩ := rs.put (o := .dK (L2.putK xs k v)) (ob := .dK (putKD kvs k d3)) hn fun H' e' q' => ⟨_, q', (h2.mono e').putK (r3.mono e')⟩
            exact ⟨a, _, rfl, .inl ⟨xs, k, h1, key_of_rd r2 ek, by rw [h2.length]; exact hz, rfl⟩, q ρ _ e3 rs3⟩
          · cases h
        · cases h
      · rename_i kvs e
        obtain ⟨xs, h1, h2⟩ := rs.ob n a _ hn e
        split at h
        · rename_i ds
          cases r2 with
          | @tup b vs ds hb nb rb =>
            split at h
            · rename_i ks ek
              split at h
              · rename_i hz
                cases h
                obtain ⟨e3, rs3⟩ := rs.put (o := .dT (L2.putK xs ks v)) (ob := .dT (putKD kvs ks d3)) hn fun H' e' q' => ⟨_, q', (h2.mono e').putK (r3.mono e')⟩
                exact ⟨a, _, rfl, .inr ⟨xs, ks, b, h1, rfl, by rw [← keys_of_rds rb ek]; exact hb, by rw [h2.length]; exact hz, rfl⟩, q ρ _ e3 rs3⟩
              · cases h
            · cases h
        · cases h
      · cases h
  · cases h
/-- {}, to be filled -/
def mNewK : EM := fun _ S => .ok (.loc S.length) (S ++ [.dK []])
def mNewT : EM := fun _ S => .ok (.loc S.length) (S ++ [.dT []])
theorem sim_newK {g : G} {E : XK} : SimE g E tDNewK mNewK := by
  intro l σ H Q ρ S env re rs p q hq
  obtain ⟨e3, rs3⟩ := rs.push (o := .dK []) (ob := .dK []) hq fun ρ' H' e' q' => ⟨[], q', .nil⟩
  exact p _ _ _ e3 rs3 (.loc (by rw [← rs.len]; simp))
theorem sim_newT {g : G} {E : XK} : SimE g E tDNewT mNewT := by
  intro l σ H Q ρ S env re rs p q hq
  obtain ⟨e3, rs3⟩ := rs.push (o := .dT []) (ob := .dT []) hq fun ρ' H' e' q' => ⟨[], q', .nil⟩
  exact p _ _ _ e3 rs3 (.loc (by rw [← rs.len]; simp))

/-! ### d[k], k in d -/
def valD {κ : Type} [DecidableEq κ] (kvs : List (κ × D)) (k : κ) : Option D := (kvs.find? fun kv => decide (kv.1 = k)).map (·.2)
theorem RKV.val {κ : Type} [DecidableEq κ] {g : G} {ρ : List Addr} {H : Hp} {k : κ} : ∀ {xs : List (κ × V)} {ys : List (κ × D)}, RKV g ρ H xs ys → (∀ d, valD ys k = some d → ∃ v, valV xs k = some v ∧ RD g ρ H v d) ∧ (valD ys k).isSome = (valV xs k).isSome
  | _, _, .nil => ⟨fun d h => (nomatch h), rfl⟩
  | (a, w) :: xs, (b, e) :: ys, .cons h t => by
    have q : a = b := h.1
    subst q
    have ih := RKV.val (k := k) t
    by_cases z : a = k
    · have e1 : valV ((a, w) :: xs) k = some w := valV_pos z
      have e2 : valD ((a, e) :: ys) k = some e := by simp [valD, List.find?_cons, z]
      rw [e1, e2]
      exact ⟨fun d hd => ⟨w, rfl, by cases hd; exact h.2⟩, rfl⟩
    · have e1 : valV ((a, w) :: xs) k = valV xs k := valV_neg z
      have e2 : valD ((a, e) :: ys) k = valD ys k := by simp [valD, List.find?_cons, z]
      rw [e1, e2]
      exact ih
/-- what stands under a key, where the thing is a dict and the key may be one -/
def getK (o i : D) (S : Store) : Option (Option D) := match o with
  | .loc n => match S[n]? with
    | some (.dK kvs) => (keyD i).map fun k => valD kvs k
    | some (.dT kvs) => match i with
      | .tup ds => (keysD ds).map fun ks => valD kvs ks
      | _ => none
    | _ => none
  | _ => none
theorem get_k {g : G} {l : List Addr} {ρ : List Addr} {S : Store} {H : Hp} {o i : V} {d1 d2 : D} {r : Option D} (rs : RS (g.hide l) ρ S H) (r1 : RD (g.hide l) ρ H o d1) (r2 : RD (g.hide l) ρ H i d2) (h : getK d1 d2 S = some r) :
    ∃ a z, o = .ref a ∧ DGet H a i z ∧ z.isSome = r.isSome ∧ ∀ d, r = some d → ∃ v, z = some v ∧ RD (g.hide l) ρ H v d := by
  unfold getK at h
  split at h
  · rename_i n
    cases r1 with
    | @loc n a hn =>
      split at h
      · rename_i kvs e
        obtain ⟨xs, h1, h2⟩ := rs.ob n a _ hn e
        simp only [Option.map_eq_some_iff] at h
        obtain ⟨k, ek, rfl⟩ := h
        have q := h2.val (k := k)
        exact ⟨a, _, rfl, by rw [key_of_rd r2 ek]; exact DGet.k h1, q.2.symm, q.1⟩
      · rename_i kvs e
        obtain ⟨xs, h1, h2⟩ := rs.ob n a _ hn e
        split at h
        · rename_i ds
          cases r2 with
          | @tup b vs ds hb nb rb =>
            simp only [Option.map_eq_some_iff] at h
            obtain ⟨ks, ek, rfl⟩ := h
            have q := h2.val (k := ks)
            exact ⟨a, _, rfl, DGet.t h1 (by rw [← keys_of_rds rb ek]; exact hb), q.2.symm, q.1⟩
        · cases h
      · cases h
  · cases h
def mDGet (a i : EM) : EM := fun env S => (a env S).bind fun x S1 => (i env S1).bind fun y S2 => match getK x y S2 with
  | some (some d) => .ok d S2
  | _ => .stuck
theorem sim_dget {g : G} {E : XK} {ta ti : TE} {a i : EM} (ha : SimE g E ta a) (hi : SimE g E ti i) : SimE g E (tDGet ta ti) (mDGet a i) := by
  intro l σ H Q ρ S env re rs p
  refine ha.bind re rs p fun x S1 ρ1 H1 v e1 rs1 rx re1 p1 => ?_
  refine hi.bind re1 rs1 p1 fun y S2 ρ2 H2 u e2 rs2 ry re2 p2 => ?_
  split at p2
  · rename_i d e
    obtain ⟨b, z, rfl, dg, _, hz⟩ := get_k rs2 (rx.mono e2) ry e
    obtain ⟨w, rfl, rw'⟩ := hz d rfl
    exact ⟨b, w, rfl, dg, p2 ρ2 H2 w Ex.refl rs2 rw'⟩
  · exact p2.elim
def mDIn (i a : EM) : EM := fun env S => (i env S).bind fun y S1 => (a env S1).bind fun x S2 => match getK x y S2 with
  | some r => .ok (.bl r.isSome) S2
  | _ => .stuck
theorem sim_din {g : G} {E : XK} {ta ti : TE} {a i : EM} (hi : SimE g E ti i) (ha : SimE g E ta a) : SimE g E (tDIn ti ta) (mDIn i a) := by
  intro l σ H Q ρ S env re rs p
  refine hi.bind re rs p fun y S1 ρ1 H1 u e1 rs1 ry re1 p1 => ?_
  refine ha.bind re1 rs1 p1 fun x S2 ρ2 H2 v e2 rs2 rx re2 p2 => ?_
  split at p2
  · rename_i r e
    obtain ⟨b, z, rfl, dg, hs, _⟩ := get_k rs2 rx (ry.mono e2) e
    exact ⟨b, z, rfl, dg, by rw [hs]; exact p2 ρ2 H2 _ Ex.refl rs2 (.bl _)⟩
  · exact p2.elim
/-! ### dict(pairs) -/
def pairsD : List D → Option (List (Key × D))
  | [] => some []
  | .tup [a, b] :: ds => match keyD a, pairsD ds with
    | some k, some r => some ((k, b) :: r)
    | _, _ => none
  | _ => none
def mergeD (l : List (Key × D)) : List (Key × D) := l.foldl (fun acc kv => putKD acc kv.1 kv.2) []
theorem merge_rkv {g : G} {ρ : List Addr} {H : Hp} : ∀ {xs : List (Key × V)} {ys : List (Key × D)} {ax : List (Key × V)} {ay : List (Key × D)}, RKV g ρ H xs ys → RKV g ρ H ax ay → RKV g ρ H (xs.foldl (fun acc kv => L2.putK acc kv.1 kv.2) ax) (ys.foldl (fun acc kv => putKD acc kv.1 kv.2) ay)
  | _, _, _, _, .nil, a => a
  | (k, v) :: xs, (k', d) :: ys, _, _, .cons h t, a => by
    have q : k = k' := h.1
    subst q
    exact merge_rkv (xs := xs) (ys := ys) t (a.putK h.2)
def asTL (d : D) (S : Store) : Option (List D) := match d with
  | .tup ds => some ds
  | d => asL d S
end Lg

namespace Lg
open PySem PySem.Spec L2 RZ
def zipD (xs ys : List D) : List D := List.zipWith (fun d e => .tup [d, e]) xs ys
def itZip (a : AM) : IM := fun env S => (a env S).bind fun ds S1 => match ds with
  | [.lst xs, .lst ys] => .ok (zipD xs ys) S1
  | [.tup xs, .tup ys] => .ok (zipD xs ys) S1
  | _ => .stuck
section
variable {g : G} {E : XK} {K : PySem.W.Frag}
theorem walkd_pair {l : List Addr} {ρ : List Addr} {H : Hp} {J : It} {vs ws : List V} {xs ys : List D} {G' : Hp → Prop} (w : Walk J (zipD xs ys).length G' (YPair (fun i => vs[i]?) (fun i => ws[i]?))) (hG : ∀ ρ' H', Ex ρ H ρ' H' → G' H') (r1 : RDs (g.hide l) ρ H vs xs) (r2 : RDs (g.hide l) ρ H ws ys) : WalkD (g.hide l) ρ H J (zipD xs ys) := by
  refine ⟨G', _, w, hG, fun i ρ' H' x H'' S hi e rs y => ?_⟩
  obtain ⟨T, v, u, rfl, hT, rfl, hv, hu⟩ := y
  have hl : i < xs.length ∧ i < ys.length := by
    have := hi
    simp only [zipD, List.length_zipWith] at this
    omega
  obtain ⟨v', h1, h2⟩ := r1.get (List.getElem?_eq_getElem hl.1)
  obtain ⟨u', h3, h4⟩ := r2.get (List.getElem?_eq_getElem hl.2)
  obtain rfl := Option.some.inj (hv.symm.trans h1)
  obtain rfl := Option.some.inj (hu.symm.trans h3)
  refine ⟨.tup [xs[i], ys[i]], by simp [zipD, List.getElem?_zipWith, List.getElem?_eq_getElem hl.1, List.getElem?_eq_getElem hl.2], Ex.new1 hT, rs.aside hT, .tup upd_same (rs.fresh hT) (.cons ((h2.mono e).mono (Ex.new1 hT)) (.cons ((h4.mono e).mono (Ex.new1 hT)) .nil)), fun p o q => by rw [upd_ne (ne_of_none q hT)]; exact q⟩
theorem walk_zipTT {a b : Addr} {vs ws : List V} {n : Nat} (hn : n = min vs.length ws.length) : Walk (ItzT K a b) n (fun H => SqT K H a vs ∧ SqT K H b ws) (YPair (fun i => vs[i]?) (fun i => ws[i]?)) := by
  subst hn
  refine ⟨fun i _ hi q => ⟨vs, ws, vs[i]'(by omega), ws[i]'(by omega), q.1, q.2, List.getElem?_eq_getElem _, List.getElem?_eq_getElem _⟩, fun _ q => ⟨vs, ws, q.1, q.2, by omega⟩, fun i H v H' _ q y => ?_⟩
  obtain ⟨T, x, z, h1, h2, h3, h4, h5⟩ := y
  exact ⟨T, x, z, h1, h2, h3, h4 vs q.1, h5 ws q.2⟩
theorem simi_zip {ta : TA} {a : AM} (ha : SimA g E ta a) : SimI g E (iZipA K ta) (itZip a) := by
  intro l σ H R ρ S env re rs p
  refine ha l σ H _ ρ S env re rs ?_
  unfold itZip at p
  cases e : a env S with
  | err x S2 => rw [e] at p; exact p
  | stuck => rw [e] at p; exact p
  | ok ds S1 =>
    rw [e] at p
    simp only [Res.bind] at p
    intro ρ1 H1 vs e1 rs1 rx
    have ln : ∀ {vs ws : List V} {xs ys : List D}, RDs (g.hide l) ρ1 H1 vs xs → RDs (g.hide l) ρ1 H1 ws ys → (zipD xs ys).length = min vs.length ws.length := fun r1 r2 => by simp [zipD, r1.length, r2.length]
    split at p
    · rename_i q hq
      split at hq
      · rename_i xs ys
        cases hq
        obtain ⟨v, w, rfl, r1, r2⟩ := rx.two
        cases r1 with
        | @lst b1 vs1 _ h1 n1 q1 =>
          cases r2 with
          | @lst b2 vs2 _ h2 n2 q2 =>
            refine ⟨b1, b2, vs1, vs2, rfl, .inl ⟨SqL.of h1, SqL.of h2, p ρ1 H1 _ e1 rs1 fun l' hl => ?_⟩⟩
            exact walkd_pair (walk_zip (ln q1 q2)) (fun ρ' H' ex => ⟨SqL.of (ex.keep _ _ n1.1 h1), SqL.of (ex.keep _ _ n2.1 h2)⟩) (rds_hide hl q1) (rds_hide hl q2)
      · rename_i xs ys
        cases hq
        obtain ⟨v, w, rfl, r1, r2⟩ := rx.two
        cases r1 with
        | @tup b1 vs1 _ h1 n1 q1 =>
          cases r2 with
          | @tup b2 vs2 _ h2 n2 q2 =>
            refine ⟨b1, b2, vs1, vs2, rfl, .inr ⟨SqT.of h1, SqT.of h2, p ρ1 H1 _ e1 rs1 fun l' hl => ?_⟩⟩
            exact walkd_pair (walk_zipTT (ln q1 q2)) (fun ρ' H' ex => ⟨SqT.of (ex.keep _ _ n1.1 h1), SqT.of (ex.keep _ _ n2.1 h2)⟩) (rds_hide hl q1) (rds_hide hl q2)
      · cases hq
    · rename_i hq
      split at hq <;> cases hq
    · exact p.elim
end
end Lg

namespace Lg
open PySem PySem.Spec L2
theorem notIn_of {X : Cx} {pins : List (Addr × Obj)} {s : Shared} {σ : St} {v u : Value} {Q : VK} {E} (h : wpAny (model X.prog X.w) X.A (compareOp .In v u) (EP X pins σ (fun z H => ∃ k, z = .bl k ∧ Q (.bl (!k)) H)) E s) : wpAny (model X.prog X.w) X.A (compareOp .NotIn v u) (EP X pins σ Q) E s := by
  intro Γ p hΓ
  have := h Γ p hΓ
  unfold compareOp at this ⊢
  change Sem.wp _ _ (Sem.bind _ _) _ _ _ _ at this
  change Sem.wp _ _ (Sem.bind _ _) _ _ _ _
  rw [Sem.wp_bind] at this ⊢
  refine Sem.wp_mono _ _ _ ?_ ?_ _ _ this
  · intro b p' s' hb
    obtain ⟨z, H', I, r, k, rfl, q⟩ := hb
    exact ⟨.bl (!k), H', I, by cases r; rfl, q⟩
  · exact fun _ _ _ h => h
def rInRng : R2 := fun x y H Q => ∃ i a lo hi, x = V.int i ∧ y = V.ref a ∧ H a = some (HO.rng lo hi) ∧ Q (V.bl (decide (lo ≤ i ∧ i < hi))) H
def rNotInRng : R2 := fun x y H Q => ∃ i a lo hi, x = V.int i ∧ y = V.ref a ∧ H a = some (HO.rng lo hi) ∧ Q (V.bl (!decide (lo ≤ i ∧ i < hi))) H
theorem op_inRng {X : Cx} : OpR X (compareOp .In) rInRng := op_in_rng
theorem op_notInRng {X : Cx} : OpR X (compareOp .NotIn) rNotInRng := by
  intro pins s σ H x y v u Q I rx ry h
  obtain ⟨i, a, lo, hi, e1, e2, e3, q⟩ := h
  exact notIn_of (op_in_rng pins s σ H x y v u _ I rx ry ⟨i, a, lo, hi, e1, e2, e3, _, rfl, q⟩)
def mRng (f : Bool → Bool) (a : EM) (b : AM) : EM := fun env S => (a env S).bind fun x S1 => (b env S1).bind fun ds S2 => match x, ds with
  | .int i, [.int lo, .int hi] => .ok (.bl (f (decide (lo ≤ i ∧ i < hi)))) S2
  | _, _ => .stuck
def cInt (ds : List D) (S : Store) : Res D := match ds with
  | [.int i] => .ok (.int i) S
  | [.bl k] => .ok (.int (if k = true then 1 else 0)) S
  | _ => .stuck
def mUpper (a : EM) : EM := fun env S => (a env S).bind fun x S1 => match x with
  | .str s => if s.length ≤ 5592405 then .ok (.str (Txt.upper s)) S1 else .stuck
  | _ => .stuck
def dIsBl (x y : D) (S : Store) : Res D := match x, y with
  | .bl a, .bl b => .ok (.bl (decide (a = b))) S
  | _, _ => .stuck
def dNotBl (x y : D) (S : Store) : Res D := match x, y with
  | .bl a, .bl b => .ok (.bl (!decide (a = b))) S
  | _, _ => .stuck
section
variable {g : G} {E : XK}
theorem sim_int : CallSim g E (fun xs H Q => (∃ i, xs = [.int i] ∧ Q (.int i) H) ∨ ∃ k, xs = [.bl k] ∧ Q (.int (if k = true then 1 else 0)) H) cInt := by
  intro l xs H Q ρ S ds rx rs p
  unfold cInt at p
  split at p
  · obtain ⟨v, rfl, r⟩ := rx.one
    cases r
    exact .inl ⟨_, rfl, p ρ H _ Ex.refl rs (.int _)⟩
  · obtain ⟨v, rfl, r⟩ := rx.one
    cases r
    exact .inr ⟨_, rfl, p ρ H _ Ex.refl rs (.int _)⟩
  · exact p.elim
theorem sim_upper {to : TE} {a : EM} (ha : SimE g E to a) : SimE g E (tM0 (fun x xs H Q => ∃ a, x = V.str a ∧ xs = [] ∧ a.length ≤ 5592405 ∧ Q (V.str (Txt.upper a)) H) to) (mUpper a) := by
  intro l σ H Q ρ S env re rs p
  refine ha.bind re rs p fun x S1 ρ1 H1 v e1 rs1 rx re1 p1 => ?_
  split at p1
  · cases rx
    split at p1
    · rename_i hz
      exact ⟨⟨_, rfl⟩, _, rfl, rfl, hz, p1 ρ1 H1 _ Ex.refl rs1 (.str _)⟩
    · exact p1.elim
  · exact p1.elim
theorem sim_rngWith {ta : TE} {tb : TA} {a : EM} {b : AM} {f : Bool → Bool} {r : R2} (hr : ∀ i p lo hi H Q, H p = some (HO.rng lo hi) → Q (V.bl (f (decide (lo ≤ i ∧ i < hi)))) H → r (.int i) (.ref p) H Q) (ha : SimE g E ta a) (hb : SimA g E tb b) : SimE g E (tOp r ta (tCB (fun vs H Q => ∃ i j, vs = [V.int i, V.int j] ∧ ∀ (p : Addr), H p = none → Q (V.ref p) (upd H p (HO.rng i j))) tb)) (mRng f a b) := by
  intro l σ H Q ρ S env re rs p
  refine ha.bind re rs p fun x S1 ρ1 H1 v e1 rs1 rx re1 p1 => ?_
  refine hb.bind re1 rs1 p1 fun ds S2 ρ2 H2 vs e2 rs2 ry re2 p2 => ?_
  split at p2
  · rename_i i lo hi
    obtain ⟨z, w, rfl, r1, r2⟩ := ry.two
    cases rx; cases r1; cases r2
    refine ⟨_, _, rfl, fun q hq => ?_⟩
    exact hr _ _ _ _ _ _ upd_same (p2 ρ2 _ _ (Ex.new1 hq) (rs2.aside hq) (.bl _))
  · exact p2.elim
theorem sim_inRng {ta : TE} {tb : TA} {a : EM} {b : AM} (ha : SimE g E ta a) (hb : SimA g E tb b) : SimE g E (tOp rInRng ta (tCB (fun vs H Q => ∃ i j, vs = [V.int i, V.int j] ∧ ∀ (p : Addr), H p = none → Q (V.ref p) (upd H p (HO.rng i j))) tb)) (mRng id a b) := sim_rngWith (fun i p lo hi H Q h q => ⟨i, p, lo, hi, rfl, rfl, h, q⟩) ha hb
theorem sim_notInRng {ta : TE} {tb : TA} {a : EM} {b : AM} (ha : SimE g E ta a) (hb : SimA g E tb b) : SimE g E (tOp rNotInRng ta (tCB (fun vs H Q => ∃ i j, vs = [V.int i, V.int j] ∧ ∀ (p : Addr), H p = none → Q (V.ref p) (upd H p (HO.rng i j))) tb)) (mRng (fun b => !b) a b) := sim_rngWith (fun i p lo hi H Q h q => ⟨i, p, lo, hi, rfl, rfl, h, q⟩) ha hb
theorem sim_isBl : OpSim g E rIsB dIsBl := by
  intro l x y H Q ρ S d1 d2 r1 r2 rs p
  unfold dIsBl at p
  split at p
  · cases r1; cases r2
    exact ⟨_, _, rfl, rfl, p ρ H _ Ex.refl rs (.bl _)⟩
  · exact p.elim
theorem sim_notBl : OpSim g E rNotB dNotBl := by
  intro l x y H Q ρ S d1 d2 r1 r2 rs p
  unfold dNotBl at p
  split at p
  · cases r1; cases r2
    exact ⟨_, _, rfl, rfl, p ρ H _ Ex.refl rs (.bl _)⟩
  · exact p.elim
end
end Lg

namespace Lg
open PySem PySem.Spec L2
def rLtD (K : PySem.W.Frag) : R2 := fun x y H Q => ∃ d e : PyData, Dp K H x d ∧ Dp K H y e ∧ PySem.W.alike d e = true ∧ d ≠ .none ∧ min d.depth e.depth ≤ 40 ∧ Q (.bl (PySem.W.dataLt d e)) H
theorem op_ltD {X : Cx} (hu : X.A.units + 64 < cLine) : OpR X (compareOp .Lt) (rLtD X.K) := by
  intro pins s σ H x y v u Q I rx ry h
  obtain ⟨d, e, hd, he, al, hn, dp, q⟩ := h
  obtain ⟨as, r1⟩ := Dp.reads I d x v hd rx
  obtain ⟨bs, r2⟩ := Dp.reads I e y u he ry
  exact PySem.W.rcLt_alike d e X.A s v u as bs r1 r2 al hn (by omega) _ _ _ _ ⟨.bl _, H, I, rfl, q⟩
abbrev rLtA (K : PySem.W.Frag) : R2 := fun x y H Q => (∃ i j, x = .int i ∧ y = .int j ∧ Q (.bl (decide (i < j))) H) ∨ rLtD K x y H Q
theorem op_ltA {X : Cx} (hu : X.A.units + 64 < cLine) : OpR X (compareOp .Lt) (rLtA X.K) := op_lt.or (op_ltD hu)
abbrev rLeA : R2 := fun x y H Q => (∃ i j, x = .int i ∧ y = .int j ∧ Q (.bl (decide (i ≤ j))) H) ∨ ∃ i j : PySem.Str, x = .str i ∧ y = .str j ∧ Q (.bl (!decide (j.cps.toList < i.cps.toList))) H
theorem op_leA {X : Cx} : OpR X (compareOp .LtE) rLeA := op_le.or op_le_str
def noneB : PyData → Bool
  | .none => true
  | _ => false
def dLtA (x y : D) (S : Store) : Res D := match x, y with
  | .int i, .int j => .ok (.bl (decide (i < j))) S
  | x, y => match pyOf x S, pyOf y S with
    | some p, some q => if PySem.W.alike p q = true ∧ noneB p = false ∧ min p.depth q.depth ≤ 40 then .ok (.bl (PySem.W.dataLt p q)) S else .stuck
    | _, _ => .stuck
def dLeA (x y : D) (S : Store) : Res D := match x, y with
  | .int i, .int j => .ok (.bl (decide (i ≤ j))) S
  | .str i, .str j => .ok (.bl (!decide (j.cps.toList < i.cps.toList))) S
  | _, _ => .stuck
section
variable {g : G} {E : XK} {K : PySem.W.Frag}
theorem sim_ltA : OpSim g E (rLtA K) dLtA := by
  intro l x y H Q ρ S d1 d2 r1 r2 rs p
  unfold dLtA at p
  split at p
  · cases r1; cases r2
    exact .inl ⟨_, _, rfl, rfl, p ρ H _ Ex.refl rs (.bl _)⟩
  · split at p
    · rename_i p' q' e1 e2
      split at p
      · rename_i hc
        exact .inr ⟨_, _, py_of rs r1 e1, py_of rs r2 e2, hc.1, (by intro e; have := hc.2.1; rw [e] at this; cases this), hc.2.2, p ρ H _ Ex.refl rs (.bl _)⟩
      · exact p.elim
    · exact p.elim
theorem sim_leA : OpSim g E rLeA dLeA := by
  intro l x y H Q ρ S d1 d2 r1 r2 rs p
  unfold dLeA at p
  split at p
  · cases r1; cases r2
    exact .inl ⟨_, _, rfl, rfl, p ρ H _ Ex.refl rs (.bl _)⟩
  · cases r1; cases r2
    exact .inr ⟨_, _, rfl, rfl, p ρ H _ Ex.refl rs (.bl _)⟩
  · exact p.elim
end
end Lg

namespace Lg
open PySem L2
/-! ### the machine -/
section
open PySem.W PyProof.Rows PySem.Calls
theorem bound_b {M : Model} {A : Around} {E : Value → Shared → Prop} {s : Shared} {K : Frag} {x C : Addr} {ox : Obj} {od : Option Obj} {nm : PySem.Str} {id : String} {rest : List Value} {R : Option Value → Shared → Prop}
    (X : K.In s.heap) (J : InstAt s.heap x ox C od) (hf : findIn K (.ref C) nm = some (some (.builtin id))) (hb : ∀ v, bindSpecial (.builtin id) v = pure (.builtin id, [v]))
    (q : wpAny M A (call (.builtin id) (.ref x :: rest)) (fun v => R (some v)) E s) : wpAny M A (callSpecialIfBound? (.ref x) nm rest) R E s := by
  simp only [callSpecialIfBound?, bindSpecialIfBound?]
  refine wpAny_holding (wpAny_bind (wpAny_bind (wpAny_bind (J.type.here ((looks_findIn X hf).here (wpAny_bind (wpAny_askSetting (wpAny_ite ?_))))))))
  have last : wpAny M A (call (.builtin id) ([.ref x] ++ rest) >>= fun v => pure (some v)) R E s := wpAny_bind (wpAny_mono q (fun _ _ z => wpAny_pure z) fun _ _ z => z)
  have bd := Looks.of_pure (M := M) (h := s.heap) (hb (.ref x))
  split <;> first | exact wpAny_bind (bd.here (wpAny_pure (by exact last))) | exact wpAny_tryCatch (wpAny_bind (bd.here (wpAny_pure (by exact last))))
theorem cmp_ne {prog : Program} {w : World} {A : Around} {E : Value → Shared → Prop} {s : Shared} {K : Frag} {x C f : Addr} {ox : Obj} {od : Option Obj} {b tb : Value} {Q : Value → Shared → Prop} (hu : A.units < cLine) (hu1 : A.in1.units < cLine)
    (X : K.In s.heap) (J : InstAt s.heap x ox C od) (hb : Looks (model prog w) s.heap (typeOf b) tb) (hn : notFirst K C tb = true)
    (h1 : findIn K (.ref C) "__ne__" = some (some (.builtin "object.__ne__"))) (h2 : findIn K (.ref C) "__eq__" = some (some (.ref f))) (hf : isFn K (.ref f) = true) (hm : mroIn K C (.type "object") = some true)
    (q : wpAny (model prog w) A.in1 (call (.ref f) [.ref x, b]) (fun v s' => ∃ r, v = .bool r ∧ Q (.bool !r) s') E s) : wpAny (model prog w) A (richCompare .NotEq (.ref x) b) Q E s := by
  have called : wpAny (model prog w) A (call (.builtin "object.__ne__") [.ref x, b]) (fun v s' => ∃ r, v = .bool r ∧ Q v s') E s := by
    refine wpAny_call (codeAny_call_builtin PySem.F.cmp_object.ne.plain PySem.F.cmpEntry_ne (check_slot PySem.F.cmpKind_ne PySem.F.cmpSplit_ne (J.type.andThen (looks_mroIn X hm)) (PySem.F.cmpArgs_ne _ _) ?_))
    unfold Builtin.«object.__ne__»
    refine wpAny_bind (m := slotArgs "__ne__" 1 _) (wpAny_pure ?_)
    refine wpAny_bind (m := cRoomFor _ _) (wpAny_cRoomFor hu1 ?_)
    refine wpAny_bind (m := callSpecialIfBound? (.ref x) (PySem.Str.ofString "__eq__") [b]) (ifBound_K X J h2 hf (wpAny_mono q (fun v s' z => ?_) fun _ _ z => z))
    obtain ⟨r, rfl, z⟩ := z
    refine wpAny_bind (m := truthy (.bool r)) (wpAny_truthy_bool ?_)
    exact wpAny_pure ⟨_, rfl, z⟩
  have one : wpAny (model prog w) A (tryCompare (.ref x) (cmpInfo .NotEq).2.1 b) (fun r s' => ∃ v, r = some v ∧ Q v s') E s := by
    unfold tryCompare
    refine wpAny_bind (bound_b X J h1 (fun _ => PySem.F.cmp_object.ne.bind _) (wpAny_mono called (fun v s' z => ?_) fun _ _ z => z))
    obtain ⟨r, rfl, z⟩ := z
    exact wpAny_pure ⟨_, rfl, z⟩
  unfold richCompare
  simp only [oneThing_ref]
  refine wpAny_holding (wpAny_bind (wpAny_cRoomFor hu (wpAny_bind (J.type.here (wpAny_bind (hb.here ?_))))))
  split
  · rename_i e0
    have e1 : subIn K tb (.ref C) = some false := by
      rcases Bool.or_eq_true_iff.mp hn with e | e
      · rw [beq_iff_eq.mp e] at e0; simp at e0
      · exact beq_iff_eq.mp e
    refine wpAny_bind ((looks_subIn X e1).here ?_)
    simp only [Bool.false_eq_true, if_false]
    refine wpAny_bind (wpAny_mono one (fun r s' z => ?_) fun _ _ z => z)
    obtain ⟨v, rfl, z⟩ := z
    exact wpAny_pure z
  · refine wpAny_bind (wpAny_pure ?_)
    simp only [Bool.false_eq_true, if_false]
    refine wpAny_bind (wpAny_mono one (fun r s' z => ?_) fun _ _ z => z)
    obtain ⟨v, rfl, z⟩ := z
    exact wpAny_pure z
end

/-! ### rules -/
/-- what isinstance asks of the class at C -/
structure ClsI (K : PySem.W.Frag) (C : Addr) : Prop where
  cl : Cls K C
  ha : PySem.W.findIn K (.ref C) "__class__" = some (some (.builtin "object.__class__"))
  hn : PySem.W.specialIn K (.builtin "object.__class__") "__get__" = some (some (.builtin "getset_descriptor.__get__"))
  ht : PySem.W.takesIn K (.builtin "object.__class__") = some true
  hm : PySem.W.mroIn K C (.type "object") = some true
/-- the def of the class at C under a name -/
structure Dun (K : PySem.W.Frag) (C : Addr) (nm : PySem.Str) (f : Addr) : Prop where
  at_ : PySem.W.findIn K (.ref C) nm = some (some (.ref f))
  fn : PySem.W.isFn K (.ref f) = true
section
variable {X : Cx} {CX : CXT} {C f : Addr} {fd : FuncData} {ps : List PySem.Str} {n : Nat} {sp : Sp} {E : XK} {pins : List (Addr × Obj)} {σ : L2.St} {H : Hp} {s : Shared}
theorem inst_of (I : Inv X pins σ H s) {a dx : Addr} {fs : List (PySem.Str × V)} (h : H a = some (.ins C dx fs)) : ∃ od, PySem.W.InstAt s.heap a (PySem.W.instObj C dx) C (some od) := by
  obtain ⟨mA, O, _⟩ := ins_get I.hok h
  obtain ⟨od, J, _⟩ := O.look
  exact ⟨od, J⟩
theorem call_below {A : Around} {Q : VK} {us : List Value} {ws : List V} (F : FnR X.prog X.w X.K X.mg X.base CX n f sp) (hr : Room n A) (e0 : Env0 X.prog X.w X.K X.mg X.base A X.stack s H) (hx : Passes CX X E) (I : Inv X pins σ H s) (r : Vals ws us) (h : sp ws H Q E) :
    wpAny (model X.prog X.w) A (call (.ref f) us) (EP X pins σ Q) X.xe s := by
  refine wpAny_call (codeAny_mono (SlX.run_at F hr e0 hx I r h) fun r s' z => ?_)
  cases r with
  | error e => exact z
  | ok fl => cases fl with
    | ret u => exact z
    | _ => exact z.elim
def rOE (K : PySem.W.Frag) (C : Addr) (sp : Sp) (E : XK) : R2 := fun x y H Q => ∃ a dx fs t, x = .ref a ∧ H a = some (.ins C dx fs) ∧ TyX K H y t ∧ PySem.W.notFirst K C t = true ∧ sp [x, y] H Q E
def rON (K : PySem.W.Frag) (C : Addr) (sp : Sp) (E : XK) : R2 := fun x y H Q => ∃ a dx fs t, x = .ref a ∧ H a = some (.ins C dx fs) ∧ TyX K H y t ∧ PySem.W.notFirst K C t = true ∧ sp [x, y] H (fun v H' => ∃ b, v = .bl b ∧ Q (.bl (!b)) H') E
/-- x == y, x of the class at C -/
theorem op_oe (F : FnR X.prog X.w X.K X.mg X.base CX n f sp) (d : Dun X.K C "__eq__" f) (hr : Room n X.A) (hx : Passes CX X E) : OpR X (compareOp .Eq) (rOE X.K C sp E) := by
  intro pins s σ H x y v u Q I rx ry h
  obtain ⟨a, dx, fs, t, rfl, ha, ty, hn, q⟩ := h
  cases (show v = Value.ref a from rx)
  obtain ⟨od, J⟩ := inst_of I ha
  obtain ⟨P, Z, p, _⟩ := kit_of I ry ty
  obtain ⟨m, hF⟩ := I.fr
  show wpAny _ _ (richCompare .Eq (.ref a) u) _ _ _
  refine PySem.W.cmp_K (op := .Eq) (tb := t) hr.units0 hF I.ok.mod.kin J (Z.ty _ _ I.kIn p) hn d.at_ d.fn ?_
  refine wpAny_mono (call_below (us := [.ref a, u]) (ws := [.ref a, y]) F hr I.env0 hx I (.cons rfl (.cons ry .nil)) q) (fun w s' z => ?_) fun _ _ z => z
  obtain ⟨z', H', I', rz, qz⟩ := z
  exact SlX.cmpback rz ⟨z', H', I', rz, qz⟩
/-- x != y -/
theorem op_on (F : FnR X.prog X.w X.K X.mg X.base CX n f sp) (d : Dun X.K C "__eq__" f) (hne : PySem.W.findIn X.K (.ref C) "__ne__" = some (some (.builtin "object.__ne__"))) (hm : PySem.W.mroIn X.K C (.type "object") = some true)
    (hr : Room (n + 1) X.A) (hx : Passes CX X E) : OpR X (compareOp .NotEq) (rON X.K C sp E) := by
  intro pins s σ H x y v u Q I rx ry h
  obtain ⟨a, dx, fs, t, rfl, ha, ty, hn, q⟩ := h
  cases (show v = Value.ref a from rx)
  obtain ⟨od, J⟩ := inst_of I ha
  obtain ⟨P, Z, p, _⟩ := kit_of I ry ty
  show wpAny _ _ (richCompare .NotEq (.ref a) u) _ _ _
  refine cmp_ne hr.units0 hr.in1.units0 I.kIn J (Z.ty _ _ I.kIn p) hn hne d.at_ d.fn hm ?_
  refine wpAny_mono (call_below (us := [.ref a, u]) (ws := [.ref a, y]) F hr.in1 I.env0.in1 hx I (.cons rfl (.cons ry .nil)) q) (fun w s' z => ?_) fun _ _ z => z
  obtain ⟨z', H', I', rz, b, rfl, qz⟩ := z
  cases (show w = Value.bool b from rz)
  exact ⟨b, rfl, .bl (!b), H', I', rfl, qz⟩
/-- f(x), x of the class at C, whose own def is asked; want: what it must say -/
def rO1 (C : Addr) (want : V → Prop) (sp : Sp) (E : XK) : List V → Hp → VK → Prop := fun xs H Q => ∃ a dx fs, xs = [.ref a] ∧ H a = some (.ins C dx fs) ∧ sp [.ref a] H (fun z H' => want z ∧ Q z H') E
def wStr (z : V) : Prop := ∃ y, z = .str y
def wLen (z : V) : Prop := ∃ i : Int, z = .int i ∧ 0 ≤ i ∧ i < 2 ^ 63
theorem call_oRepr (F : FnR X.prog X.w X.K X.mg X.base CX n f sp) (d : Dun X.K C "__repr__" f) (hr : Room (n + 1) X.A) (hx : Passes CX X E) : CallR X (.builtin "repr") (rO1 C wStr sp E) := by
  intro pins s σ H xs us Q I r h
  obtain ⟨a, dx, fs, rfl, ha, q⟩ := h
  obtain ⟨u, rfl, ru⟩ := vals1 r
  cases (show u = Value.ref a from ru)
  obtain ⟨od, J⟩ := inst_of I ha
  obtain ⟨m, hF⟩ := I.fr
  refine PySem.W.repr_K hr.in1.units0 hF I.ok.mod.kin J d.at_ d.fn ?_
  refine wpAny_mono (call_below (us := [.ref a]) (ws := [.ref a]) F hr.in1 I.env0.in1 hx I (.cons rfl .nil) q) (fun w s' z => ?_) fun _ _ z => z
  obtain ⟨z', H', I', rz, ⟨y, rfl⟩, qz⟩ := z
  obtain ⟨t, e⟩ := (show ∃ t, w = Value.str y t from rz)
  subst e
  exact ⟨.str y, H', I', ⟨t, rfl⟩, qz⟩
theorem call_oStr (F : FnR X.prog X.w X.K X.mg X.base CX n f sp) (d : Dun X.K C "__str__" f) (hr : Room (n + 2) X.A) (hx : Passes CX X E) : CallR X (.type "str") (rO1 C wStr sp E) := by
  intro pins s σ H xs us Q I r h
  obtain ⟨a, dx, fs, rfl, ha, q⟩ := h
  obtain ⟨u, rfl, ru⟩ := vals1 r
  cases (show u = Value.ref a from ru)
  obtain ⟨od, J⟩ := inst_of I ha
  have hr2 : Room n X.A.in1.in1 := (show Room (n + 1) X.A.in1 from Room.in1 hr).in1
  refine PySem.W.kso_call hr2.units0 I.kIn J d.at_ d.fn ?_
  refine wpAny_mono (call_below (us := [.ref a]) (ws := [.ref a]) F hr2 I.env0.in1.in1 hx I (.cons rfl .nil) q) (fun w s' z => ?_) fun _ _ z => z
  obtain ⟨z', H', I', rz, ⟨y, rfl⟩, qz⟩ := z
  obtain ⟨t, e⟩ := (show ∃ t, w = Value.str y t from rz)
  subst e
  exact ⟨.str y, H', I', ⟨t, rfl⟩, qz⟩
theorem call_oLen (F : FnR X.prog X.w X.K X.mg X.base CX n f sp) (d : Dun X.K C "__len__" f) (hr : Room (n + 1) X.A) (hx : Passes CX X E) : CallR X (.builtin "len") (rO1 C wLen sp E) := by
  intro pins s σ H xs us Q I r h
  obtain ⟨a, dx, fs, rfl, ha, q⟩ := h
  obtain ⟨u, rfl, ru⟩ := vals1 r
  cases (show u = Value.ref a from ru)
  obtain ⟨od, J⟩ := inst_of I ha
  obtain ⟨m, hF⟩ := I.fr
  refine PySem.W.len_K hF I.ok.mod.kin J d.at_ d.fn ?_
  refine wpAny_mono (call_below (us := [.ref a]) (ws := [.ref a]) F hr.in1 I.env0.in1 hx I (.cons rfl .nil) q) (fun w s' z => ?_) fun _ _ z => z
  obtain ⟨z', H', I', rz, ⟨i, rfl, i0, i1⟩, qz⟩ := z
  obtain ⟨t, e⟩ := (show ∃ t, w = Value.int i t from rz)
  subst e
  exact ⟨⟨i0, i1⟩, .int i, H', I'.tok _, ⟨_, rfl⟩, qz⟩
end
/-! ### plain functions -/
def insC (d : D) (S : Store) : Option Nat := match d with
  | .loc n => match S[n]? with
    | some (.ins c _) => some c
    | _ => none
  | _ => none
def kinds : List String := ["NoneType", "bool", "int", "str", "tuple", "list", "dict"]
theorem kind_mem {d : D} {S : Store} {k : String} (h : kindD d S = some k) : k ∈ kinds := by
  unfold kindD at h
  repeat' (first | (cases h; decide) | (cases h; done) | split at h)
/-- a thing that == may be asked of: of a kind that is built in, or of a class that ok lets -/
def eqOk (ok : Nat → Bool) (y : D) (S : Store) : Bool := (kindD y S).isSome || match insC y S with
  | some c => ok c
  | none => false
def dOE (c : Nat) (ok : Nat → Bool) (f : List D → Store → Res D) (base : D → D → Store → Res D) (x y : D) (S : Store) : Res D :=
  if insC x S = some c then (if eqOk ok y S = true then f [x, y] S else .stuck) else base x y S
def dON (c : Nat) (ok : Nat → Bool) (f : List D → Store → Res D) (base : D → D → Store → Res D) (x y : D) (S : Store) : Res D :=
  if insC x S = some c then (if eqOk ok y S = true then (f [x, y] S).bind fun v S' => match v with
    | .bl b => .ok (.bl (!b)) S'
    | _ => .stuck else .stuck) else base x y S
def isStrD : D → Bool
  | .str _ => true
  | _ => false
def isLenD : D → Bool
  | .int i => decide (0 ≤ i ∧ i < 2 ^ 63)
  | _ => false
def cO1 (c : Nat) (want : D → Bool) (f : List D → Store → Res D) (base : List D → Store → Res D) (ds : List D) (S : Store) : Res D := match ds with
  | [d] => if insC d S = some c then (f [d] S).bind fun v S' => if want v = true then .ok v S' else .stuck else base ds S
  | _ => base ds S
def mIsO (isi : Nat → Option Bool) (a : EM) : EM := fun env S => (a env S).bind fun d S1 => if (kindD d S1).isSome then .ok (.bl false) S1 else match insC d S1 with
  | some c => match isi c with
    | some b => .ok (.bl b) S1
    | none => .stuck
  | none => .stuck
def mMakeK (c m : Nat) (f : List D → Store → Res D) (gD : List D → List D → List D) (as : AM) : EM := fun env S => (as env S).bind fun ds S1 => if ds.length = m then (f (gD [.loc S1.length] ds) (S1 ++ [.ins c []])).bind fun v S2 => match v with
  | .non => .ok (.loc S1.length) S2
  | _ => .stuck
  else .stuck
def cGcd (ds : List D) (S : Store) : Res D := match ds with
  | [.int a, .int b] => .ok (.int ((Nat.gcd a.natAbs b.natAbs : Nat) : Int)) S
  | _ => .stuck
def cStr (ds : List D) (S : Store) : Res D := match ds with
  | [.int i] => if i.natAbs.log2 < 1920 then .ok (.str (toString i)) S else .stuck
  | [.str y] => .ok (.str y) S
  | _ => .stuck
section
variable {g : G} {E : XK} {K : PySem.W.Frag}
theorem PostE.then {ρ : List Addr} {H : Hp} {r : Res D} {k : D → Store → Res D} {Q Q' : VK} (p : PostE g E ρ H Q (r.bind k))
    (hk : ∀ d S' ρ' H' v, Ex ρ H ρ' H' → RS g ρ' S' H' → RD g ρ' H' v d → PostE g E ρ' H' Q (k d S') → Q' v H') : PostE g E ρ H Q' r := by
  cases r with
  | ok d S' => exact fun ρ' H' v e rs r => hk d S' ρ' H' v e rs r (PostE.ex p e)
  | err x S' => exact p
  | stuck => exact p
theorem insc_at {l : List Addr} {ρ : List Addr} {S : Store} {H : Hp} {c : Nat} {v : V} {d : D} (rs : RS (g.hide l) ρ S H) (r : RD (g.hide l) ρ H v d) (h : insC d S = some c) : ∃ a dx fv, v = .ref a ∧ H a = some (.ins (g.cls c) dx fv) := by
  cases r with
  | @loc n a hn =>
    simp only [insC] at h
    split at h
    · rename_i c' fs e
      obtain ⟨dx, fv, h1, h2⟩ := rs.ob n a _ hn e
      cases h
      exact ⟨a, dx, fv, rfl, h1⟩
    · cases h
  | _ => cases h
theorem insc_ty {l : List Addr} {ρ : List Addr} {S : Store} {H : Hp} {c : Nat} {v : V} {d : D} (rs : RS (g.hide l) ρ S H) (r : RD (g.hide l) ρ H v d) (h : insC d S = some c) (T : ClsI K (g.cls c)) : TyX K H v (.ref (g.cls c)) := by
  obtain ⟨a, dx, fv, rfl, h1⟩ := insc_at rs r h
  exact .base (.ins h1 T.cl T.ha T.hn T.ht T.hm)
/-- what == asks of the class c: which things it may meet -/
structure EqF (g : G) (K : PySem.W.Frag) (c : Nat) (ok : Nat → Bool) : Prop where
  ki : ∀ k ∈ kinds, PySem.W.notFirst K (g.cls c) (.type k) = true
  cl : ∀ c', ok c' = true → ClsI K (g.cls c') ∧ PySem.W.notFirst K (g.cls c) (.ref (g.cls c')) = true
theorem eqok_ty {l : List Addr} {ρ : List Addr} {S : Store} {H : Hp} {c : Nat} {ok : Nat → Bool} {v : V} {d : D} (T : EqF g K c ok) (rs : RS (g.hide l) ρ S H) (r : RD (g.hide l) ρ H v d) (h : eqOk ok d S = true) : ∃ t, TyX K H v t ∧ PySem.W.notFirst K (g.cls c) t = true := by
  unfold eqOk at h
  cases hk : kindD d S with
  | some k => exact ⟨_, kind_ty rs r hk, T.ki k (kind_mem hk)⟩
  | none =>
    rw [hk] at h
    cases hi : insC d S with
    | none => rw [hi] at h; cases h
    | some c' =>
      rw [hi] at h
      have h' : ok c' = true := by simpa using h
      exact ⟨_, insc_ty rs r hi (T.cl c' h').1, (T.cl c' h').2⟩
theorem sim_oe {c : Nat} {ok : Nat → Bool} {f : List D → Store → Res D} {base : D → D → Store → Res D} {r : R2} (hf : Ar 2 f) (T : EqF g K c ok) (hb : OpSim g E r base) :
    OpSim g E (fun x y H Q => rOE K (g.cls c) (fun vs H Q E => spOf g 2 f (vs ++ []) H Q E) E x y H Q ∨ r x y H Q) (dOE c ok f base) := by
  intro l x y H Q ρ S dx dy rx ry rs p
  unfold dOE at p
  by_cases hx : insC dx S = some c
  · rw [if_pos hx] at p
    by_cases hy : eqOk ok dy S = true
    · rw [if_pos hy] at p
      obtain ⟨a, d1, fv, rfl, h1⟩ := insc_at rs rx hx
      obtain ⟨t, ty, nf⟩ := eqok_ty T rs ry hy
      refine .inl ⟨a, d1, fv, t, rfl, h1, ty, nf, ?_⟩
      show spOf g 2 f ([V.ref a, y] ++ []) H Q E
      rw [List.append_nil]
      exact sp_go hf (.cons rx (.cons ry .nil)) rs p
    · rw [if_neg hy] at p; exact p.elim
  · rw [if_neg hx] at p
    exact .inr (hb l x y H Q ρ S dx dy rx ry rs p)
theorem sim_on {c : Nat} {ok : Nat → Bool} {f : List D → Store → Res D} {base : D → D → Store → Res D} {r : R2} (hf : Ar 2 f) (T : EqF g K c ok) (hb : OpSim g E r base) :
    OpSim g E (fun x y H Q => rON K (g.cls c) (fun vs H Q E => spOf g 2 f (vs ++ []) H Q E) E x y H Q ∨ r x y H Q) (dON c ok f base) := by
  intro l x y H Q ρ S dx dy rx ry rs p
  unfold dON at p
  by_cases hx : insC dx S = some c
  · rw [if_pos hx] at p
    by_cases hy : eqOk ok dy S = true
    · rw [if_pos hy] at p
      obtain ⟨a, d1, fv, rfl, h1⟩ := insc_at rs rx hx
      obtain ⟨t, ty, nf⟩ := eqok_ty T rs ry hy
      refine .inl ⟨a, d1, fv, t, rfl, h1, ty, nf, ?_⟩
      show spOf g 2 f ([V.ref a, y] ++ []) H _ E
      rw [List.append_nil]
      refine sp_go hf (.cons rx (.cons ry .nil)) rs (p.then fun d S' ρ' H' v e rs' rv z => ?_)
      cases rv with
      | bl b => exact ⟨b, rfl, z ρ' H' _ Ex.refl rs' (.bl _)⟩
      | _ => exact z.elim
    · rw [if_neg hy] at p; exact p.elim
  · rw [if_neg hx] at p
    exact .inr (hb l x y H Q ρ S dx dy rx ry rs p)
theorem sim_o1 {c : Nat} {want : D → Bool} {wv : V → Prop} {f : List D → Store → Res D} {base : List D → Store → Res D} {r : List V → Hp → VK → Prop} (hf : Ar 1 f) (hw : ∀ l ρ H v d, RD (g.hide l) ρ H v d → want d = true → wv v) (hb : CallSim g E r base) :
    CallSim g E (fun xs H Q => rO1 (g.cls c) wv (fun vs H Q E => spOf g 1 f (vs ++ []) H Q E) E xs H Q ∨ r xs H Q) (cO1 c want f base) := by
  intro l xs H Q ρ S ds rx rs p
  cases rx with
  | nil => exact .inr (hb l _ H Q ρ S _ .nil rs p)
  | @cons v d vs ds h t =>
    cases t with
    | cons h2 t2 => exact .inr (hb l _ H Q ρ S _ (.cons h (.cons h2 t2)) rs p)
    | nil =>
      simp only [cO1] at p
      by_cases hx : insC d S = some c
      · rw [if_pos hx] at p
        obtain ⟨a, d1, fv, rfl, h1⟩ := insc_at rs h hx
        refine .inl ⟨a, d1, fv, rfl, h1, ?_⟩
        show spOf g 1 f ([V.ref a] ++ []) H _ E
        rw [List.append_nil]
        refine sp_go hf (.cons h .nil) rs (p.then fun d S' ρ' H' v e rs' rv z => ?_)
        by_cases q : want d = true
        · rw [if_pos q] at z
          exact ⟨hw _ _ _ _ _ rv q, z ρ' H' _ Ex.refl rs' rv⟩
        · rw [if_neg q] at z; exact z.elim
      · rw [if_neg hx] at p
        exact .inr (hb l _ H Q ρ S _ (.cons h .nil) rs p)
theorem want_str (l : List Addr) (ρ : List Addr) (H : Hp) (v : V) (d : D) (r : RD (g.hide l) ρ H v d) (h : isStrD d = true) : wStr v := by
  cases r <;> first | exact ⟨_, rfl⟩ | cases h
theorem want_len (l : List Addr) (ρ : List Addr) (H : Hp) (v : V) (d : D) (r : RD (g.hide l) ρ H v d) (h : isLenD d = true) : wLen v := by
  cases r <;> first | exact ⟨_, rfl, of_decide_eq_true h⟩ | cases h
theorem sim_isO {C : Addr} {isi : Nat → Option Bool} {ta : TE} {a : EM} (hk : ∀ k ∈ kinds, PySem.W.kitOne K (.type k) (.ref C) = some false) (hi : ∀ c b, isi c = some b → ClsI K (g.cls c) ∧ PySem.W.kitOne K (.ref (g.cls c)) (.ref C) = some b) (ha : SimE g E ta a) :
    SimE g E (tCB (rIsi K) (tCons ta (tCons (tC (.ref C)) tNil))) (mIsO isi a) := by
  intro l σ H Q ρ S env re rs p
  refine ha.bind re rs p fun d S1 ρ1 H1 v e1 rs1 rx re1 p1 => ?_
  cases h : kindD d S1 with
  | some k =>
    rw [h] at p1
    exact ⟨v, .ref C, .type k, .ref C, false, rfl, .own C, kind_ty rs1 rx h, hk k (kind_mem h), p1 ρ1 H1 _ Ex.refl rs1 (.bl _)⟩
  | none =>
    rw [h] at p1
    cases hc : insC d S1 with
    | none => rw [hc] at p1; exact p1.elim
    | some c =>
      rw [hc] at p1
      cases hb : isi c with
      | none => simp only [hb] at p1; exact p1.elim
      | some b =>
        simp only [hb] at p1
        obtain ⟨i1, i2⟩ := hi c b hb
        exact ⟨v, .ref C, .ref (g.cls c), .ref C, b, rfl, .own C, insc_ty rs1 rx hc i1, i2, p1 ρ1 H1 _ Ex.refl rs1 (.bl _)⟩
theorem sim_makeK {n c m : Nat} {f : List D → Store → Res D} {tas : TA} {as : AM} {gV : List V → List V → List V} {gD : List D → List D → List D} (hf : Ar n f) (hrel : ∀ {l : List Addr} {ρ : List Addr} {H : Hp} {vs zs : List V} {ds es : List D}, RDs (g.hide l) ρ H vs ds → RDs (g.hide l) ρ H zs es → RDs (g.hide l) ρ H (gV vs zs) (gD ds es)) (has : SimA g E tas as) :
    SimE g E (tMakeK (g.cls c) 0 m (spOf g n f) gV E tNil tas) (mMakeK c m f gD as) := by
  intro l σ H Q ρ S env re rs p
  refine has.bind re rs p fun ds S1 ρ1 H1 vs e1 rs1 rx re1 p1 => ?_
  by_cases hz : ds.length = m
  · rw [if_pos hz] at p1
    refine ⟨rfl, by rw [rx.length]; exact hz, fun x dx hx hdx ne => ?_⟩
    have e2 : Ex ρ1 H1 ρ1 (upd H1 dx (.own x)) := Ex.new1 hdx
    have rs2 := rs1.aside (o := .own x) hdx
    have hx2 : upd H1 dx (.own x) x = none := by rw [upd_ne (Ne.symm ne)]; exact hx
    obtain ⟨e3, rs3⟩ := rs2.push (o := .ins (g.cls c) dx []) (ob := .ins c []) hx2 fun ρ' H' e' q => ⟨dx, [], q, RKV.mt⟩
    have e13 := e2.trans e3
    have rself : RD (g.hide l) (ρ1 ++ [x]) (upd (upd H1 dx (.own x)) x (.ins (g.cls c) dx [])) (.ref x) (.loc S1.length) := .loc (by rw [← rs1.len]; simp)
    refine sp_go hf (hrel (.cons rself .nil) (rx.mono e13)) rs3 ((PostE.ex p1 e13).then fun d S' ρ' H' v e rs' rv z => ?_)
    cases rv with
    | non => exact ⟨rfl, z ρ' H' _ Ex.refl rs' (.loc (e.at (by rw [← rs1.len]; simp)))⟩
    | _ => exact z.elim
  · rw [if_neg hz] at p1; exact p1.elim
theorem sim_gcd : CallSim g E rGcd cGcd := by
  intro l xs H Q ρ S ds rx rs p
  unfold cGcd at p
  split at p
  · rename_i a b
    cases rx with
    | cons h t => cases t with
      | cons h2 t2 =>
        cases t2
        cases h
        cases h2
        exact ⟨a, b, rfl, p ρ H _ Ex.refl rs (.int _)⟩
  · exact p.elim
abbrev rStr : List V → Hp → VK → Prop := fun xs H Q => (∃ i, xs = [.int i] ∧ i.natAbs.log2 < 1920 ∧ Q (.str (toString i)) H) ∨ ∃ a, xs = [.str a] ∧ Q (.str a) H
theorem call_str {X : Cx} : CallR X (.type "str") rStr := call_str_int.or SkE.call_str_str
theorem sim_str : CallSim g E rStr cStr := by
  intro l xs H Q ρ S ds rx rs p
  unfold cStr at p
  split at p
  · rename_i i
    cases rx with
    | cons h t =>
      cases t
      cases h
      split at p
      · rename_i hz; exact .inl ⟨i, rfl, hz, p ρ H _ Ex.refl rs (.str _)⟩
      · exact p.elim
  · rename_i y
    cases rx with
    | cons h t =>
      cases t
      cases h
      exact .inr ⟨y, rfl, p ρ H _ Ex.refl rs (.str _)⟩
  · exact p.elim
end
end Lg

namespace Lg
open PySem PySem.Spec L2 RZ
/-! ### enumerate -/
def enumD (xs : List D) : List D := List.zipWith (fun (i : Nat) d => .tup [.int (i : Nat), d]) (List.range xs.length) xs
def itEnum (a : AM) : IM := fun env S => (a env S).bind fun ds S1 => match ds with
  | [.lst xs] => .ok (enumD xs) S1
  | _ => .stuck
section
variable {g : G} {E : XK} {K : PySem.W.Frag}
theorem simi_enum {ta : TA} {a : AM} (ha : SimA g E ta a) : SimI g E (iEnum K ta) (itEnum a) := by
  intro l σ H R ρ S env re rs p
  refine ha l σ H _ ρ S env re rs ?_
  unfold itEnum at p
  cases e : a env S with
  | err x S2 => rw [e] at p; exact p
  | stuck => rw [e] at p; exact p
  | ok ds S1 =>
    rw [e] at p
    simp only [Res.bind] at p
    intro ρ1 H1 vs e1 rs1 rx
    split at p
    · rename_i q hq
      split at hq
      · rename_i xs
        cases hq
        cases rx with
        | cons r t =>
          cases t
          cases r with
          | @lst b vs1 _ h1 n1 q1 =>
            refine ⟨b, vs1, rfl, SqL.of h1, p ρ1 H1 _ e1 rs1 fun l' hl => ?_⟩
            have ln : vs1.length = (enumD xs).length := by simp [enumD, q1.length]
            have w := walk_enum (K := K) (a := b) (xs := vs1)
            rw [ln] at w
            refine ⟨_, _, w, fun ρ' H' ex => SqL.of (ex.keep _ _ n1.1 h1), fun i ρ' H' x H'' S hi e rs y => ?_⟩
            obtain ⟨T, v, u, rfl, hT, rfl, hv, hu⟩ := y
            have hi' : i < xs.length := by simpa [enumD] using hi
            obtain ⟨u', h3, h4⟩ := (rds_hide hl q1).get (List.getElem?_eq_getElem hi')
            obtain rfl := Option.some.inj hv
            obtain rfl := Option.some.inj (hu.symm.trans h3)
            refine ⟨.tup [.int (i : Nat), xs[i]], by simp [enumD, List.getElem?_zipWith, List.getElem?_eq_getElem hi', hi'], Ex.new1 hT, rs.aside hT, .tup upd_same (rs.fresh hT) (.cons (.int _) (.cons ((h4.mono e).mono (Ex.new1 hT)) .nil)), fun p o q => by rw [upd_ne (ne_of_none q hT)]; exact q⟩
      · cases hq
    · rename_i hq
      split at hq <;> cases hq
    · exact p.elim
end
/-! ### e.f of an object of one of some classes -/
def insF (ok : Nat → Bool) (d : D) (S : Store) : Option (List (PySem.Str × D)) := match d with
  | .loc n => match S[n]? with
    | some (.ins c fs) => if ok c = true then some fs else none
    | _ => none
  | _ => none
def mFldO (ok : Nat → Bool) (f : PySem.Str) (a : EM) : EM := fun env S => (a env S).bind fun d S1 => match insF ok d S1 with
  | some fs => match fs.lookup f with
    | some x => .ok x S1
    | none => .stuck
  | none => .stuck
section
variable {g : G} {E : XK} {K : PySem.W.Frag}
theorem insf_at {l : List Addr} {ρ : List Addr} {S : Store} {H : Hp} {ok : Nat → Bool} {v : V} {d : D} {fs : List (PySem.Str × D)} (rs : RS (g.hide l) ρ S H) (r : RD (g.hide l) ρ H v d) (h : insF ok d S = some fs) : ∃ c, ok c = true ∧ insAt c d S = some fs := by
  cases r with
  | @loc n a hn =>
    simp only [insF] at h
    split at h
    · rename_i c fs' e
      split at h
      · rename_i q
        cases h
        exact ⟨c, q, by simp [insAt, e]⟩
      · cases h
    · cases h
  | _ => cases h
theorem sim_fldO {ok : Nat → Bool} {f : PySem.Str} {ta : TE} {a : EM} (T : ∀ c, ok c = true → Cls K (g.cls c) ∧ NoAttr K (g.cls c) f) (ha : SimE g E ta a) : SimE g E (tFld K ta f) (mFldO ok f a) := by
  intro l σ H Q ρ S env re rs p
  refine ha.bind re rs p fun d S1 ρ1 H1 v e1 rs1 rx re1 p1 => ?_
  cases hI : insF ok d S1 with
  | none => rw [hI] at p1; exact p1.elim
  | some fs =>
    rw [hI] at p1
    dsimp only at p1
    obtain ⟨c, hc, hA⟩ := insf_at rs1 rx hI
    obtain ⟨n, ad, dx, fv, e2, hn, e3, hS, hH, rk⟩ := ins_at rs1 rx hA
    cases hF : fs.lookup f with
    | none => rw [hF] at p1; exact p1.elim
    | some x =>
      rw [hF] at p1
      obtain ⟨y, h1, h2⟩ := (rk.lookup (f := f)).1 x hF
      exact ⟨ad, _, dx, fv, y, e3, hH, (T c hc).1, (T c hc).2, h1, p1 ρ1 H1 y Ex.refl rs1 h2⟩
end
/-! ### repr of an int or a bool -/
def rReprS : List V → Hp → VK → Prop := fun xs H Q => (∃ i, xs = [.int i] ∧ i.natAbs.log2 < 1920 ∧ Q (.str (toString i)) H) ∨ ∃ b, xs = [.bl b] ∧ Q (.str (PyData.shown (.bool b))) H
theorem call_reprS {X : Cx} : CallR X (.builtin "repr") rReprS := by
  intro pins s σ H xs us Q I r h
  rcases h with h | ⟨b, rfl, q⟩
  · exact SkE.call_repr_int pins s σ H xs us Q I r h
  · obtain ⟨u, rfl, ru⟩ := vals1 r
    cases (show u = Value.bool b from ru)
    exact PySem.P.repr_of_bool ⟨.str _, H, I.tok _, ⟨_, rfl⟩, q⟩
def cReprS (ds : List D) (S : Store) : Res D := match ds with
  | [.int i] => if i.natAbs.log2 < 1920 then .ok (.str (toString i)) S else .stuck
  | [.bl b] => .ok (.str (PyData.shown (.bool b))) S
  | _ => .stuck
theorem sim_reprS {g : G} {E : XK} : CallSim g E rReprS cReprS := by
  intro l xs H Q ρ S ds rx rs p
  unfold cReprS at p
  split at p
  · rename_i i
    cases rx with
    | cons h t =>
      cases t
      cases h
      split at p
      · rename_i hz; exact .inl ⟨i, rfl, hz, p ρ H _ Ex.refl rs (.str _)⟩
      · exact p.elim
  · rename_i y
    cases rx with
    | cons h t =>
      cases t
      cases h
      exact .inr ⟨y, rfl, p ρ H _ Ex.refl rs (.str _)⟩
  · exact p.elim
theorem _root_.L2.FnOk.toG {P : Program} {w : World} {K : PySem.W.Frag} {mg : PySem.Str → Option Value} {base : Heap} {k : Nat} {f : Addr} {fd : FuncData} {ps : List PySem.Str} {sp : Sp} (F : FnOk P w K mg base (L2.CX P w) k f fd ps sp) : FnG P w K mg base k f fd ps sp :=
  ⟨F.len, fun A outer s H args us vs Q E hr gg e0 hb r h => F.run A outer s H args us vs Q E hr e0 hb r h⟩
/-! ### the written part -/
def clsB (K : PySem.W.Frag) (C : Addr) : Bool := PySem.W.plainGet K C Str.empty && PySem.W.hasDictIn K C && PySem.W.plainOver K C && decide (PySem.W.findIn K (.ref C) "__setattr__" = some (some (.builtin "object.__setattr__"))) && decide (PySem.W.findIn K (.ref C) "__class__" = some (some (.builtin "object.__class__"))) &&
  decide (PySem.W.specialIn K (.builtin "object.__class__") "__get__" = some (some (.builtin "getset_descriptor.__get__"))) && decide (PySem.W.takesIn K (.builtin "object.__class__") = some true) && decide (PySem.W.mroIn K C (.type "object") = some true)
theorem clsI_of {K : PySem.W.Frag} {C : Addr} (h : clsB K C = true) : ClsI K C := by
  unfold clsB at h
  simp only [Bool.and_eq_true, decide_eq_true_eq] at h
  obtain ⟨⟨⟨⟨⟨⟨⟨h1, h2⟩, h3⟩, h4⟩, h5⟩, h6⟩, h7⟩, h8⟩ := h
  exact ⟨⟨h1, h2, h3, h4⟩, h5, h6, h7, h8⟩
def nfB (K : PySem.W.Frag) (C : Addr) : Bool := kinds.all fun k => PySem.W.notFirst K C (.type k)
theorem nf_of {K : PySem.W.Frag} {C : Addr} (h : nfB K C = true) : ∀ k ∈ kinds, PySem.W.notFirst K C (.type k) = true := List.all_eq_true.mp h
def kfB (K : PySem.W.Frag) (C : Addr) : Bool := kinds.all fun k => decide (PySem.W.kitOne K (.type k) (.ref C) = some false)
theorem kf_of {K : PySem.W.Frag} {C : Addr} (h : kfB K C = true) : ∀ k ∈ kinds, PySem.W.kitOne K (.type k) (.ref C) = some false := fun k hk => of_decide_eq_true (List.all_eq_true.mp h k hk)
/-- of the classes told: no attribute f in them -/
def naB (K : PySem.W.Frag) (Cs : List Addr) (cs : List Nat) (f : PySem.Str) : Bool := cs.all fun c => clsB K (Cs.getD c 0) && decide (PySem.W.findIn K (.ref (Cs.getD c 0)) f = some none)
theorem na_of {K : PySem.W.Frag} {Cs : List Addr} {cs : List Nat} {f : PySem.Str} (h : naB K Cs cs f = true) : ∀ c, cs.contains c = true → Cls K (Cs.getD c 0) ∧ NoAttr K (Cs.getD c 0) f := by
  intro c hc
  have := List.all_eq_true.mp h c (by simpa using hc)
  simp only [Bool.and_eq_true, decide_eq_true_eq] at this
  exact ⟨(clsI_of this.1).cl, this.2⟩
def eqB (K : PySem.W.Frag) (Cs : List Addr) (cs : List Nat) (C : Addr) : Bool := nfB K C && cs.all fun c => clsB K (Cs.getD c 0) && PySem.W.notFirst K C (.ref (Cs.getD c 0))
theorem eqF_of {g : G} {K : PySem.W.Frag} {Cs : List Addr} {cs : List Nat} {c : Nat} (hg : g.cls = fun i => Cs.getD i 0) (h : eqB K Cs cs (Cs.getD c 0) = true) : EqF g K c (fun c' => cs.contains c') := by
  unfold eqB at h
  simp only [Bool.and_eq_true] at h
  refine ⟨by rw [hg]; exact nf_of h.1, fun c' hc => ?_⟩
  have := List.all_eq_true.mp h.2 c' (by simpa using hc)
  simp only [Bool.and_eq_true] at this
  rw [hg]
  exact ⟨clsI_of this.1, this.2⟩
def isoB (K : PySem.W.Frag) (Cs : List Addr) (cs : List Nat) (C : Addr) (t : Nat → Option Bool) : Bool := kfB K C && cs.all fun c => clsB K (Cs.getD c 0) && decide (PySem.W.kitOne K (.ref (Cs.getD c 0)) (.ref C) = t c)
theorem iso_of {K : PySem.W.Frag} {Cs : List Addr} {cs : List Nat} {C : Addr} {t : Nat → Option Bool} (h : isoB K Cs cs C t = true) (ht : ∀ c b, t c = some b → cs.contains c = true) : (∀ k ∈ kinds, PySem.W.kitOne K (.type k) (.ref C) = some false) ∧ ∀ c b, t c = some b → ClsI K (Cs.getD c 0) ∧ PySem.W.kitOne K (.ref (Cs.getD c 0)) (.ref C) = some b := by
  unfold isoB at h
  simp only [Bool.and_eq_true] at h
  refine ⟨kf_of h.1, fun c b e => ?_⟩
  have := List.all_eq_true.mp h.2 c (by simpa using ht c b e)
  simp only [Bool.and_eq_true, decide_eq_true_eq] at this
  exact ⟨clsI_of this.1, this.2.trans e⟩
end Lg

namespace Lg
open PySem L2
/-! ### tuple(list) -/
def rTupX (K : PySem.W.Frag) : List V → Hp → VK → Prop := fun xs H Q => ∃ p ys, xs = [.ref p] ∧ SqL K H p ys ∧ ∀ l (o : Obj), o.dict = none → H l = none → Q (.ref l) (upd H l (.frz o (.tup ys)))
section
open PyProof.Rows
theorem call_tupX {X : Cx} : CallR X (.type "tuple") (rTupX X.K) := by
  intro pins s σ H xs us Q I r h
  obtain ⟨p, ys, rfl, hq, q⟩ := h
  obtain ⟨u, rfl, rx⟩ := vals1 r
  cases (show u = Value.ref p from rx)
  obtain ⟨its, r', pl, hz⟩ := I.list hq
  have hlen := r'.length
  refine call_tuple_list pl.isList (fun h' kp => ?_) (by simp only [List.size_toArray] <;> omega)
  have J := I.kept (t' := s.toks) kp
  have at1 : (h'.push { cls := .type "tuple", data := .seq its.toArray }).get? h'.objs.size = some { cls := .type "tuple", data := .seq its.toArray } := Heap.get?_push_size _ rfl
  exact ⟨.ref h'.objs.size, _, J.laid (t' := s.toks) (fun b o e => Heap.get?_push_of_some _ e) (Nat.le_refl _) (show ObjOk X.prog X.w _ _ _ (.frz { cls := .type "tuple", data := .seq its.toArray } (.tup ys)) from ⟨at1, hz, its, r', IsTup.new _ _⟩), rfl, q _ _ rfl (J.hok.fresh (Nat.le_refl _))⟩
end
def cTupX (ds : List D) (S : Store) : Res D := match ds with
  | [x] => match asL x S with
    | some xs => .ok (.tupX xs) S
    | none => .stuck
  | _ => .stuck
section
variable {g : G} {E : XK} {K : PySem.W.Frag}
theorem sim_tupX : CallSim g E (rTupX K) cTupX := by
  intro l xs H Q ρ S ds rx rs p
  unfold cTupX at p
  split at p
  · obtain ⟨v, rfl, r⟩ := rx.one
    split at p
    · rename_i xs' e
      obtain ⟨a, vs, rfl, h1, r1⟩ := as_l rs r e
      exact ⟨a, vs, rfl, SqL.of h1, fun q o hd hq => p ρ _ _ (Ex.new1 hq) (rs.aside hq) (.tupX upd_same hd (rs.fresh hq) (r1.mono (Ex.new1 hq)))⟩
    · exact p.elim
  · exact p.elim
end
end Lg
namespace Lg
open PySem PySem.Spec PyProof.Rows L2
/-! ### dict(tuple of pairs), at the machine -/
theorem tup_no_keys : typeLookup (.type "tuple") "keys" = pure none := am_miss_of_fast (by first | decide +kernel | rfl)
section
variable {prog : Program} {w : World} {A : Around} {E : Value → Shared → Prop}
/-- a tuple has no attribute keys: what is raised is forgotten -/
theorem keys_missed {s : Shared} {a : Addr} {ot : Obj} {vs : Array Value} {n : Nat} {R : Option Value → Shared → Prop} (h1 : s.heap.get? a = some ot) (h2 : ot.cls = .type "tuple") (h3 : ot.data = .seq vs n) (h4 : ot.dict = none) (h5 : A.handled = none)
    (q : ∀ h' t', (∀ b ob, s.heap.get? b = some ob → h'.get? b = some ob) → R none { s with heap := h', toks := t' }) : wpAny (model prog w) A (getAttr? (.ref a) "keys") R E s := by
  obtain ⟨oc, od, oda, osl⟩ := ot
  dsimp only at h2 h3 h4
  subst h2 h3 h4
  obtain ⟨hp, g, d, tk, os⟩ := s
  have ty : ∀ t', (⟨hp, g, d, t', os⟩ : Shared).TypeIs (.ref a) "tuple" := fun _ => ⟨_, h1, rfl⟩
  have m0 := tup_no_keys
  have m1 : (["__module__", "__name__", "__qualname__", "__doc__", "__annotations__"] : List PySem.Str).contains "keys" = false := by decide +kernel
  have m2 : ("keys" : PySem.Str).length + 100 ≤ sizeLine := by first | size_fits | decide +kernel
  have e1 := sub_AttributeError
  have e3 := PySem.F.slot_tuple_getattribute.lookup
  have e4 := PySem.F.slot_tuple_getattribute.bind (.ref a)
  have e5 := am_tuple_getattr_none
  unfold getAttr? getAttrBy? getAttrBy
  repeat (any_goals (first | assumption | exact ty _ | ((with_reducible show wpAny _ _ (call (Value.builtin "tuple.__getattribute__") _ _) _ _ _); exact call_meets PySem.F.slot_tuple_getattribute (ty _) am_entry_tuple_getattribute (PySem.F.args_tuple_getattribute_2 _ _) (meets_getattribute_miss_tuple a vs n osl "keys" _ m0 m1 m2) ⟨h1, h5, fun h' t' e ne => by
    obtain ⟨t2, u2, he⟩ := ne.there
    show wpAny _ _ (getattributeRaised _ _ _ _ _ _ _) _ _ _
    unfold getattributeRaised
    repeat (any_goals (first | assumption | wp_step))
    all_goals first | exact q _ _ ne.keeps | (dsimp only; repeat (any_goals (first | assumption | exact q _ _ ne.keeps | wp_step)))⟩) | wp_step))
/-- the pairs are put into the dict one by one -/
theorem pour {R : Result → Shared → Prop} {D I T : Addr} {vs : Array Value} {out : Value} (h5 : A.handled = none) (nTI : T ≠ I) (nDI : D ≠ I) (nDT : D ≠ T) :
    ∀ (todo : List (Key × Value)) (i : Nat) (had : List (Key × Value)) (n : Int) (tk : Tok) (s : Shared), vs.size = i + todo.length → had.length + todo.length ≤ sizeLine →
      (∀ (j : Nat) (p : Key × Value), todo[j]? = some p → ∃ (b : Addr) (u : Value), vs[i + j]? = some (.ref b) ∧ b ≠ D ∧ b ≠ I ∧ IsTup s.heap b #[u, p.2] ∧ keyIs p.1 u = true) →
      s.heap.IsTupleIter I T i → s.heap.IsTuple T vs → s.heap.DictOf (mixKind prog w) D had →
      (∀ h' t', h'.DictOf (mixKind prog w) D (merged had todo) → (∀ b o, b ≠ D → b ≠ I → s.heap.get? b = some o → h'.get? b = some o) → R (.ok (.ret out)) { s with heap := h', toks := t' }) →
      codeAny (model prog w) A (.builtin "dict.update.loop" ⟨[.ref D, .ref I, .int n tk, out], []⟩) R s
  | [], i, had, n, tk, s, z1, z2, at_, it, tu, di, fin => by
    refine codeAny_builtin ud_entry ?_
    rw [Around.under_plainId ud_plain _]
    show wpAny _ A.in1 (pyNext (.ref I) >>= _) _ _ s
    have past : vs[i]? = none := Array.getElem?_eq_none (by rw [z1]; simp)
    refine wpAny_bind (wpAny_pyNext_tuple_end (A := A.in1) h5 it tu past fun h' ex => ?_)
    show wpAny _ A.in1 (Builtin.Dict.addKeywords D [] >>= _) _ _ _
    exact wpAny_bind (wpAny_pure (wpAny_pure (fin h' s.toks (di.extBut ex nDI) fun b o _ nb e => ex b o nb e)))
  | p :: todo, i, had, n, tk, s, z1, z2, at_, it, tu, di, fin => by
    rw [List.length_cons] at z1 z2
    obtain ⟨b, u, hb, bD, bI, tb, kb⟩ := at_ 0 p rfl
    refine codeAny_builtin ud_entry ?_
    rw [Around.under_plainId ud_plain _]
    show wpAny _ A.in1 (pyNext (.ref I) >>= _) _ _ s
    refine wpAny_bind (wpAny_pyNext_tuple_item (x := .ref b) it tu (by simpa using hb) fun h1 it1 sb => ?_)
    have tb1 := tb.extBut sb.extBut bI
    obtain ⟨o, ho, oc, m, od⟩ := id tb1
    show wpAny _ A.in1 (holding [Value.ref b] _ >>= _) _ _ _
    refine wpAny_bind (wpAny_holding (wpAny_bind (wpAny_tryCatch ?_)))
    unfold Builtin.Dict.pairItems
    refine wpAny_bind (wpAny_typeOf (T := "tuple") ⟨o, ho, oc⟩ ?_)
    rw [if_pos (by first | decide | rfl | simp)]
    refine wpAny_bind (wpAny_seqItems ho od (wpAny_pure ?_))
    show wpAny _ A.in1 (holding [u, p.2] (dictSet D u p.2)) _ _ _
    refine wpAny_holding (wpAny_dictSet_pairs (knd := mixKind prog w) (k := p.1) kb (di.extBut sb.extBut nDI) (fun h2 di2 sb2 => ?_) (by omega))
    have more : ∀ c oc, c ≠ D → c ≠ I → s.heap.get? c = some oc → h2.get? c = some oc := fun c oc n1 n2 e => sb2.extBut c oc n1 (sb.extBut c oc n2 e)
    have go := pour (R := R) (out := out) (vs := vs) h5 nTI nDI nDT todo (i + 1) (stored had p.1 p.2) (n + 1) 0 { s with heap := h2, toks := s.toks + 1 } (show vs.size = i + 1 + todo.length by omega)
      (by have := stored_length_le had p.1 p.2; omega) (fun j p' e => by
        obtain ⟨b', u', q1, q2, q3, q4, q5⟩ := at_ (j + 1) p' (by simpa using e)
        refine ⟨b', u', by rw [← q1]; congr 1; omega, q2, q3, ?_, q5⟩
        exact (q4.extBut sb.extBut q3).extBut sb2.extBut q2)
      (it1.extBut sb2.extBut (Ne.symm nDI)) ((tu.extBut sb.extBut nTI).extBut sb2.extBut (Ne.symm nDT)) di2 (fun h' t' d' keep => fin h' t' d' fun c oc n1 n2 e => keep c oc n1 n2 (more c oc n1 n2 e))
    exact wpAny_pure ⟨plainId_quiet ud_plain _, go⟩
/-- dict(t) -/
theorem call_dict_tup {s : Shared} {a : Addr} {ot : Obj} {vs : Array Value} {n : Nat} {ps : List (Key × Value)} {Q : Value → Shared → Prop} (h5 : A.handled = none) (h1 : s.heap.get? a = some ot) (h2 : ot.cls = .type "tuple") (h4 : ot.dict = none) (h3 : ot.data = .seq vs n)
    (z1 : vs.size = ps.length) (z2 : ps.length ≤ sizeLine) (at_ : ∀ (j : Nat) (p : Key × Value), ps[j]? = some p → ∃ (b : Addr) (u : Value), vs[j]? = some (.ref b) ∧ IsTup s.heap b #[u, p.2] ∧ keyIs p.1 u = true)
    (fin : ∀ h' t', h'.DictOf (mixKind prog w) s.heap.objs.size (merged [] ps) → (∀ b o, s.heap.get? b = some o → h'.get? b = some o) → Q (.ref s.heap.objs.size) { s with heap := h', toks := t' }) :
    wpAny (model prog w) A (call (.type "dict") [.ref a]) Q E s := by
  generalize hN : s.heap.push { cls := .type "dict", data := .dict #[] } = h0
  refine callType_codes (Q₁ := fun obj s₁ => obj = .ref s.heap.objs.size ∧ s₁ = { s with heap := s.heap.push { cls := .type "dict", data := .dict #[] } }) PySem.F.kt_called_dict (PySem.F.kt_typeCall_dict_1 _) PySem.F.entry_dict_init (kt_code_dict_new _ ⟨rfl, rfl⟩) ?_
  rintro obj s₁ ⟨rfl, rfl⟩
  rw [hN]
  have made : h0.DictOf (mixKind prog w) s.heap.objs.size [] := hN ▸ Heap.DictOf.new s.heap
  have up0 : ∀ b o, s.heap.get? b = some o → h0.get? b = some o := fun b o e => hN ▸ Heap.get?_push_of_some _ e
  have e0 : h0.get? s.heap.objs.size = some { cls := .type "dict", data := .dict #[] } := hN ▸ Heap.get?_push_size _ rfl
  have tyN : Shared.TypeIs { s with heap := h0 } (.ref s.heap.objs.size) "dict" := ⟨_, e0, rfl⟩
  refine ⟨tyN, PySem.F.args_dict_init_2 _ _, ?_⟩
  unfold Builtin.«dict.__init__» Builtin.Dict.selfAndRest
  refine wpAny_bind (wpAny_bind (wpAny_notOrdered_dict tyN ?_))
  show wpAny _ _ (pure (s.heap.objs.size, [Value.ref a])) _ _ _
  refine wpAny_pure ?_
  show wpAny _ _ (Builtin.Dict.updateFrom "dict.__init__" s.heap.objs.size (.ref a) [] .none) _ _ _
  unfold Builtin.Dict.updateFrom
  refine wpAny_bind (wpAny_typeOf (T := "tuple") ⟨ot, up0 _ _ h1, h2⟩ ?_)
  rw [if_pos (by first | decide | rfl | simp)]
  refine wpAny_bind (keys_missed (up0 _ _ h1) h2 h3 h4 h5 fun h6 t6 up6 => ?_)
  rw [if_pos (show (none : Option Value).isNone = true from rfl)]
  refine wpAny_bind (wpAny_rule ?_)
  have tu6 : h6.IsTuple a vs := ⟨ot, up6 _ _ (up0 _ _ h1), h2, n, h3⟩
  have lt6 : s.heap.objs.size < h6.objs.size := Heap.lt_size (up6 _ _ e0)
  have lta := Heap.lt_size h1
  refine wpAny_bind (wpAny_pyIter_tuple tu6 ?_)
  generalize hI : h6.push { cls := .type "tuple_iterator", data := .fields #[.ref a, .int 0 0] } = h7
  have up7 : ∀ b o, h6.get? b = some o → h7.get? b = some o := fun b o e => hI ▸ Heap.get?_push_of_some _ e
  have up : ∀ b o, s.heap.get? b = some o → h7.get? b = some o := fun b o e => up7 _ _ (up6 _ _ (up0 _ _ e))
  have it7 : h7.IsTupleIter h6.objs.size a 0 := ⟨_, hI ▸ Heap.get?_push_size _ rfl, rfl, rfl⟩
  have go := pour (prog := prog) (w := w) (A := A.in1) (R := wants (fun r s₂ => r = .none ∧ Q (.ref s.heap.objs.size) s₂) E) (D := s.heap.objs.size) (I := h6.objs.size) (T := a) (vs := vs) (out := Value.none) h5
    (Nat.ne_of_lt (Nat.lt_trans lta lt6)) (Nat.ne_of_lt lt6) (Nat.ne_of_gt lta) ps 0 [] 0 0 { s with heap := h7, toks := t6 } (by rw [z1, Nat.zero_add]) (by simpa using z2)
    (fun j p e => by
      obtain ⟨b, u, q1, q2, q3⟩ := at_ j p e
      have ltb := q2.lt
      exact ⟨b, u, by rw [Nat.zero_add]; exact q1, Nat.ne_of_lt ltb, Nat.ne_of_lt (Nat.lt_trans ltb lt6), q2.keeps fun c o y => up _ _ y, q3⟩)
    it7 ⟨ot, up7 _ _ (up6 _ _ (up0 _ _ h1)), h2, n, h3⟩ ((made.at fun o e => up6 _ _ e).at fun o e => up7 _ _ e)
    (fun h' t' d' keep => ⟨rfl, fin h' t' d' fun b o e => keep b o (Nat.ne_of_lt (Heap.lt_size e)) (Nat.ne_of_lt (Nat.lt_trans (Heap.lt_size e) lt6)) (up _ _ e)⟩)
  first | exact wpAny_pure ⟨plainId_quiet ud_plain _, go⟩ | exact wpAny_bind (wpAny_pure (wpAny_pure ⟨plainId_quiet ud_plain _, go⟩))
end
section
variable {X : Cx}
/-- dict(t), t a tuple that is known to have no dict of its own -/
def rDictX (K : PySem.W.Frag) : List V → Hp → VK → Prop := fun xs H Q => ∃ (a : Addr) (o : Obj) (ps : List Addr) (kvs : List (Key × V)), xs = [.ref a] ∧ o.dict = none ∧ H a = some (.frz o (.tup (ps.map V.ref))) ∧ Paired (fun p kv => SqT K H p [kV kv.1, kv.2]) ps kvs ∧
  ∀ p, H p = none → Q (.ref p) (upd H p (.dK (mergeK [] kvs)))
theorem call_dictX (hcalm : X.calm = true) : CallR X (.type "dict") (rDictX X.K) := by
  intro pins s σ H xs us Q I r h
  obtain ⟨a, o, ps, kvs, rfl, hd, ha, hp, q⟩ := h
  obtain ⟨u, rfl, ru⟩ := vals1 r
  cases (show u = Value.ref a from ru)
  obtain ⟨ho, z, its, rv, tu⟩ := (show ObjOk X.prog X.w H s.heap a (.frz o (.tup (ps.map V.ref))) from I.hok a _ ha)
  have ei := refs_at rv
  subst ei
  obtain ⟨o', e', oc, n, od⟩ := tu
  obtain rfl := Option.some.inj (ho.symm.trans e')
  rw [List.length_map] at z
  obtain ⟨prs, rel, hl, hpr⟩ := pairs_of I hp
  refine call_dict_tup (ps := prs) (I.ok.hd hcalm) ho oc hd od (by simp [hl]) (by rw [hl]; exact z) (fun j p e => ?_) fun h' t' d' keep => ?_
  · obtain ⟨b, u, q1, q2, q3⟩ := hpr j p e
    exact ⟨b, u, by simp [q1], q2, q3⟩
  · have big : (s.heap.objs.size == sysModules) = false := beq_eq_false_iff_ne.mpr (Nat.ne_of_gt I.big)
    have len : (mergeK [] kvs).length ≤ sizeLine := Nat.le_trans (length_mergeK kvs []) (by rw [List.length_nil, Nat.zero_add, rel.length, hl]; exact z)
    exact ⟨.ref s.heap.objs.size, _, I.laid (t' := t') keep (Nat.le_refl _) (show ObjOk X.prog X.w _ _ _ (.dK (mergeK [] kvs)) from ⟨len, big, merged [] prs, KV.merge rel .nil, d'⟩), rfl, q _ (I.hok.fresh (Nat.le_refl _))⟩
end
/-! ### as a plain function -/
def cDictX (ds : List D) (S : Store) : Res D := match ds with
  | [.tupX xs] => match pairsD xs with
    | some kvs => .ok (.loc S.length) (S ++ [.dK (mergeD kvs)])
    | none => .stuck
  | _ => .stuck
section
variable {g : G} {E : XK} {K : PySem.W.Frag}
theorem pairs_rel {ρ : List Addr} {H : Hp} : ∀ {vs : List V} {ds : List D} {kvs : List (Key × D)}, RDs g ρ H vs ds → pairsD ds = some kvs → ∃ (ps : List Addr) (kv : List (Key × V)), vs = ps.map V.ref ∧ Paired (fun p kv => SqT K H p [kV kv.1, kv.2]) ps kv ∧ RKV g ρ H kv kvs
  | _, _, _, .nil, e => by cases e; exact ⟨[], [], rfl, .nil, .nil⟩
  | _, _, _, .cons (v := v) (d := d) h t, e => by
    unfold pairsD at e
    split at e
    · rename_i hd; cases hd
    · rename_i a b ds' hd
      cases hd
      split at e
      · rename_i k r e1 e2
        cases e
        obtain ⟨ps, kv, q1, q2, q3⟩ := pairs_rel t e2
        cases h with
        | @tup p vs' _ hp n r' =>
          cases r' with
          | cons ra r2 => cases r2 with
            | cons rb r3 =>
              cases r3
              have := key_of_rd ra e1
              subst this
              exact ⟨p :: ps, (k, _) :: kv, by rw [q1]; rfl, .cons (SqT.of hp) q2, .cons ⟨rfl, rb⟩ q3⟩
      · cases e
    · cases e
theorem sim_dictX : CallSim g E (rDictX K) cDictX := by
  intro l xs H Q ρ S ds rx rs p
  unfold cDictX at p
  split at p
  · obtain ⟨v, rfl, r⟩ := rx.one
    split at p
    · rename_i kvs e
      cases r with
      | @tupX a o vs ds' h hd n r =>
        obtain ⟨ps, kv, q1, q2, q3⟩ := pairs_rel (K := K) r e
        subst q1
        refine ⟨a, o, ps, kv, rfl, hd, h, q2, fun q hq => ?_⟩
        obtain ⟨e3, rs3⟩ := rs.push (o := .dK (mergeK [] kv)) (ob := .dK (mergeD kvs)) hq fun ρ' H' e' q' => ⟨_, q', (merge_rkv q3 .nil).mono e'⟩
        exact p _ _ _ e3 rs3 (.loc (by rw [← rs.len]; simp))
    · exact p.elim
  · exact p.elim
end
end Lg

namespace Lg
open PySem PySem.Spec PyProof.Rows L2
open AutoSeq1 (wpAny_loadPart')
theorem new_enumT (l : Addr) (items : Array Value) (ot : Obj) (h1 : ot.cls = .type "tuple") (n : Nat) (h2 : ot.data = .seq items n) :
    Meets (Builtin.«enumerate.__new__» ⟨[.type "enumerate", .ref l], []⟩) (fun _ R s => s.heap.get? l = some ot ∧
      R (.ok (.ret (.ref (s.heap.push { cls := .type "tuple_iterator", data := .fields #[.ref l, .int 0 0] }).objs.size)))
        { s with heap := (s.heap.push { cls := .type "tuple_iterator", data := .fields #[.ref l, .int 0 0] }).push { cls := .type "enumerate", data := .fields #[.none, .bool false, .ref s.heap.objs.size, rawInt 0, .none, .none] } }) :=
  .of_wp fun prog w A R s ⟨hl, h⟩ => by
    obtain ⟨hp, g, d, tk, os⟩ := s
    obtain ⟨oc, od, oda, osl⟩ := ot
    dsimp only at h1 h2
    subst h1 h2
    have sub := sub_enumerate
    have tu : Heap.IsTuple (Shared.heap ⟨hp, g, d, tk, os⟩) l items := ⟨_, hl, rfl, n, rfl⟩
    wp_walk using wpAny_loadPart' hl
    refine wpAny_stack_any fun st => wpAny_pure ?_
    split
    · rename_i c _ _ _ _ _
      cases (c == Value.type "enumerate") <;> (wp_walk using wpAny_loadPart' hl, wpAny_pyIter_tuple tu; exact ⟨_, rfl, h⟩)
    · wp_walk using wpAny_loadPart' hl, wpAny_pyIter_tuple tu
      exact ⟨_, rfl, h⟩
section
variable {prog : Program} {w : World} {A : Around} {E : Value → Shared → Prop} {s : Shared}
theorem call_enumT {l : Addr} {items : Array Value} {Q : Value → Shared → Prop} (hL : s.heap.IsTuple l items)
    (h : ∀ h', IsEnum h' (s.heap.objs.size + 1) s.heap.objs.size 0 .none → h'.IsTupleIter s.heap.objs.size l 0 → (∀ b o, s.heap.get? b = some o → h'.get? b = some o) → Q (.ref (s.heap.objs.size + 1)) { s with heap := h' }) :
    wpAny (model prog w) A (call (.type "enumerate") [.ref l]) Q E s := by
  obtain ⟨ot, hl, hc, n, hd⟩ := hL
  refine callType_new F.called_enumerate (by decide) (F.typeCall_enumerate_1 _) (F.newCall_enumerate_1 _) (fun obj => F.args_object_init_2 obj _) F.entry_enumerate_new (new_enumT l items ot hc n hd) ⟨hl, ?_⟩
  generalize hI : s.heap.push { cls := .type "tuple_iterator", data := .fields #[.ref l, .int 0 0] } = h1
  have z : h1.objs.size = s.heap.objs.size + 1 := hI ▸ Heap.size_push ..
  have e1 : h1.get? s.heap.objs.size = some { cls := .type "tuple_iterator", data := .fields #[.ref l, .int 0 0] } := hI ▸ Heap.get?_push_size _ rfl
  generalize hN : h1.push { cls := .type "enumerate", data := .fields #[.none, .bool false, .ref s.heap.objs.size, rawInt 0, .none, .none] } = h2
  have en : IsEnum h2 (s.heap.objs.size + 1) s.heap.objs.size 0 .none := by
    rw [← z, ← hN]
    exact Heap.get?_push_size _ rfl
  show _ ∧ _
  rw [z]
  exact ⟨⟨_, en, rfl⟩, h _ en ⟨_, hN ▸ Heap.get?_push_of_some _ e1, rfl, rfl⟩ fun b o y => hN ▸ Heap.get?_push_of_some _ (hI ▸ Heap.get?_push_of_some _ y)⟩
end
/-- the tuple at a, each item in a new pair -/
def IteT (K : PySem.W.Frag) (a : Addr) : It :=
  ⟨fun i H => ∃ (ys : List V) (y : V), SqT K H a ys ∧ ys[i]? = some y, fun i H v H' => ∃ T y, v = .ref T ∧ H T = none ∧ H' = upd H T (.tup [.int (i : Nat), y]) ∧ ∀ ys, SqT K H a ys → ys[i]? = some y, fun i H => ∃ ys : List V, SqT K H a ys ∧ ys.length = i⟩
theorem turn_enumT {P : Program} {w : World} {K : PySem.W.Frag} {elts : List Expr} {kk : Nat} {tpos : Pos} (a e it : Addr) :
    Turn P w K (.Tuple elts kk tpos) (IteT K a) [e, it] e (fun i h => (∃ old, IsEnum h e it ((i : Nat) : Int) old) ∧ h.IsTupleIter it a i ∧ e ≠ it) where
  mem := List.mem_cons_self
  obj := fun i h st b hb => by
    obtain ⟨⟨old, he⟩, ⟨o, ho, hc, hd⟩, _⟩ := st
    rcases List.mem_cons.mp hb with rfl | hb
    · exact ⟨_, he, fun v q => nomatch q⟩
    · obtain rfl := List.mem_singleton.mp hb
      exact ⟨o, ho, fun v q => by rw [hd] at q; cases q⟩
  keep := fun i h h' st k => let ⟨⟨old, he⟩, ⟨o, ho, r⟩, ne⟩ := st; ⟨⟨old, k e (by simp) _ he⟩, ⟨o, k it (by simp) o ho, r⟩, ne⟩
  item := by
    intro X hP hw hK hc i pins s σ H E I hf st hg
    subst hP hw hK
    obtain ⟨⟨old, he⟩, hit, ne⟩ := st
    obtain ⟨ys, y, hq, hy⟩ := hg
    obtain ⟨its, rv, tu, _⟩ := I.tuple hq
    obtain ⟨u, hu, ru⟩ := rv.get hy
    obtain ⟨ot, hot, hoc, no, hod⟩ := id tu
    obtain ⟨oi, hoi, hic, hid⟩ := id hit
    have nai : a ≠ it := fun q => by
      subst q
      have e1 := Option.some.inj (hot.symm.trans hoi)
      rw [e1, hic] at hoc
      exact absurd hoc (by decide)
    have nea : e ≠ a := fun q => by
      subst q
      have e1 := Option.some.inj (hot.symm.trans he)
      rw [e1] at hoc
      exact absurd (show Value.type "enumerate" = Value.type "tuple" from hoc) (by decide)
    have lt : i < its.toArray.size := by simpa using (List.getElem?_eq_some_iff.mp hu).1
    have le : e < s.heap.objs.size := Heap.lt_size he
    have li : it < s.heap.objs.size := Heap.lt_size hoi
    refine wpAny_pyNext_enum_itemD (Draws.tuple (A := X.A.in1) (I.ok.hd hc) it a nai its.toArray) he ⟨hit, tu⟩ lt ne (by simp [ne, nea]) fun x h1 tk px out st1 hT hsz hk => ?_
    have ex : x = u := by
      have px' : its[i]? = some x := by simpa using px
      exact Option.some.inj (px'.symm.trans hu)
    subst ex
    refine ⟨_, rfl, wpAny_letOwnedTupleGo_enum (s := { s with heap := h1, toks := tk + 1 }) out fun h2 he2 sb => ?_⟩
    have hT2 : h2.get? s.heap.objs.size = some { cls := .type "tuple", data := .seq #[.int i tk, x] } := (sb.2 _ (Nat.ne_of_gt le)).trans hT
    have new : ObjOk X.prog X.w (upd H s.heap.objs.size (.tup [.int (i : Nat), y])) h2 s.heap.objs.size (.tup [.int (i : Nat), y]) := ⟨by show 2 ≤ sizeLine; decide, [.int i tk, x], .cons ⟨_, rfl⟩ (.cons ru .nil), ⟨_, hT2, rfl, _, rfl⟩⟩
    have I1 : Inv X pins σ (upd H s.heap.objs.size (.tup [.int (i : Nat), y])) { s with heap := h2, toks := tk + 1 } :=
      I.turnedNew (ch := [e, it]) (fun b ob nb q => (sb.2 b fun z => nb (by simp [z])).trans (hk b ob (fun z => nb (by simp [z])) (fun z => nb (by simp [z])) q)) hf (Nat.le_refl _) new
    refine ⟨.ref s.heap.objs.size, _, I1, rfl, ⟨_, y, rfl, I.hok.fresh (Nat.le_refl _), rfl, fun zs hz => by rw [I.tuple_inj hz hq]; exact hy⟩, ⟨⟨x, ?_⟩, ?_, ne⟩, fun b hb => ?_⟩
    · rw [show ((i + 1 : Nat) : Int) = (i : Int) + 1 by omega]
      exact he2
    · obtain ⟨o, ho, r⟩ := st1.1
      exact ⟨o, (sb.2 it (Ne.symm ne)).trans ho, r⟩
    · have lb : b < s.heap.objs.size := by
        rcases List.mem_cons.mp hb with rfl | hb
        · exact le
        · obtain rfl := List.mem_singleton.mp hb
          exact li
      rw [upd_ne (Nat.ne_of_lt lb)]
      exact (hf b hb).1
  done := by
    intro X hP hw hK hc i pins s σ H E I hf st hg
    subst hP hw hK
    obtain ⟨⟨old, he⟩, hit, ne⟩ := st
    obtain ⟨ys, hq, hl⟩ := hg
    obtain ⟨its, rv, tu, _⟩ := I.tuple hq
    obtain ⟨ot, hot, hoc, no, hod⟩ := id tu
    obtain ⟨oi, hoi, hic, hid⟩ := id hit
    have nai : a ≠ it := fun q => by
      subst q
      have e1 := Option.some.inj (hot.symm.trans hoi)
      rw [e1, hic] at hoc
      exact absurd hoc (by decide)
    obtain ⟨f0, f1, f2, f3, f4, f5⟩ := hf it (by simp)
    have z : its.toArray.size = i := by rw [List.size_toArray, ← rv.length, hl]
    refine wpAny_pyNext_enum_endD (Draws.tuple (A := X.A.in1) (I.ok.hd hc) it a nai its.toArray) he ⟨by rw [z]; exact hit, tu⟩ fun h' eb => ⟨rfl, I.turned (t' := s.toks) (fun b o hb q => eb b o hb q) f0 f1 f3 f4 f5⟩
  self := fun A i s Q E st h => let ⟨⟨_, he⟩, _⟩ := st; wpAny_pyIter_enum he h
def iEnumA (K : PySem.W.Frag) (ta : TA) : TI := fun σ H R => ta σ H fun vs H1 => ∃ a, vs = [.ref a] ∧ (((∃ xs, SqL K H1 a xs) ∧ R (Ite K a) H1) ∨ ((∃ xs, SqT K H1 a xs) ∧ R (IteT K a) H1))
theorem pi_enumA {X : Cx} {e : Expr} {ta : TA} {p pos tpos : Pos} {elts : List Expr} {kk : Nat} (hg : Gl X "enumerate") (hm : X.mg "enumerate" = none) (ha : PA X [e] ta) (hs : starEach [e] X.env = [(false, eval e X.env)] := by rfl) :
    PI X (.Tuple elts kk tpos) (.Call (.Name "enumerate" p) [e] [] pos) (iEnumA X.K ta) := by
  refine ⟨fun pins s σ H R I h => ?_⟩
  refine Call_ (ld_blt I hg hm boot_enumerate (PyProof.Rows.callWith_type1 (thn (ha.run pos pins s σ H _ I h) fun us s1 ⟨vs, H1, I1, r1, a, ev, q1⟩ => ?_) hs rfl))
  subst ev
  obtain ⟨u, rfl, ru⟩ := vals1 r1
  cases (show u = Value.ref a from ru)
  have two : ∀ {h' : Heap}, (∀ b o, s1.heap.get? b = some o → h'.get? b = some o) → ∀ b ∈ [s1.heap.objs.size + 1, s1.heap.objs.size], ∀ (I2 : Inv X pins σ H1 { s1 with heap := h' }), FpOk X pins H1 b := fun hk b hb I2 => by
    have hle : s1.heap.objs.size ≤ b := by
      rcases List.mem_cons.mp hb with rfl | hb
      · exact Nat.le_succ _
      · exact Nat.le_of_eq (List.mem_singleton.mp hb).symm
    exact I1.fpOk hle (I1.hok.fresh hle)
  rcases q1 with ⟨⟨xs, hq⟩, q⟩ | ⟨⟨xs, hq⟩, q⟩
  · obtain ⟨its, rv, pl, _⟩ := I1.list hq
    refine call_enumerate_list pl.isList fun h' he hit hsz hk => wpAny_pyIter_enum he ?_
    have I2 := I1.kept (t' := s1.toks) hk
    exact ⟨s1.heap.objs.size + 1, _, _, _, H1, rfl, I2, turn_enum a (s1.heap.objs.size + 1) s1.heap.objs.size, ⟨⟨.none, he⟩, hit, Nat.succ_ne_self _⟩, fun b hb => two hk b hb I2, q⟩
  · obtain ⟨its, rv, tu, _⟩ := I1.tuple hq
    refine call_enumT tu fun h' he hit hk => wpAny_pyIter_enum he ?_
    have I2 := I1.kept (t' := s1.toks) hk
    exact ⟨s1.heap.objs.size + 1, _, _, _, H1, rfl, I2, turn_enumT a (s1.heap.objs.size + 1) s1.heap.objs.size, ⟨⟨.none, he⟩, hit, Nat.succ_ne_self _⟩, fun b hb => two hk b hb I2, q⟩
theorem walk_enumT {K : PySem.W.Frag} {a : Addr} {xs : List V} : Walk (IteT K a) xs.length (fun H => SqT K H a xs) (YPair (fun i => some (.int (i : Nat))) (fun i => xs[i]?)) := by
  refine ⟨fun i _ hi q => ⟨xs, xs[i], q, List.getElem?_eq_getElem hi⟩, fun _ q => ⟨xs, q, rfl⟩, fun i H v H' _ q ⟨T, y, h1, h2, h3, h4⟩ => ⟨T, .int (i : Nat), y, h1, h2, h3, rfl, h4 xs q⟩⟩
def itEnumA (a : AM) : IM := fun env S => (a env S).bind fun ds S1 => match ds with
  | [.lst xs] => .ok (enumD xs) S1
  | [.tup xs] => .ok (enumD xs) S1
  | _ => .stuck
section
variable {g : G} {E : XK} {K : PySem.W.Frag}
theorem walkd_enum {l : List Addr} {ρ : List Addr} {H : Hp} {J : It} {vs : List V} {xs : List D} {G' : Hp → Prop} (w : Walk J vs.length G' (YPair (fun i => some (.int (i : Nat))) (fun i => vs[i]?))) (hG : ∀ ρ' H', Ex ρ H ρ' H' → G' H') (r : RDs (g.hide l) ρ H vs xs) : WalkD (g.hide l) ρ H J (enumD xs) := by
  have ln : vs.length = (enumD xs).length := by simp [enumD, r.length]
  rw [ln] at w
  refine ⟨_, _, w, hG, fun i ρ' H' x H'' S hi e rs y => ?_⟩
  obtain ⟨T, v, u, rfl, hT, rfl, hv, hu⟩ := y
  have hi' : i < xs.length := by simpa [enumD] using hi
  obtain ⟨u', h3, h4⟩ := r.get (List.getElem?_eq_getElem hi')
  obtain rfl := Option.some.inj hv
  obtain rfl := Option.some.inj (hu.symm.trans h3)
  refine ⟨.tup [.int (i : Nat), xs[i]], by simp [enumD, List.getElem?_zipWith, List.getElem?_eq_getElem hi', hi'], Ex.new1 hT, rs.aside hT, .tup upd_same (rs.fresh hT) (.cons (.int _) (.cons ((h4.mono e).mono (Ex.new1 hT)) .nil)), fun p o q => by rw [upd_ne (ne_of_none q hT)]; exact q⟩
theorem simi_enumA {ta : TA} {a : AM} (ha : SimA g E ta a) : SimI g E (iEnumA K ta) (itEnumA a) := by
  intro l σ H R ρ S env re rs p
  refine ha l σ H _ ρ S env re rs ?_
  unfold itEnumA at p
  cases e : a env S with
  | err x S2 => rw [e] at p; exact p
  | stuck => rw [e] at p; exact p
  | ok ds S1 =>
    rw [e] at p
    simp only [Res.bind] at p
    intro ρ1 H1 vs e1 rs1 rx
    split at p
    · rename_i q hq
      split at hq
      · rename_i xs
        cases hq
        obtain ⟨v, rfl, r⟩ := rx.one
        cases r with
        | @lst b vs1 _ h1 n1 q1 => exact ⟨b, rfl, .inl ⟨⟨vs1, SqL.of h1⟩, p ρ1 H1 _ e1 rs1 fun l' hl => walkd_enum walk_enum (fun ρ' H' ex => SqL.of (ex.keep _ _ n1.1 h1)) (rds_hide hl q1)⟩⟩
      · rename_i xs
        cases hq
        obtain ⟨v, rfl, r⟩ := rx.one
        cases r with
        | @tup b vs1 _ h1 n1 q1 => exact ⟨b, rfl, .inr ⟨⟨vs1, SqT.of h1⟩, p ρ1 H1 _ e1 rs1 fun l' hl => walkd_enum walk_enumT (fun ρ' H' ex => SqT.of (ex.keep _ _ n1.1 h1)) (rds_hide hl q1)⟩⟩
      · cases hq
    · rename_i hq
      split at hq <;> cases hq
    · exact p.elim
end
end Lg

namespace Lg
open PySem PySem.Spec PyProof.Rows L2
def pdK : Key → PyData
  | .inl i => .int i
  | .inr s => .str s
def pdT (k : List Key) : PyData := .tuple (k.map pdK)
theorem dp_key {K : PySem.W.Frag} {H : Hp} : ∀ k : Key, Dp K H (kV k) (pdK k)
  | .inl i => .int i
  | .inr s => .str s
theorem dp_keys {K : PySem.W.Frag} {H : Hp} : ∀ k : List Key, DpAll K H (k.map kV) (k.map pdK)
  | [] => .nil
  | k :: ks => .cons (dp_key k) (dp_keys ks)
abbrev KA := List Key × Addr
def sortKA (bs : List KA) : List KA := bs.mergeSort (PySem.W.dataLe false fun b => pdT b.1)
def rSortDT : List V → Hp → VK → Prop := fun xs H Q => ∃ (a : Addr) (kvs : List (List Key × V)), xs = [.ref a] ∧ H a = some (.dT kvs) ∧ PySem.W.AllAlike (kvs.map fun kv => pdT kv.1) ∧ PySem.W.Sortable (kvs.map fun kv => pdT kv.1) ∧ (∀ kv ∈ kvs, (pdT kv.1).depth ≤ 40) ∧
  ∀ (p : Addr) (bs : List KA), bs.map (·.1) = kvs.map (·.1) → (∀ b ∈ bs, H b.2 = some (.tup (b.1.map kV))) → H p = none → Q (.ref p) (upd H p (.lst ((sortKA bs).map fun b => V.ref b.2)))
theorem paired_keys {P : Program} {w : World} {H : Hp} : ∀ {kvs : List (List Key × V)} {xs : List (List Key × Addr × Value)}, Paired (fun (p : List Key × V) (q : List Key × Addr × Value) => p.1 = q.1 ∧ H q.2.1 = some (.tup (p.1.map kV)) ∧ RelV p.2 q.2.2) kvs xs →
    (xs.map fun x => ((x.1, x.2.1) : KA)).map (·.1) = kvs.map (·.1) ∧ ∀ b ∈ xs.map (fun x => ((x.1, x.2.1) : KA)), H b.2 = some (.tup (b.1.map kV))
  | _, _, .nil => ⟨rfl, fun _ h => nomatch h⟩
  | _, _, .cons (a := p) (b := q) h t => by
    obtain ⟨h1, h2, _⟩ := h
    obtain ⟨t1, t2⟩ := paired_keys (P := P) (w := w) t
    refine ⟨by simp only [List.map_cons, t1, h1], fun b hb => ?_⟩
    rcases List.mem_cons.mp hb with rfl | hb
    · rw [← h1]; exact h2
    · exact t2 b hb
theorem each_refs {M : Value → KA → Prop} (h : ∀ b v, v = Value.ref b.2 → M v b) : ∀ {bs : List KA}, (∀ b ∈ bs, True) → PySem.W.EachIs (fun v (b : KA) => v = Value.ref b.2) (bs.map fun b => Value.ref b.2) bs
  | [], _ => .nil
  | b :: bs, g => .cons rfl (each_refs h (bs := bs) fun _ _ => trivial)
theorem each_eq : ∀ {bs : List KA} {us : List Value}, PySem.W.EachIs (fun v (b : KA) => v = Value.ref b.2) us bs → us = bs.map fun b => Value.ref b.2
  | [], _, .nil => rfl
  | b :: bs, _, .cons h t => by rw [h, each_eq t]; rfl
theorem vals_ka (bs : List KA) : Vals (bs.map fun b => V.ref b.2) (bs.map fun b => Value.ref b.2) := by
  induction bs with
  | nil => exact .nil
  | cons b bs ih => exact .cons rfl ih
theorem call_sortDT {X : Cx} (hcalm : X.calm = true) (hu : X.A.units + 64 < cLine) : CallR X (.builtin "sorted") rSortDT := by
  intro pins s σ H xs us Q I r h
  obtain ⟨a, kvs, rfl, ha, al, so, dep, q⟩ := h
  obtain ⟨u, rfl, ru⟩ := vals1 r
  cases (show u = Value.ref a from ru)
  obtain ⟨z, lo, xs, pr, o, es, ep, ho, hx, hd, he, _⟩ := (show ObjOk X.prog X.w H s.heap a (.dT kvs) from I.hok a _ ha)
  obtain ⟨k1, k2⟩ := paired_keys (P := X.prog) (w := X.w) pr
  generalize hbs : xs.map (fun x => ((x.1, x.2.1) : KA)) = bs at k1 k2
  have esz : es.size = bs.length := by rw [← Array.length_toList, he, List.length_map, ← hbs, List.length_map]
  have zb : bs.length ≤ sizeLine := by
    have := congrArg List.length k1
    rw [List.length_map, List.length_map] at this
    omega
  refine Calls.call_function_entry kind_sorted plain_sorted entry_sorted (args_sorted1 _) ?_
  unfold Builtin.«sorted»
  refine wpAny_bind (m := checkCount "sorted" 1 1 _) (wpAny_pure (wpAny_bind (PySem.W.kdu_collect (A := X.A.in1) (kdl_raw lo hx hd) (I.ok.hd hcalm) ho (by rw [esz]; exact zb) fun h1 t1 acc up1 it => ?_)))
  have ea : acc.toList = bs.map fun b => Value.ref b.2 := by
    refine List.ext_getElem? fun j => ?_
    rw [List.getElem?_map, Array.getElem?_toList]
    cases hj : acc[j]? with
    | none =>
      have h2 := Array.getElem?_eq_none_iff.mp hj
      rw [List.getElem?_eq_none (by rw [it.1, esz] at h2; exact h2)]
      rfl
    | some v =>
      obtain ⟨en, hen, hv⟩ := it.2 j v hj
      have e2 : es.toList[j]? = some en := by rw [Array.getElem?_toList]; exact hen
      rw [he, List.getElem?_map] at e2
      rw [← hbs, List.getElem?_map]
      cases hb : xs[j]? with
      | none => rw [hb] at e2; cases e2
      | some x =>
        rw [hb] at e2
        have e3 : entryOfKey (tupleKind (mixKind X.prog X.w)) x = en := Option.some.inj e2
        rw [hv, ← e3]
        rfl
  generalize hvs : bs.map (fun b => Value.ref b.2) = vs at ea
  have lv : vs.length = bs.length := by rw [← hvs, List.length_map]
  have I1 : Inv X pins σ H { s with heap := h1, toks := t1 } := I.kept up1
  refine wpAny_bind (wpAny_newList ?_ (by rw [ea, lv]; exact zb))
  rw [ea]
  generalize hL : h1.push (seqObj "list" vs.toArray 0) = h2
  have at2 : h2.get? h1.objs.size = some (seqObj "list" vs.toArray 0) := hL ▸ Heap.get?_push_size _ rfl
  have up2 : ∀ b ob, h1.get? b = some ob → h2.get? b = some ob := fun b ob e => hL ▸ Heap.get?_push_of_some _ e
  show wpAny _ _ _ _ _ { s with heap := h2, toks := t1 }
  have ne : ∀ b ob, h1.get? b = some ob → b ≠ h1.objs.size := fun b ob e => Nat.ne_of_lt (Heap.lt_size e)
  have rd : ∀ b ∈ bs, ∃ as, Reads (PySem.W.sortingHeap h2 h1.objs.size vs) (Value.ref b.2) (pdT b.1) as := fun b hb => by
    obtain ⟨as, rr⟩ := Dp.reads I1 (pdT b.1) (.ref b.2) _ (.tup (SqT.of (k2 b hb)) (dp_keys b.1)) rfl
    exact ⟨as, PyProof.Rows.Reads.keeps (fun c oc e => PySem.W.sortingHeap_old (ne c oc e) (up2 c oc e)) rr⟩
  have eR : PySem.W.EachIs (fun v (b : KA) => v = Value.ref b.2) vs bs := hvs ▸ each_refs (M := fun _ _ => True) (fun _ _ _ => trivial) fun _ _ => trivial
  have eD : PySem.W.EachIs (fun v (b : KA) => ∃ as, Reads (PySem.W.sortingHeap h2 h1.objs.size vs) v (pdT b.1) as) vs bs :=
    (PySem.W.each_mem eR).mono fun v b ⟨e, hb⟩ => by rw [e]; exact rd b hb
  have mk : ∀ {β : Type} (f : List Key → β), bs.map (fun b => f b.1) = kvs.map fun kv => f kv.1 := fun f => by
    have := congrArg (List.map f) k1
    rw [List.map_map, List.map_map] at this
    exact this
  have al2 : PySem.W.AllAlike (bs.map fun b => pdT b.1) := by rw [mk pdT]; exact al
  have so2 : PySem.W.Sortable (bs.map fun b => pdT b.1) := by rw [mk pdT]; exact so
  have room : ∀ b ∈ bs, X.A.units + 2 + (pdT b.1).depth < cLine := fun b hb => by
    have : pdT b.1 ∈ kvs.map fun kv => pdT kv.1 := by rw [← mk pdT]; exact List.mem_map.mpr ⟨b, hb, rfl⟩
    obtain ⟨kv, hkv, e⟩ := List.mem_map.mp this
    have := dep kv hkv
    rw [e] at this
    omega
  have S := PySem.W.SortsAt.data (prog := X.prog) (w := X.w) (A := X.A.in1.in1) (s := { s with heap := PySem.W.sortingHeap h2 h1.objs.size vs, toks := t1 }) (PySem.W.each_map (R := fun v d => ∃ as, Reads (PySem.W.sortingHeap h2 h1.objs.size vs) v d as) (fun b : KA => pdT b.1) eD) al2 so2 (PySem.W.bound_map (A := X.A.in1.in1) room)
  refine wpAny_bind (wpAny_holding (wpAny_call_entry slot_list_sort ⟨_, at2, rfl⟩ entry_list_sort (PySem.W.list_sort_vals (s := { s with heap := h2, toks := t1 }) at2 S (by rw [lv]; exact zb) ⟨_, rfl, ?_⟩) (args_list_sort _)))
  have out := each_eq (PySem.W.sortVals_data false eR eD al2)
  rw [out]
  obtain ⟨ep', at3⟩ := sortedHeap_at (vs := vs) (out := ((sortKA bs).map fun b => Value.ref b.2).toArray) at2
  have lenS : ((sortKA bs).map fun b => V.ref b.2).length ≤ sizeLine := by rw [List.length_map, sortKA, List.length_mergeSort]; exact zb
  refine wpAny_pure ⟨_, rfl, .ref h1.objs.size, upd H h1.objs.size (.lst ((sortKA bs).map fun b => V.ref b.2)), I1.laid (t' := t1) (fun b ob e => ?_) (Nat.le_refl _) (show ObjOk X.prog X.w _ _ _ (.lst ((sortKA bs).map fun b => V.ref b.2)) from ⟨lenS, _, ep', vals_ka _, at3⟩), rfl, q _ bs k1 k2 (I1.hok.fresh (Nat.le_refl _))⟩
  rw [sortedHeap_old (ne b ob e) (Heap.lt_size (up2 b ob e))]
  exact up2 b ob e
/-! ### as a plain function -/
def dKey : Key → D
  | .inl i => .int i
  | .inr s => .str s
def dTup (k : List Key) : D := .tup (k.map dKey)
def sortK (ks : List (List Key)) : List (List Key) := ks.mergeSort (PySem.W.dataLe false pdT)
def cSortDT (ds : List D) (S : Store) : Res D := match ds with
  | [.loc n] => match S[n]? with
    | some (.dT kvs) => if alikeB (kvs.map fun kv => pdT kv.1) = true ∧ sortB (kvs.map fun kv => pdT kv.1) = true ∧ (kvs.all fun kv => decide ((pdT kv.1).depth ≤ 40)) = true then .ok (.lst ((sortK (kvs.map (·.1))).map dTup)) S else .stuck
    | _ => .stuck
  | _ => .stuck
theorem rds_keys {g : G} {ρ : List Addr} {H : Hp} : ∀ k : List Key, RDs g ρ H (k.map kV) (k.map dKey)
  | [] => .nil
  | .inl i :: ks => .cons (.int i) (rds_keys ks)
  | .inr s :: ks => .cons (.str s) (rds_keys ks)
theorem rds_tups {g : G} {ρ : List Addr} {H : Hp} {S : Store} (rs : RS g ρ S H) : ∀ {bs : List KA}, (∀ b ∈ bs, H b.2 = some (.tup (b.1.map kV))) → RDs g ρ H (bs.map fun b => V.ref b.2) ((bs.map (·.1)).map dTup)
  | [], _ => .nil
  | b :: bs, h => .cons (.tup (h b List.mem_cons_self) (rs.tup (h b List.mem_cons_self)) (rds_keys b.1)) (rds_tups rs fun c hc => h c (List.mem_cons_of_mem _ hc))
theorem rkv_keys {κ : Type} {g : G} {ρ : List Addr} {H : Hp} : ∀ {xs : List (κ × V)} {ys : List (κ × D)}, RKV g ρ H xs ys → xs.map (·.1) = ys.map (·.1)
  | _, _, .nil => rfl
  | _, _, .cons h t => by
    rw [List.map_cons, List.map_cons, rkv_keys t]
    exact congrArg (· :: _) h.1
theorem sim_sortDT {g : G} {E : XK} : CallSim g E rSortDT cSortDT := by
  intro l xs H Q ρ S ds rx rs p
  unfold cSortDT at p
  split at p
  · rename_i n
    obtain ⟨v, rfl, r⟩ := rx.one
    split at p
    · rename_i kvs e
      split at p
      · rename_i hc
        cases r with
        | @loc _ a hn =>
          obtain ⟨kv, h1, h2⟩ := rs.ob n a _ hn e
          have ek := rkv_keys h2
          have mk : ∀ {β : Type} (f : List Key → β), kv.map (fun x => f x.1) = kvs.map fun x => f x.1 := fun f => by
            have := congrArg (List.map f) ek
            rw [List.map_map, List.map_map] at this
            exact this
          refine ⟨a, kv, rfl, h1, by rw [mk pdT]; exact alike_of hc.1, by rw [mk pdT]; exact sortable_of hc.2.1, fun x hx => ?_, fun q bs b1 b2 hq => ?_⟩
          · have : pdT x.1 ∈ kvs.map fun y => pdT y.1 := by rw [← mk pdT]; exact List.mem_map.mpr ⟨x, hx, rfl⟩
            obtain ⟨y, hy, ey⟩ := List.mem_map.mp this
            rw [← ey]
            exact of_decide_eq_true (List.all_eq_true.mp hc.2.2 y hy)
          · refine p ρ _ _ (Ex.new1 hq) (rs.aside hq) (.lst upd_same (rs.fresh hq) ?_)
            have e1 : (sortKA bs).map (·.1) = sortK (kvs.map (·.1)) := by
              rw [← ek, ← b1]
              exact List.map_mergeSort (f := fun b : KA => b.1) (fun _ _ _ _ => rfl)
            rw [← e1]
            exact (rds_tups rs fun b hb => b2 b (List.mem_mergeSort.mp hb)).mono (Ex.new1 hq)
      · exact p.elim
    · exact p.elim
  · exact p.elim
/-! ### list(text) -/
def rListS : List V → Hp → VK → Prop := fun xs H Q => ∃ z : PySem.Str, xs = [.str z] ∧ z.length ≤ sizeLine ∧ ∀ p, H p = none → Q (.ref p) (upd H p (.lst (z.cps.toList.map fun c => V.str ⟨#[c]⟩)))
theorem vals_signs {x : PySem.Str} {acc : Array Value} (h : ItemsOf (SignAt x) acc x.cps.size) : Vals (x.cps.toList.map fun c => V.str ⟨#[c]⟩) acc.toList := by
  have key : ∀ (cs : List Nat) (us : List Value), us.length = cs.length → (∀ (j : Nat) (v : Value), us[j]? = some v → ∃ c u, cs[j]? = some c ∧ v = .str ⟨#[c]⟩ u) → Vals (cs.map fun c => V.str ⟨#[c]⟩) us := by
    intro cs
    induction cs with
    | nil => intro us hl _; cases us with
      | nil => exact .nil
      | cons _ _ => simp at hl
    | cons c cs ih => intro us hl hv; cases us with
      | nil => simp at hl
      | cons u us =>
        obtain ⟨c', t, e1, e2⟩ := hv 0 u rfl
        have : c = c' := Option.some.inj e1
        subst this
        exact .cons ⟨t, e2⟩ (ih us (by simpa using hl) fun j v e => by
          obtain ⟨c', t, e1, e2⟩ := hv (j + 1) v (by simpa using e)
          exact ⟨c', t, by simpa using e1, e2⟩)
  refine key _ _ (by rw [Array.length_toList, h.1, Array.length_toList]) fun j v e => ?_
  obtain ⟨c, u, e1, e2⟩ := h.2 j v (by rw [← Array.getElem?_toList]; exact e)
  exact ⟨c, u, by rw [Array.getElem?_toList]; exact e1, e2⟩
theorem call_listS {X : Cx} (hcalm : X.calm = true) : CallR X (.type "list") rListS := by
  intro pins s σ H xs us Q I r h
  obtain ⟨z, rfl, hz, q⟩ := h
  obtain ⟨u, rfl, t, rfl⟩ := vals1 r
  refine call_list_str (I.ok.hd hcalm) z t (hn := hz) fun h' tk acc c up at_ it => ?_
  have len : (z.cps.toList.map fun c => V.str ⟨#[c]⟩).length ≤ sizeLine := by rw [List.length_map, Array.length_toList]; exact hz
  exact ⟨.ref s.heap.objs.size, _, I.laid (t' := tk) up (Nat.le_refl _) (show ObjOk X.prog X.w _ _ _ (.lst (z.cps.toList.map fun c => V.str ⟨#[c]⟩)) from ⟨len, acc.toList, c, vals_signs it, at_⟩), rfl, q _ (I.hok.fresh (Nat.le_refl _))⟩
def signsD (z : PySem.Str) : List D := z.cps.toList.map fun c => .str ⟨#[c]⟩
def cListS (ds : List D) (S : Store) : Res D := match ds with
  | [.str z] => if z.length ≤ sizeLine then .ok (.lst (signsD z)) S else .stuck
  | _ => .stuck
def cListSL (ds : List D) (S : Store) : Res D := match ds with
  | [.str z] => if z.length ≤ sizeLine then .ok (.loc S.length) (S ++ [.lst (signsD z)]) else .stuck
  | _ => .stuck
theorem rds_signs {g : G} {ρ : List Addr} {H : Hp} (cs : List Nat) : RDs g ρ H (cs.map fun c => V.str ⟨#[c]⟩) (cs.map fun c => D.str ⟨#[c]⟩) := by
  induction cs with
  | nil => exact .nil
  | cons c cs ih => exact .cons (.str _) ih
theorem sim_listS {g : G} {E : XK} : CallSim g E rListS cListS := by
  intro l xs H Q ρ S ds rx rs p
  unfold cListS at p
  split at p
  · rename_i z
    split at p
    · rename_i hz
      obtain ⟨v, rfl, r⟩ := rx.one
      cases r
      exact ⟨z, rfl, hz, fun q hq => p ρ _ _ (Ex.new1 hq) (rs.aside hq) (.lst upd_same (rs.fresh hq) (rds_signs _))⟩
    · exact p.elim
  · exact p.elim
theorem sim_listSL {g : G} {E : XK} : CallSim g E rListS cListSL := by
  intro l xs H Q ρ S ds rx rs p
  unfold cListSL at p
  split at p
  · rename_i z
    split at p
    · rename_i hz
      obtain ⟨v, rfl, r⟩ := rx.one
      cases r
      refine ⟨z, rfl, hz, fun q hq => ?_⟩
      obtain ⟨e3, rs3⟩ := rs.push (o := .lst _) (ob := .lst (signsD z)) hq fun ρ' H' e' q' => ⟨_, q', rds_signs _⟩
      exact p _ _ _ e3 rs3 (.loc (by rw [← rs.len]; simp))
    · exact p.elim
  · exact p.elim
end Lg

namespace Lg
open PySem PySem.Spec L2
section
variable {P : Program} {w : World} {K : PySem.W.Frag} {mg : PySem.Str → Option Value} {base : Heap} {g : G}
/-- a def of the text with defaults -/
abbrev FunF (K : PySem.W.Frag) (x qual : PySem.Str) (st : Stmt) (dvs : List V) (f : Addr) (fd : FuncData) : Prop := FunD K x qual (defArgs st) (defBody st) (defScope st) dvs [] f fd
theorem fn_simD {x qual : PySem.Str} {st : Stmt} {f : Addr} {fd : FuncData} {dvs : List V} {N ps : List PySem.Str} {k : Nat} {m : SM} (F : FunF K x qual st dvs f fd) (Sc : FnScope N ps (defScope st))
    (hb : ∀ (cdv : Value) (A : Around) (outer : List Env) (s : Shared) (H : Hp) (E : XK), Room k (A.deeper (PyProof.Rows.envOfC qual (defScope st) s.heap.objs.size f cdv)) →
      ∃ t, PSs (cxOf (L2.CX P w) P w K mg base N qual (defScope st) f cdv A outer s H E) (defBody st) t ∧ SimS g E t m) :
    FnOk P w K mg base (L2.CX P w) (k + 1) f fd ps (spOf g ps.length (mDef N.length ps.length m)) := by
  refine F.ok Sc (fun vs H Q E ⟨l, ρ, S, ds, hl, _⟩ => hl) fun cdv A outer s H vs Q E hr ⟨l, ρ, S, ds, hl, rd, rs, p⟩ => ?_
  obtain ⟨t, ht, hs⟩ := hb cdv A outer s H E hr
  refine ⟨t, ht, hs l _ _ H ρ S (startE N.length ds) (re_start rd) rs ?_⟩
  unfold mDef at p
  rw [if_pos (by rw [← rd.length]; exact hl)] at p
  cases e : m (startE N.length ds) S <;> rw [e] at p
  · exact fun ρ' H' σ' e1 rs1 re1 => p ρ' H' .non e1 rs1 .non
  · exact p
  · exact p.elim
  · exact p.elim
  · exact p
  · exact p.elim
theorem funF_mk {x qual : PySem.Str} {st : Stmt} {f T : Addr} {oc oT : Value} {od an oD : Option Addr} {osl sT : Array (Option Value)} {kV doc pm cdv ct : Value} {n : Nat} {dvs : List V} {its : List Value}
    (l : K.lookup f = some ⟨oc, od, .func (PySem.W.fnOf x qual (defArgs st) (defBody st) (defScope st) (.ref T) kV doc pm an cdv ct), osl⟩) (lT : K.lookup T = some ⟨oT, oD, .seq its.toArray n, sT⟩) (hv : Vals dvs its) (ne : dvs ≠ [])
    (c : PySem.W.codeIn K cdv qual = true) (k : PySem.W.keepIn K (.ref f) = true) : FunF K x qual st dvs f (PySem.W.fnOf x qual (defArgs st) (defBody st) (defScope st) (.ref T) kV doc pm an cdv ct) :=
  ⟨⟨oc, od, .ref T, kV, doc, pm, an, cdv, ct, osl, rfl, l, c, .inr ⟨ne, T, _, its, n, rfl, lT, rfl, hv⟩, .inl rfl⟩, k⟩
end
end Lg

set_option exponentiation.threshold 600
/-! LgEv: how the plain functions are evaluated; for the facts of any law. -/
namespace Lg
open PySem L2
/-! ### evaluating -/
theorem op_ok {f : D → D → Store → Res D} {a b : EM} {env : En} {S S1 S2 : Store} {x y : D} (ha : a env S = .ok x S1) (hb : b env S1 = .ok y S2) : mOp f a b env S = f x y S2 := by
  show (a env S).bind (fun x S1 => (b env S1).bind fun y S2 => f x y S2) = _
  rw [ha]
  show (b env S1).bind _ = _
  rw [hb]
  rfl
theorem cons_ok {a : EM} {b : AM} {env : En} {S S1 S2 : Store} {x : D} {xs : List D} (ha : a env S = .ok x S1) (hb : b env S1 = .ok xs S2) : mCons a b env S = .ok (x :: xs) S2 := by
  show (a env S).bind (fun x S1 => (b env S1).bind fun y S2 => .ok (x :: y) S2) = _
  rw [ha]
  show (b env S1).bind _ = _
  rw [hb]
  rfl
theorem call_ok {f : List D → Store → Res D} {a : AM} {env : En} {S S1 : Store} {xs : List D} (ha : a env S = .ok xs S1) : mCall f a env S = f xs S1 := by
  show (a env S).bind f = _
  rw [ha]
  rfl
theorem val_ok {a : EM} {env : En} {S S1 : Store} {b : Bool} (ha : a env S = .ok (.bl b) S1) : bVal a env S = .ok b S1 := by
  unfold bVal
  rw [ha]
  rfl
theorem sq {a b : SM} {env env' : En} {S S' : Store} (h : a env S = .next env' S') : sSeq a b env S = b env' S' := by unfold sSeq; rw [h]; rfl
theorem sqr {a b : SM} {env : En} {S S' : Store} {d : D} (h : a env S = .ret d S') : sSeq a b env S = .ret d S' := by unfold sSeq; rw [h]; rfl
theorem asg_ok {a : EM} {i : Nat} {env : En} {S S' : Store} {d : D} (h : a env S = .ok d S') : sAsg a (gmName i) env S = .next (env.set i (some d)) S' := by unfold sAsg; rw [h]; rfl
theorem if_ok {c : BM} {a b : SM} {env : En} {S S' : Store} {k : Bool} (h : c env S = .ok k S') : sIf c a b env S = if k = true then a env S' else b env S' := by unfold sIf; rw [h]; rfl
theorem or_no {a b : BM} {env : En} {S S1 : Store} (h : a env S = .ok false S1) : bOr a b env S = b env S1 := by unfold bOr; rw [h]; rfl
theorem and_v {a b : BM} {env : En} {S S1 : Store} {k : Bool} (h : a env S = .ok k S1) : bAnd a b env S = if k = true then b env S1 else .ok false S1 := by unfold bAnd; rw [h]; rfl
theorem lst_ok {a : AM} {env : En} {S S' : Store} {ds : List D} (h : a env S = .ok ds S') (hl : ds.length ≤ sizeLine) : mLst a env S = .ok (.lst ds) S' := by
  unfold mLst; rw [h]; exact if_pos hl
theorem tup_ok {a : AM} {env : En} {S S' : Store} {ds : List D} (h : a env S = .ok ds S') (hl : ds.length ≤ sizeLine) : mTup a env S = .ok (.tup ds) S' := by
  unfold mTup; rw [h]; exact if_pos hl
theorem var_ok {i : Nat} {env : En} {S : Store} {d : D} (h : env[i]? = some (some d)) : mVar i env S = .ok d S := by unfold mVar; rw [h]
theorem ret_ok {a : EM} {env : En} {S S' : Store} {d : D} (h : a env S = .ok d S') : sRet a env S = .ret d S' := by unfold sRet; rw [h]; rfl
theorem eqI (i j : Int) (S : Store) : dEqA (.int i) (.int j) S = .ok (.bl (decide (i = j))) S := by
  show dEq (.int i) (.int j) S = _
  have h1 : SeqAt.shaped (.int i) = true := rfl
  have h2 : SeqAt.shaped (.int j) = true := rfl
  simp [dEq, dEqB, pyOf, D.py, h1, h2, PyData.eqv]
  by_cases q : i = j <;> simp [q]
/-- all of what a def says of the parts of a tuple -/
theorem neI (i j : Int) (S : Store) : dNeA (.int i) (.int j) S = .ok (.bl (!decide (i = j))) S := by
  show dNe (.int i) (.int j) S = _
  have h1 : SeqAt.shaped (.int i) = true := rfl
  have h2 : SeqAt.shaped (.int j) = true := rfl
  simp [dNe, dEqB, pyOf, D.py, h1, h2, PyData.eqv]
  by_cases q : i = j <;> simp [q]
theorem opv {f : D → D → Store → Res D} {a b : EM} {env : En} {S S1 S2 : Store} {x y : D} {r : Res D} (ha : a env S = .ok x S1) (hb : b env S1 = .ok y S2) (h : f x y S2 = r) : mOp f a b env S = r := (op_ok ha hb).trans h
theorem c_ok {d : D} {env : En} {S : Store} : mC d env S = .ok d S := rfl
theorem nil_ok {env : En} {S : Store} : mNil env S = .ok [] S := rfl
theorem add_i {i j : Int} {S : Store} : dAdd (.int i) (.int j) S = .ok (.int (i + j)) S := rfl
theorem sub_i {i j : Int} {S : Store} : dSub (.int i) (.int j) S = .ok (.int (i - j)) S := rfl
theorem mul_i {i j : Int} {S : Store} (c : CMulW i j) : dMul (.int i) (.int j) S = .ok (.int (i * j)) S := by simp [dInt, c]
theorem div_i {i j : Int} {S : Store} (c : CDivW i j) : dDiv (.int i) (.int j) S = .ok (.int (i / j)) S := by simp [dInt, c]
theorem mod_i {i j : Int} {S : Store} (c : 0 < j) : dMod (.int i) (.int j) S = .ok (.int (i % j)) S := by simp [dInt, c]
theorem pow_i {i j : Int} {S : Store} (c : CPow i j) : dPow (.int i) (.int j) S = .ok (.int (i ^ j.toNat)) S := by simp [dInt, c]
/-! ### numbers -/
theorem lg {x : Int} {k : Nat} (h0 : 0 ≤ x) (h : x < 2 ^ k) (hk : 0 < k) : x.natAbs.log2 < k := by
  have h1 : x.natAbs < 2 ^ k := by
    have : (x.natAbs : Int) = x := Int.natAbs_of_nonneg h0
    have h2 : ((x.natAbs : Nat) : Int) < ((2 ^ k : Nat) : Int) := by rw [this]; simpa using h
    exact_mod_cast h2
  by_cases z : x.natAbs = 0
  · rw [z]; simpa using hk
  · exact (Nat.log2_lt z).mpr h1
theorem cm {i j : Int} (hi0 : 0 ≤ i) (hi : i < 2 ^ 500) (hj0 : 0 ≤ j) (hj : j < 2 ^ 500) : CMulW i j := by
  have a := lg hi0 hi (by decide)
  have b := lg hj0 hj (by decide)
  unfold CMulW
  omega
theorem cd {i j : Int} (h0 : 0 < j) (h : j < 2 ^ 500) : CDivW i j := ⟨h0, Nat.lt_of_lt_of_le (lg (Int.le_of_lt h0) h (by decide)) (by decide)⟩
theorem for_step {g : GM} {b : SM} {d : D} {r : List D} {env env1 env2 : En} {S S1 S2 : Store} (hg : g d env S = .ok env1 S1) (hb : b env1 S1 = .next env2 S2) : sFor g b (d :: r) env S = sFor g b r env2 S2 := by
  simp only [sFor, hg, Res.bindS, hb]
theorem lc_step {g : GM} {e : EM} {d x : D} {r acc : List D} {env env1 : En} {S S3 : Store} (hg : g d env S = .ok env1 S) (he : e env1 S = .ok x S3) (hl : acc.length < sizeLine) : mLcGo g bYes e env (d :: r) acc S = mLcGo g bYes e env r (acc ++ [x]) S3 := by
  simp only [mLcGo, hg, bYes, he, hl, if_true]
theorem lc_map {g : GM} {e : EM} {env : En} {f : D → D} {S : Store} : ∀ (ds acc : List D), (∀ d ∈ ds, ∃ env1, g d env S = .ok env1 S ∧ e env1 S = .ok (f d) S) → acc.length + ds.length ≤ sizeLine → mLcGo g bYes e env ds acc S = .ok (acc ++ ds.map f) S
  | [], acc, _, _ => by simp [mLcGo]
  | d :: ds, acc, h, hl => by
    obtain ⟨env1, h1, h2⟩ := h d List.mem_cons_self
    simp only [List.length_cons] at hl
    simp only [mLcGo, h1, h2, bYes]
    rw [if_pos (by omega), lc_map ds (acc ++ [f d]) (fun d hd => h d (List.mem_cons_of_mem _ hd)) (by simp; omega)]
    simp
theorem bls_map {α : Type} (f : α → Bool) : ∀ xs : List α, bls (xs.map fun x => D.bl (f x)) = some (xs.map f)
  | [] => rfl
  | x :: xs => by simp [bls, bls_map f xs]
theorem def_ret {n np : Nat} {a : EM} {ds : List D} {S S' : Store} {d : D} (hl : ds.length = np) (h : a (startE n ds) S = .ok d S') : mDef n np (sRet a) ds S = .ok d S' := by
  unfold mDef
  rw [if_pos hl, ret_ok h]
theorem def_run {n np : Nat} {m : SM} {ds : List D} {S S' : Store} {d : D} (hl : ds.length = np) (h : m (startE n ds) S = .ret d S') : mDef n np m ds S = .ok d S' := by
  unfold mDef
  rw [if_pos hl, h]
theorem no_if {c : BM} {a b : SM} {env : En} {S S' : Store} (h : c env S = .ok false S') (hb : b env S' = .next env S') : sIf c a b env S = .next env S' := by rw [if_ok h, if_neg (by decide), hb]
theorem ifn {c : BM} {a : SM} {env : En} {S S' : Store} (h : c env S = .ok false S') : sIf c a sNext env S = .next env S' := no_if h rfl
theorem not_v {a : BM} {env : En} {S S' : Store} {k : Bool} (h : a env S = .ok k S') : bNot a env S = .ok (!k) S' := by unfold bNot; rw [h]; rfl
theorem ife {c : BM} {a b : EM} {env : En} {S S' : Store} {k : Bool} (h : c env S = .ok k S') : mIf c a b env S = if k = true then a env S' else b env S' := by unfold mIf; rw [h]; rfl
theorem andV {a b : EM} {env : En} {S S' : Store} {k : Bool} (h : a env S = .ok (.bl k) S') : mAndV a b env S = if k = true then b env S' else .ok (.bl false) S' := by unfold mAndV; rw [h]; rfl
theorem eqS (i j : PySem.Str) (S : Store) : dEqA (.str i) (.str j) S = .ok (.bl (decide (i = j))) S := rfl
theorem neS (i j : PySem.Str) (S : Store) : dNeA (.str i) (.str j) S = .ok (.bl (!decide (i = j))) S := rfl
def isNon : D → Bool
  | .non => true
  | _ => false
theorem isn (d : D) (S : Store) : dIsN d .non S = .ok (.bl (isNon d)) S := by cases d <;> rfl
/-- an object stands in a store that grows -/
theorem at_app {S : Store} {n : Nat} {o : Ob} (X : Store) (h : S[n]? = some o) : (S ++ X)[n]? = some o := by
  have hl : n < S.length := (List.getElem?_eq_some_iff.mp h).1
  rw [List.getElem?_append_left hl]; exact h
/-- comprehensions: the test and the element may let the store grow -/
theorem lc_go {α : Type} {g : GM} {t : BM} {e : EM} {env : En} (P : Store → Prop) (hP : ∀ S X, P S → P (S ++ X)) (inj : α → D) (p : α → Bool) (f : α → D) : ∀ (xs : List α) (acc : List D) (S : Store), P S →
    (∀ x ∈ xs, ∀ S, P S → ∃ env1 X, g (inj x) env S = .ok env1 S ∧ t env1 S = .ok (p x) (S ++ X) ∧ (p x = true → ∃ Y, e env1 (S ++ X) = .ok (f x) (S ++ X ++ Y))) → acc.length + xs.length ≤ sizeLine →
    ∃ X, mLcGo g t e env (xs.map inj) acc S = .ok (acc ++ (xs.filter p).map f) (S ++ X)
  | [], acc, S, _, _, _ => ⟨[], by simp [mLcGo]⟩
  | x :: xs, acc, S, hS, h, hl => by
    obtain ⟨env1, X, h1, h2, h3⟩ := h x List.mem_cons_self S hS
    rw [List.length_cons] at hl
    cases hp : p x with
    | true =>
      obtain ⟨Y, h4⟩ := h3 hp
      obtain ⟨Z, h5⟩ := lc_go P hP inj p f xs (acc ++ [f x]) (S ++ X ++ Y) (hP _ _ (hP _ _ hS)) (fun x hx => h x (List.mem_cons_of_mem _ hx)) (by simp; omega)
      refine ⟨X ++ Y ++ Z, ?_⟩
      simp only [List.map_cons, mLcGo, h1, h2, h4, hp]
      rw [if_pos (by omega), h5]
      simp [hp]
    | false =>
      obtain ⟨Z, h5⟩ := lc_go P hP inj p f xs acc (S ++ X) (hP _ _ hS) (fun x hx => h x (List.mem_cons_of_mem _ hx)) (by omega)
      refine ⟨X ++ Z, ?_⟩
      simp only [List.map_cons, mLcGo, h1, h2, hp]
      rw [h5]
      simp [hp]
theorem lc_of {α : Type} {it : IM} {g : GM} {t : BM} {e : EM} {vs : List Nat} {env : En} {S S1 : Store} (P : Store → Prop) (hP : ∀ S X, P S → P (S ++ X)) (inj : α → D) (p : α → Bool) (f : α → D) {xs : List α} (hi : it env S = .ok (xs.map inj) S1) (hS : P S1)
    (h : ∀ x ∈ xs, ∀ S, P S → ∃ env1 X, g (inj x) (wipeE env vs) S = .ok env1 S ∧ t env1 S = .ok (p x) (S ++ X) ∧ (p x = true → ∃ Y, e env1 (S ++ X) = .ok (f x) (S ++ X ++ Y))) (hl : xs.length ≤ sizeLine) :
    ∃ X, mLc it g t e vs env S = .ok (.lst ((xs.filter p).map f)) (S1 ++ X) := by
  obtain ⟨X, h1⟩ := lc_go P hP inj p f xs [] S1 hS h (by simpa using hl)
  refine ⟨X, ?_⟩
  unfold mLc
  rw [hi]
  simp only [Res.bind, h1, List.nil_append]
/-- no test, the store grows -/
theorem lc_yes {α : Type} {it : IM} {g : GM} {e : EM} {vs : List Nat} {env : En} {S S1 : Store} (P : Store → Prop) (hP : ∀ S X, P S → P (S ++ X)) (inj : α → D) (f : α → D) {xs : List α} (hi : it env S = .ok (xs.map inj) S1) (hS : P S1)
    (h : ∀ x ∈ xs, ∀ S, P S → ∃ env1, g (inj x) (wipeE env vs) S = .ok env1 S ∧ ∃ Y, e env1 S = .ok (f x) (S ++ Y)) (hl : xs.length ≤ sizeLine) :
    ∃ X, mLc it g bYes e vs env S = .ok (.lst (xs.map f)) (S1 ++ X) := by
  obtain ⟨X, h1⟩ := lc_of (t := bYes) (e := e) P hP inj (fun _ => true) f hi hS (fun x hx S hS => by
    obtain ⟨env1, q1, Y, q2⟩ := h x hx S hS
    exact ⟨env1, [], q1, by simp [bYes], fun _ => ⟨Y, by simpa using q2⟩⟩) hl
  refine ⟨X, ?_⟩
  rw [h1, List.filter_eq_self.mpr fun _ _ => rfl]
/-- nothing grows -/
theorem lc_same {α : Type} {it : IM} {g : GM} {t : BM} {e : EM} {vs : List Nat} {env : En} {S S1 : Store} (inj : α → D) (p : α → Bool) (f : α → D) {xs : List α} (hi : it env S = .ok (xs.map inj) S1)
    (h : ∀ x ∈ xs, ∃ env1, g (inj x) (wipeE env vs) S1 = .ok env1 S1 ∧ t env1 S1 = .ok (p x) S1 ∧ (p x = true → e env1 S1 = .ok (f x) S1)) (hl : xs.length ≤ sizeLine) :
    mLc it g t e vs env S = .ok (.lst ((xs.filter p).map f)) S1 := by
  have go : ∀ (xs : List α) (acc : List D), (∀ x ∈ xs, ∃ env1, g (inj x) (wipeE env vs) S1 = .ok env1 S1 ∧ t env1 S1 = .ok (p x) S1 ∧ (p x = true → e env1 S1 = .ok (f x) S1)) → acc.length + xs.length ≤ sizeLine → mLcGo g t e (wipeE env vs) (xs.map inj) acc S1 = .ok (acc ++ (xs.filter p).map f) S1 := by
    intro xs
    induction xs with
    | nil => intro acc _ _; simp [mLcGo]
    | cons x xs ih =>
      intro acc h hl
      obtain ⟨env1, h1, h2, h3⟩ := h x List.mem_cons_self
      rw [List.length_cons] at hl
      cases hp : p x with
      | true =>
        simp only [List.map_cons, mLcGo, h1, h2, h3 hp, hp]
        rw [if_pos (by omega), ih (acc ++ [f x]) (fun x hx => h x (List.mem_cons_of_mem _ hx)) (by simp; omega)]
        simp [hp]
      | false =>
        simp only [List.map_cons, mLcGo, h1, h2, hp]
        rw [ih acc (fun x hx => h x (List.mem_cons_of_mem _ hx)) (by omega)]
        simp [hp]
  unfold mLc
  rw [hi]
  simp only [Res.bind, go xs [] h (by simpa using hl), List.nil_append]
theorem lc_sameY {α : Type} {it : IM} {g : GM} {e : EM} {vs : List Nat} {env : En} {S S1 : Store} (inj : α → D) (f : α → D) {xs : List α} (hi : it env S = .ok (xs.map inj) S1)
    (h : ∀ x ∈ xs, ∃ env1, g (inj x) (wipeE env vs) S1 = .ok env1 S1 ∧ e env1 S1 = .ok (f x) S1) (hl : xs.length ≤ sizeLine) : mLc it g bYes e vs env S = .ok (.lst (xs.map f)) S1 := by
  have := lc_same (t := bYes) (e := e) inj (fun _ => true) f hi (fun x hx => by
    obtain ⟨env1, q1, q2⟩ := h x hx
    exact ⟨env1, q1, rfl, fun _ => q2⟩) hl
  rw [this, List.filter_eq_self.mpr fun _ _ => rfl]
theorem bls_bl : ∀ bs : List Bool, bls (bs.map D.bl) = some bs
  | [] => rfl
  | b :: bs => by simp [bls, bls_bl bs]
theorem any_ok {a : EM} {env : En} {S S' : Store} {bs : List Bool} (h : a env S = .ok (.lst (bs.map D.bl)) S') : mCall cAny (mCons a mNil) env S = .ok (.bl (bs.any id)) S' := by
  rw [call_ok (cons_ok h nil_ok)]
  simp [cAny, asL, bls_bl]
theorem all_ok {a : EM} {env : En} {S S' : Store} {bs : List Bool} (h : a env S = .ok (.lst (bs.map D.bl)) S') : mCall cAll (mCons a mNil) env S = .ok (.bl (bs.all id)) S' := by
  rw [call_ok (cons_ok h nil_ok)]
  simp [cAll, asL, bls_bl]
theorem seq_lst {a : EM} {env : En} {S S' : Store} {ds : List D} (h : a env S = .ok (.lst ds) S') : itSeq a env S = .ok ds S' := by unfold itSeq; rw [h]; rfl
theorem seq_tup {a : EM} {env : En} {S S' : Store} {ds : List D} (h : a env S = .ok (.tup ds) S') : itSeq a env S = .ok ds S' := by unfold itSeq; rw [h]; rfl
theorem seq_tupX {a : EM} {env : En} {S S' : Store} {ds : List D} (h : a env S = .ok (.tupX ds) S') : itSeq a env S = .ok ds S' := by unfold itSeq; rw [h]; rfl
theorem tuple_lst {a : EM} {env : En} {S S' : Store} {ds : List D} (h : a env S = .ok (.lst ds) S') : mCall cTuple (mCons a mNil) env S = .ok (.tup ds) S' := by
  rw [call_ok (cons_ok h nil_ok)]; rfl
def tx (a : Nat) : PySem.Str := PySem.Str.ofString (toString ((a : Nat) : Int))
theorem lgN {x k : Nat} (h : x < 2 ^ k) (hk : 0 < k) : ((x : Nat) : Int).natAbs.log2 < k := by
  show Nat.log2 x < k
  by_cases z : x = 0
  · subst z; simpa using hk
  · exact (Nat.log2_lt z).mpr h
theorem tx_len {a : Nat} (h : a < 2 ^ 500) : (tx a).length ≤ 501 := by
  have e := int_text_length_le (a := (a : Int)) (k := 500) (by decide) (lgN h (by decide))
  unfold tx
  rw [ofString_length]
  exact e
theorem str_ok {a : Nat} {env : En} {S : Store} {e : EM} {S' : Store} (h : e env S = .ok (.int (a : Nat)) S') (ha : a < 2 ^ 500) : mCall cStr (mCons e mNil) env S = .ok (.str (tx a)) S' := by
  rw [call_ok (cons_ok h nil_ok)]
  exact if_pos (Nat.lt_of_lt_of_le (lgN ha (by decide)) (by decide))
theorem fmt_ok {a : Nat} {env : En} {S : Store} {e : EM} {S' : Store} (h : e env S = .ok (.int (a : Nat)) S') (ha : a < 2 ^ 500) : mFmt e env S = .ok (.str (tx a)) S' := by
  unfold mFmt
  rw [h]
  exact if_pos (Nat.lt_of_lt_of_le (lgN ha (by decide)) (by decide))
theorem js_ok {env : En} {S : Store} {e : EM} {es : List EM} {acc y : PySem.Str} {S' : Store} {r : Res D} (h : e env S = .ok (.str y) S') (hl : (acc ++ y).length ≤ sizeLine) (q : mJs es (acc ++ y) env S' = r) : mJs (e :: es) acc env S = r := by
  show (e env S).bind _ = _
  rw [h]
  show (if (acc ++ y).length ≤ sizeLine then mJs es (acc ++ y) env S' else .stuck) = _
  rw [if_pos hl, q]
theorem emp_app (y : PySem.Str) : PySem.Str.empty ++ y = y := Str.append_left_empty rfl
theorem isi_int {e : EM} {env : En} {S S' : Store} {i : Int} (h : e env S = .ok (.int i) S') : bVal (mIsi "bool" e) env S = .ok false S' := by
  refine val_ok ?_
  have k : kitB "int" "bool" = some false := by decide +kernel
  unfold mIsi
  rw [h]
  simp [Res.bind, kindD, k]
/-! ### data of texts -/
def Az (s : PySem.Str) : Prop := ∀ c ∈ s.cps.toList, 97 ≤ c ∧ c ≤ 122
def prD (p : PySem.Str × PySem.Str) : D := .tup [.str p.1, .str p.2]
def prP (p : PySem.Str × PySem.Str) : PyData := .tuple [.str p.1, .str p.2]
def Az2 (p : PySem.Str × PySem.Str) : Prop := Az p.1 ∧ Az p.2
theorem lay_str {s : PySem.Str} (h : Az s) : PyData.canLay0 (.str s) = true := by
  unfold PyData.canLay0 PyData.strOk
  rw [Array.all_eq_true_iff_forall_mem]
  intro c hc
  have := h c (Array.mem_toList_iff.mpr hc)
  simp; omega
theorem lay_pr {p : PySem.Str × PySem.Str} (h : Az2 p) : PyData.canLay0 (prP p) = true := by
  simp [prP, PyData.canLay0, PyData.canLayAll0]
  exact ⟨by simpa [PyData.canLay0] using lay_str h.1, by simpa [PyData.canLay0] using lay_str h.2⟩
theorem lay_map {α : Type} {f : α → PyData} : ∀ l : List α, (∀ x ∈ l, PyData.canLay0 (f x) = true) → PyData.canLayAll0 (l.map f) = true
  | [], _ => rfl
  | x :: l, h => by
    rw [List.map_cons, PyData.canLayAll0, h x List.mem_cons_self, lay_map l fun y hy => h y (List.mem_cons_of_mem _ hy)]; rfl
theorem dep_map {α : Type} {f : α → PyData} {n : Nat} : ∀ l : List α, (∀ x ∈ l, (f x).depth ≤ n) → PyData.depthAll (l.map f) ≤ n
  | [], _ => Nat.zero_le _
  | x :: l, h => by
    rw [List.map_cons, PyData.depthAll]
    exact Nat.max_le.mpr ⟨h x List.mem_cons_self, dep_map l fun y hy => h y (List.mem_cons_of_mem _ hy)⟩
theorem py_map {α : Type} {d : α → D} {f : α → PyData} : ∀ l : List α, (∀ x ∈ l, (d x).py = some (f x)) → pys (l.map d) = some (l.map f)
  | [], _ => rfl
  | x :: l, h => by
    rw [List.map_cons, pys, h x List.mem_cons_self, py_map l fun y hy => h y (List.mem_cons_of_mem _ hy)]; rfl
theorem py_pr (p : PySem.Str × PySem.Str) : (prD p).py = some (prP p) := rfl
theorem dep_pr (p : PySem.Str × PySem.Str) : (prP p).depth ≤ 1 := by simp [prP, PyData.depth, PyData.depthAll]
/-- a thing that reads as data, and may be compared -/
structure Pl (d : D) (p : PyData) : Prop where
  py : d.py = some p
  lay : p.canLay0 = true
  dep : p.depth ≤ 20
theorem Pl.shaped {d : D} {p : PyData} (h : Pl d p) : SeqAt.shaped p = true := by
  unfold SeqAt.shaped
  rw [h.lay, Bool.true_and]
  exact decide_eq_true (by have := h.dep; omega)
theorem Pl.of {d : D} {p : PyData} (h : Pl d p) (S : Store) : pyOf d S = some p := by
  have := h.py
  cases d <;> first | exact this | (simp [D.py] at this)
theorem Pl.str {s : PySem.Str} (h : Az s) : Pl (.str s) (.str s) := ⟨rfl, lay_str h, by simp [PyData.depth]⟩
theorem Pl.int (i : Int) : Pl (.int i) (.int i) := ⟨rfl, rfl, by simp [PyData.depth]⟩
theorem Pl.pr {p : PySem.Str × PySem.Str} (h : Az2 p) : Pl (prD p) (prP p) := ⟨rfl, lay_pr h, Nat.le_trans (dep_pr p) (by decide)⟩
theorem pl_pys {α : Type} {d : α → D} {f : α → PyData} {n : Nat} (l : List α) (h : ∀ x ∈ l, Pl (d x) (f x) ∧ (f x).depth ≤ n) : pys (l.map d) = some (l.map f) ∧ PyData.canLayAll0 (l.map f) = true ∧ PyData.depthAll (l.map f) ≤ n :=
  ⟨py_map l fun x hx => (h x hx).1.py, lay_map l fun x hx => (h x hx).1.lay, dep_map l fun x hx => (h x hx).2⟩
theorem Pl.tup {α : Type} {d : α → D} {f : α → PyData} {n : Nat} (l : List α) (h : ∀ x ∈ l, Pl (d x) (f x) ∧ (f x).depth ≤ n) (hn : n < 20) : Pl (.tup (l.map d)) (.tuple (l.map f)) ∧ (PyData.tuple (l.map f)).depth ≤ n + 1 := by
  obtain ⟨a, b, c⟩ := pl_pys l h
  have e : (PyData.tuple (l.map f)).depth ≤ n + 1 := by rw [PyData.depth]; omega
  exact ⟨⟨by rw [D.py, a]; rfl, by rw [PyData.canLay0]; exact b, by omega⟩, e⟩
theorem Pl.tupX {α : Type} {d : α → D} {f : α → PyData} {n : Nat} (l : List α) (h : ∀ x ∈ l, Pl (d x) (f x) ∧ (f x).depth ≤ n) (hn : n < 20) : Pl (.tupX (l.map d)) (.tuple (l.map f)) ∧ (PyData.tuple (l.map f)).depth ≤ n + 1 := by
  obtain ⟨a, b, c⟩ := pl_pys l h
  have e : (PyData.tuple (l.map f)).depth ≤ n + 1 := by rw [PyData.depth]; omega
  exact ⟨⟨by rw [D.py, a]; rfl, by rw [PyData.canLay0]; exact b, by omega⟩, e⟩
theorem Pl.lst {α : Type} {d : α → D} {f : α → PyData} {n : Nat} (l : List α) (h : ∀ x ∈ l, Pl (d x) (f x) ∧ (f x).depth ≤ n) (hn : n < 20) : Pl (.lst (l.map d)) (.list (l.map f)) ∧ (PyData.list (l.map f)).depth ≤ n + 1 := by
  obtain ⟨a, b, c⟩ := pl_pys l h
  have e : (PyData.list (l.map f)).depth ≤ n + 1 := by rw [PyData.depth]; omega
  exact ⟨⟨by rw [D.py, a]; rfl, by rw [PyData.canLay0]; exact b, by omega⟩, e⟩
theorem Pl.eq {d : D} {p : PyData} (h : Pl d p) (S : Store) : dEqA d d S = .ok (.bl true) S := by
  have e : dEqB d d S = some true := by
    unfold dEqB
    rw [h.of S]
    simp only [h.shaped, and_self, if_true]
    rw [PySem.SeqAt.eqv_refl p h.lay]
  unfold dEqA
  split
  · simp
  · unfold dEq; rw [e]
theorem Pl.ne {d : D} {p : PyData} (h : Pl d p) (S : Store) : dNeA d d S = .ok (.bl false) S := by
  have e : dEqB d d S = some true := by
    unfold dEqB
    rw [h.of S]
    simp only [h.shaped, and_self, if_true]
    rw [PySem.SeqAt.eqv_refl p h.lay]
  unfold dNeA
  split
  · simp
  · unfold dNe; rw [e]; rfl
theorem eqv_str (a b : PySem.Str) : PyData.eqv (.str a) (.str b) = decide (a = b) := by
  rw [PyData.eqv]; exact (Bool.beq_eq_decide_eq a b)
theorem eqv_pr (p q : PySem.Str × PySem.Str) : PyData.eqv (prP p) (prP q) = decide (p = q) := by
  obtain ⟨a, b⟩ := p
  obtain ⟨c, d⟩ := q
  simp [prP, PyData.eqv, PyData.eqvAll, Prod.mk.injEq, Bool.beq_eq_decide_eq]
theorem pyL_map {α : Type} [DecidableEq α] {f : α → PyData} (hf : ∀ x y, PyData.eqv (f x) (f y) = decide (x = y)) (l : List α) (a : α) : pyL (l.map f) (f a) = decide (a ∈ l) := by
  unfold pyL
  induction l with
  | nil => simp
  | cons x l ih =>
    rw [List.map_cons, List.any_cons, hf, ih]
    by_cases h : x = a
    · simp [h]
    · have : ¬ a = x := fun e => h e.symm
      simp [h, this]
theorem in_tup {α : Type} [DecidableEq α] {d : α → D} {f : α → PyData} {n : Nat} (hf : ∀ x y, PyData.eqv (f x) (f y) = decide (x = y)) (l : List α) (h : ∀ x ∈ l, Pl (d x) (f x) ∧ (f x).depth ≤ n) (hn : n < 20) {a : α} (ha : Pl (d a) (f a)) (S : Store) : dIn (d a) (.tup (l.map d)) S = .ok (.bl (decide (a ∈ l))) S := by
  have q := (Pl.tup l h hn).1
  unfold dIn dInB
  rw [ha.of S, q.of S]
  simp only [ha.shaped, q.shaped, and_self, if_true, pyL_map hf]
theorem in_prs {l : List (PySem.Str × PySem.Str)} (h : ∀ x ∈ l, Az2 x) {a : PySem.Str × PySem.Str} (ha : Az2 a) (S : Store) : dIn (prD a) (.tup (l.map prD)) S = .ok (.bl (decide (a ∈ l))) S := by
  have q := in_tup (n := 1) eqv_pr l (fun x hx => ⟨.pr (h x hx), dep_pr x⟩) (by decide) (.pr ha) S
  rw [q]
  congr 2
  exact decide_eq_decide.mpr Iff.rfl
theorem in_strs {l : List PySem.Str} (h : ∀ x ∈ l, Az x) {a : PySem.Str} (ha : Az a) (S : Store) : dIn (.str a) (.tup (l.map D.str)) S = .ok (.bl (decide (a ∈ l))) S :=
  in_tup (n := 1) (f := PyData.str) eqv_str l (fun x hx => ⟨.str (h x hx), by simp [PyData.depth]⟩) (by decide) (.str ha) S
end Lg

namespace Lw
open PySem L2 Lg RZ
def top (i : Nat) : Stmt := PySem.Challenge.pw_lotgivers_k02_circles_asked.main.body.getD i (.Pass ⟨0, 0, 0, 0⟩)
def clsSt (st : Stmt) (i : Nat) : Stmt := match st with
  | .ClassDef (body := b) .. => b.getD i (.Pass ⟨0, 0, 0, 0⟩)
  | _ => .Pass ⟨0, 0, 0, 0⟩
def ok_fl_name (c : Nat) : Bool := [0].contains c
def ok_of_members (c : Nat) : Bool := [1].contains c
def ok_of_bars (c : Nat) : Bool := [1].contains c
def ok_of_past (c : Nat) : Bool := [1].contains c
def ok_of_gap (c : Nat) : Bool := [1].contains c
def okE (c : Nat) : Bool := [1].contains c
def io_Circle (c : Nat) : Option Bool := if [1].contains c = true then some (c == 1) else none
abbrev s_Circle_init : Stmt := clsSt (top 9) 0
abbrev N_Circle_init : List PySem.Str := ["self", "members", "bars", "past", "gap"]
theorem sc_Circle_init : FnScope N_Circle_init ["self", "members", "bars", "past", "gap"] (defScope s_Circle_init) := ⟨rfl, rfl, rfl, by decide +kernel, rfl, by decide +kernel, by decide +kernel⟩
def m_Circle_init : List D → Store → Res D := mDef 5 5 (sSeq (sFldM 1 "members" (mVar 0) (mVar 1)) (sSeq (sFldM 1 "bars" (mVar 0) (mIf (bVal (mOp dIsN (mVar 2) (mC .non))) (mTup mNil) (mVar 2))) (sSeq (sFldM 1 "past" (mVar 0) (mIf (bVal (mOp dIsN (mVar 3) (mC .non))) (mTup mNil) (mVar 3))) (sFldM 1 "gap" (mVar 0) (mVar 4)))))
abbrev s_Circle_eq : Stmt := clsSt (top 9) 1
abbrev N_Circle_eq : List PySem.Str := ["self", "other"]
theorem sc_Circle_eq : FnScope N_Circle_eq ["self", "other"] (defScope s_Circle_eq) := ⟨rfl, rfl, rfl, by decide +kernel, rfl, by decide +kernel, by decide +kernel⟩
def m_Circle_eq : List D → Store → Res D := mDef 2 2 (sRet (mAndV (mIsO io_Circle (mVar 1)) (mAndV (mOp dEqA (mFldO ok_of_members "members" (mVar 0)) (mFldO ok_of_members "members" (mVar 1))) (mAndV (mOp dEqA (mFldO ok_of_bars "bars" (mVar 0)) (mFldO ok_of_bars "bars" (mVar 1))) (mAndV (mOp dEqA (mFldO ok_of_past "past" (mVar 0)) (mFldO ok_of_past "past" (mVar 1))) (mOp dEqA (mFldO ok_of_gap "gap" (mVar 0)) (mFldO ok_of_gap "gap" (mVar 1))))))))
abbrev s_Circle_len : Stmt := clsSt (top 9) 2
abbrev N_Circle_len : List PySem.Str := ["self"]
theorem sc_Circle_len : FnScope N_Circle_len ["self"] (defScope s_Circle_len) := ⟨rfl, rfl, rfl, by decide +kernel, rfl, by decide +kernel, by decide +kernel⟩
def m_Circle_len : List D → Store → Res D := mDef 1 1 (sRet (mCall cLen (mCons (mFldO ok_of_members "members" (mVar 0)) mNil)))
abbrev s_Circle_repr : Stmt := clsSt (top 9) 3
abbrev N_Circle_repr : List PySem.Str := ["self"]
theorem sc_Circle_repr : FnScope N_Circle_repr ["self"] (defScope s_Circle_repr) := ⟨rfl, rfl, rfl, by decide +kernel, rfl, by decide +kernel, by decide +kernel⟩
def m_Circle_repr : List D → Store → Res D := mDef 1 1 (sRet (mJs [(mC (.str "Circle(")), (mFmt (mCall cLen (mCons (mFldO ok_of_members "members" (mVar 0)) mNil))), (mC (.str ")"))] PySem.Str.empty))
abbrev s_member_rows : Stmt := top 11
abbrev N_member_rows : List PySem.Str := ["members", "name", "house"]
theorem sc_member_rows : FnScope N_member_rows ["members"] (defScope s_member_rows) := ⟨rfl, rfl, rfl, by decide +kernel, rfl, by decide +kernel, by decide +kernel⟩
def m_member_rows : List D → Store → Res D := mDef 3 1 (sRet (mLc (itSeq (mVar 0)) (gmTup 2 (gmCons (gmName 1) (gmCons (gmName 2) gmNil))) bYes (mIf (bVal (mOp dEqA (mVar 2) (mC (.str "")))) (mJs [(mC (.str "member ")), (mFmt (mVar 1))] PySem.Str.empty) (mJs [(mC (.str "member ")), (mFmt (mVar 1)), (mC (.str " ")), (mFmt (mVar 2))] PySem.Str.empty)) [1, 2]))
abbrev s_Circle_names : Stmt := clsSt (top 9) 5
abbrev N_Circle_names : List PySem.Str := ["self", "name", "_"]
theorem sc_Circle_names : FnScope N_Circle_names ["self"] (defScope s_Circle_names) := ⟨rfl, rfl, rfl, by decide +kernel, rfl, by decide +kernel, by decide +kernel⟩
def m_Circle_names : List D → Store → Res D := mDef 3 1 (sRet (mCall cTuple (mCons (mLc (itSeq (mFldO ok_of_members "members" (mVar 0))) (gmTup 2 (gmCons (gmName 1) (gmCons (gmName 2) gmNil))) bYes (mVar 1) [1, 2]) mNil)))
abbrev s_is_name : Stmt := top 7
abbrev N_is_name : List PySem.Str := ["thing", "sign"]
theorem sc_is_name : FnScope N_is_name ["thing"] (defScope s_is_name) := ⟨rfl, rfl, rfl, by decide +kernel, rfl, by decide +kernel, by decide +kernel⟩
def m_is_name : List D → Store → Res D := mDef 2 1 (sSeq (sIf (bNot (bVal (mIsi "str" (mVar 0)))) (sRet (mC (.bl false))) sNext) (sRet (mAndV (mChain dLeA dLeA (mC (.int 1)) (mCall cLen (mCons (mVar 0) mNil)) (mC (.int 12))) (mCall cAll (mCons (mLc (itStr (mVar 0)) (gmName 1) bYes (mOp dIn (mVar 1) (mC (.str "abcdefghijklmnopqrstuvwxyz"))) [1]) mNil)))))
abbrev s_Circle_has : Stmt := clsSt (top 9) 6
abbrev N_Circle_has : List PySem.Str := ["self", "name"]
theorem sc_Circle_has : FnScope N_Circle_has ["self", "name"] (defScope s_Circle_has) := ⟨rfl, rfl, rfl, by decide +kernel, rfl, by decide +kernel, by decide +kernel⟩
def m_Circle_has : List D → Store → Res D := mDef 2 2 (sRet (mAndV (mCall m_is_name (mCons (mVar 1) mNil)) (mOp dIn (mVar 1) (mMeth 1 "names" m_Circle_names [] (mVar 0) mNil))))
abbrev s_copied : Stmt := top 1
abbrev N_copied : List PySem.Str := ["thing", "part", "key", "worth"]
theorem sc_copied : FnScope N_copied ["thing"] (defScope s_copied) := ⟨rfl, rfl, rfl, by decide +kernel, rfl, by decide +kernel, by decide +kernel⟩
def mm_copied (f : List D → Store → Res D) : List D → Store → Res D := mDef 4 1 (sSeq (sIf (bVal (mIsi "list" (mVar 0))) (sRet (mLc (itSeq (mVar 0)) (gmName 1) bYes (mCall f (mCons (mVar 1) mNil)) [1])) sNext) (sSeq (sIf (bVal (mIsi "tuple" (mVar 0))) (sRet (mCall cTuple (mCons (mLc (itSeq (mVar 0)) (gmName 1) bYes (mCall f (mCons (mVar 1) mNil)) [1]) mNil))) sNext) (sSeq (sIf (bVal (mIsi "dict" (mVar 0))) (sRet (mDc0 (mVar 0))) sNext) (sRet (mVar 0)))))
def m_copied : Nat → List D → Store → Res D
  | 0 => fun _ _ => .stuck
  | k + 1 => mm_copied (m_copied k)
theorem ar_copied : ∀ k, Ar 1 (m_copied k)
  | 0 => fun _ _ _ => rfl
  | _ + 1 => ar_def
abbrev s_i_NoMember : Stmt := clsSt (top 4) 0
abbrev N_i_NoMember : List PySem.Str := ["self", "name"]
theorem sc_i_NoMember : ScS N_i_NoMember ["self", "name"] (defScope s_i_NoMember) := ⟨rfl, rfl, rfl, by decide +kernel, rfl, by decide +kernel, by decide +kernel, by decide +kernel, rfl, rfl⟩
def m_i_NoMember : List D → Store → Res D := mInit 0 2 2 (sFldX 0 "name" (mVar 0) (mCall (m_copied 4) (mCons (mVar 1) mNil)))
abbrev s_Circle_house_of : Stmt := clsSt (top 9) 7
abbrev N_Circle_house_of : List PySem.Str := ["self", "name"]
theorem sc_Circle_house_of : FnScope N_Circle_house_of ["self", "name"] (defScope s_Circle_house_of) := ⟨rfl, rfl, rfl, by decide +kernel, rfl, by decide +kernel, by decide +kernel⟩
def m_Circle_house_of : List D → Store → Res D := mDef 2 2 (sSeq (sIf (bNot (bVal (mMeth 1 "has" m_Circle_has [] (mVar 0) (mCons (mVar 1) mNil)))) (sRaiseX 0 m_i_NoMember (mCons (mVar 1) mNil)) sNext) (sRet (mDGet (mCall cDictX (mCons (mFldO ok_of_members "members" (mVar 0)) mNil)) (mVar 1))))
abbrev s_last_of : Stmt := top 10
abbrev N_last_of : List PySem.Str := ["years", "gap"]
theorem sc_last_of : FnScope N_last_of ["years", "gap"] (defScope s_last_of) := ⟨rfl, rfl, rfl, by decide +kernel, rfl, by decide +kernel, by decide +kernel⟩
def m_last_of : List D → Store → Res D := mDef 2 2 (sRet (mSl (mVar 0) (oSome (mCall cMax2 (mCons (mC (.int 0)) (mCons (mOp dSub (mCall cLen (mCons (mVar 0) mNil)) (mVar 1)) mNil)))) oNone))
abbrev s_Circle_reason : Stmt := clsSt (top 9) 8
abbrev N_Circle_reason : List PySem.Str := ["self", "giver", "taker", "house", "other_house", "pair", "year"]
theorem sc_Circle_reason : FnScope N_Circle_reason ["self", "giver", "taker"] (defScope s_Circle_reason) := ⟨rfl, rfl, rfl, by decide +kernel, rfl, by decide +kernel, by decide +kernel⟩
def m_Circle_reason : List D → Store → Res D := mDef 7 3 (sSeq (sAsg (mMeth 1 "house_of" m_Circle_house_of [] (mVar 0) (mCons (mVar 1) mNil)) (gmName 3)) (sSeq (sAsg (mMeth 1 "house_of" m_Circle_house_of [] (mVar 0) (mCons (mVar 2) mNil)) (gmName 4)) (sSeq (sAsg (mTup (mCons (mVar 1) (mCons (mVar 2) mNil))) (gmName 5)) (sSeq (sIf (bVal (mOp dEqA (mVar 1) (mVar 2))) (sRet (mC (.str "self"))) sNext) (sSeq (sIf (bAnd (bVal (mOp dNeA (mVar 3) (mC (.str "")))) (bVal (mOp dEqA (mVar 3) (mVar 4)))) (sRet (mC (.str "house"))) sNext) (sSeq (sIf (bVal (mOp dIn (mVar 5) (mFldO ok_of_bars "bars" (mVar 0)))) (sRet (mC (.str "bar"))) sNext) (sSeq (sIf (bVal (mCall cAny (mCons (mLc (itSeq (mCall m_last_of (mCons (mFldO ok_of_past "past" (mVar 0)) (mCons (mFldO ok_of_gap "gap" (mVar 0)) mNil)))) (gmName 6) bYes (mOp dIn (mVar 5) (mVar 6)) [6]) mNil))) (sRet (mC (.str "past"))) sNext) (sRet (mC .non)))))))))
abbrev s_Circle_takers : Stmt := clsSt (top 9) 9
abbrev N_Circle_takers : List PySem.Str := ["self", "giver", "name"]
theorem sc_Circle_takers : FnScope N_Circle_takers ["self", "giver"] (defScope s_Circle_takers) := ⟨rfl, rfl, rfl, by decide +kernel, rfl, by decide +kernel, by decide +kernel⟩
def m_Circle_takers : List D → Store → Res D := mDef 3 2 (sSeq (sIf (bNot (bVal (mMeth 1 "has" m_Circle_has [] (mVar 0) (mCons (mVar 1) mNil)))) (sRaiseX 0 m_i_NoMember (mCons (mVar 1) mNil)) sNext) (sRet (mCall cTuple (mCons (mLc (itSeq (mMeth 1 "names" m_Circle_names [] (mVar 0) mNil)) (gmName 2) (bVal (mOp dIsN (mMeth 1 "reason" m_Circle_reason [] (mVar 0) (mCons (mVar 1) (mCons (mVar 2) mNil))) (mC .non))) (mVar 2) [2]) mNil))))
abbrev s_Circle_givers : Stmt := clsSt (top 9) 10
abbrev N_Circle_givers : List PySem.Str := ["self", "taker", "name"]
theorem sc_Circle_givers : FnScope N_Circle_givers ["self", "taker"] (defScope s_Circle_givers) := ⟨rfl, rfl, rfl, by decide +kernel, rfl, by decide +kernel, by decide +kernel⟩
def m_Circle_givers : List D → Store → Res D := mDef 3 2 (sSeq (sIf (bNot (bVal (mMeth 1 "has" m_Circle_has [] (mVar 0) (mCons (mVar 1) mNil)))) (sRaiseX 0 m_i_NoMember (mCons (mVar 1) mNil)) sNext) (sRet (mCall cTuple (mCons (mLc (itSeq (mMeth 1 "names" m_Circle_names [] (mVar 0) mNil)) (gmName 2) (bVal (mOp dIsN (mMeth 1 "reason" m_Circle_reason [] (mVar 0) (mCons (mVar 2) (mCons (mVar 1) mNil))) (mC .non))) (mVar 2) [2]) mNil))))
abbrev s__law_blend : Stmt := top 14
abbrev N__law_blend : List PySem.Str := ["_law_number", "_law_turn", "_law_seed", "_law_once"]
theorem sc__law_blend : FnScope N__law_blend ["_law_number", "_law_turn"] (defScope s__law_blend) := ⟨rfl, rfl, rfl, by decide +kernel, rfl, by decide +kernel, by decide +kernel⟩
def m__law_blend : List D → Store → Res D := mDef 4 2 (sSeq (sAsg (mOp dAdd (mOp dAdd (mOp dAdd (mOp dMod (mVar 0) (mC (.int 2305843009213693951))) (mOp dMul (mOp dMul (mC (.int 104729)) (mVar 1)) (mVar 1))) (mOp dMul (mC (.int 17)) (mVar 1))) (mC (.int 5))) (gmName 2)) (sSeq (sAsg (mOp dMod (mOp dMul (mVar 2) (mC (.int 48271))) (mC (.int 2305843009213693921))) (gmName 3)) (sRet (mOp dMod (mOp dAdd (mOp dMul (mVar 3) (mOp dAdd (mOp dMod (mVar 3) (mC (.int 1000003))) (mOp dMul (mC (.int 99991)) (mVar 1)))) (mOp dDiv (mVar 3) (mC (.int 11)))) (mC (.int 2305843009213693907))))))
abbrev s__law_pot : Stmt := top 15
abbrev N__law_pot : List PySem.Str := ["_law_script"]
theorem sc__law_pot : FnScope N__law_pot ["_law_script"] (defScope s__law_pot) := ⟨rfl, rfl, rfl, by decide +kernel, rfl, by decide +kernel, by decide +kernel⟩
def m__law_pot : List D → Store → Res D := mDef 1 1 (sRet (mLstL (mCons (mCall cListL (mCons (mVar 0) mNil)) (mCons (mC (.int 0)) (mCons (mC (.int 3)) (mCons (mC (.int 0)) mNil))))))
abbrev s__law_draw : Stmt := top 16
abbrev N__law_draw : List PySem.Str := ["_law_pot_here", "_law_size", "_law_cell", "_law_digit"]
theorem sc__law_draw : FnScope N__law_draw ["_law_pot_here", "_law_size"] (defScope s__law_draw) := ⟨rfl, rfl, rfl, by decide +kernel, rfl, by decide +kernel, by decide +kernel⟩
def m__law_draw : List D → Store → Res D := mDef 4 2 (sSeq (sAsg (mOp dAdd (mOp dIx (mVar 0) (mC (.int 3))) (mC (.int 1))) (gmSub (mVar 0) (mC (.int 3)) dSet)) (sSeq (sIf (bAnd (bVal (mOp dEqA (mOp dIx (mVar 0) (mC (.int 1))) (mC (.int 0)))) (bVal (mOp dNeA (mOp dIx (mVar 0) (mC (.int 0))) (mLst mNil)))) (sSeq (sAsg (mBMt "list" qPopAt (mOp dIx (mVar 0) (mC (.int 0))) (mCons (mC (.int 0)) mNil)) (gmName 2)) (sSeq (sAsg (mCall m__law_blend (mCons (mOp dAdd (mOp dIx (mVar 0) (mC (.int 2))) (mVar 2)) (mCons (mCall cLen (mCons (mOp dIx (mVar 0) (mC (.int 0))) mNil)) mNil))) (gmSub (mVar 0) (mC (.int 2)) dSet)) (sIf (bVal (mOp dGe (mCall cAbs (mCons (mVar 2) mNil)) (mOp dPow (mC (.int 10)) (mC (.int 18))))) (sAsg (mCall cAbs (mCons (mVar 2) mNil)) (gmSub (mVar 0) (mC (.int 1)) dSet)) sNext))) sNext) (sSeq (sIf (bVal (mOp dGt (mOp dIx (mVar 0) (mC (.int 1))) (mC (.int 0)))) (sSeq (sAsg (mOp dMod (mOp dIx (mVar 0) (mC (.int 1))) (mVar 1)) (gmName 3)) (sSeq (sAsg (mOp dDiv (mOp dIx (mVar 0) (mC (.int 1))) (mVar 1)) (gmSub (mVar 0) (mC (.int 1)) dSet)) (sRet (mVar 3)))) sNext) (sRet (mOp dMod (mOp dDiv (mCall m__law_blend (mCons (mOp dIx (mVar 0) (mC (.int 2))) (mCons (mOp dIx (mVar 0) (mC (.int 3))) mNil))) (mC (.int 7))) (mVar 1))))))
abbrev s__law_pick : Stmt := top 17
abbrev N__law_pick : List PySem.Str := ["_law_pot_here", "_law_some"]
theorem sc__law_pick : FnScope N__law_pick ["_law_pot_here", "_law_some"] (defScope s__law_pick) := ⟨rfl, rfl, rfl, by decide +kernel, rfl, by decide +kernel, by decide +kernel⟩
def m__law_pick : List D → Store → Res D := mDef 2 2 (sRet (mOp dIx (mVar 1) (mCall m__law_draw (mCons (mVar 0) (mCons (mCall cLen (mCons (mVar 1) mNil)) mNil)))))
abbrev s__law_words : Stmt := top 18
abbrev N__law_words : List PySem.Str := ["_law_pot_here", "_law_size", "_law_letters", "_law_found", "_law_stem", "_law_at", "_law_way", "_law_k", "_law_letter"]
theorem sc__law_words : FnScope N__law_words ["_law_pot_here", "_law_size"] (defScope s__law_words) := ⟨rfl, rfl, rfl, by decide +kernel, rfl, by decide +kernel, by decide +kernel⟩
def m__law_words : List D → Store → Res D := mDef 9 2 (sSeq (sPar 2 3 (mCons (mCall cListSL (mCons (mC (.str "abcdefghijklmnopqrstuvwxyz")) mNil)) (mCons (mLstL mNil) mNil))) (sSeq (sAsg (mBMt "str" qJoin (mC (.str "")) (mCons (mLc (itRange1 (mCons (mCall m__law_draw (mCons (mVar 0) (mCons (mC (.int 12)) mNil))) mNil)) (gmName 7) bYes (mCall m__law_pick (mCons (mVar 0) (mCons (mC (.str "abxyz")) mNil))) [7]) mNil)) (gmName 4)) (sSeq (sPar 5 6 (mCons (mCall m__law_draw (mCons (mVar 0) (mCons (mOp dAdd (mCall cLen (mCons (mVar 4) mNil)) (mC (.int 1))) mNil))) (mCons (mCall m__law_draw (mCons (mVar 0) (mCons (mC (.int 2)) mNil))) mNil))) (sSeq (sForI (itRange1 (mCons (mVar 1) mNil)) (gmName 7) (sSeq (sAsg (mBMt "list" qPopAt (mVar 2) (mCons (mCall m__law_draw (mCons (mVar 0) (mCons (mCall cLen (mCons (mVar 2) mNil)) mNil))) mNil)) (gmName 8)) (sDrop (mBMt "list" qAppend (mVar 3) (mCons (mOp dIx (mLst (mCons (mOp dAdd (mOp dAdd (mSl (mVar 4) oNone (oSome (mVar 5))) (mVar 8)) (mSl (mVar 4) (oSome (mVar 5)) oNone)) (mCons (mOp dAdd (mVar 8) (mSl (mVar 4) oNone (oSome (mCall m__law_draw (mCons (mVar 0) (mCons (mOp dAdd (mCall cLen (mCons (mVar 4) mNil)) (mC (.int 1))) mNil)))))) mNil))) (mVar 6)) mNil))))) (sRet (mVar 3))))))
abbrev s__law_pairs : Stmt := top 19
abbrev N__law_pairs : List PySem.Str := ["_law_pot_here", "_law_pool", "_law_size", "_law_found", "_law_turn"]
theorem sc__law_pairs : FnScope N__law_pairs ["_law_pot_here", "_law_pool", "_law_size"] (defScope s__law_pairs) := ⟨rfl, rfl, rfl, by decide +kernel, rfl, by decide +kernel, by decide +kernel⟩
def m__law_pairs : List D → Store → Res D := mDef 5 3 (sSeq (sAsg mNewT (gmName 3)) (sSeq (sForI (itRange1 (mCons (mVar 2) mNil)) (gmName 4) (sAsg (mC (.bl true)) (gmSub (mVar 3) (mTup (mCons (mCall m__law_pick (mCons (mVar 0) (mCons (mVar 1) mNil))) (mCons (mCall m__law_pick (mCons (mVar 0) (mCons (mVar 1) mNil))) mNil))) dSetK))) (sRet (mCall cTuple (mCons (mCall cSortDT (mCons (mVar 3) mNil)) mNil)))))
abbrev s__law_turned_round : Stmt := top 20
abbrev N__law_turned_round : List PySem.Str := ["_law_pot_here", "_law_some", "_law_rest", "_law_found", "_law_one"]
theorem sc__law_turned_round : FnScope N__law_turned_round ["_law_pot_here", "_law_some"] (defScope s__law_turned_round) := ⟨rfl, rfl, rfl, by decide +kernel, rfl, by decide +kernel, by decide +kernel⟩
def m__law_turned_round : List D → Store → Res D := mDef 5 2 (sSeq (sPar 2 3 (mCons (mCall cListL (mCons (mVar 1) mNil)) (mCons (mLstL mNil) mNil))) (sSeq (sForI (itSeq (mCall cSort (mCons (mVar 1) mNil))) (gmName 4) (sDrop (mBMt "list" qAppend (mVar 3) (mCons (mTup (mCons (mVar 4) (mCons (mBMt "list" qPopAt (mVar 2) (mCons (mCall m__law_draw (mCons (mVar 0) (mCons (mCall cLen (mCons (mVar 2) mNil)) mNil))) mNil)) mNil))) mNil)))) (sRet (mCall cTuple (mCons (mVar 3) mNil)))))
abbrev s__law_parts : Stmt := top 21
abbrev N__law_parts : List PySem.Str := ["_law_pot_here", "_law_most", "_law_words_here", "_law_inner", "_law_strange", "_law_houses", "_law_members", "_law_bars", "_law_past", "_law_turn", "_law_gap", "_law_one"]
theorem sc__law_parts : FnScope N__law_parts ["_law_pot_here", "_law_most"] (defScope s__law_parts) := ⟨rfl, rfl, rfl, by decide +kernel, rfl, by decide +kernel, by decide +kernel⟩
def m__law_parts : List D → Store → Res D := mDef 12 2 (sSeq (sAsg (mCall m__law_words (mCons (mVar 0) (mCons (mOp dAdd (mC (.int 2)) (mCall m__law_draw (mCons (mVar 0) (mCons (mOp dAdd (mVar 1) (mC (.int 1))) mNil)))) mNil))) (gmName 2)) (sSeq (sPar 3 4 (mCons (mSl (mVar 2) (oSome (mC (.int 2))) oNone) (mCons (mSl (mVar 2) oNone (oSome (mC (.int 2)))) mNil))) (sSeq (sAsg (mLst (mCons (mC (.str "")) (mCons (mC (.str "")) (mCons (mC (.str "")) (mCons (mOp dIx (mVar 4) (mC (.int 0))) (mCons (mOp dIx (mVar 2) (mUn dNeg (mC (.int 1)))) (mCons (mC (.str "h")) mNil))))))) (gmName 5)) (sSeq (sAsg (mCall cTupX (mCons (mCall cSort (mCons (mLc (itSeq (mVar 3)) (gmName 11) bYes (mTup (mCons (mVar 11) (mCons (mCall m__law_pick (mCons (mVar 0) (mCons (mVar 5) mNil))) mNil))) [11]) mNil)) mNil)) (gmName 6)) (sSeq (sPar 7 8 (mCons (mCall m__law_pairs (mCons (mVar 0) (mCons (mVar 2) (mCons (mCall m__law_draw (mCons (mVar 0) (mCons (mOp dIx (mLst (mCons (mC (.int 1)) (mCons (mC (.int 4)) (mCons (mC (.int 14)) mNil)))) (mCall m__law_draw (mCons (mVar 0) (mCons (mC (.int 3)) mNil)))) mNil))) mNil)))) (mCons (mLstL mNil) mNil))) (sSeq (sForI (itRange1 (mCons (mCall m__law_draw (mCons (mVar 0) (mCons (mOp dIx (mLst (mCons (mC (.int 2)) (mCons (mC (.int 4)) (mCons (mC (.int 11)) mNil)))) (mCall m__law_draw (mCons (mVar 0) (mCons (mC (.int 3)) mNil)))) mNil))) mNil)) (gmName 9) (sDrop (mBMt "list" qAppend (mVar 8) (mCons (mOp dIx (mLst (mCons (mCall m__law_turned_round (mCons (mVar 0) (mCons (mVar 3) mNil))) (mCons (mCall m__law_pairs (mCons (mVar 0) (mCons (mVar 2) (mCons (mCall m__law_draw (mCons (mVar 0) (mCons (mC (.int 5)) mNil))) mNil)))) mNil))) (mOp dDiv (mCall m__law_draw (mCons (mVar 0) (mCons (mC (.int 4)) mNil))) (mC (.int 3)))) mNil)))) (sSeq (sAsg (mOp dIx (mLst (mCons (mC (.int 0)) (mCons (mC (.int 1)) (mCons (mC (.int 1)) (mCons (mC (.int 2)) (mCons (mCall cLen (mCons (mVar 8) mNil)) (mCons (mOp dAdd (mCall cLen (mCons (mVar 8) mNil)) (mC (.int 1))) (mCons (mCall m__law_draw (mCons (mVar 0) (mCons (mOp dPow (mC (.int 10)) (mC (.int 29))) mNil))) mNil)))))))) (mCall m__law_draw (mCons (mVar 0) (mCons (mC (.int 7)) mNil)))) (gmName 10)) (sRet (mTup (mCons (mVar 6) (mCons (mVar 7) (mCons (mCall cTuple (mCons (mVar 8) mNil)) (mCons (mVar 10) (mCons (mVar 4) mNil))))))))))))))
abbrev s__law_reason : Stmt := top 22
abbrev N__law_reason : List PySem.Str := ["_law_parts_here", "_law_one", "_law_other", "_law_members", "_law_bars", "_law_past", "_law_gap", "_law_strange", "_law_houses", "_law_recent", "_law_k", "_law_year"]
theorem sc__law_reason : FnScope N__law_reason ["_law_parts_here", "_law_one", "_law_other"] (defScope s__law_reason) := ⟨rfl, rfl, rfl, by decide +kernel, rfl, by decide +kernel, by decide +kernel⟩
def m__law_reason : List D → Store → Res D := mDef 12 3 (sSeq (sAsg (mVar 0) (gmTup 5 (gmCons (gmName 3) (gmCons (gmName 4) (gmCons (gmName 5) (gmCons (gmName 6) (gmCons (gmName 7) gmNil))))))) (sSeq (sAsg (mCall cDictX (mCons (mVar 3) mNil)) (gmName 8)) (sSeq (sIf (bVal (mOp dEqA (mVar 1) (mVar 2))) (sRet (mC (.str "self"))) sNext) (sSeq (sIf (bAnd (bVal (mOp dNeA (mDGet (mVar 8) (mVar 1)) (mC (.str "")))) (bVal (mOp dEqA (mDGet (mVar 8) (mVar 1)) (mDGet (mVar 8) (mVar 2))))) (sRet (mC (.str "house"))) sNext) (sSeq (sIf (bVal (mOp dIn (mTup (mCons (mVar 1) (mCons (mVar 2) mNil))) (mVar 4))) (sRet (mC (.str "bar"))) sNext) (sSeq (sAsg (mLc (itEnumA (mCons (mVar 5) mNil)) (gmTup 2 (gmCons (gmName 10) (gmCons (gmName 11) gmNil))) (bVal (mOp dGe (mOp dAdd (mVar 10) (mVar 6)) (mCall cLen (mCons (mVar 5) mNil)))) (mVar 11) [10, 11]) (gmName 9)) (sRet (mIf (bVal (mCall cAny (mCons (mLc (itSeq (mVar 9)) (gmName 11) bYes (mOp dIn (mTup (mCons (mVar 1) (mCons (mVar 2) mNil))) (mVar 11)) [11]) mNil))) (mC (.str "past")) (mC .non)))))))))
abbrev s__law_values_right : Stmt := top 23
abbrev N__law_values_right : List PySem.Str := ["_law_circle", "_law_parts_here", "_law_members", "_law_bars", "_law_past", "_law_gap", "_law_strange", "_law_one", "_law_house"]
theorem sc__law_values_right : FnScope N__law_values_right ["_law_circle", "_law_parts_here"] (defScope s__law_values_right) := ⟨rfl, rfl, rfl, by decide +kernel, rfl, by decide +kernel, by decide +kernel⟩
def m__law_values_right : List D → Store → Res D := mDef 9 2 (sSeq (sAsg (mVar 1) (gmTup 5 (gmCons (gmName 2) (gmCons (gmName 3) (gmCons (gmName 4) (gmCons (gmName 5) (gmCons (gmName 6) gmNil))))))) (sSeq (sIf (bOr (bVal (mOp dNeA (mTup (mCons (mFldO ok_of_members "members" (mVar 0)) (mCons (mFldO ok_of_bars "bars" (mVar 0)) (mCons (mFldO ok_of_past "past" (mVar 0)) mNil)))) (mTup (mCons (mVar 2) (mCons (mVar 3) (mCons (mVar 4) mNil)))))) (bVal (mOp dNeA (mFldO ok_of_gap "gap" (mVar 0)) (mVar 5)))) (sRet (mC (.bl false))) sNext) (sSeq (sIf (bOr (bVal (mIsi "bool" (mFldO ok_of_gap "gap" (mVar 0)))) (bVal (mOp dNeA (mCall (cO1 1 isStrD m_Circle_repr cReprS) (mCons (mVar 0) mNil)) (mOp dAdd (mOp dAdd (mC (.str "Circle(")) (mCall cStr (mCons (mCall cLen (mCons (mVar 2) mNil)) mNil))) (mC (.str ")")))))) (sRet (mC (.bl false))) sNext) (sSeq (sIf (bVal (mOp dNeA (mCall (cO1 1 isLenD m_Circle_len cLen) (mCons (mVar 0) mNil)) (mCall cLen (mCons (mVar 2) mNil)))) (sRet (mC (.bl false))) sNext) (sRet (mOp dEqA (mMeth 1 "names" m_Circle_names [] (mVar 0) mNil) (mCall cTuple (mCons (mLc (itSeq (mVar 2)) (gmTup 2 (gmCons (gmName 7) (gmCons (gmName 8) gmNil))) bYes (mVar 7) [7, 8]) mNil))))))))
abbrev s__law_one_right : Stmt := top 24
abbrev N__law_one_right : List PySem.Str := ["_law_circle", "_law_parts_here", "_law_one", "_law_some", "_law_ahead", "_law_behind", "_law_other", "_law_due"]
theorem sc__law_one_right : FnScope N__law_one_right ["_law_circle", "_law_parts_here", "_law_one", "_law_some"] (defScope s__law_one_right) := ⟨rfl, rfl, rfl, by decide +kernel, rfl, by decide +kernel, by decide +kernel⟩
def m__law_one_right : List D → Store → Res D := mDef 8 4 (sSeq (sAsg (mLc (itSeq (mVar 3)) (gmName 6) bYes (mCall m__law_reason (mCons (mVar 1) (mCons (mVar 2) (mCons (mVar 6) mNil)))) [6]) (gmName 4)) (sSeq (sAsg (mLc (itSeq (mVar 3)) (gmName 6) bYes (mCall m__law_reason (mCons (mVar 1) (mCons (mVar 6) (mCons (mVar 2) mNil)))) [6]) (gmName 5)) (sSeq (sIf (bVal (mOp dNeA (mMeth 1 "takers" m_Circle_takers [] (mVar 0) (mCons (mVar 2) mNil)) (mCall cTuple (mCons (mLc (itZip (mCons (mVar 3) (mCons (mVar 4) mNil))) (gmTup 2 (gmCons (gmName 6) (gmCons (gmName 7) gmNil))) (bVal (mOp dIsN (mVar 7) (mC .non))) (mVar 6) [6, 7]) mNil)))) (sRet (mC (.bl false))) sNext) (sSeq (sIf (bVal (mOp dNeA (mMeth 1 "givers" m_Circle_givers [] (mVar 0) (mCons (mVar 2) mNil)) (mCall cTuple (mCons (mLc (itZip (mCons (mVar 3) (mCons (mVar 5) mNil))) (gmTup 2 (gmCons (gmName 6) (gmCons (gmName 7) gmNil))) (bVal (mOp dIsN (mVar 7) (mC .non))) (mVar 6) [6, 7]) mNil)))) (sRet (mC (.bl false))) sNext) (sSeq (sIf (bVal (mOp dNeA (mLc (itSeq (mVar 3)) (gmName 6) bYes (mMeth 1 "reason" m_Circle_reason [] (mVar 0) (mCons (mVar 2) (mCons (mVar 6) mNil))) [6]) (mVar 4))) (sRet (mC (.bl false))) sNext) (sRet (mOp dEqA (mLc (itSeq (mVar 3)) (gmName 6) bYes (mMeth 1 "reason" m_Circle_reason [] (mVar 0) (mCons (mVar 6) (mCons (mVar 2) mNil))) [6]) (mVar 5))))))))
abbrev s__law_right : Stmt := top 25
abbrev N__law_right : List PySem.Str := ["_law_pot_here", "_law_circle", "_law_parts_here", "_law_some", "_law_asked", "_law_one", "_law_house", "_law_k"]
theorem sc__law_right : FnScope N__law_right ["_law_pot_here", "_law_circle", "_law_parts_here"] (defScope s__law_right) := ⟨rfl, rfl, rfl, by decide +kernel, rfl, by decide +kernel, by decide +kernel⟩
def m__law_right : List D → Store → Res D := mDef 8 3 (sSeq (sAsg (mLc (itSeq (mOp dIx (mVar 2) (mC (.int 0)))) (gmTup 2 (gmCons (gmName 5) (gmCons (gmName 6) gmNil))) bYes (mVar 5) [5, 6]) (gmName 3)) (sSeq (sIf (bNot (bVal (mCall cAll (mCons (mLc (itSeq (mOp dIx (mVar 2) (mC (.int 0)))) (gmTup 2 (gmCons (gmName 5) (gmCons (gmName 6) gmNil))) bYes (mOp dEqA (mMeth 1 "house_of" m_Circle_house_of [] (mVar 1) (mCons (mVar 5) mNil)) (mVar 6)) [5, 6]) mNil)))) (sRet (mC (.bl false))) sNext) (sSeq (sAsg (mIf (bVal (mOp dLtA (mCall cLen (mCons (mVar 3) mNil)) (mC (.int 9)))) (mVar 3) (mLc (itRange1 (mCons (mC (.int 6)) mNil)) (gmName 7) bYes (mCall m__law_pick (mCons (mVar 0) (mCons (mVar 3) mNil))) [7])) (gmName 4)) (sRet (mCall cAll (mCons (mLc (itSeq (mVar 4)) (gmName 5) bYes (mCall m__law_one_right (mCons (mVar 1) (mCons (mVar 2) (mCons (mVar 5) (mCons (mVar 3) mNil))))) [5]) mNil))))))
abbrev s_law : Stmt := top 26
abbrev N_law : List PySem.Str := ["_law_script", "_law_pot_here", "_law_ahead", "_law_turn", "_law_parts_here", "_law_circle", "_law_small"]
theorem sc_law : FnScope N_law ["_law_script"] (defScope s_law) := ⟨rfl, rfl, rfl, by decide +kernel, rfl, by decide +kernel, by decide +kernel⟩
def m_law : List D → Store → Res D := mDef 7 1 (sSeq (sPar 1 2 (mCons (mCall m__law_pot (mCons (mVar 0) mNil)) (mCons (mC .non) mNil))) (sSeq (sForI (itRange1 (mCons (mCall cMax2 (mCons (mC (.int 3)) (mCons (mCall cMin2 (mCons (mCall cLen (mCons (mVar 0) mNil)) (mCons (mC (.int 6)) mNil))) mNil))) mNil)) (gmName 3) (sSeq (sAsg (mCall m__law_parts (mCons (mVar 1) (mCons (mIf (bVal (mOp dEqA (mOp dAdd (mCall m__law_draw (mCons (mVar 1) (mCons (mC (.int 4)) mNil))) (mVar 3)) (mC (.int 0)))) (mC (.int 24)) (mC (.int 6))) mNil))) (gmName 4)) (sSeq (sAsg (mMake 1 m_Circle_init [] (mCons (mOp dIx (mVar 4) (mC (.int 0))) (mCons (mOp dIx (mVar 4) (mC (.int 1))) (mCons (mOp dIx (mVar 4) (mC (.int 2))) (mCons (mOp dIx (mVar 4) (mC (.int 3))) mNil))))) (gmName 5)) (sSeq (sIf (bOr (bNot (bVal (mCall m__law_values_right (mCons (mVar 5) (mCons (mVar 4) mNil))))) (bNot (bVal (mCall m__law_right (mCons (mVar 1) (mCons (mVar 5) (mCons (mVar 4) mNil))))))) (sRet (mC (.bl false))) sNext) (sSeq (sIf (bAnd (bVal (mOp dNotN (mVar 2) (mC .non))) (bNot (bVal (mCall m__law_values_right (mCons (mOp dIx (mVar 2) (mC (.int 0))) (mCons (mOp dIx (mVar 2) (mC (.int 1))) mNil)))))) (sRet (mC (.bl false))) sNext) (sSeq (sAsg (mMake 1 m_Circle_init [.non, .non, .int 1] (mCons (mOp dIx (mVar 4) (mC (.int 0))) mNil)) (gmName 6)) (sSeq (sIf (bNot (bVal (mCall m__law_values_right (mCons (mVar 6) (mCons (mTup (mCons (mOp dIx (mVar 4) (mC (.int 0))) (mCons (mTup mNil) (mCons (mTup mNil) (mCons (mC (.int 1)) (mCons (mOp dIx (mVar 4) (mC (.int 4))) mNil)))))) mNil))))) (sRet (mC (.bl false))) sNext) (sAsg (mTup (mCons (mVar 5) (mCons (mVar 4) mNil))) (gmName 2))))))))) (sRet (mC (.bl true)))))
abbrev vmro : List Value := [.type "ValueError", .type "Exception", .type "BaseException", .type "object"]
structure DefAt (K : PySem.W.Frag) (mg : PySem.Str → Option Value) (n : PySem.Str) (st : Stmt) (ps : List PySem.Str) (f : Addr) (fd : FuncData) : Prop where
  F : Fun K n n st f fd
  m : mg n = some (.ref f)
  b : Binds K fd ps []
structure DefM (K : PySem.W.Frag) (n q : PySem.Str) (st : Stmt) (ps : List PySem.Str) (f : Addr) (fd : FuncData) : Prop where
  F : Fun K n q st f fd
structure DefF (K : PySem.W.Frag) (n q : PySem.Str) (st : Stmt) (dvs : List V) (f : Addr) (fd : FuncData) : Prop where
  F : FunF K n q st dvs f fd
structure Tx (K : PySem.W.Frag) (P : Program) (mg : PySem.Str → Option Value) where
  Cs : List Addr
  L : Addr
  a_member_rows : Addr
  fd_member_rows : FuncData
  d_member_rows : DefAt K mg "member_rows" s_member_rows ["members"] a_member_rows fd_member_rows
  a_is_name : Addr
  fd_is_name : FuncData
  d_is_name : DefAt K mg "is_name" s_is_name ["thing"] a_is_name fd_is_name
  a_copied : Addr
  fd_copied : FuncData
  d_copied : DefAt K mg "copied" s_copied ["thing"] a_copied fd_copied
  a_last_of : Addr
  fd_last_of : FuncData
  d_last_of : DefAt K mg "last_of" s_last_of ["years", "gap"] a_last_of fd_last_of
  a__law_blend : Addr
  fd__law_blend : FuncData
  d__law_blend : DefAt K mg "_law_blend" s__law_blend ["_law_number", "_law_turn"] a__law_blend fd__law_blend
  a__law_pot : Addr
  fd__law_pot : FuncData
  d__law_pot : DefAt K mg "_law_pot" s__law_pot ["_law_script"] a__law_pot fd__law_pot
  a__law_draw : Addr
  fd__law_draw : FuncData
  d__law_draw : DefAt K mg "_law_draw" s__law_draw ["_law_pot_here", "_law_size"] a__law_draw fd__law_draw
  a__law_pick : Addr
  fd__law_pick : FuncData
  d__law_pick : DefAt K mg "_law_pick" s__law_pick ["_law_pot_here", "_law_some"] a__law_pick fd__law_pick
  a__law_words : Addr
  fd__law_words : FuncData
  d__law_words : DefAt K mg "_law_words" s__law_words ["_law_pot_here", "_law_size"] a__law_words fd__law_words
  a__law_pairs : Addr
  fd__law_pairs : FuncData
  d__law_pairs : DefAt K mg "_law_pairs" s__law_pairs ["_law_pot_here", "_law_pool", "_law_size"] a__law_pairs fd__law_pairs
  a__law_turned_round : Addr
  fd__law_turned_round : FuncData
  d__law_turned_round : DefAt K mg "_law_turned_round" s__law_turned_round ["_law_pot_here", "_law_some"] a__law_turned_round fd__law_turned_round
  a__law_parts : Addr
  fd__law_parts : FuncData
  d__law_parts : DefAt K mg "_law_parts" s__law_parts ["_law_pot_here", "_law_most"] a__law_parts fd__law_parts
  a__law_reason : Addr
  fd__law_reason : FuncData
  d__law_reason : DefAt K mg "_law_reason" s__law_reason ["_law_parts_here", "_law_one", "_law_other"] a__law_reason fd__law_reason
  a__law_values_right : Addr
  fd__law_values_right : FuncData
  d__law_values_right : DefAt K mg "_law_values_right" s__law_values_right ["_law_circle", "_law_parts_here"] a__law_values_right fd__law_values_right
  a__law_one_right : Addr
  fd__law_one_right : FuncData
  d__law_one_right : DefAt K mg "_law_one_right" s__law_one_right ["_law_circle", "_law_parts_here", "_law_one", "_law_some"] a__law_one_right fd__law_one_right
  a__law_right : Addr
  fd__law_right : FuncData
  d__law_right : DefAt K mg "_law_right" s__law_right ["_law_pot_here", "_law_circle", "_law_parts_here"] a__law_right fd__law_right
  a_law : Addr
  fd_law : FuncData
  d_law : DefAt K mg "law" s_law ["_law_script"] a_law fd_law
  fI_NoMember : Addr
  cda_NoMember : Addr
  cc_NoMember : Addr
  fd_NoMember : FuncData
  x_NoMember : XI K P mg "NoMember" "NoMember.__init__" s_i_NoMember (Cs.getD 0 0) fI_NoMember cda_NoMember cc_NoMember fd_NoMember
  b_NoMember : Binds K fd_NoMember ["self", "name"] []
  cl_Circle : ClsI K (Cs.getD 1 0)
  a_Circle_init : Addr
  fd_Circle_init : FuncData
  d_Circle_init : DefF K "__init__" "Circle.__init__" s_Circle_init [.non, .non, .int 1] a_Circle_init fd_Circle_init
  me_Circle_init : Meth K (Cs.getD 1 0) "__init__" a_Circle_init
  du_Circle_init : Dun K (Cs.getD 1 0) "__init__" a_Circle_init
  ds4_Circle_init : List Value
  b4_Circle_init : Binds K fd_Circle_init ["self", "members", "bars", "past", "gap"] ds4_Circle_init
  v4_Circle_init : Vals [] ds4_Circle_init
  ds1_Circle_init : List Value
  b1_Circle_init : Binds K fd_Circle_init ["self", "members", "bars", "past", "gap"] ds1_Circle_init
  v1_Circle_init : Vals [.non, .non, .int 1] ds1_Circle_init
  mk_Circle : Mk K (Cs.getD 1 0) a_Circle_init
  a_Circle_eq : Addr
  fd_Circle_eq : FuncData
  d_Circle_eq : DefM K "__eq__" "Circle.__eq__" s_Circle_eq ["self", "other"] a_Circle_eq fd_Circle_eq
  b_Circle_eq : Binds K fd_Circle_eq ["self", "other"] []
  me_Circle_eq : Meth K (Cs.getD 1 0) "__eq__" a_Circle_eq
  du_Circle_eq : Dun K (Cs.getD 1 0) "__eq__" a_Circle_eq
  a_Circle_len : Addr
  fd_Circle_len : FuncData
  d_Circle_len : DefM K "__len__" "Circle.__len__" s_Circle_len ["self"] a_Circle_len fd_Circle_len
  b_Circle_len : Binds K fd_Circle_len ["self"] []
  me_Circle_len : Meth K (Cs.getD 1 0) "__len__" a_Circle_len
  du_Circle_len : Dun K (Cs.getD 1 0) "__len__" a_Circle_len
  a_Circle_repr : Addr
  fd_Circle_repr : FuncData
  d_Circle_repr : DefM K "__repr__" "Circle.__repr__" s_Circle_repr ["self"] a_Circle_repr fd_Circle_repr
  b_Circle_repr : Binds K fd_Circle_repr ["self"] []
  me_Circle_repr : Meth K (Cs.getD 1 0) "__repr__" a_Circle_repr
  du_Circle_repr : Dun K (Cs.getD 1 0) "__repr__" a_Circle_repr
  a_Circle_names : Addr
  fd_Circle_names : FuncData
  d_Circle_names : DefM K "names" "Circle.names" s_Circle_names ["self"] a_Circle_names fd_Circle_names
  b_Circle_names : Binds K fd_Circle_names ["self"] []
  me_Circle_names : Meth K (Cs.getD 1 0) "names" a_Circle_names
  du_Circle_names : Dun K (Cs.getD 1 0) "names" a_Circle_names
  a_Circle_has : Addr
  fd_Circle_has : FuncData
  d_Circle_has : DefM K "has" "Circle.has" s_Circle_has ["self", "name"] a_Circle_has fd_Circle_has
  b_Circle_has : Binds K fd_Circle_has ["self", "name"] []
  me_Circle_has : Meth K (Cs.getD 1 0) "has" a_Circle_has
  du_Circle_has : Dun K (Cs.getD 1 0) "has" a_Circle_has
  a_Circle_house_of : Addr
  fd_Circle_house_of : FuncData
  d_Circle_house_of : DefM K "house_of" "Circle.house_of" s_Circle_house_of ["self", "name"] a_Circle_house_of fd_Circle_house_of
  b_Circle_house_of : Binds K fd_Circle_house_of ["self", "name"] []
  me_Circle_house_of : Meth K (Cs.getD 1 0) "house_of" a_Circle_house_of
  du_Circle_house_of : Dun K (Cs.getD 1 0) "house_of" a_Circle_house_of
  a_Circle_reason : Addr
  fd_Circle_reason : FuncData
  d_Circle_reason : DefM K "reason" "Circle.reason" s_Circle_reason ["self", "giver", "taker"] a_Circle_reason fd_Circle_reason
  b_Circle_reason : Binds K fd_Circle_reason ["self", "giver", "taker"] []
  me_Circle_reason : Meth K (Cs.getD 1 0) "reason" a_Circle_reason
  du_Circle_reason : Dun K (Cs.getD 1 0) "reason" a_Circle_reason
  a_Circle_takers : Addr
  fd_Circle_takers : FuncData
  d_Circle_takers : DefM K "takers" "Circle.takers" s_Circle_takers ["self", "giver"] a_Circle_takers fd_Circle_takers
  b_Circle_takers : Binds K fd_Circle_takers ["self", "giver"] []
  me_Circle_takers : Meth K (Cs.getD 1 0) "takers" a_Circle_takers
  du_Circle_takers : Dun K (Cs.getD 1 0) "takers" a_Circle_takers
  a_Circle_givers : Addr
  fd_Circle_givers : FuncData
  d_Circle_givers : DefM K "givers" "Circle.givers" s_Circle_givers ["self", "taker"] a_Circle_givers fd_Circle_givers
  b_Circle_givers : Binds K fd_Circle_givers ["self", "taker"] []
  me_Circle_givers : Meth K (Cs.getD 1 0) "givers" a_Circle_givers
  du_Circle_givers : Dun K (Cs.getD 1 0) "givers" a_Circle_givers
  ne_Circle : PySem.W.findIn K (.ref (Cs.getD 1 0)) "__ne__" = some (some (.builtin "object.__ne__"))
  eq_Circle : EqF ⟨K, fun i => Cs.getD i 0, []⟩ K 1 okE
  io_Circle : (∀ k ∈ kinds, PySem.W.kitOne K (.type k) (.ref (Cs.getD 1 0)) = some false) ∧ ∀ c b, Lw.io_Circle c = some b → ClsI K (Cs.getD c 0) ∧ PySem.W.kitOne K (.ref (Cs.getD c 0)) (.ref (Cs.getD 1 0)) = some b
  of_members : ∀ c, ok_of_members c = true → Cls K (Cs.getD c 0) ∧ NoAttr K (Cs.getD c 0) "members"
  of_bars : ∀ c, ok_of_bars c = true → Cls K (Cs.getD c 0) ∧ NoAttr K (Cs.getD c 0) "bars"
  of_past : ∀ c, ok_of_past c = true → Cls K (Cs.getD c 0) ∧ NoAttr K (Cs.getD c 0) "past"
  of_gap : ∀ c, ok_of_gap c = true → Cls K (Cs.getD c 0) ∧ NoAttr K (Cs.getD c 0) "gap"
  fl_name : ∀ c, ok_fl_name c = true → XfC K (Cs.getD c 0) ∧ PySem.W.findIn K (.ref (Cs.getD c 0)) "name" = some none
  c_NoMember : mg "NoMember" = some (.ref (Cs.getD 0 0))
  c_Circle : mg "Circle" = some (.ref (Cs.getD 1 0))
  c_LotError : mg "LotError" = some (.ref L)
  abs : mg "abs" = none
  all : mg "all" = none
  any : mg "any" = none
  bool : mg "bool" = none
  dict : mg "dict" = none
  enumerate : mg "enumerate" = none
  isinstance : mg "isinstance" = none
  len : mg "len" = none
  list : mg "list" = none
  max : mg "max" = none
  min : mg "min" = none
  range : mg "range" = none
  repr : mg "repr" = none
  sorted : mg "sorted" = none
  str : mg "str" = none
  tuple : mg "tuple" = none
  zip : mg "zip" = none
  tk_LETTERS : Tok
  g_LETTERS : mg "LETTERS" = some (.str "abcdefghijklmnopqrstuvwxyz" tk_LETTERS)
def gOf {K : PySem.W.Frag} {P : Program} {mg : PySem.Str → Option Value} (T : Tx K P mg) : G := ⟨K, fun i => T.Cs.getD i 0, []⟩
section
variable {P : Program} {w : World} {K : PySem.W.Frag} {mg : PySem.Str → Option Value} {base : Heap}
theorem ok_Circle_init (T : Tx K P mg) : FnOk P w K mg base (L2.CX P w) 1 T.a_Circle_init T.fd_Circle_init ["self", "members", "bars", "past", "gap"] (spOf (gOf T) 5 m_Circle_init) := by
  refine fn_simD (N := N_Circle_init) T.d_Circle_init.F sc_Circle_init fun cdv A outer s H E hr => ?_
  have nd := sc_Circle_init.nd
  refine ⟨_, (pss_cons (ps_fld (pv 0) (pv 1) rfl) (pss_cons (ps_fld (pv 0) (pe_ifExp (pt_cmpR op_isN (pv 2) pe_non (nomark _)) (pe_tup pa_nil) (pv 2)) rfl) (pss_cons (ps_fld (pv 0) (pe_ifExp (pt_cmpR op_isN (pv 3) pe_non (nomark _)) (pe_tup pa_nil) (pv 3)) rfl) (pss_one (ps_fld (pv 0) (pv 4) rfl))))), ?_⟩
  exact (sims_seq (sims_fld (c := 1) T.cl_Circle.cl (T.of_members 1 rfl).2 (sim_var 0) (sim_var 1)) (sims_seq (sims_fld (c := 1) T.cl_Circle.cl (T.of_bars 1 rfl).2 (sim_var 0) (sim_if (simt_test (sim_op sim_isN (sim_var 2) (sim_c fun _ _ _ => .non))) (sim_tup sim_nil) (sim_var 2))) (sims_seq (sims_fld (c := 1) T.cl_Circle.cl (T.of_past 1 rfl).2 (sim_var 0) (sim_if (simt_test (sim_op sim_isN (sim_var 3) (sim_c fun _ _ _ => .non))) (sim_tup sim_nil) (sim_var 3))) (sims_fld (c := 1) T.cl_Circle.cl (T.of_gap 1 rfl).2 (sim_var 0) (sim_var 4)))))
theorem ok_Circle_eq (T : Tx K P mg) : FnOk P w K mg base (L2.CX P w) 1 T.a_Circle_eq T.fd_Circle_eq ["self", "other"] (spOf (gOf T) 2 m_Circle_eq) := by
  refine fn_sim (N := N_Circle_eq) T.d_Circle_eq.F sc_Circle_eq fun cdv A outer s H E hr => ?_
  have nd := sc_Circle_eq.nd
  refine ⟨_, (pss_one (ps_ret (pe_and (pe_callB call_isi (by rfl) T.isinstance (by decide +kernel) (pa_cons (pv 1) (pa_cons (pe_glob (v := .ref (T.Cs.getD 1 0)) (by rfl) T.c_Circle rfl) pa_nil))) (pe_and (pe_cmpR (op_eqA hr.units) (pe_fld (pv 0) rfl) (pe_fld (pv 1) rfl) (nomark _)) (pe_and (pe_cmpR (op_eqA hr.units) (pe_fld (pv 0) rfl) (pe_fld (pv 1) rfl) (nomark _)) (pe_and (pe_cmpR (op_eqA hr.units) (pe_fld (pv 0) rfl) (pe_fld (pv 1) rfl) (nomark _)) (pe_one (pe_cmpR (op_eqA hr.units) (pe_fld (pv 0) rfl) (pe_fld (pv 1) rfl) (nomark _))))))))), ?_⟩
  exact (sims_ret (sim_and (sim_isO T.io_Circle.1 T.io_Circle.2 (sim_var 1)) (sim_and (sim_op sim_eqA (sim_fldO T.of_members (sim_var 0)) (sim_fldO T.of_members (sim_var 1))) (sim_and (sim_op sim_eqA (sim_fldO T.of_bars (sim_var 0)) (sim_fldO T.of_bars (sim_var 1))) (sim_and (sim_op sim_eqA (sim_fldO T.of_past (sim_var 0)) (sim_fldO T.of_past (sim_var 1))) (sim_op sim_eqA (sim_fldO T.of_gap (sim_var 0)) (sim_fldO T.of_gap (sim_var 1))))))))
theorem ok_Circle_len (T : Tx K P mg) : FnOk P w K mg base (L2.CX P w) 1 T.a_Circle_len T.fd_Circle_len ["self"] (spOf (gOf T) 1 m_Circle_len) := by
  refine fn_sim (N := N_Circle_len) T.d_Circle_len.F sc_Circle_len fun cdv A outer s H E hr => ?_
  have nd := sc_Circle_len.nd
  refine ⟨_, (pss_one (ps_ret (pe_callB call_len (by rfl) T.len PySem.boot_len (pa_cons (pe_fld (pv 0) rfl) pa_nil)))), ?_⟩
  exact (sims_ret (sim_cb sim_len (sim_cons (sim_fldO T.of_members (sim_var 0)) sim_nil)))
theorem ok_Circle_repr (T : Tx K P mg) : FnOk P w K mg base (L2.CX P w) 1 T.a_Circle_repr T.fd_Circle_repr ["self"] (spOf (gOf T) 1 m_Circle_repr) := by
  refine fn_sim (N := N_Circle_repr) T.d_Circle_repr.F sc_Circle_repr fun cdv A outer s H E hr => ?_
  have nd := sc_Circle_repr.nd
  refine ⟨_, (pss_one (ps_ret (pe_joined (.cons pe_str (.cons (pe_fmt (pe_callB call_len (by rfl) T.len PySem.boot_len (pa_cons (pe_fld (pv 0) rfl) pa_nil))) (.cons pe_str .nil)))))), ?_⟩
  exact (sims_ret (sim_joined (.cons (sim_c fun _ _ _ => .str _) (.cons (sim_fmt (sim_cb sim_len (sim_cons (sim_fldO T.of_members (sim_var 0)) sim_nil))) (.cons (sim_c fun _ _ _ => .str _) .nil)))))
theorem ok_member_rows (T : Tx K P mg) : FnOk P w K mg base (L2.CX P w) 1 T.a_member_rows T.fd_member_rows ["members"] (spOf (gOf T) 1 m_member_rows) := by
  refine fn_sim (N := N_member_rows) T.d_member_rows.F sc_member_rows fun cdv A outer s H E hr => ?_
  have nd := sc_member_rows.nd
  refine ⟨_, (pss_one (ps_ret (pe_lc (own := [("name", 1), ("house", 2)]) rfl nd (pi_seq (pv 0)) (blkOk_by (N := N_member_rows) (sc := defScope s_member_rows) (by decide +kernel)) (fun _ _ _ _ _ => (show PG _ _ (gTup K 2 _) from pg_tup rfl (pgs_cons (pg_name (i := 1) nd rfl (Or.inl rfl) (.inr rfl)) (pgs_cons (pg_name (i := 2) nd rfl (Or.inl rfl) (.inr rfl)) pgs_nil)))) (fun _ _ _ _ _ => pts_nil) (fun _ _ _ _ _ => (pe_ifExp (pt_cmpR (show OpR _ _ (rEqA K) from (op_eqA hr.units)) (pv 2) pe_str (nomark _)) (pe_joined (.cons pe_str (.cons (pe_fmt (pv 1)) .nil))) (pe_joined (.cons pe_str (.cons (pe_fmt (pv 1)) (.cons pe_str (.cons (pe_fmt (pv 2)) .nil)))))))))), ?_⟩
  exact (sims_ret (sim_lc (simi_seq (sim_var 0)) (simg_tup (simg_cons (simg_name 1) (simg_cons (simg_name 2) simg_nil))) (own_tup (owns_cons (own_name (by decide)) mono_name (owns_cons (own_name (by decide)) mono_name owns_nil monos_nil) (monos_cons mono_name monos_nil))) simt_yes (sim_if (simt_test (sim_op sim_eqA (sim_var 2) (sim_c fun _ _ _ => .str _))) (sim_joined (.cons (sim_c fun _ _ _ => .str _) (.cons (sim_fmt (sim_var 1)) .nil))) (sim_joined (.cons (sim_c fun _ _ _ => .str _) (.cons (sim_fmt (sim_var 1)) (.cons (sim_c fun _ _ _ => .str _) (.cons (sim_fmt (sim_var 2)) .nil))))))))
theorem ok_Circle_names (T : Tx K P mg) : FnOk P w K mg base (L2.CX P w) 1 T.a_Circle_names T.fd_Circle_names ["self"] (spOf (gOf T) 1 m_Circle_names) := by
  refine fn_sim (N := N_Circle_names) T.d_Circle_names.F sc_Circle_names fun cdv A outer s H E hr => ?_
  have nd := sc_Circle_names.nd
  refine ⟨_, (pss_one (ps_ret (pe_callTy call_tuple_of (by rfl) T.tuple (by decide +kernel) (pa_cons (pe_lc (own := [("name", 1), ("_", 2)]) rfl nd (pi_seq (pe_fld (pv 0) rfl)) (blkOk_by (N := N_Circle_names) (sc := defScope s_Circle_names) (by decide +kernel)) (fun _ _ _ _ _ => (show PG _ _ (gTup K 2 _) from pg_tup rfl (pgs_cons (pg_name (i := 1) nd rfl (Or.inl rfl) (.inr rfl)) (pgs_cons (pg_name (i := 2) nd rfl (Or.inl rfl) (.inr rfl)) pgs_nil)))) (fun _ _ _ _ _ => pts_nil) (fun _ _ _ _ _ => (pv 1))) pa_nil)))), ?_⟩
  exact (sims_ret (sim_cb sim_tuple (sim_cons (sim_lc (simi_seq (sim_fldO T.of_members (sim_var 0))) (simg_tup (simg_cons (simg_name 1) (simg_cons (simg_name 2) simg_nil))) (own_tup (owns_cons (own_name (by decide)) mono_name (owns_cons (own_name (by decide)) mono_name owns_nil monos_nil) (monos_cons mono_name monos_nil))) simt_yes (sim_var 1)) sim_nil)))
theorem ok_is_name (T : Tx K P mg) : FnOk P w K mg base (L2.CX P w) 1 T.a_is_name T.fd_is_name ["thing"] (spOf (gOf T) 1 m_is_name) := by
  refine fn_sim (N := N_is_name) T.d_is_name.F sc_is_name fun cdv A outer s H E hr => ?_
  have nd := sc_is_name.nd
  refine ⟨_, (pss_cons (ps_if (pt_not (pt_val (pe_callB call_isi (by rfl) T.isinstance (by decide +kernel) (pa_cons (pv 0) (pa_cons (pe_bltn (v := .ty "str") (by rfl) T.str (by decide +kernel) rfl) pa_nil))))) (pss_one (ps_ret pe_bl)) pss_nil) (pss_one (ps_ret (pe_and (pe_chain op_leA op_leA pe_int (pe_callB call_len (by rfl) T.len PySem.boot_len (pa_cons (pv 0) pa_nil)) pe_int) (pe_one (pe_callB (cr_all rfl) (by rfl) T.all (by decide +kernel) (pa_cons (pe_lc (own := [("sign", 1)]) rfl nd (pi_str (pv 0)) (blkOk_by (N := N_is_name) (sc := defScope s_is_name) (by decide +kernel)) (fun _ _ _ _ _ => pg_name (i := 1) nd rfl (Or.inl rfl) (.inr rfl)) (fun _ _ _ _ _ => pts_nil) (fun _ _ _ _ _ => (pe_cmpR (show OpR _ _ (rInA K) from (op_inA hr.units2)) (pv 1) (pe_glob (v := .str "abcdefghijklmnopqrstuvwxyz") rfl T.g_LETTERS ⟨_, rfl⟩) rfl))) pa_nil))))))), ?_⟩
  exact (sims_seq (sims_if (simt_not (simt_tB (sim_isi (sim_var 0)))) (sims_ret (sim_c fun _ _ _ => .bl _)) sims_next) (sims_ret (sim_and (sim_chain sim_leA sim_leA (sim_c fun _ _ _ => .int _) (sim_cb sim_len (sim_cons (sim_var 0) sim_nil)) (sim_c fun _ _ _ => .int _)) (sim_cb sim_all (sim_cons (sim_lc (simi_str (sim_var 0)) (simg_name 1) (own_name (by decide)) simt_yes (sim_op sim_in (sim_var 1) (sim_c fun _ _ _ => .str _))) sim_nil)))))
theorem ok_Circle_has (T : Tx K P mg) : FnOk P w K mg base (L2.CX P w) 2 T.a_Circle_has T.fd_Circle_has ["self", "name"] (spOf (gOf T) 2 m_Circle_has) := by
  have G_is_name := ok_is_name (w := w) (base := base) T
  have G_Circle_names := ok_Circle_names (w := w) (base := base) T
  refine fn_sim (N := N_Circle_has) T.d_Circle_has.F sc_Circle_has fun cdv A outer s H E hr => ?_
  have nd := sc_Circle_has.nd
  refine ⟨_, (pss_one (ps_ret (pe_and (pe_call G_is_name (hr.mono (by decide)) rfl T.d_is_name.m T.d_is_name.F.kp T.d_is_name.b .nil pD (pa_cons (pv 1) pa_nil)) (pe_one (pe_cmpR (op_inA hr.units2) (pv 1) (pe_meth0 (pv 0) T.cl_Circle.cl T.me_Circle_names G_Circle_names (hr.mono (by decide)) T.b_Circle_names .nil pD) rfl))))), ?_⟩
  exact (sims_ret (sim_and (sim_call ar_def (sim_cons (sim_var 1) sim_nil)) (sim_op sim_in (sim_var 1) (sim_meth (c := 1) ar_def (fun _ _ _ => .nil) (sim_var 0) sim_nil))))
theorem ok_copied (T : Tx K P mg) : ∀ k, FnOk P w K mg base (L2.CX P w) (k + 1) T.a_copied T.fd_copied ["thing"] (spOf (gOf T) 1 (m_copied k))
  | 0 => ⟨fun _ _ _ _ h => by obtain ⟨_, _, _, _, hl, _⟩ := h; exact hl, fun _ _ _ _ _ _ _ _ _ _ _ _ _ h => by obtain ⟨_, _, _, _, _, _, _, p⟩ := h; exact p.elim⟩
  | k + 1 => by
    have G_copied := ok_copied T k
    refine fn_sim (N := N_copied) T.d_copied.F sc_copied fun cdv A outer s H E hr => ?_
    have nd := sc_copied.nd
    refine ⟨_, (pss_cons (ps_if (pt_val (pe_callB call_isi (by rfl) T.isinstance (by decide +kernel) (pa_cons (pv 0) (pa_cons (pe_bltn (v := .ty "list") (by rfl) T.list (by decide +kernel) rfl) pa_nil)))) (pss_one (ps_ret (pe_lc (own := [("part", 1)]) rfl nd (pi_seq (pv 0)) (blkOk_by (N := N_copied) (sc := defScope s_copied) (by decide +kernel)) (fun _ _ _ _ _ => pg_name (i := 1) nd rfl (Or.inl rfl) (.inr rfl)) (fun _ _ _ _ _ => pts_nil) (fun _ _ _ _ _ => (pe_call G_copied (hr.mono (by omega)) rfl T.d_copied.m T.d_copied.F.kp T.d_copied.b .nil passL (pa_cons (pv 1) pa_nil)))))) pss_nil) (pss_cons (ps_if (pt_val (pe_callB call_isi (by rfl) T.isinstance (by decide +kernel) (pa_cons (pv 0) (pa_cons (pe_bltn (v := .ty "tuple") (by rfl) T.tuple (by decide +kernel) rfl) pa_nil)))) (pss_one (ps_ret (pe_callTy call_tuple_of (by rfl) T.tuple (by decide +kernel) (pa_cons (pe_lc (own := [("part", 1)]) rfl nd (pi_seq (pv 0)) (blkOk_by (N := N_copied) (sc := defScope s_copied) (by decide +kernel)) (fun _ _ _ _ _ => pg_name (i := 1) nd rfl (Or.inl rfl) (.inr rfl)) (fun _ _ _ _ _ => pts_nil) (fun _ _ _ _ _ => (pe_call G_copied (hr.mono (by omega)) rfl T.d_copied.m T.d_copied.F.kp T.d_copied.b .nil passL (pa_cons (pv 1) pa_nil)))) pa_nil)))) pss_nil) (pss_cons (ps_if (pt_val (pe_callB call_isi (by rfl) T.isinstance (by decide +kernel) (pa_cons (pv 0) (pa_cons (pe_bltn (v := .ty "dict") (by rfl) T.dict (by decide +kernel) rfl) pa_nil)))) (pss_one (ps_ret (pe_dc (own := [("key", 2), ("worth", 3)]) rfl nd (pi_items (pv 0)) (blkOk_by (N := N_copied) (sc := defScope s_copied) (by decide +kernel)) (fun _ _ _ _ _ => (show PG _ _ (gTup K 2 _) from pg_tup rfl (pgs_cons (pg_name (i := 2) nd rfl (Or.inl rfl) (.inr rfl)) (pgs_cons (pg_name (i := 3) nd rfl (Or.inl rfl) (.inr rfl)) pgs_nil)))) (fun _ _ _ _ _ => pts_nil) (fun _ _ _ _ _ => (pv 2)) (fun _ _ _ _ _ => (pe_call G_copied (hr.mono (by omega)) rfl T.d_copied.m T.d_copied.F.kp T.d_copied.b .nil passL (pa_cons (pv 3) pa_nil)))))) pss_nil) (pss_one (ps_ret (pv 0)))))), ?_⟩
    exact (sims_seq (sims_if (simt_tB (sim_isi (sim_var 0))) (sims_ret (sim_lc (simi_seq (sim_var 0)) (simg_name 1) (own_name (by decide)) simt_yes (sim_call (ar_copied _) (sim_cons (sim_var 1) sim_nil)))) sims_next) (sims_seq (sims_if (simt_tB (sim_isi (sim_var 0))) (sims_ret (sim_cb sim_tuple (sim_cons (sim_lc (simi_seq (sim_var 0)) (simg_name 1) (own_name (by decide)) simt_yes (sim_call (ar_copied _) (sim_cons (sim_var 1) sim_nil))) sim_nil))) sims_next) (sims_seq (sims_if (simt_tB (sim_isi (sim_var 0))) (sims_ret (sim_dc0 (sim_var 0))) sims_next) (sims_ret (sim_var 0)))))
theorem ok_i_NoMember (T : Tx K P mg) : FnOk P w K mg base (L2.CX P w) 6 T.fI_NoMember T.fd_NoMember ["self", "name"] (spOf (gOf T) 2 m_i_NoMember) := by
  have G_copied := ok_copied (w := w) (base := base) T 4
  refine fn_init (N := N_i_NoMember) (c := 0) (k := 5) T.x_NoMember rfl rfl sc_i_NoMember rfl rfl (fun _ => rfl) fun A outer s H E hr => ?_
  have nd := sc_i_NoMember.nd
  refine ⟨_, (pss_one (ps_ost (pv 0) (pe_call G_copied (hr.mono (by decide)) rfl T.d_copied.m T.d_copied.F.kp T.d_copied.b .nil pS (pa_cons (pv 1) pa_nil)))), ?_⟩
  exact (sims_fldX T.x_NoMember.U.T (T.fl_name 0 rfl).2 (sim_var 0) (sim_call (ar_copied _) (sim_cons (sim_var 1) sim_nil)))
theorem ok_Circle_house_of (T : Tx K P mg) : FnOk P w K mg base (L2.CX P w) 8 T.a_Circle_house_of T.fd_Circle_house_of ["self", "name"] (spOf (gOf T) 2 m_Circle_house_of) := by
  have G_Circle_has := ok_Circle_has (w := w) (base := base) T
  have G_i_NoMember := ok_i_NoMember (w := w) (base := base) T
  refine fn_sim (N := N_Circle_house_of) T.d_Circle_house_of.F sc_Circle_house_of fun cdv A outer s H E hr => ?_
  have nd := sc_Circle_house_of.nd
  refine ⟨_, (pss_cons (ps_if (pt_not (pt_val (pe_meth (pv 0) T.cl_Circle.cl T.me_Circle_has G_Circle_has (hr.mono (by decide)) T.b_Circle_has .nil pD (pa_cons (pv 1) pa_nil)))) (pss_one (ps_raiseX (pmk_oex T.x_NoMember.U.T T.x_NoMember.iC T.x_NoMember.tI G_i_NoMember (hr.mono (by decide)) T.b_NoMember .nil passL (by rfl) T.x_NoMember.m (pa_cons (pv 1) pa_nil)))) pss_nil) (pss_one (ps_ret (pe_dget (hu_of hr) (pe_callTy (call_dictX rfl) (by rfl) T.dict (by decide +kernel) (pa_cons (pe_fld (pv 0) rfl) pa_nil)) (pv 1) (fun _ _ => rfl))))), ?_⟩
  exact (sims_seq (sims_if (simt_not (simt_tB (sim_meth (c := 1) ar_def (fun _ _ _ => .nil) (sim_var 0) (sim_cons (sim_var 1) sim_nil)))) (sims_raiseX (c := 0) ar_init (sim_cons (sim_var 1) sim_nil)) sims_next) (sims_ret (sim_dget (sim_cb sim_dictX (sim_cons (sim_fldO T.of_members (sim_var 0)) sim_nil)) (sim_var 1))))
theorem ok_last_of (T : Tx K P mg) : FnOk P w K mg base (L2.CX P w) 1 T.a_last_of T.fd_last_of ["years", "gap"] (spOf (gOf T) 2 m_last_of) := by
  refine fn_sim (N := N_last_of) T.d_last_of.F sc_last_of fun cdv A outer s H E hr => ?_
  have nd := sc_last_of.nd
  refine ⟨_, (pss_one (ps_ret (pe_slice sl_all (pv 0) (po_some (pe_callB (call_max2 rfl) (by rfl) T.max (by decide +kernel) (pa_cons pe_int (pa_cons (pe_op op_sub (pe_callB call_len (by rfl) T.len PySem.boot_len (pa_cons (pv 0) pa_nil)) (pv 1)) pa_nil)))) po_none))), ?_⟩
  exact (sims_ret (sim_slice (sim_var 0) (simo_some (sim_cb sim_max2 (sim_cons (sim_c fun _ _ _ => .int _) (sim_cons (sim_op sim_sub (sim_cb sim_len (sim_cons (sim_var 0) sim_nil)) (sim_var 1)) sim_nil)))) simo_none))
theorem ok_Circle_reason (T : Tx K P mg) : FnOk P w K mg base (L2.CX P w) 9 T.a_Circle_reason T.fd_Circle_reason ["self", "giver", "taker"] (spOf (gOf T) 3 m_Circle_reason) := by
  have G_Circle_house_of := ok_Circle_house_of (w := w) (base := base) T
  have G_last_of := ok_last_of (w := w) (base := base) T
  refine fn_sim (N := N_Circle_reason) T.d_Circle_reason.F sc_Circle_reason fun cdv A outer s H E hr => ?_
  have nd := sc_Circle_reason.nd
  refine ⟨_, (pss_cons (ps_set (i := 3) nd rfl (Or.inl rfl) (pe_meth (pv 0) T.cl_Circle.cl T.me_Circle_house_of G_Circle_house_of (hr.mono (by decide)) T.b_Circle_house_of .nil pD (pa_cons (pv 1) pa_nil))) (pss_cons (ps_set (i := 4) nd rfl (Or.inl rfl) (pe_meth (pv 0) T.cl_Circle.cl T.me_Circle_house_of G_Circle_house_of (hr.mono (by decide)) T.b_Circle_house_of .nil pD (pa_cons (pv 2) pa_nil))) (pss_cons (ps_set (i := 5) nd rfl (Or.inr rfl) (pe_tup (pa_cons (pv 1) (pa_cons (pv 2) pa_nil)))) (pss_cons (ps_if (pt_cmpR (op_eqA hr.units) (pv 1) (pv 2) (nomark _)) (pss_one (ps_ret pe_str)) pss_nil) (pss_cons (ps_if (PW.pt (pw_and (pt_cmpR (op_neA hr.units) (pv 3) pe_str (nomark _)) (pw_and1 (pt_cmpR (op_eqA hr.units) (pv 3) (pv 4) (nomark _))))) (pss_one (ps_ret pe_str)) pss_nil) (pss_cons (ps_if (pt_cmpR (op_inA hr.units2) (pv 5) (pe_fld (pv 0) rfl) rfl) (pss_one (ps_ret pe_str)) pss_nil) (pss_cons (ps_if (pt_val (pe_callB (cr_any rfl) (by rfl) T.any (by decide +kernel) (pa_cons (pe_lc (own := [("year", 6)]) rfl nd (pi_seq (pe_call G_last_of (hr.mono (by decide)) rfl T.d_last_of.m T.d_last_of.F.kp T.d_last_of.b .nil pD (pa_cons (pe_fld (pv 0) rfl) (pa_cons (pe_fld (pv 0) rfl) pa_nil)))) (blkOk_by (N := N_Circle_reason) (sc := defScope s_Circle_reason) (by decide +kernel)) (fun _ _ _ _ _ => pg_name (i := 6) nd rfl (Or.inl rfl) (.inr rfl)) (fun _ _ _ _ _ => pts_nil) (fun _ _ _ _ _ => (pe_cmpR (show OpR _ _ (rInA K) from (op_inA hr.units2)) (pv 5) (pv 6) rfl))) pa_nil))) (pss_one (ps_ret pe_str)) pss_nil) (pss_one (ps_ret pe_non))))))))), ?_⟩
  exact (sims_seq (sims_asg (sim_meth (c := 1) ar_def (fun _ _ _ => .nil) (sim_var 0) (sim_cons (sim_var 1) sim_nil)) (simg_name 3)) (sims_seq (sims_asg (sim_meth (c := 1) ar_def (fun _ _ _ => .nil) (sim_var 0) (sim_cons (sim_var 2) sim_nil)) (simg_name 4)) (sims_seq (sims_asg (sim_tup (sim_cons (sim_var 1) (sim_cons (sim_var 2) sim_nil))) (simg_name 5)) (sims_seq (sims_if (simt_test (sim_op sim_eqA (sim_var 1) (sim_var 2))) (sims_ret (sim_c fun _ _ _ => .str _)) sims_next) (sims_seq (sims_if (simt_and (simt_test (sim_op sim_neA (sim_var 3) (sim_c fun _ _ _ => .str _))) (simt_test (sim_op sim_eqA (sim_var 3) (sim_var 4)))) (sims_ret (sim_c fun _ _ _ => .str _)) sims_next) (sims_seq (sims_if (simt_test (sim_op sim_in (sim_var 5) (sim_fldO T.of_bars (sim_var 0)))) (sims_ret (sim_c fun _ _ _ => .str _)) sims_next) (sims_seq (sims_if (simt_tB (sim_cb sim_any (sim_cons (sim_lc (simi_seq (sim_call ar_def (sim_cons (sim_fldO T.of_past (sim_var 0)) (sim_cons (sim_fldO T.of_gap (sim_var 0)) sim_nil)))) (simg_name 6) (own_name (by decide)) simt_yes (sim_op sim_in (sim_var 5) (sim_var 6))) sim_nil))) (sims_ret (sim_c fun _ _ _ => .str _)) sims_next) (sims_ret (sim_c fun _ _ _ => .non)))))))))
theorem ok_Circle_takers (T : Tx K P mg) : FnOk P w K mg base (L2.CX P w) 10 T.a_Circle_takers T.fd_Circle_takers ["self", "giver"] (spOf (gOf T) 2 m_Circle_takers) := by
  have G_Circle_has := ok_Circle_has (w := w) (base := base) T
  have G_i_NoMember := ok_i_NoMember (w := w) (base := base) T
  have G_Circle_names := ok_Circle_names (w := w) (base := base) T
  have G_Circle_reason := ok_Circle_reason (w := w) (base := base) T
  refine fn_sim (N := N_Circle_takers) T.d_Circle_takers.F sc_Circle_takers fun cdv A outer s H E hr => ?_
  have nd := sc_Circle_takers.nd
  refine ⟨_, (pss_cons (ps_if (pt_not (pt_val (pe_meth (pv 0) T.cl_Circle.cl T.me_Circle_has G_Circle_has (hr.mono (by decide)) T.b_Circle_has .nil pD (pa_cons (pv 1) pa_nil)))) (pss_one (ps_raiseX (pmk_oex T.x_NoMember.U.T T.x_NoMember.iC T.x_NoMember.tI G_i_NoMember (hr.mono (by decide)) T.b_NoMember .nil passL (by rfl) T.x_NoMember.m (pa_cons (pv 1) pa_nil)))) pss_nil) (pss_one (ps_ret (pe_callTy call_tuple_of (by rfl) T.tuple (by decide +kernel) (pa_cons (pe_lc (own := [("name", 2)]) rfl nd (pi_seq (pe_meth0 (pv 0) T.cl_Circle.cl T.me_Circle_names G_Circle_names (hr.mono (by decide)) T.b_Circle_names .nil pD)) (blkOk_by (N := N_Circle_takers) (sc := defScope s_Circle_takers) (by decide +kernel)) (fun _ _ _ _ _ => pg_name (i := 2) nd rfl (Or.inl rfl) (.inr rfl)) (fun _ _ _ _ _ => pts_one (pt_cmpR op_isN (pe_meth (pv 0) T.cl_Circle.cl T.me_Circle_reason G_Circle_reason (hr.mono (by decide)) T.b_Circle_reason .nil passL (pa_cons (pv 1) (pa_cons (pv 2) pa_nil))) pe_non (nomark _))) (fun _ _ _ _ _ => (pv 2))) pa_nil))))), ?_⟩
  exact (sims_seq (sims_if (simt_not (simt_tB (sim_meth (c := 1) ar_def (fun _ _ _ => .nil) (sim_var 0) (sim_cons (sim_var 1) sim_nil)))) (sims_raiseX (c := 0) ar_init (sim_cons (sim_var 1) sim_nil)) sims_next) (sims_ret (sim_cb sim_tuple (sim_cons (sim_lc (simi_seq (sim_meth (c := 1) ar_def (fun _ _ _ => .nil) (sim_var 0) sim_nil)) (simg_name 2) (own_name (by decide)) (simt_test (sim_op sim_isN (sim_meth (c := 1) ar_def (fun _ _ _ => .nil) (sim_var 0) (sim_cons (sim_var 1) (sim_cons (sim_var 2) sim_nil))) (sim_c fun _ _ _ => .non))) (sim_var 2)) sim_nil))))
theorem ok_Circle_givers (T : Tx K P mg) : FnOk P w K mg base (L2.CX P w) 10 T.a_Circle_givers T.fd_Circle_givers ["self", "taker"] (spOf (gOf T) 2 m_Circle_givers) := by
  have G_Circle_has := ok_Circle_has (w := w) (base := base) T
  have G_i_NoMember := ok_i_NoMember (w := w) (base := base) T
  have G_Circle_names := ok_Circle_names (w := w) (base := base) T
  have G_Circle_reason := ok_Circle_reason (w := w) (base := base) T
  refine fn_sim (N := N_Circle_givers) T.d_Circle_givers.F sc_Circle_givers fun cdv A outer s H E hr => ?_
  have nd := sc_Circle_givers.nd
  refine ⟨_, (pss_cons (ps_if (pt_not (pt_val (pe_meth (pv 0) T.cl_Circle.cl T.me_Circle_has G_Circle_has (hr.mono (by decide)) T.b_Circle_has .nil pD (pa_cons (pv 1) pa_nil)))) (pss_one (ps_raiseX (pmk_oex T.x_NoMember.U.T T.x_NoMember.iC T.x_NoMember.tI G_i_NoMember (hr.mono (by decide)) T.b_NoMember .nil passL (by rfl) T.x_NoMember.m (pa_cons (pv 1) pa_nil)))) pss_nil) (pss_one (ps_ret (pe_callTy call_tuple_of (by rfl) T.tuple (by decide +kernel) (pa_cons (pe_lc (own := [("name", 2)]) rfl nd (pi_seq (pe_meth0 (pv 0) T.cl_Circle.cl T.me_Circle_names G_Circle_names (hr.mono (by decide)) T.b_Circle_names .nil pD)) (blkOk_by (N := N_Circle_givers) (sc := defScope s_Circle_givers) (by decide +kernel)) (fun _ _ _ _ _ => pg_name (i := 2) nd rfl (Or.inl rfl) (.inr rfl)) (fun _ _ _ _ _ => pts_one (pt_cmpR op_isN (pe_meth (pv 0) T.cl_Circle.cl T.me_Circle_reason G_Circle_reason (hr.mono (by decide)) T.b_Circle_reason .nil passL (pa_cons (pv 2) (pa_cons (pv 1) pa_nil))) pe_non (nomark _))) (fun _ _ _ _ _ => (pv 2))) pa_nil))))), ?_⟩
  exact (sims_seq (sims_if (simt_not (simt_tB (sim_meth (c := 1) ar_def (fun _ _ _ => .nil) (sim_var 0) (sim_cons (sim_var 1) sim_nil)))) (sims_raiseX (c := 0) ar_init (sim_cons (sim_var 1) sim_nil)) sims_next) (sims_ret (sim_cb sim_tuple (sim_cons (sim_lc (simi_seq (sim_meth (c := 1) ar_def (fun _ _ _ => .nil) (sim_var 0) sim_nil)) (simg_name 2) (own_name (by decide)) (simt_test (sim_op sim_isN (sim_meth (c := 1) ar_def (fun _ _ _ => .nil) (sim_var 0) (sim_cons (sim_var 2) (sim_cons (sim_var 1) sim_nil))) (sim_c fun _ _ _ => .non))) (sim_var 2)) sim_nil))))
theorem ok__law_blend (T : Tx K P mg) : FnOk P w K mg base (L2.CX P w) 1 T.a__law_blend T.fd__law_blend ["_law_number", "_law_turn"] (spOf (gOf T) 2 m__law_blend) := by
  refine fn_sim (N := N__law_blend) T.d__law_blend.F sc__law_blend fun cdv A outer s H E hr => ?_
  have nd := sc__law_blend.nd
  refine ⟨_, (pss_cons (ps_set (i := 2) nd rfl (Or.inl rfl) (pe_op op_addA (pe_op op_addA (pe_op op_addA (pe_op op_mod (pv 0) pe_int) (pe_op op_mulW (pe_op op_mulW pe_int (pv 1)) (pv 1))) (pe_op op_mulW pe_int (pv 1))) pe_int)) (pss_cons (ps_set (i := 3) nd rfl (Or.inl rfl) (pe_op op_mod (pe_op op_mulW (pv 2) pe_int) pe_int)) (pss_one (ps_ret (pe_op op_mod (pe_op op_addA (pe_op op_mulW (pv 3) (pe_op op_addA (pe_op op_mod (pv 3) pe_int) (pe_op op_mulW pe_int (pv 1)))) (pe_op op_fdivW (pv 3) pe_int)) pe_int))))), ?_⟩
  exact (sims_seq (sims_asg (sim_op sim_add (sim_op sim_add (sim_op sim_add (sim_op sim_mod (sim_var 0) (sim_c fun _ _ _ => .int _)) (sim_op sim_mul (sim_op sim_mul (sim_c fun _ _ _ => .int _) (sim_var 1)) (sim_var 1))) (sim_op sim_mul (sim_c fun _ _ _ => .int _) (sim_var 1))) (sim_c fun _ _ _ => .int _)) (simg_name 2)) (sims_seq (sims_asg (sim_op sim_mod (sim_op sim_mul (sim_var 2) (sim_c fun _ _ _ => .int _)) (sim_c fun _ _ _ => .int _)) (simg_name 3)) (sims_ret (sim_op sim_mod (sim_op sim_add (sim_op sim_mul (sim_var 3) (sim_op sim_add (sim_op sim_mod (sim_var 3) (sim_c fun _ _ _ => .int _)) (sim_op sim_mul (sim_c fun _ _ _ => .int _) (sim_var 1)))) (sim_op sim_div (sim_var 3) (sim_c fun _ _ _ => .int _))) (sim_c fun _ _ _ => .int _)))))
theorem ok__law_pot (T : Tx K P mg) : FnOk P w K mg base (L2.CX P w) 1 T.a__law_pot T.fd__law_pot ["_law_script"] (spOf (gOf T) 1 m__law_pot) := by
  refine fn_sim (N := N__law_pot) T.d__law_pot.F sc__law_pot fun cdv A outer s H E hr => ?_
  have nd := sc__law_pot.nd
  refine ⟨_, (pss_one (ps_ret (pe_lst (pa_cons (pe_callTy call_list_of (by rfl) T.list (by decide +kernel) (pa_cons (pv 0) pa_nil)) (pa_cons pe_int (pa_cons pe_int (pa_cons pe_int pa_nil))))))), ?_⟩
  exact (sims_ret (sim_lstL (sim_cons (sim_cb sim_listL (sim_cons (sim_var 0) sim_nil)) (sim_cons (sim_c fun _ _ _ => .int _) (sim_cons (sim_c fun _ _ _ => .int _) (sim_cons (sim_c fun _ _ _ => .int _) sim_nil))))))
theorem ok__law_draw (T : Tx K P mg) : FnOk P w K mg base (L2.CX P w) 2 T.a__law_draw T.fd__law_draw ["_law_pot_here", "_law_size"] (spOf (gOf T) 2 m__law_draw) := by
  have G__law_blend := ok__law_blend (w := w) (base := base) T
  refine fn_sim (N := N__law_draw) T.d__law_draw.F sc__law_draw fun cdv A outer s H E hr => ?_
  have nd := sc__law_draw.nd
  refine ⟨_, (pss_cons (ps_asg (pe_op op_addA (pe_ix ix_seq (pv 0) pe_int (fun _ _ => rfl)) pe_int) (pg_sub (pv 0) pe_int set_list)) (pss_cons (ps_if (PW.pt (pw_and (pt_cmpR (op_eqA hr.units) (pe_ix ix_seq (pv 0) pe_int (fun _ _ => rfl)) pe_int (nomark _)) (pw_and1 (pt_cmpR (op_neA hr.units) (pe_ix ix_seq (pv 0) pe_int (fun _ _ => rfl)) (pe_lst pa_nil) (nomark _))))) (pss_cons (ps_set (i := 2) nd rfl (Or.inl rfl) (pe_bm PySem.F.plainAttrs_list PySem.F.slot_list_pop PySem.F.type_list_pop mt_popAt (pe_ix ix_seq (pv 0) pe_int (fun _ _ => rfl)) (pa_cons pe_int pa_nil))) (pss_cons (ps_asg (pe_call G__law_blend (hr.mono (by decide)) rfl T.d__law_blend.m T.d__law_blend.F.kp T.d__law_blend.b .nil pD (pa_cons (pe_op op_addA (pe_ix ix_seq (pv 0) pe_int (fun _ _ => rfl)) (pv 2)) (pa_cons (pe_callB call_len (by rfl) T.len PySem.boot_len (pa_cons (pe_ix ix_seq (pv 0) pe_int (fun _ _ => rfl)) pa_nil)) pa_nil))) (pg_sub (pv 0) pe_int set_list)) (pss_one (ps_if (pt_cmpR op_ge (pe_callB call_abs (by rfl) T.abs (by decide +kernel) (pa_cons (pv 2) pa_nil)) (pe_op op_pow pe_int pe_int) (nomark _)) (pss_one (ps_asg (pe_callB call_abs (by rfl) T.abs (by decide +kernel) (pa_cons (pv 2) pa_nil)) (pg_sub (pv 0) pe_int set_list))) pss_nil)))) pss_nil) (pss_cons (ps_if (pt_cmpR op_gt (pe_ix ix_seq (pv 0) pe_int (fun _ _ => rfl)) pe_int (nomark _)) (pss_cons (ps_set (i := 3) nd rfl (Or.inl rfl) (pe_op op_mod (pe_ix ix_seq (pv 0) pe_int (fun _ _ => rfl)) (pv 1))) (pss_cons (ps_asg (pe_op op_fdivW (pe_ix ix_seq (pv 0) pe_int (fun _ _ => rfl)) (pv 1)) (pg_sub (pv 0) pe_int set_list)) (pss_one (ps_ret (pv 3))))) pss_nil) (pss_one (ps_ret (pe_op op_mod (pe_op op_fdivW (pe_call G__law_blend (hr.mono (by decide)) rfl T.d__law_blend.m T.d__law_blend.F.kp T.d__law_blend.b .nil pD (pa_cons (pe_ix ix_seq (pv 0) pe_int (fun _ _ => rfl)) (pa_cons (pe_ix ix_seq (pv 0) pe_int (fun _ _ => rfl)) pa_nil))) pe_int) (pv 1))))))), ?_⟩
  exact (sims_seq (sims_asg (sim_op sim_add (sim_op sim_ix (sim_var 0) (sim_c fun _ _ _ => .int _)) (sim_c fun _ _ _ => .int _)) (simg_sub (sim_var 0) (sim_c fun _ _ _ => .int _) sim_set)) (sims_seq (sims_if (simt_and (simt_test (sim_op sim_eqA (sim_op sim_ix (sim_var 0) (sim_c fun _ _ _ => .int _)) (sim_c fun _ _ _ => .int _))) (simt_test (sim_op sim_neA (sim_op sim_ix (sim_var 0) (sim_c fun _ _ _ => .int _)) (sim_lst sim_nil)))) (sims_seq (sims_asg (sim_bm sim_popAt (sim_op sim_ix (sim_var 0) (sim_c fun _ _ _ => .int _)) (sim_cons (sim_c fun _ _ _ => .int _) sim_nil)) (simg_name 2)) (sims_seq (sims_asg (sim_call ar_def (sim_cons (sim_op sim_add (sim_op sim_ix (sim_var 0) (sim_c fun _ _ _ => .int _)) (sim_var 2)) (sim_cons (sim_cb sim_len (sim_cons (sim_op sim_ix (sim_var 0) (sim_c fun _ _ _ => .int _)) sim_nil)) sim_nil))) (simg_sub (sim_var 0) (sim_c fun _ _ _ => .int _) sim_set)) (sims_if (simt_test (sim_op sim_ge (sim_cb sim_abs (sim_cons (sim_var 2) sim_nil)) (sim_op sim_pow (sim_c fun _ _ _ => .int _) (sim_c fun _ _ _ => .int _)))) (sims_asg (sim_cb sim_abs (sim_cons (sim_var 2) sim_nil)) (simg_sub (sim_var 0) (sim_c fun _ _ _ => .int _) sim_set)) sims_next))) sims_next) (sims_seq (sims_if (simt_test (sim_op sim_gt (sim_op sim_ix (sim_var 0) (sim_c fun _ _ _ => .int _)) (sim_c fun _ _ _ => .int _))) (sims_seq (sims_asg (sim_op sim_mod (sim_op sim_ix (sim_var 0) (sim_c fun _ _ _ => .int _)) (sim_var 1)) (simg_name 3)) (sims_seq (sims_asg (sim_op sim_div (sim_op sim_ix (sim_var 0) (sim_c fun _ _ _ => .int _)) (sim_var 1)) (simg_sub (sim_var 0) (sim_c fun _ _ _ => .int _) sim_set)) (sims_ret (sim_var 3)))) sims_next) (sims_ret (sim_op sim_mod (sim_op sim_div (sim_call ar_def (sim_cons (sim_op sim_ix (sim_var 0) (sim_c fun _ _ _ => .int _)) (sim_cons (sim_op sim_ix (sim_var 0) (sim_c fun _ _ _ => .int _)) sim_nil))) (sim_c fun _ _ _ => .int _)) (sim_var 1))))))
theorem ok__law_pick (T : Tx K P mg) : FnOk P w K mg base (L2.CX P w) 3 T.a__law_pick T.fd__law_pick ["_law_pot_here", "_law_some"] (spOf (gOf T) 2 m__law_pick) := by
  have G__law_draw := ok__law_draw (w := w) (base := base) T
  refine fn_sim (N := N__law_pick) T.d__law_pick.F sc__law_pick fun cdv A outer s H E hr => ?_
  have nd := sc__law_pick.nd
  refine ⟨_, (pss_one (ps_ret (pe_ix ix_seq (pv 1) (pe_call G__law_draw (hr.mono (by decide)) rfl T.d__law_draw.m T.d__law_draw.F.kp T.d__law_draw.b .nil pD (pa_cons (pv 0) (pa_cons (pe_callB call_len (by rfl) T.len PySem.boot_len (pa_cons (pv 1) pa_nil)) pa_nil))) (fun _ _ => rfl)))), ?_⟩
  exact (sims_ret (sim_op sim_ix (sim_var 1) (sim_call ar_def (sim_cons (sim_var 0) (sim_cons (sim_cb sim_len (sim_cons (sim_var 1) sim_nil)) sim_nil)))))
theorem ok__law_words (T : Tx K P mg) : FnOk P w K mg base (L2.CX P w) 4 T.a__law_words T.fd__law_words ["_law_pot_here", "_law_size"] (spOf (gOf T) 2 m__law_words) := by
  have G__law_draw := ok__law_draw (w := w) (base := base) T
  have G__law_pick := ok__law_pick (w := w) (base := base) T
  refine fn_sim (N := N__law_words) T.d__law_words.F sc__law_words fun cdv A outer s H E hr => ?_
  have nd := sc__law_words.nd
  refine ⟨_, (pss_cons (ps_par (i := 2) (j := 3) rfl nd rfl rfl (by decide) rfl rfl (pa_cons (pe_callTy (call_listS rfl) (by rfl) T.list (by decide +kernel) (pa_cons pe_str pa_nil)) (pa_cons (pe_lst pa_nil) pa_nil)) rfl) (pss_cons (ps_set (i := 4) nd rfl (Or.inl rfl) (pe_bm PySem.F.plainAttrs_str PySem.F.slot_str_join PySem.F.type_str_join mt_join pe_str (pa_cons (pe_lc (own := [("_law_k", 7)]) rfl nd (pi_range1 rfl T.range (pa_cons (pe_call G__law_draw (hr.mono (by decide)) rfl T.d__law_draw.m T.d__law_draw.F.kp T.d__law_draw.b .nil pD (pa_cons (pv 0) (pa_cons pe_int pa_nil))) pa_nil)) (blkOk_by (N := N__law_words) (sc := defScope s__law_words) (by decide +kernel)) (fun _ _ _ _ _ => pg_name (i := 7) nd rfl (Or.inl rfl) (.inr rfl)) (fun _ _ _ _ _ => pts_nil) (fun _ _ _ _ _ => (pe_call G__law_pick (hr.mono (by decide)) rfl T.d__law_pick.m T.d__law_pick.F.kp T.d__law_pick.b .nil passL (pa_cons (pv 0) (pa_cons pe_str pa_nil))))) pa_nil))) (pss_cons (ps_par (i := 5) (j := 6) rfl nd rfl rfl (by decide) rfl rfl (pa_cons (pe_call G__law_draw (hr.mono (by decide)) rfl T.d__law_draw.m T.d__law_draw.F.kp T.d__law_draw.b .nil pD (pa_cons (pv 0) (pa_cons (pe_op op_addA (pe_callB call_len (by rfl) T.len PySem.boot_len (pa_cons (pv 4) pa_nil)) pe_int) pa_nil))) (pa_cons (pe_call G__law_draw (hr.mono (by decide)) rfl T.d__law_draw.m T.d__law_draw.F.kp T.d__law_draw.b .nil pD (pa_cons (pv 0) (pa_cons pe_int pa_nil))) pa_nil)) rfl) (pss_cons (ps_for (passes_of rfl) rfl (pi_range1 rfl T.range (pa_cons (pv 1) pa_nil)) (pg_name (i := 7) nd rfl (Or.inl rfl)) (pss_cons (ps_set (i := 8) nd rfl (Or.inl rfl) (pe_bm PySem.F.plainAttrs_list PySem.F.slot_list_pop PySem.F.type_list_pop mt_popAt (pv 2) (pa_cons (pe_call G__law_draw (hr.mono (by decide)) rfl T.d__law_draw.m T.d__law_draw.F.kp T.d__law_draw.b .nil pD (pa_cons (pv 0) (pa_cons (pe_callB call_len (by rfl) T.len PySem.boot_len (pa_cons (pv 2) pa_nil)) pa_nil))) pa_nil))) (pss_one (ps_expr (pe_bm PySem.F.plainAttrs_list PySem.F.slot_list_append PySem.F.type_list_append mt_append (pv 3) (pa_cons (pe_ix ix_seq (pe_lst (pa_cons (pe_op op_addA (pe_op op_addA (pe_slice sl_all (pv 4) po_none (po_some (pv 5))) (pv 8)) (pe_slice sl_all (pv 4) (po_some (pv 5)) po_none)) (pa_cons (pe_op op_addA (pv 8) (pe_slice sl_all (pv 4) po_none (po_some (pe_call G__law_draw (hr.mono (by decide)) rfl T.d__law_draw.m T.d__law_draw.F.kp T.d__law_draw.b .nil pD (pa_cons (pv 0) (pa_cons (pe_op op_addA (pe_callB call_len (by rfl) T.len PySem.boot_len (pa_cons (pv 4) pa_nil)) pe_int) pa_nil)))))) pa_nil))) (pv 6) (fun _ _ => rfl)) pa_nil)))))) (pss_one (ps_ret (pv 3))))))), ?_⟩
  exact (sims_seq (sims_par (sim_cons (sim_cb sim_listSL (sim_cons (sim_c fun _ _ _ => .str _) sim_nil)) (sim_cons (sim_lstL sim_nil) sim_nil))) (sims_seq (sims_asg (sim_bm sim_join (sim_c fun _ _ _ => .str _) (sim_cons (sim_lc (simi_range1 (sim_cons (sim_call ar_def (sim_cons (sim_var 0) (sim_cons (sim_c fun _ _ _ => .int _) sim_nil))) sim_nil)) (simg_name 7) (own_name (by decide)) simt_yes (sim_call ar_def (sim_cons (sim_var 0) (sim_cons (sim_c fun _ _ _ => .str _) sim_nil)))) sim_nil)) (simg_name 4)) (sims_seq (sims_par (sim_cons (sim_call ar_def (sim_cons (sim_var 0) (sim_cons (sim_op sim_add (sim_cb sim_len (sim_cons (sim_var 4) sim_nil)) (sim_c fun _ _ _ => .int _)) sim_nil))) (sim_cons (sim_call ar_def (sim_cons (sim_var 0) (sim_cons (sim_c fun _ _ _ => .int _) sim_nil))) sim_nil))) (sims_seq (sims_for (simi_range1 (sim_cons (sim_var 1) sim_nil)) (simg_name 7) (sims_seq (sims_asg (sim_bm sim_popAt (sim_var 2) (sim_cons (sim_call ar_def (sim_cons (sim_var 0) (sim_cons (sim_cb sim_len (sim_cons (sim_var 2) sim_nil)) sim_nil))) sim_nil)) (simg_name 8)) (sims_drop (sim_bm sim_append (sim_var 3) (sim_cons (sim_op sim_ix (sim_lst (sim_cons (sim_op sim_add (sim_op sim_add (sim_slice (sim_var 4) simo_none (simo_some (sim_var 5))) (sim_var 8)) (sim_slice (sim_var 4) (simo_some (sim_var 5)) simo_none)) (sim_cons (sim_op sim_add (sim_var 8) (sim_slice (sim_var 4) simo_none (simo_some (sim_call ar_def (sim_cons (sim_var 0) (sim_cons (sim_op sim_add (sim_cb sim_len (sim_cons (sim_var 4) sim_nil)) (sim_c fun _ _ _ => .int _)) sim_nil)))))) sim_nil))) (sim_var 6)) sim_nil))))) (sims_ret (sim_var 3))))))
theorem ok__law_pairs (T : Tx K P mg) : FnOk P w K mg base (L2.CX P w) 4 T.a__law_pairs T.fd__law_pairs ["_law_pot_here", "_law_pool", "_law_size"] (spOf (gOf T) 3 m__law_pairs) := by
  have G__law_pick := ok__law_pick (w := w) (base := base) T
  refine fn_sim (N := N__law_pairs) T.d__law_pairs.F sc__law_pairs fun cdv A outer s H E hr => ?_
  have nd := sc__law_pairs.nd
  refine ⟨_, (pss_cons (ps_set (i := 3) nd rfl (Or.inl rfl) pe_dnewT) (pss_cons (ps_for (passes_of rfl) rfl (pi_range1 rfl T.range (pa_cons (pv 2) pa_nil)) (pg_name (i := 4) nd rfl (Or.inl rfl)) (pss_one (ps_asg pe_bl (pg_sub (pv 3) (pe_tup (pa_cons (pe_call G__law_pick (hr.mono (by decide)) rfl T.d__law_pick.m T.d__law_pick.F.kp T.d__law_pick.b .nil pD (pa_cons (pv 0) (pa_cons (pv 1) pa_nil))) (pa_cons (pe_call G__law_pick (hr.mono (by decide)) rfl T.d__law_pick.m T.d__law_pick.F.kp T.d__law_pick.b .nil pD (pa_cons (pv 0) (pa_cons (pv 1) pa_nil))) pa_nil))) (set_dict (hu_of hr)))))) (pss_one (ps_ret (pe_callTy call_tuple_of (by rfl) T.tuple (by decide +kernel) (pa_cons (pe_callB (call_sortDT rfl hr.units) (by rfl) T.sorted (by decide +kernel) (pa_cons (pv 3) pa_nil)) pa_nil)))))), ?_⟩
  exact (sims_seq (sims_asg sim_newT (simg_name 3)) (sims_seq (sims_for (simi_range1 (sim_cons (sim_var 2) sim_nil)) (simg_name 4) (sims_asg (sim_c fun _ _ _ => .bl _) (simg_sub (sim_var 3) (sim_tup (sim_cons (sim_call ar_def (sim_cons (sim_var 0) (sim_cons (sim_var 1) sim_nil))) (sim_cons (sim_call ar_def (sim_cons (sim_var 0) (sim_cons (sim_var 1) sim_nil))) sim_nil))) sim_setK))) (sims_ret (sim_cb sim_tuple (sim_cons (sim_cb sim_sortDT (sim_cons (sim_var 3) sim_nil)) sim_nil)))))
theorem ok__law_turned_round (T : Tx K P mg) : FnOk P w K mg base (L2.CX P w) 3 T.a__law_turned_round T.fd__law_turned_round ["_law_pot_here", "_law_some"] (spOf (gOf T) 2 m__law_turned_round) := by
  have G__law_draw := ok__law_draw (w := w) (base := base) T
  refine fn_sim (N := N__law_turned_round) T.d__law_turned_round.F sc__law_turned_round fun cdv A outer s H E hr => ?_
  have nd := sc__law_turned_round.nd
  refine ⟨_, (pss_cons (ps_par (i := 2) (j := 3) rfl nd rfl rfl (by decide) rfl rfl (pa_cons (pe_callTy call_list_of (by rfl) T.list (by decide +kernel) (pa_cons (pv 1) pa_nil)) (pa_cons (pe_lst pa_nil) pa_nil)) rfl) (pss_cons (ps_for (passes_of rfl) rfl (pi_seq (pe_callB (call_sortD hr.units) (by rfl) T.sorted (by decide +kernel) (pa_cons (pv 1) pa_nil))) (pg_name (i := 4) nd rfl (Or.inl rfl)) (pss_one (ps_expr (pe_bm PySem.F.plainAttrs_list PySem.F.slot_list_append PySem.F.type_list_append mt_append (pv 3) (pa_cons (pe_tup (pa_cons (pv 4) (pa_cons (pe_bm PySem.F.plainAttrs_list PySem.F.slot_list_pop PySem.F.type_list_pop mt_popAt (pv 2) (pa_cons (pe_call G__law_draw (hr.mono (by decide)) rfl T.d__law_draw.m T.d__law_draw.F.kp T.d__law_draw.b .nil pD (pa_cons (pv 0) (pa_cons (pe_callB call_len (by rfl) T.len PySem.boot_len (pa_cons (pv 2) pa_nil)) pa_nil))) pa_nil)) pa_nil))) pa_nil))))) (pss_one (ps_ret (pe_callTy call_tuple_of (by rfl) T.tuple (by decide +kernel) (pa_cons (pv 3) pa_nil)))))), ?_⟩
  exact (sims_seq (sims_par (sim_cons (sim_cb sim_listL (sim_cons (sim_var 1) sim_nil)) (sim_cons (sim_lstL sim_nil) sim_nil))) (sims_seq (sims_for (simi_seq (sim_cb sim_sort (sim_cons (sim_var 1) sim_nil))) (simg_name 4) (sims_drop (sim_bm sim_append (sim_var 3) (sim_cons (sim_tup (sim_cons (sim_var 4) (sim_cons (sim_bm sim_popAt (sim_var 2) (sim_cons (sim_call ar_def (sim_cons (sim_var 0) (sim_cons (sim_cb sim_len (sim_cons (sim_var 2) sim_nil)) sim_nil))) sim_nil)) sim_nil))) sim_nil)))) (sims_ret (sim_cb sim_tuple (sim_cons (sim_var 3) sim_nil)))))
theorem ok__law_parts (T : Tx K P mg) : FnOk P w K mg base (L2.CX P w) 5 T.a__law_parts T.fd__law_parts ["_law_pot_here", "_law_most"] (spOf (gOf T) 2 m__law_parts) := by
  have G__law_words := ok__law_words (w := w) (base := base) T
  have G__law_draw := ok__law_draw (w := w) (base := base) T
  have G__law_pick := ok__law_pick (w := w) (base := base) T
  have G__law_pairs := ok__law_pairs (w := w) (base := base) T
  have G__law_turned_round := ok__law_turned_round (w := w) (base := base) T
  refine fn_sim (N := N__law_parts) T.d__law_parts.F sc__law_parts fun cdv A outer s H E hr => ?_
  have nd := sc__law_parts.nd
  refine ⟨_, (pss_cons (ps_set (i := 2) nd rfl (Or.inl rfl) (pe_call G__law_words (hr.mono (by decide)) rfl T.d__law_words.m T.d__law_words.F.kp T.d__law_words.b .nil pD (pa_cons (pv 0) (pa_cons (pe_op op_addA pe_int (pe_call G__law_draw (hr.mono (by decide)) rfl T.d__law_draw.m T.d__law_draw.F.kp T.d__law_draw.b .nil pD (pa_cons (pv 0) (pa_cons (pe_op op_addA (pv 1) pe_int) pa_nil)))) pa_nil)))) (pss_cons (ps_par (i := 3) (j := 4) rfl nd rfl rfl (by decide) rfl rfl (pa_cons (pe_slice sl_all (pv 2) (po_some pe_int) po_none) (pa_cons (pe_slice sl_all (pv 2) po_none (po_some pe_int)) pa_nil)) rfl) (pss_cons (ps_set (i := 5) nd rfl (Or.inr rfl) (pe_lst (pa_cons pe_str (pa_cons pe_str (pa_cons pe_str (pa_cons (pe_ix ix_seq (pv 4) pe_int (fun _ _ => rfl)) (pa_cons (pe_ix ix_seq (pv 2) (pe_un un_neg pe_int) (fun _ _ => rfl)) (pa_cons pe_str pa_nil)))))))) (pss_cons (ps_set (i := 6) nd rfl (Or.inl rfl) (pe_callTy call_tupX (by rfl) T.tuple (by decide +kernel) (pa_cons (pe_callB (call_sortD hr.units) (by rfl) T.sorted (by decide +kernel) (pa_cons (pe_lc (own := [("_law_one", 11)]) rfl nd (pi_seq (pv 3)) (blkOk_by (N := N__law_parts) (sc := defScope s__law_parts) (by decide +kernel)) (fun _ _ _ _ _ => pg_name (i := 11) nd rfl (Or.inl rfl) (.inr rfl)) (fun _ _ _ _ _ => pts_nil) (fun _ _ _ _ _ => (pe_tup (pa_cons (pv 11) (pa_cons (pe_call G__law_pick (hr.mono (by decide)) rfl T.d__law_pick.m T.d__law_pick.F.kp T.d__law_pick.b .nil passL (pa_cons (pv 0) (pa_cons (pv 5) pa_nil))) pa_nil))))) pa_nil)) pa_nil))) (pss_cons (ps_par (i := 7) (j := 8) rfl nd rfl rfl (by decide) rfl rfl (pa_cons (pe_call G__law_pairs (hr.mono (by decide)) rfl T.d__law_pairs.m T.d__law_pairs.F.kp T.d__law_pairs.b .nil pD (pa_cons (pv 0) (pa_cons (pv 2) (pa_cons (pe_call G__law_draw (hr.mono (by decide)) rfl T.d__law_draw.m T.d__law_draw.F.kp T.d__law_draw.b .nil pD (pa_cons (pv 0) (pa_cons (pe_ix ix_seq (pe_lst (pa_cons pe_int (pa_cons pe_int (pa_cons pe_int pa_nil)))) (pe_call G__law_draw (hr.mono (by decide)) rfl T.d__law_draw.m T.d__law_draw.F.kp T.d__law_draw.b .nil pD (pa_cons (pv 0) (pa_cons pe_int pa_nil))) (fun _ _ => rfl)) pa_nil))) pa_nil)))) (pa_cons (pe_lst pa_nil) pa_nil)) rfl) (pss_cons (ps_for (passes_of rfl) rfl (pi_range1 rfl T.range (pa_cons (pe_call G__law_draw (hr.mono (by decide)) rfl T.d__law_draw.m T.d__law_draw.F.kp T.d__law_draw.b .nil pD (pa_cons (pv 0) (pa_cons (pe_ix ix_seq (pe_lst (pa_cons pe_int (pa_cons pe_int (pa_cons pe_int pa_nil)))) (pe_call G__law_draw (hr.mono (by decide)) rfl T.d__law_draw.m T.d__law_draw.F.kp T.d__law_draw.b .nil pD (pa_cons (pv 0) (pa_cons pe_int pa_nil))) (fun _ _ => rfl)) pa_nil))) pa_nil)) (pg_name (i := 9) nd rfl (Or.inl rfl)) (pss_one (ps_expr (pe_bm PySem.F.plainAttrs_list PySem.F.slot_list_append PySem.F.type_list_append mt_append (pv 8) (pa_cons (pe_ix ix_seq (pe_lst (pa_cons (pe_call G__law_turned_round (hr.mono (by decide)) rfl T.d__law_turned_round.m T.d__law_turned_round.F.kp T.d__law_turned_round.b .nil pD (pa_cons (pv 0) (pa_cons (pv 3) pa_nil))) (pa_cons (pe_call G__law_pairs (hr.mono (by decide)) rfl T.d__law_pairs.m T.d__law_pairs.F.kp T.d__law_pairs.b .nil pD (pa_cons (pv 0) (pa_cons (pv 2) (pa_cons (pe_call G__law_draw (hr.mono (by decide)) rfl T.d__law_draw.m T.d__law_draw.F.kp T.d__law_draw.b .nil pD (pa_cons (pv 0) (pa_cons pe_int pa_nil))) pa_nil)))) pa_nil))) (pe_op op_fdivW (pe_call G__law_draw (hr.mono (by decide)) rfl T.d__law_draw.m T.d__law_draw.F.kp T.d__law_draw.b .nil pD (pa_cons (pv 0) (pa_cons pe_int pa_nil))) pe_int) (fun _ _ => rfl)) pa_nil))))) (pss_cons (ps_set (i := 10) nd rfl (Or.inl rfl) (pe_ix ix_seq (pe_lst (pa_cons pe_int (pa_cons pe_int (pa_cons pe_int (pa_cons pe_int (pa_cons (pe_callB call_len (by rfl) T.len PySem.boot_len (pa_cons (pv 8) pa_nil)) (pa_cons (pe_op op_addA (pe_callB call_len (by rfl) T.len PySem.boot_len (pa_cons (pv 8) pa_nil)) pe_int) (pa_cons (pe_call G__law_draw (hr.mono (by decide)) rfl T.d__law_draw.m T.d__law_draw.F.kp T.d__law_draw.b .nil pD (pa_cons (pv 0) (pa_cons (pe_op op_pow pe_int pe_int) pa_nil))) pa_nil)))))))) (pe_call G__law_draw (hr.mono (by decide)) rfl T.d__law_draw.m T.d__law_draw.F.kp T.d__law_draw.b .nil pD (pa_cons (pv 0) (pa_cons pe_int pa_nil))) (fun _ _ => rfl))) (pss_one (ps_ret (pe_tup (pa_cons (pv 6) (pa_cons (pv 7) (pa_cons (pe_callTy call_tuple_of (by rfl) T.tuple (by decide +kernel) (pa_cons (pv 8) pa_nil)) (pa_cons (pv 10) (pa_cons (pv 4) pa_nil))))))))))))))), ?_⟩
  exact (sims_seq (sims_asg (sim_call ar_def (sim_cons (sim_var 0) (sim_cons (sim_op sim_add (sim_c fun _ _ _ => .int _) (sim_call ar_def (sim_cons (sim_var 0) (sim_cons (sim_op sim_add (sim_var 1) (sim_c fun _ _ _ => .int _)) sim_nil)))) sim_nil))) (simg_name 2)) (sims_seq (sims_par (sim_cons (sim_slice (sim_var 2) (simo_some (sim_c fun _ _ _ => .int _)) simo_none) (sim_cons (sim_slice (sim_var 2) simo_none (simo_some (sim_c fun _ _ _ => .int _))) sim_nil))) (sims_seq (sims_asg (sim_lst (sim_cons (sim_c fun _ _ _ => .str _) (sim_cons (sim_c fun _ _ _ => .str _) (sim_cons (sim_c fun _ _ _ => .str _) (sim_cons (sim_op sim_ix (sim_var 4) (sim_c fun _ _ _ => .int _)) (sim_cons (sim_op sim_ix (sim_var 2) (sim_un sim_neg (sim_c fun _ _ _ => .int _))) (sim_cons (sim_c fun _ _ _ => .str _) sim_nil))))))) (simg_name 5)) (sims_seq (sims_asg (sim_cb sim_tupX (sim_cons (sim_cb sim_sort (sim_cons (sim_lc (simi_seq (sim_var 3)) (simg_name 11) (own_name (by decide)) simt_yes (sim_tup (sim_cons (sim_var 11) (sim_cons (sim_call ar_def (sim_cons (sim_var 0) (sim_cons (sim_var 5) sim_nil))) sim_nil)))) sim_nil)) sim_nil)) (simg_name 6)) (sims_seq (sims_par (sim_cons (sim_call ar_def (sim_cons (sim_var 0) (sim_cons (sim_var 2) (sim_cons (sim_call ar_def (sim_cons (sim_var 0) (sim_cons (sim_op sim_ix (sim_lst (sim_cons (sim_c fun _ _ _ => .int _) (sim_cons (sim_c fun _ _ _ => .int _) (sim_cons (sim_c fun _ _ _ => .int _) sim_nil)))) (sim_call ar_def (sim_cons (sim_var 0) (sim_cons (sim_c fun _ _ _ => .int _) sim_nil)))) sim_nil))) sim_nil)))) (sim_cons (sim_lstL sim_nil) sim_nil))) (sims_seq (sims_for (simi_range1 (sim_cons (sim_call ar_def (sim_cons (sim_var 0) (sim_cons (sim_op sim_ix (sim_lst (sim_cons (sim_c fun _ _ _ => .int _) (sim_cons (sim_c fun _ _ _ => .int _) (sim_cons (sim_c fun _ _ _ => .int _) sim_nil)))) (sim_call ar_def (sim_cons (sim_var 0) (sim_cons (sim_c fun _ _ _ => .int _) sim_nil)))) sim_nil))) sim_nil)) (simg_name 9) (sims_drop (sim_bm sim_append (sim_var 8) (sim_cons (sim_op sim_ix (sim_lst (sim_cons (sim_call ar_def (sim_cons (sim_var 0) (sim_cons (sim_var 3) sim_nil))) (sim_cons (sim_call ar_def (sim_cons (sim_var 0) (sim_cons (sim_var 2) (sim_cons (sim_call ar_def (sim_cons (sim_var 0) (sim_cons (sim_c fun _ _ _ => .int _) sim_nil))) sim_nil)))) sim_nil))) (sim_op sim_div (sim_call ar_def (sim_cons (sim_var 0) (sim_cons (sim_c fun _ _ _ => .int _) sim_nil))) (sim_c fun _ _ _ => .int _))) sim_nil)))) (sims_seq (sims_asg (sim_op sim_ix (sim_lst (sim_cons (sim_c fun _ _ _ => .int _) (sim_cons (sim_c fun _ _ _ => .int _) (sim_cons (sim_c fun _ _ _ => .int _) (sim_cons (sim_c fun _ _ _ => .int _) (sim_cons (sim_cb sim_len (sim_cons (sim_var 8) sim_nil)) (sim_cons (sim_op sim_add (sim_cb sim_len (sim_cons (sim_var 8) sim_nil)) (sim_c fun _ _ _ => .int _)) (sim_cons (sim_call ar_def (sim_cons (sim_var 0) (sim_cons (sim_op sim_pow (sim_c fun _ _ _ => .int _) (sim_c fun _ _ _ => .int _)) sim_nil))) sim_nil)))))))) (sim_call ar_def (sim_cons (sim_var 0) (sim_cons (sim_c fun _ _ _ => .int _) sim_nil)))) (simg_name 10)) (sims_ret (sim_tup (sim_cons (sim_var 6) (sim_cons (sim_var 7) (sim_cons (sim_cb sim_tuple (sim_cons (sim_var 8) sim_nil)) (sim_cons (sim_var 10) (sim_cons (sim_var 4) sim_nil))))))))))))))
theorem ok__law_reason (T : Tx K P mg) : FnOk P w K mg base (L2.CX P w) 1 T.a__law_reason T.fd__law_reason ["_law_parts_here", "_law_one", "_law_other"] (spOf (gOf T) 3 m__law_reason) := by
  refine fn_sim (N := N__law_reason) T.d__law_reason.F sc__law_reason fun cdv A outer s H E hr => ?_
  have nd := sc__law_reason.nd
  refine ⟨_, (pss_cons (ps_asg (pv 0) (pg_tup rfl (pgs_cons (pg_name (i := 3) nd rfl (Or.inl rfl)) (pgs_cons (pg_name (i := 4) nd rfl (Or.inl rfl)) (pgs_cons (pg_name (i := 5) nd rfl (Or.inr rfl)) (pgs_cons (pg_name (i := 6) nd rfl (Or.inr rfl)) (pgs_cons (pg_name (i := 7) nd rfl (Or.inl rfl)) pgs_nil))))))) (pss_cons (ps_set (i := 8) nd rfl (Or.inl rfl) (pe_callTy (call_dictX rfl) (by rfl) T.dict (by decide +kernel) (pa_cons (pv 3) pa_nil))) (pss_cons (ps_if (pt_cmpR (op_eqA hr.units) (pv 1) (pv 2) (nomark _)) (pss_one (ps_ret pe_str)) pss_nil) (pss_cons (ps_if (PW.pt (pw_and (pt_cmpR (op_neA hr.units) (pe_dget (hu_of hr) (pv 8) (pv 1) (fun _ _ => rfl)) pe_str (nomark _)) (pw_and1 (pt_cmpR (op_eqA hr.units) (pe_dget (hu_of hr) (pv 8) (pv 1) (fun _ _ => rfl)) (pe_dget (hu_of hr) (pv 8) (pv 2) (fun _ _ => rfl)) (nomark _))))) (pss_one (ps_ret pe_str)) pss_nil) (pss_cons (ps_if (pt_cmpR (op_inA hr.units2) (pe_tup (pa_cons (pv 1) (pa_cons (pv 2) pa_nil))) (pv 4) rfl) (pss_one (ps_ret pe_str)) pss_nil) (pss_cons (ps_setLc (i := 9) (own := [("_law_k", 10), ("_law_year", 11)]) rfl nd rfl rfl (sw_true rfl rfl rfl (by decide +kernel)) (pi_enumA rfl T.enumerate (pa_cons (pv 5) pa_nil)) (blkOk_by (N := N__law_reason) (sc := defScope s__law_reason) (by decide +kernel)) (fun _ _ _ _ _ => (show PG _ _ (gTup K 2 _) from pg_tup rfl (pgs_cons (pg_name (i := 10) nd rfl (Or.inl rfl) (.inr rfl)) (pgs_cons (pg_name (i := 11) nd rfl (Or.inl rfl) (.inr rfl)) pgs_nil)))) (fun _ _ _ _ _ => pts_one (pt_cmpR op_ge (pe_op (show OpR _ _ (rAddA K) from op_addA) (pv 10) (pv 6)) (pe_callB (show CallR _ _ (rLen K) from call_len) (by rfl) T.len PySem.boot_len (pa_cons (pv 5) pa_nil)) (nomark _))) (fun _ _ _ _ _ => (pv 11))) (pss_one (ps_ret (pe_ifExp (pt_val (pe_callB (cr_any rfl) (by rfl) T.any (by decide +kernel) (pa_cons (pe_lc (own := [("_law_year", 11)]) rfl nd (pi_seq (pv 9)) (blkOk_by (N := N__law_reason) (sc := defScope s__law_reason) (by decide +kernel)) (fun _ _ _ _ _ => pg_name (i := 11) nd rfl (Or.inl rfl) (.inr rfl)) (fun _ _ _ _ _ => pts_nil) (fun _ _ _ _ _ => (pe_cmpR (show OpR _ _ (rInA K) from (op_inA hr.units2)) (pe_tup (pa_cons (pv 1) (pa_cons (pv 2) pa_nil))) (pv 11) rfl))) pa_nil))) pe_str pe_non))))))))), ?_⟩
  exact (sims_seq (sims_asg (sim_var 0) (simg_tup (simg_cons (simg_name 3) (simg_cons (simg_name 4) (simg_cons (simg_name 5) (simg_cons (simg_name 6) (simg_cons (simg_name 7) simg_nil))))))) (sims_seq (sims_asg (sim_cb sim_dictX (sim_cons (sim_var 3) sim_nil)) (simg_name 8)) (sims_seq (sims_if (simt_test (sim_op sim_eqA (sim_var 1) (sim_var 2))) (sims_ret (sim_c fun _ _ _ => .str _)) sims_next) (sims_seq (sims_if (simt_and (simt_test (sim_op sim_neA (sim_dget (sim_var 8) (sim_var 1)) (sim_c fun _ _ _ => .str _))) (simt_test (sim_op sim_eqA (sim_dget (sim_var 8) (sim_var 1)) (sim_dget (sim_var 8) (sim_var 2))))) (sims_ret (sim_c fun _ _ _ => .str _)) sims_next) (sims_seq (sims_if (simt_test (sim_op sim_in (sim_tup (sim_cons (sim_var 1) (sim_cons (sim_var 2) sim_nil))) (sim_var 4))) (sims_ret (sim_c fun _ _ _ => .str _)) sims_next) (sims_seq (sims_asg (sim_lc (simi_enumA (sim_cons (sim_var 5) sim_nil)) (simg_tup (simg_cons (simg_name 10) (simg_cons (simg_name 11) simg_nil))) (own_tup (owns_cons (own_name (by decide)) mono_name (owns_cons (own_name (by decide)) mono_name owns_nil monos_nil) (monos_cons mono_name monos_nil))) (simt_test (sim_op sim_ge (sim_op sim_add (sim_var 10) (sim_var 6)) (sim_cb sim_len (sim_cons (sim_var 5) sim_nil)))) (sim_var 11)) (simg_name 9)) (sims_ret (sim_if (simt_tB (sim_cb sim_any (sim_cons (sim_lc (simi_seq (sim_var 9)) (simg_name 11) (own_name (by decide)) simt_yes (sim_op sim_in (sim_tup (sim_cons (sim_var 1) (sim_cons (sim_var 2) sim_nil))) (sim_var 11))) sim_nil))) (sim_c fun _ _ _ => .str _) (sim_c fun _ _ _ => .non)))))))))
theorem ok__law_values_right (T : Tx K P mg) : FnOk P w K mg base (L2.CX P w) 3 T.a__law_values_right T.fd__law_values_right ["_law_circle", "_law_parts_here"] (spOf (gOf T) 2 m__law_values_right) := by
  have G_Circle_repr := ok_Circle_repr (w := w) (base := base) T
  have G_Circle_len := ok_Circle_len (w := w) (base := base) T
  have G_Circle_names := ok_Circle_names (w := w) (base := base) T
  refine fn_sim (N := N__law_values_right) T.d__law_values_right.F sc__law_values_right fun cdv A outer s H E hr => ?_
  have nd := sc__law_values_right.nd
  refine ⟨_, (pss_cons (ps_asg (pv 1) (pg_tup rfl (pgs_cons (pg_name (i := 2) nd rfl (Or.inl rfl)) (pgs_cons (pg_name (i := 3) nd rfl (Or.inl rfl)) (pgs_cons (pg_name (i := 4) nd rfl (Or.inl rfl)) (pgs_cons (pg_name (i := 5) nd rfl (Or.inl rfl)) (pgs_cons (pg_name (i := 6) nd rfl (Or.inl rfl)) pgs_nil))))))) (pss_cons (ps_if (PW.pt (pw_or (pt_cmpR (op_neA hr.units) (pe_tup (pa_cons (pe_fld (pv 0) rfl) (pa_cons (pe_fld (pv 0) rfl) (pa_cons (pe_fld (pv 0) rfl) pa_nil)))) (pe_tup (pa_cons (pv 2) (pa_cons (pv 3) (pa_cons (pv 4) pa_nil)))) (nomark _)) (pw_or1 (pt_cmpR (op_neA hr.units) (pe_fld (pv 0) rfl) (pv 5) (nomark _))))) (pss_one (ps_ret pe_bl)) pss_nil) (pss_cons (ps_if (PW.pt (pw_or (pt_val (pe_callB call_isi (by rfl) T.isinstance (by decide +kernel) (pa_cons (pe_fld (pv 0) rfl) (pa_cons (pe_bltn (v := .ty "bool") (by rfl) T.bool (by decide +kernel) rfl) pa_nil)))) (pw_or1 (pt_cmpR (op_neA hr.units) (pe_callB ((call_oRepr (G_Circle_repr.raw T.b_Circle_repr .nil) T.du_Circle_repr (hr.mono (by decide)) pD).or call_reprS) (by rfl) T.repr (by decide +kernel) (pa_cons (pv 0) pa_nil)) (pe_op op_addA (pe_op op_addA pe_str (pe_callTy call_str (by rfl) T.str (by decide +kernel) (pa_cons (pe_callB call_len (by rfl) T.len PySem.boot_len (pa_cons (pv 2) pa_nil)) pa_nil))) pe_str) (nomark _))))) (pss_one (ps_ret pe_bl)) pss_nil) (pss_cons (ps_if (pt_cmpR (op_neA hr.units) (pe_callB ((call_oLen (G_Circle_len.raw T.b_Circle_len .nil) T.du_Circle_len (hr.mono (by decide)) pD).or call_len) (by rfl) T.len (by decide +kernel) (pa_cons (pv 0) pa_nil)) (pe_callB call_len (by rfl) T.len PySem.boot_len (pa_cons (pv 2) pa_nil)) (nomark _)) (pss_one (ps_ret pe_bl)) pss_nil) (pss_one (ps_ret (pe_cmpR (op_eqA hr.units) (pe_meth0 (pv 0) T.cl_Circle.cl T.me_Circle_names G_Circle_names (hr.mono (by decide)) T.b_Circle_names .nil pD) (pe_callTy call_tuple_of (by rfl) T.tuple (by decide +kernel) (pa_cons (pe_lc (own := [("_law_one", 7), ("_law_house", 8)]) rfl nd (pi_seq (pv 2)) (blkOk_by (N := N__law_values_right) (sc := defScope s__law_values_right) (by decide +kernel)) (fun _ _ _ _ _ => (show PG _ _ (gTup K 2 _) from pg_tup rfl (pgs_cons (pg_name (i := 7) nd rfl (Or.inl rfl) (.inr rfl)) (pgs_cons (pg_name (i := 8) nd rfl (Or.inl rfl) (.inr rfl)) pgs_nil)))) (fun _ _ _ _ _ => pts_nil) (fun _ _ _ _ _ => (pv 7))) pa_nil)) (nomark _)))))))), ?_⟩
  exact (sims_seq (sims_asg (sim_var 1) (simg_tup (simg_cons (simg_name 2) (simg_cons (simg_name 3) (simg_cons (simg_name 4) (simg_cons (simg_name 5) (simg_cons (simg_name 6) simg_nil))))))) (sims_seq (sims_if (simt_or (simt_test (sim_op sim_neA (sim_tup (sim_cons (sim_fldO T.of_members (sim_var 0)) (sim_cons (sim_fldO T.of_bars (sim_var 0)) (sim_cons (sim_fldO T.of_past (sim_var 0)) sim_nil)))) (sim_tup (sim_cons (sim_var 2) (sim_cons (sim_var 3) (sim_cons (sim_var 4) sim_nil)))))) (simt_test (sim_op sim_neA (sim_fldO T.of_gap (sim_var 0)) (sim_var 5)))) (sims_ret (sim_c fun _ _ _ => .bl _)) sims_next) (sims_seq (sims_if (simt_or (simt_tB (sim_isi (sim_fldO T.of_gap (sim_var 0)))) (simt_test (sim_op sim_neA (sim_cb (sim_o1 (c := 1) ar_def want_str sim_reprS) (sim_cons (sim_var 0) sim_nil)) (sim_op sim_add (sim_op sim_add (sim_c fun _ _ _ => .str _) (sim_cb sim_str (sim_cons (sim_cb sim_len (sim_cons (sim_var 2) sim_nil)) sim_nil))) (sim_c fun _ _ _ => .str _))))) (sims_ret (sim_c fun _ _ _ => .bl _)) sims_next) (sims_seq (sims_if (simt_test (sim_op sim_neA (sim_cb (sim_o1 (c := 1) ar_def want_len sim_len) (sim_cons (sim_var 0) sim_nil)) (sim_cb sim_len (sim_cons (sim_var 2) sim_nil)))) (sims_ret (sim_c fun _ _ _ => .bl _)) sims_next) (sims_ret (sim_op sim_eqA (sim_meth (c := 1) ar_def (fun _ _ _ => .nil) (sim_var 0) sim_nil) (sim_cb sim_tuple (sim_cons (sim_lc (simi_seq (sim_var 2)) (simg_tup (simg_cons (simg_name 7) (simg_cons (simg_name 8) simg_nil))) (own_tup (owns_cons (own_name (by decide)) mono_name (owns_cons (own_name (by decide)) mono_name owns_nil monos_nil) (monos_cons mono_name monos_nil))) simt_yes (sim_var 7)) sim_nil))))))))
theorem ok__law_one_right (T : Tx K P mg) : FnOk P w K mg base (L2.CX P w) 11 T.a__law_one_right T.fd__law_one_right ["_law_circle", "_law_parts_here", "_law_one", "_law_some"] (spOf (gOf T) 4 m__law_one_right) := by
  have G__law_reason := ok__law_reason (w := w) (base := base) T
  have G_Circle_takers := ok_Circle_takers (w := w) (base := base) T
  have G_Circle_givers := ok_Circle_givers (w := w) (base := base) T
  have G_Circle_reason := ok_Circle_reason (w := w) (base := base) T
  refine fn_sim (N := N__law_one_right) T.d__law_one_right.F sc__law_one_right fun cdv A outer s H E hr => ?_
  have nd := sc__law_one_right.nd
  refine ⟨_, (pss_cons (ps_setLc (i := 4) (own := [("_law_other", 6)]) rfl nd rfl rfl (sw_true rfl rfl rfl (by decide +kernel)) (pi_seq (pv 3)) (blkOk_by (N := N__law_one_right) (sc := defScope s__law_one_right) (by decide +kernel)) (fun _ _ _ _ _ => pg_name (i := 6) nd rfl (Or.inl rfl) (.inr rfl)) (fun _ _ _ _ _ => pts_nil) (fun _ _ _ _ _ => (pe_call G__law_reason (hr.mono (by decide)) rfl T.d__law_reason.m T.d__law_reason.F.kp T.d__law_reason.b .nil passL (pa_cons (pv 1) (pa_cons (pv 2) (pa_cons (pv 6) pa_nil)))))) (pss_cons (ps_setLc (i := 5) (own := [("_law_other", 6)]) rfl nd rfl rfl (sw_true rfl rfl rfl (by decide +kernel)) (pi_seq (pv 3)) (blkOk_by (N := N__law_one_right) (sc := defScope s__law_one_right) (by decide +kernel)) (fun _ _ _ _ _ => pg_name (i := 6) nd rfl (Or.inl rfl) (.inr rfl)) (fun _ _ _ _ _ => pts_nil) (fun _ _ _ _ _ => (pe_call G__law_reason (hr.mono (by decide)) rfl T.d__law_reason.m T.d__law_reason.F.kp T.d__law_reason.b .nil passL (pa_cons (pv 1) (pa_cons (pv 6) (pa_cons (pv 2) pa_nil)))))) (pss_cons (ps_if (pt_cmpR (op_neA hr.units) (pe_meth (pv 0) T.cl_Circle.cl T.me_Circle_takers G_Circle_takers (hr.mono (by decide)) T.b_Circle_takers .nil pD (pa_cons (pv 2) pa_nil)) (pe_callTy call_tuple_of (by rfl) T.tuple (by decide +kernel) (pa_cons (pe_lc (own := [("_law_other", 6), ("_law_due", 7)]) rfl nd (pi_zipA rfl T.zip (pa_cons (pv 3) (pa_cons (pv 4) pa_nil))) (blkOk_by (N := N__law_one_right) (sc := defScope s__law_one_right) (by decide +kernel)) (fun _ _ _ _ _ => (show PG _ _ (gTup K 2 _) from pg_tup rfl (pgs_cons (pg_name (i := 6) nd rfl (Or.inl rfl) (.inr rfl)) (pgs_cons (pg_name (i := 7) nd rfl (Or.inl rfl) (.inr rfl)) pgs_nil)))) (fun _ _ _ _ _ => pts_one (pt_cmpR op_isN (pv 7) pe_non (nomark _))) (fun _ _ _ _ _ => (pv 6))) pa_nil)) (nomark _)) (pss_one (ps_ret pe_bl)) pss_nil) (pss_cons (ps_if (pt_cmpR (op_neA hr.units) (pe_meth (pv 0) T.cl_Circle.cl T.me_Circle_givers G_Circle_givers (hr.mono (by decide)) T.b_Circle_givers .nil pD (pa_cons (pv 2) pa_nil)) (pe_callTy call_tuple_of (by rfl) T.tuple (by decide +kernel) (pa_cons (pe_lc (own := [("_law_other", 6), ("_law_due", 7)]) rfl nd (pi_zipA rfl T.zip (pa_cons (pv 3) (pa_cons (pv 5) pa_nil))) (blkOk_by (N := N__law_one_right) (sc := defScope s__law_one_right) (by decide +kernel)) (fun _ _ _ _ _ => (show PG _ _ (gTup K 2 _) from pg_tup rfl (pgs_cons (pg_name (i := 6) nd rfl (Or.inl rfl) (.inr rfl)) (pgs_cons (pg_name (i := 7) nd rfl (Or.inl rfl) (.inr rfl)) pgs_nil)))) (fun _ _ _ _ _ => pts_one (pt_cmpR op_isN (pv 7) pe_non (nomark _))) (fun _ _ _ _ _ => (pv 6))) pa_nil)) (nomark _)) (pss_one (ps_ret pe_bl)) pss_nil) (pss_cons (ps_if (pt_cmpR (op_neA hr.units) (pe_lc (own := [("_law_other", 6)]) rfl nd (pi_seq (pv 3)) (blkOk_by (N := N__law_one_right) (sc := defScope s__law_one_right) (by decide +kernel)) (fun _ _ _ _ _ => pg_name (i := 6) nd rfl (Or.inl rfl) (.inr rfl)) (fun _ _ _ _ _ => pts_nil) (fun _ _ _ _ _ => (pe_meth (pv 0) T.cl_Circle.cl T.me_Circle_reason G_Circle_reason (hr.mono (by decide)) T.b_Circle_reason .nil passL (pa_cons (pv 2) (pa_cons (pv 6) pa_nil))))) (pv 4) (nomark _)) (pss_one (ps_ret pe_bl)) pss_nil) (pss_one (ps_ret (pe_cmpR (op_eqA hr.units) (pe_lc (own := [("_law_other", 6)]) rfl nd (pi_seq (pv 3)) (blkOk_by (N := N__law_one_right) (sc := defScope s__law_one_right) (by decide +kernel)) (fun _ _ _ _ _ => pg_name (i := 6) nd rfl (Or.inl rfl) (.inr rfl)) (fun _ _ _ _ _ => pts_nil) (fun _ _ _ _ _ => (pe_meth (pv 0) T.cl_Circle.cl T.me_Circle_reason G_Circle_reason (hr.mono (by decide)) T.b_Circle_reason .nil passL (pa_cons (pv 6) (pa_cons (pv 2) pa_nil))))) (pv 5) (nomark _))))))))), ?_⟩
  exact (sims_seq (sims_asg (sim_lc (simi_seq (sim_var 3)) (simg_name 6) (own_name (by decide)) simt_yes (sim_call ar_def (sim_cons (sim_var 1) (sim_cons (sim_var 2) (sim_cons (sim_var 6) sim_nil))))) (simg_name 4)) (sims_seq (sims_asg (sim_lc (simi_seq (sim_var 3)) (simg_name 6) (own_name (by decide)) simt_yes (sim_call ar_def (sim_cons (sim_var 1) (sim_cons (sim_var 6) (sim_cons (sim_var 2) sim_nil))))) (simg_name 5)) (sims_seq (sims_if (simt_test (sim_op sim_neA (sim_meth (c := 1) ar_def (fun _ _ _ => .nil) (sim_var 0) (sim_cons (sim_var 2) sim_nil)) (sim_cb sim_tuple (sim_cons (sim_lc (simi_zip (sim_cons (sim_var 3) (sim_cons (sim_var 4) sim_nil))) (simg_tup (simg_cons (simg_name 6) (simg_cons (simg_name 7) simg_nil))) (own_tup (owns_cons (own_name (by decide)) mono_name (owns_cons (own_name (by decide)) mono_name owns_nil monos_nil) (monos_cons mono_name monos_nil))) (simt_test (sim_op sim_isN (sim_var 7) (sim_c fun _ _ _ => .non))) (sim_var 6)) sim_nil)))) (sims_ret (sim_c fun _ _ _ => .bl _)) sims_next) (sims_seq (sims_if (simt_test (sim_op sim_neA (sim_meth (c := 1) ar_def (fun _ _ _ => .nil) (sim_var 0) (sim_cons (sim_var 2) sim_nil)) (sim_cb sim_tuple (sim_cons (sim_lc (simi_zip (sim_cons (sim_var 3) (sim_cons (sim_var 5) sim_nil))) (simg_tup (simg_cons (simg_name 6) (simg_cons (simg_name 7) simg_nil))) (own_tup (owns_cons (own_name (by decide)) mono_name (owns_cons (own_name (by decide)) mono_name owns_nil monos_nil) (monos_cons mono_name monos_nil))) (simt_test (sim_op sim_isN (sim_var 7) (sim_c fun _ _ _ => .non))) (sim_var 6)) sim_nil)))) (sims_ret (sim_c fun _ _ _ => .bl _)) sims_next) (sims_seq (sims_if (simt_test (sim_op sim_neA (sim_lc (simi_seq (sim_var 3)) (simg_name 6) (own_name (by decide)) simt_yes (sim_meth (c := 1) ar_def (fun _ _ _ => .nil) (sim_var 0) (sim_cons (sim_var 2) (sim_cons (sim_var 6) sim_nil)))) (sim_var 4))) (sims_ret (sim_c fun _ _ _ => .bl _)) sims_next) (sims_ret (sim_op sim_eqA (sim_lc (simi_seq (sim_var 3)) (simg_name 6) (own_name (by decide)) simt_yes (sim_meth (c := 1) ar_def (fun _ _ _ => .nil) (sim_var 0) (sim_cons (sim_var 6) (sim_cons (sim_var 2) sim_nil)))) (sim_var 5))))))))
theorem ok__law_right (T : Tx K P mg) : FnOk P w K mg base (L2.CX P w) 12 T.a__law_right T.fd__law_right ["_law_pot_here", "_law_circle", "_law_parts_here"] (spOf (gOf T) 3 m__law_right) := by
  have G_Circle_house_of := ok_Circle_house_of (w := w) (base := base) T
  have G__law_pick := ok__law_pick (w := w) (base := base) T
  have G__law_one_right := ok__law_one_right (w := w) (base := base) T
  refine fn_sim (N := N__law_right) T.d__law_right.F sc__law_right fun cdv A outer s H E hr => ?_
  have nd := sc__law_right.nd
  refine ⟨_, (pss_cons (ps_set (i := 3) nd rfl (Or.inr rfl) (pe_lc (own := [("_law_one", 5), ("_law_house", 6)]) rfl nd (pi_seq (pe_ix ix_seq (pv 2) pe_int (fun _ _ => rfl))) (blkOk_by (N := N__law_right) (sc := defScope s__law_right) (by decide +kernel)) (fun _ _ _ _ _ => (show PG _ _ (gTup K 2 _) from pg_tup rfl (pgs_cons (pg_name (i := 5) nd rfl (Or.inl rfl) (.inr rfl)) (pgs_cons (pg_name (i := 6) nd rfl (Or.inl rfl) (.inr rfl)) pgs_nil)))) (fun _ _ _ _ _ => pts_nil) (fun _ _ _ _ _ => (pv 5)))) (pss_cons (ps_if (pt_not (pt_val (pe_callB (cr_all rfl) (by rfl) T.all (by decide +kernel) (pa_cons (pe_lc (own := [("_law_one", 5), ("_law_house", 6)]) rfl nd (pi_seq (pe_ix ix_seq (pv 2) pe_int (fun _ _ => rfl))) (blkOk_by (N := N__law_right) (sc := defScope s__law_right) (by decide +kernel)) (fun _ _ _ _ _ => (show PG _ _ (gTup K 2 _) from pg_tup rfl (pgs_cons (pg_name (i := 5) nd rfl (Or.inl rfl) (.inr rfl)) (pgs_cons (pg_name (i := 6) nd rfl (Or.inl rfl) (.inr rfl)) pgs_nil)))) (fun _ _ _ _ _ => pts_nil) (fun _ _ _ _ _ => (pe_cmpR (show OpR _ _ (rEqA K) from (op_eqA hr.units)) (pe_meth (pv 1) T.cl_Circle.cl T.me_Circle_house_of G_Circle_house_of (hr.mono (by decide)) T.b_Circle_house_of .nil passL (pa_cons (pv 5) pa_nil)) (pv 6) (nomark _)))) pa_nil)))) (pss_one (ps_ret pe_bl)) pss_nil) (pss_cons (ps_set (i := 4) nd rfl (Or.inl rfl) (pe_ifExp (pt_cmpR (op_ltA hr.units) (pe_callB call_len (by rfl) T.len PySem.boot_len (pa_cons (pv 3) pa_nil)) pe_int (nomark _)) (pv 3) (pe_lc (own := [("_law_k", 7)]) rfl nd (pi_range1 rfl T.range (pa_cons pe_int pa_nil)) (blkOk_by (N := N__law_right) (sc := defScope s__law_right) (by decide +kernel)) (fun _ _ _ _ _ => pg_name (i := 7) nd rfl (Or.inl rfl) (.inr rfl)) (fun _ _ _ _ _ => pts_nil) (fun _ _ _ _ _ => (pe_call G__law_pick (hr.mono (by decide)) rfl T.d__law_pick.m T.d__law_pick.F.kp T.d__law_pick.b .nil passL (pa_cons (pv 0) (pa_cons (pv 3) pa_nil))))))) (pss_one (ps_ret (pe_callB (cr_all rfl) (by rfl) T.all (by decide +kernel) (pa_cons (pe_lc (own := [("_law_one", 5)]) rfl nd (pi_seq (pv 4)) (blkOk_by (N := N__law_right) (sc := defScope s__law_right) (by decide +kernel)) (fun _ _ _ _ _ => pg_name (i := 5) nd rfl (Or.inl rfl) (.inr rfl)) (fun _ _ _ _ _ => pts_nil) (fun _ _ _ _ _ => (pe_call G__law_one_right (hr.mono (by decide)) rfl T.d__law_one_right.m T.d__law_one_right.F.kp T.d__law_one_right.b .nil passL (pa_cons (pv 1) (pa_cons (pv 2) (pa_cons (pv 5) (pa_cons (pv 3) pa_nil))))))) pa_nil))))))), ?_⟩
  exact (sims_seq (sims_asg (sim_lc (simi_seq (sim_op sim_ix (sim_var 2) (sim_c fun _ _ _ => .int _))) (simg_tup (simg_cons (simg_name 5) (simg_cons (simg_name 6) simg_nil))) (own_tup (owns_cons (own_name (by decide)) mono_name (owns_cons (own_name (by decide)) mono_name owns_nil monos_nil) (monos_cons mono_name monos_nil))) simt_yes (sim_var 5)) (simg_name 3)) (sims_seq (sims_if (simt_not (simt_tB (sim_cb sim_all (sim_cons (sim_lc (simi_seq (sim_op sim_ix (sim_var 2) (sim_c fun _ _ _ => .int _))) (simg_tup (simg_cons (simg_name 5) (simg_cons (simg_name 6) simg_nil))) (own_tup (owns_cons (own_name (by decide)) mono_name (owns_cons (own_name (by decide)) mono_name owns_nil monos_nil) (monos_cons mono_name monos_nil))) simt_yes (sim_op sim_eqA (sim_meth (c := 1) ar_def (fun _ _ _ => .nil) (sim_var 1) (sim_cons (sim_var 5) sim_nil)) (sim_var 6))) sim_nil)))) (sims_ret (sim_c fun _ _ _ => .bl _)) sims_next) (sims_seq (sims_asg (sim_if (simt_test (sim_op sim_ltA (sim_cb sim_len (sim_cons (sim_var 3) sim_nil)) (sim_c fun _ _ _ => .int _))) (sim_var 3) (sim_lc (simi_range1 (sim_cons (sim_c fun _ _ _ => .int _) sim_nil)) (simg_name 7) (own_name (by decide)) simt_yes (sim_call ar_def (sim_cons (sim_var 0) (sim_cons (sim_var 3) sim_nil))))) (simg_name 4)) (sims_ret (sim_cb sim_all (sim_cons (sim_lc (simi_seq (sim_var 4)) (simg_name 5) (own_name (by decide)) simt_yes (sim_call ar_def (sim_cons (sim_var 1) (sim_cons (sim_var 2) (sim_cons (sim_var 5) (sim_cons (sim_var 3) sim_nil)))))) sim_nil))))))
theorem ok_law (T : Tx K P mg) : FnOk P w K mg base (L2.CX P w) 13 T.a_law T.fd_law ["_law_script"] (spOf (gOf T) 1 m_law) := by
  have G__law_pot := ok__law_pot (w := w) (base := base) T
  have G__law_parts := ok__law_parts (w := w) (base := base) T
  have G__law_draw := ok__law_draw (w := w) (base := base) T
  have G_Circle_init := ok_Circle_init (w := w) (base := base) T
  have G__law_values_right := ok__law_values_right (w := w) (base := base) T
  have G__law_right := ok__law_right (w := w) (base := base) T
  refine fn_sim (N := N_law) T.d_law.F sc_law fun cdv A outer s H E hr => ?_
  have nd := sc_law.nd
  refine ⟨_, (pss_cons (ps_par (i := 1) (j := 2) rfl nd rfl rfl (by decide) rfl rfl (pa_cons (pe_call G__law_pot (hr.mono (by decide)) rfl T.d__law_pot.m T.d__law_pot.F.kp T.d__law_pot.b .nil pD (pa_cons (pv 0) pa_nil)) (pa_cons pe_non pa_nil)) rfl) (pss_cons (ps_for (passes_of rfl) rfl (pi_range1 rfl T.range (pa_cons (pe_callB (call_max2 rfl) (by rfl) T.max (by decide +kernel) (pa_cons pe_int (pa_cons (pe_callB (call_min2 rfl) (by rfl) T.min (by decide +kernel) (pa_cons (pe_callB call_len (by rfl) T.len PySem.boot_len (pa_cons (pv 0) pa_nil)) (pa_cons pe_int pa_nil))) pa_nil))) pa_nil)) (pg_name (i := 3) nd rfl (Or.inl rfl)) (pss_cons (ps_set (i := 4) nd rfl (Or.inl rfl) (pe_call G__law_parts (hr.mono (by decide)) rfl T.d__law_parts.m T.d__law_parts.F.kp T.d__law_parts.b .nil pD (pa_cons (pv 1) (pa_cons (pe_ifExp (pt_cmpR (op_eqA hr.units) (pe_op op_addA (pe_call G__law_draw (hr.mono (by decide)) rfl T.d__law_draw.m T.d__law_draw.F.kp T.d__law_draw.b .nil pD (pa_cons (pv 1) (pa_cons pe_int pa_nil))) (pv 3)) pe_int (nomark _)) pe_int pe_int) pa_nil)))) (pss_cons (ps_set (i := 5) nd rfl (Or.inl rfl) (pe_make T.mk_Circle G_Circle_init (hr.mono (by decide)) (by rfl) T.c_Circle T.b4_Circle_init T.v4_Circle_init pD (pa_cons (pe_ix ix_seq (pv 4) pe_int (fun _ _ => rfl)) (pa_cons (pe_ix ix_seq (pv 4) pe_int (fun _ _ => rfl)) (pa_cons (pe_ix ix_seq (pv 4) pe_int (fun _ _ => rfl)) (pa_cons (pe_ix ix_seq (pv 4) pe_int (fun _ _ => rfl)) pa_nil)))))) (pss_cons (ps_if (PW.pt (pw_or (pt_not (pt_val (pe_call G__law_values_right (hr.mono (by decide)) rfl T.d__law_values_right.m T.d__law_values_right.F.kp T.d__law_values_right.b .nil pD (pa_cons (pv 5) (pa_cons (pv 4) pa_nil))))) (pw_or1 (pt_not (pt_val (pe_call G__law_right (hr.mono (by decide)) rfl T.d__law_right.m T.d__law_right.F.kp T.d__law_right.b .nil pD (pa_cons (pv 1) (pa_cons (pv 5) (pa_cons (pv 4) pa_nil))))))))) (pss_one (ps_ret pe_bl)) pss_nil) (pss_cons (ps_if (PW.pt (pw_and (pt_cmpR op_notN (pv 2) pe_non (nomark _)) (pw_and1 (pt_not (pt_val (pe_call G__law_values_right (hr.mono (by decide)) rfl T.d__law_values_right.m T.d__law_values_right.F.kp T.d__law_values_right.b .nil pD (pa_cons (pe_ix ix_seq (pv 2) pe_int (fun _ _ => rfl)) (pa_cons (pe_ix ix_seq (pv 2) pe_int (fun _ _ => rfl)) pa_nil)))))))) (pss_one (ps_ret pe_bl)) pss_nil) (pss_cons (ps_set (i := 6) nd rfl (Or.inl rfl) (pe_make T.mk_Circle G_Circle_init (hr.mono (by decide)) (by rfl) T.c_Circle T.b1_Circle_init T.v1_Circle_init pD (pa_cons (pe_ix ix_seq (pv 4) pe_int (fun _ _ => rfl)) pa_nil))) (pss_cons (ps_if (pt_not (pt_val (pe_call G__law_values_right (hr.mono (by decide)) rfl T.d__law_values_right.m T.d__law_values_right.F.kp T.d__law_values_right.b .nil pD (pa_cons (pv 6) (pa_cons (pe_tup (pa_cons (pe_ix ix_seq (pv 4) pe_int (fun _ _ => rfl)) (pa_cons (pe_tup pa_nil) (pa_cons (pe_tup pa_nil) (pa_cons pe_int (pa_cons (pe_ix ix_seq (pv 4) pe_int (fun _ _ => rfl)) pa_nil)))))) pa_nil))))) (pss_one (ps_ret pe_bl)) pss_nil) (pss_one (ps_set (i := 2) nd rfl (Or.inl rfl) (pe_tup (pa_cons (pv 5) (pa_cons (pv 4) pa_nil)))))))))))) (pss_one (ps_ret pe_bl)))), ?_⟩
  exact (sims_seq (sims_par (sim_cons (sim_call ar_def (sim_cons (sim_var 0) sim_nil)) (sim_cons (sim_c fun _ _ _ => .non) sim_nil))) (sims_seq (sims_for (simi_range1 (sim_cons (sim_cb sim_max2 (sim_cons (sim_c fun _ _ _ => .int _) (sim_cons (sim_cb sim_min2 (sim_cons (sim_cb sim_len (sim_cons (sim_var 0) sim_nil)) (sim_cons (sim_c fun _ _ _ => .int _) sim_nil))) sim_nil))) sim_nil)) (simg_name 3) (sims_seq (sims_asg (sim_call ar_def (sim_cons (sim_var 1) (sim_cons (sim_if (simt_test (sim_op sim_eqA (sim_op sim_add (sim_call ar_def (sim_cons (sim_var 1) (sim_cons (sim_c fun _ _ _ => .int _) sim_nil))) (sim_var 3)) (sim_c fun _ _ _ => .int _))) (sim_c fun _ _ _ => .int _) (sim_c fun _ _ _ => .int _)) sim_nil))) (simg_name 4)) (sims_seq (sims_asg (sim_make (c := 1) ar_def (fun _ _ _ => .nil) (sim_cons (sim_op sim_ix (sim_var 4) (sim_c fun _ _ _ => .int _)) (sim_cons (sim_op sim_ix (sim_var 4) (sim_c fun _ _ _ => .int _)) (sim_cons (sim_op sim_ix (sim_var 4) (sim_c fun _ _ _ => .int _)) (sim_cons (sim_op sim_ix (sim_var 4) (sim_c fun _ _ _ => .int _)) sim_nil))))) (simg_name 5)) (sims_seq (sims_if (simt_or (simt_not (simt_tB (sim_call ar_def (sim_cons (sim_var 5) (sim_cons (sim_var 4) sim_nil))))) (simt_not (simt_tB (sim_call ar_def (sim_cons (sim_var 1) (sim_cons (sim_var 5) (sim_cons (sim_var 4) sim_nil))))))) (sims_ret (sim_c fun _ _ _ => .bl _)) sims_next) (sims_seq (sims_if (simt_and (simt_test (sim_op sim_notN (sim_var 2) (sim_c fun _ _ _ => .non))) (simt_not (simt_tB (sim_call ar_def (sim_cons (sim_op sim_ix (sim_var 2) (sim_c fun _ _ _ => .int _)) (sim_cons (sim_op sim_ix (sim_var 2) (sim_c fun _ _ _ => .int _)) sim_nil)))))) (sims_ret (sim_c fun _ _ _ => .bl _)) sims_next) (sims_seq (sims_asg (sim_make (c := 1) ar_def (fun _ _ _ => (.cons .non (.cons .non (.cons (.int _) .nil)))) (sim_cons (sim_op sim_ix (sim_var 4) (sim_c fun _ _ _ => .int _)) sim_nil)) (simg_name 6)) (sims_seq (sims_if (simt_not (simt_tB (sim_call ar_def (sim_cons (sim_var 6) (sim_cons (sim_tup (sim_cons (sim_op sim_ix (sim_var 4) (sim_c fun _ _ _ => .int _)) (sim_cons (sim_tup sim_nil) (sim_cons (sim_tup sim_nil) (sim_cons (sim_c fun _ _ _ => .int _) (sim_cons (sim_op sim_ix (sim_var 4) (sim_c fun _ _ _ => .int _)) sim_nil)))))) sim_nil))))) (sims_ret (sim_c fun _ _ _ => .bl _)) sims_next) (sims_asg (sim_tup (sim_cons (sim_var 5) (sim_cons (sim_var 4) sim_nil))) (simg_name 2))))))))) (sims_ret (sim_c fun _ _ _ => .bl _))))
end
theorem all_mk {P : Program} {w : World} {K : PySem.W.Frag} {h : Heap} {mg : PySem.Str → Option Value} {fa : Addr} (X : K.In h) (GG : h.Ns mainGlobals mg) (hfa : mg "law" = some (.ref fa))
    {Lx C0 C1 amember_rows ais_name acopied alast_of a_law_blend a_law_pot a_law_draw a_law_pick a_law_words a_law_pairs a_law_turned_round a_law_parts a_law_reason a_law_values_right a_law_one_right a_law_right alaw fi_NoMember cai_NoMember cci_NoMember aCircle_init dtCircle_init aCircle_eq aCircle_len aCircle_repr aCircle_names aCircle_has aCircle_house_of aCircle_reason aCircle_takers aCircle_givers : Addr} {odmember_rows anmember_rows odis_name anis_name odcopied ancopied odlast_of anlast_of od_law_blend an_law_blend od_law_pot an_law_pot od_law_draw an_law_draw od_law_pick an_law_pick od_law_words an_law_words od_law_pairs an_law_pairs od_law_turned_round an_law_turned_round od_law_parts an_law_parts od_law_reason an_law_reason od_law_values_right an_law_values_right od_law_one_right an_law_one_right od_law_right an_law_right odlaw anlaw odi_NoMember ani_NoMember odCircle_init anCircle_init doCircle_init odCircle_eq anCircle_eq odCircle_len anCircle_len odCircle_repr anCircle_repr odCircle_names anCircle_names odCircle_has anCircle_has odCircle_house_of anCircle_house_of odCircle_reason anCircle_reason odCircle_takers anCircle_takers odCircle_givers anCircle_givers : Option Addr} {slmember_rows slis_name slcopied sllast_of sl_law_blend sl_law_pot sl_law_draw sl_law_pick sl_law_words sl_law_pairs sl_law_turned_round sl_law_parts sl_law_reason sl_law_values_right sl_law_one_right sl_law_right sllaw sli_NoMember slCircle_init dsCircle_init slCircle_eq slCircle_len slCircle_repr slCircle_names slCircle_has slCircle_house_of slCircle_reason slCircle_takers slCircle_givers : Array (Option Value)} {ocmember_rows kVmember_rows dcmember_rows pmmember_rows cdmember_rows ctmember_rows ocis_name kVis_name dcis_name pmis_name cdis_name ctis_name occopied kVcopied dccopied pmcopied cdcopied ctcopied oclast_of kVlast_of dclast_of pmlast_of cdlast_of ctlast_of oc_law_blend kV_law_blend dc_law_blend pm_law_blend cd_law_blend ct_law_blend oc_law_pot kV_law_pot dc_law_pot pm_law_pot cd_law_pot ct_law_pot oc_law_draw kV_law_draw dc_law_draw pm_law_draw cd_law_draw ct_law_draw oc_law_pick kV_law_pick dc_law_pick pm_law_pick cd_law_pick ct_law_pick oc_law_words kV_law_words dc_law_words pm_law_words cd_law_words ct_law_words oc_law_pairs kV_law_pairs dc_law_pairs pm_law_pairs cd_law_pairs ct_law_pairs oc_law_turned_round kV_law_turned_round dc_law_turned_round pm_law_turned_round cd_law_turned_round ct_law_turned_round oc_law_parts kV_law_parts dc_law_parts pm_law_parts cd_law_parts ct_law_parts oc_law_reason kV_law_reason dc_law_reason pm_law_reason cd_law_reason ct_law_reason oc_law_values_right kV_law_values_right dc_law_values_right pm_law_values_right cd_law_values_right ct_law_values_right oc_law_one_right kV_law_one_right dc_law_one_right pm_law_one_right cd_law_one_right ct_law_one_right oc_law_right kV_law_right dc_law_right pm_law_right cd_law_right ct_law_right oclaw kVlaw dclaw pmlaw cdlaw ctlaw oci_NoMember kVi_NoMember dci_NoMember pmi_NoMember cti_NoMember ocCircle_init kVCircle_init dcCircle_init pmCircle_init cdCircle_init ctCircle_init dcCircle_initT ocCircle_eq kVCircle_eq dcCircle_eq pmCircle_eq cdCircle_eq ctCircle_eq ocCircle_len kVCircle_len dcCircle_len pmCircle_len cdCircle_len ctCircle_len ocCircle_repr kVCircle_repr dcCircle_repr pmCircle_repr cdCircle_repr ctCircle_repr ocCircle_names kVCircle_names dcCircle_names pmCircle_names cdCircle_names ctCircle_names ocCircle_has kVCircle_has dcCircle_has pmCircle_has cdCircle_has ctCircle_has ocCircle_house_of kVCircle_house_of dcCircle_house_of pmCircle_house_of cdCircle_house_of ctCircle_house_of ocCircle_reason kVCircle_reason dcCircle_reason pmCircle_reason cdCircle_reason ctCircle_reason ocCircle_takers kVCircle_takers dcCircle_takers pmCircle_takers cdCircle_takers ctCircle_takers ocCircle_givers kVCircle_givers dcCircle_givers pmCircle_givers cdCircle_givers ctCircle_givers : Value} {tk2Circle_init tkLETTERS : Tok} {dnCircle_init : Nat}
    (n_NoMember : PySem.W.nsIn K mainGlobals "NoMember" = some (some (.ref C0)))
    (n_Circle : PySem.W.nsIn K mainGlobals "Circle" = some (some (.ref C1)))
    (n_LotError : PySem.W.nsIn K mainGlobals "LotError" = some (some (.ref Lx)))
    (nmember_rows : PySem.W.nsIn K mainGlobals "member_rows" = some (some (.ref amember_rows)))
    (lmember_rows : K.lookup amember_rows = some ⟨ocmember_rows, odmember_rows, .func (PySem.W.fnOf "member_rows" "member_rows" (defArgs s_member_rows) (defBody s_member_rows) (defScope s_member_rows) .none kVmember_rows dcmember_rows pmmember_rows anmember_rows cdmember_rows ctmember_rows), slmember_rows⟩)
    (cmember_rows : PySem.W.codeIn K cdmember_rows "member_rows" = true)
    (kmember_rows : PySem.W.keepIn K (.ref amember_rows) = true)
    (nis_name : PySem.W.nsIn K mainGlobals "is_name" = some (some (.ref ais_name)))
    (lis_name : K.lookup ais_name = some ⟨ocis_name, odis_name, .func (PySem.W.fnOf "is_name" "is_name" (defArgs s_is_name) (defBody s_is_name) (defScope s_is_name) .none kVis_name dcis_name pmis_name anis_name cdis_name ctis_name), slis_name⟩)
    (cis_name : PySem.W.codeIn K cdis_name "is_name" = true)
    (kis_name : PySem.W.keepIn K (.ref ais_name) = true)
    (ncopied : PySem.W.nsIn K mainGlobals "copied" = some (some (.ref acopied)))
    (lcopied : K.lookup acopied = some ⟨occopied, odcopied, .func (PySem.W.fnOf "copied" "copied" (defArgs s_copied) (defBody s_copied) (defScope s_copied) .none kVcopied dccopied pmcopied ancopied cdcopied ctcopied), slcopied⟩)
    (ccopied : PySem.W.codeIn K cdcopied "copied" = true)
    (kcopied : PySem.W.keepIn K (.ref acopied) = true)
    (nlast_of : PySem.W.nsIn K mainGlobals "last_of" = some (some (.ref alast_of)))
    (llast_of : K.lookup alast_of = some ⟨oclast_of, odlast_of, .func (PySem.W.fnOf "last_of" "last_of" (defArgs s_last_of) (defBody s_last_of) (defScope s_last_of) .none kVlast_of dclast_of pmlast_of anlast_of cdlast_of ctlast_of), sllast_of⟩)
    (clast_of : PySem.W.codeIn K cdlast_of "last_of" = true)
    (klast_of : PySem.W.keepIn K (.ref alast_of) = true)
    (n_law_blend : PySem.W.nsIn K mainGlobals "_law_blend" = some (some (.ref a_law_blend)))
    (l_law_blend : K.lookup a_law_blend = some ⟨oc_law_blend, od_law_blend, .func (PySem.W.fnOf "_law_blend" "_law_blend" (defArgs s__law_blend) (defBody s__law_blend) (defScope s__law_blend) .none kV_law_blend dc_law_blend pm_law_blend an_law_blend cd_law_blend ct_law_blend), sl_law_blend⟩)
    (c_law_blend : PySem.W.codeIn K cd_law_blend "_law_blend" = true)
    (k_law_blend : PySem.W.keepIn K (.ref a_law_blend) = true)
    (n_law_pot : PySem.W.nsIn K mainGlobals "_law_pot" = some (some (.ref a_law_pot)))
    (l_law_pot : K.lookup a_law_pot = some ⟨oc_law_pot, od_law_pot, .func (PySem.W.fnOf "_law_pot" "_law_pot" (defArgs s__law_pot) (defBody s__law_pot) (defScope s__law_pot) .none kV_law_pot dc_law_pot pm_law_pot an_law_pot cd_law_pot ct_law_pot), sl_law_pot⟩)
    (c_law_pot : PySem.W.codeIn K cd_law_pot "_law_pot" = true)
    (k_law_pot : PySem.W.keepIn K (.ref a_law_pot) = true)
    (n_law_draw : PySem.W.nsIn K mainGlobals "_law_draw" = some (some (.ref a_law_draw)))
    (l_law_draw : K.lookup a_law_draw = some ⟨oc_law_draw, od_law_draw, .func (PySem.W.fnOf "_law_draw" "_law_draw" (defArgs s__law_draw) (defBody s__law_draw) (defScope s__law_draw) .none kV_law_draw dc_law_draw pm_law_draw an_law_draw cd_law_draw ct_law_draw), sl_law_draw⟩)
    (c_law_draw : PySem.W.codeIn K cd_law_draw "_law_draw" = true)
    (k_law_draw : PySem.W.keepIn K (.ref a_law_draw) = true)
    (n_law_pick : PySem.W.nsIn K mainGlobals "_law_pick" = some (some (.ref a_law_pick)))
    (l_law_pick : K.lookup a_law_pick = some ⟨oc_law_pick, od_law_pick, .func (PySem.W.fnOf "_law_pick" "_law_pick" (defArgs s__law_pick) (defBody s__law_pick) (defScope s__law_pick) .none kV_law_pick dc_law_pick pm_law_pick an_law_pick cd_law_pick ct_law_pick), sl_law_pick⟩)
    (c_law_pick : PySem.W.codeIn K cd_law_pick "_law_pick" = true)
    (k_law_pick : PySem.W.keepIn K (.ref a_law_pick) = true)
    (n_law_words : PySem.W.nsIn K mainGlobals "_law_words" = some (some (.ref a_law_words)))
    (l_law_words : K.lookup a_law_words = some ⟨oc_law_words, od_law_words, .func (PySem.W.fnOf "_law_words" "_law_words" (defArgs s__law_words) (defBody s__law_words) (defScope s__law_words) .none kV_law_words dc_law_words pm_law_words an_law_words cd_law_words ct_law_words), sl_law_words⟩)
    (c_law_words : PySem.W.codeIn K cd_law_words "_law_words" = true)
    (k_law_words : PySem.W.keepIn K (.ref a_law_words) = true)
    (n_law_pairs : PySem.W.nsIn K mainGlobals "_law_pairs" = some (some (.ref a_law_pairs)))
    (l_law_pairs : K.lookup a_law_pairs = some ⟨oc_law_pairs, od_law_pairs, .func (PySem.W.fnOf "_law_pairs" "_law_pairs" (defArgs s__law_pairs) (defBody s__law_pairs) (defScope s__law_pairs) .none kV_law_pairs dc_law_pairs pm_law_pairs an_law_pairs cd_law_pairs ct_law_pairs), sl_law_pairs⟩)
    (c_law_pairs : PySem.W.codeIn K cd_law_pairs "_law_pairs" = true)
    (k_law_pairs : PySem.W.keepIn K (.ref a_law_pairs) = true)
    (n_law_turned_round : PySem.W.nsIn K mainGlobals "_law_turned_round" = some (some (.ref a_law_turned_round)))
    (l_law_turned_round : K.lookup a_law_turned_round = some ⟨oc_law_turned_round, od_law_turned_round, .func (PySem.W.fnOf "_law_turned_round" "_law_turned_round" (defArgs s__law_turned_round) (defBody s__law_turned_round) (defScope s__law_turned_round) .none kV_law_turned_round dc_law_turned_round pm_law_turned_round an_law_turned_round cd_law_turned_round ct_law_turned_round), sl_law_turned_round⟩)
    (c_law_turned_round : PySem.W.codeIn K cd_law_turned_round "_law_turned_round" = true)
    (k_law_turned_round : PySem.W.keepIn K (.ref a_law_turned_round) = true)
    (n_law_parts : PySem.W.nsIn K mainGlobals "_law_parts" = some (some (.ref a_law_parts)))
    (l_law_parts : K.lookup a_law_parts = some ⟨oc_law_parts, od_law_parts, .func (PySem.W.fnOf "_law_parts" "_law_parts" (defArgs s__law_parts) (defBody s__law_parts) (defScope s__law_parts) .none kV_law_parts dc_law_parts pm_law_parts an_law_parts cd_law_parts ct_law_parts), sl_law_parts⟩)
    (c_law_parts : PySem.W.codeIn K cd_law_parts "_law_parts" = true)
    (k_law_parts : PySem.W.keepIn K (.ref a_law_parts) = true)
    (n_law_reason : PySem.W.nsIn K mainGlobals "_law_reason" = some (some (.ref a_law_reason)))
    (l_law_reason : K.lookup a_law_reason = some ⟨oc_law_reason, od_law_reason, .func (PySem.W.fnOf "_law_reason" "_law_reason" (defArgs s__law_reason) (defBody s__law_reason) (defScope s__law_reason) .none kV_law_reason dc_law_reason pm_law_reason an_law_reason cd_law_reason ct_law_reason), sl_law_reason⟩)
    (c_law_reason : PySem.W.codeIn K cd_law_reason "_law_reason" = true)
    (k_law_reason : PySem.W.keepIn K (.ref a_law_reason) = true)
    (n_law_values_right : PySem.W.nsIn K mainGlobals "_law_values_right" = some (some (.ref a_law_values_right)))
    (l_law_values_right : K.lookup a_law_values_right = some ⟨oc_law_values_right, od_law_values_right, .func (PySem.W.fnOf "_law_values_right" "_law_values_right" (defArgs s__law_values_right) (defBody s__law_values_right) (defScope s__law_values_right) .none kV_law_values_right dc_law_values_right pm_law_values_right an_law_values_right cd_law_values_right ct_law_values_right), sl_law_values_right⟩)
    (c_law_values_right : PySem.W.codeIn K cd_law_values_right "_law_values_right" = true)
    (k_law_values_right : PySem.W.keepIn K (.ref a_law_values_right) = true)
    (n_law_one_right : PySem.W.nsIn K mainGlobals "_law_one_right" = some (some (.ref a_law_one_right)))
    (l_law_one_right : K.lookup a_law_one_right = some ⟨oc_law_one_right, od_law_one_right, .func (PySem.W.fnOf "_law_one_right" "_law_one_right" (defArgs s__law_one_right) (defBody s__law_one_right) (defScope s__law_one_right) .none kV_law_one_right dc_law_one_right pm_law_one_right an_law_one_right cd_law_one_right ct_law_one_right), sl_law_one_right⟩)
    (c_law_one_right : PySem.W.codeIn K cd_law_one_right "_law_one_right" = true)
    (k_law_one_right : PySem.W.keepIn K (.ref a_law_one_right) = true)
    (n_law_right : PySem.W.nsIn K mainGlobals "_law_right" = some (some (.ref a_law_right)))
    (l_law_right : K.lookup a_law_right = some ⟨oc_law_right, od_law_right, .func (PySem.W.fnOf "_law_right" "_law_right" (defArgs s__law_right) (defBody s__law_right) (defScope s__law_right) .none kV_law_right dc_law_right pm_law_right an_law_right cd_law_right ct_law_right), sl_law_right⟩)
    (c_law_right : PySem.W.codeIn K cd_law_right "_law_right" = true)
    (k_law_right : PySem.W.keepIn K (.ref a_law_right) = true)
    (nlaw : PySem.W.nsIn K mainGlobals "law" = some (some (.ref alaw)))
    (llaw : K.lookup alaw = some ⟨oclaw, odlaw, .func (PySem.W.fnOf "law" "law" (defArgs s_law) (defBody s_law) (defScope s_law) .none kVlaw dclaw pmlaw anlaw cdlaw ctlaw), sllaw⟩)
    (claw : PySem.W.codeIn K cdlaw "law" = true)
    (klaw : PySem.W.keepIn K (.ref alaw) = true)
    (ii_NoMember : PySem.W.findIn K (.ref C0) "__init__" = some (some (.ref fi_NoMember)))
    (li_NoMember : K.lookup fi_NoMember = some ⟨oci_NoMember, odi_NoMember, .func (PySem.W.ksFn "__init__" "NoMember.__init__" (defArgs s_i_NoMember) (defBody s_i_NoMember) (defScope s_i_NoMember) .none kVi_NoMember dci_NoMember pmi_NoMember ani_NoMember (.ref cai_NoMember) cti_NoMember cci_NoMember), sli_NoMember⟩)
    (ci_NoMember : PySem.W.codeIn K (.ref cai_NoMember) "NoMember.__init__" = true)
    (ti_NoMember : PySem.W.typeIn K (.ref fi_NoMember) = some (.type "function"))
    (ui_NoMember : supB K P C0 cai_NoMember cci_NoMember = true)
    (hx : ((List.range 1).all fun c => excCB K ([C0, C1].getD c 0)) = true)
    (mCircle_init : PySem.W.findIn K (.ref C1) "__init__" = some (some (.ref aCircle_init)))
    (tCircle_init : K.lookup dtCircle_init = some ⟨dcCircle_initT, doCircle_init, .seq [.none, .none, .int 1 tk2Circle_init].toArray dnCircle_init, dsCircle_init⟩)
    (lCircle_init : K.lookup aCircle_init = some ⟨ocCircle_init, odCircle_init, .func (PySem.W.fnOf "__init__" "Circle.__init__" (defArgs s_Circle_init) (defBody s_Circle_init) (defScope s_Circle_init) (.ref dtCircle_init) kVCircle_init dcCircle_init pmCircle_init anCircle_init cdCircle_init ctCircle_init), slCircle_init⟩)
    (cCircle_init : PySem.W.codeIn K cdCircle_init "Circle.__init__" = true)
    (kCircle_init : PySem.W.keepIn K (.ref aCircle_init) = true)
    (fCircle_init : PySem.W.isFn K (.ref aCircle_init) = true)
    (mkCircle : PySem.W.makesIn K C1 = true)
    (kcCircle : PySem.W.keepIn K (.ref C1) = true)
    (mCircle_eq : PySem.W.findIn K (.ref C1) "__eq__" = some (some (.ref aCircle_eq)))
    (lCircle_eq : K.lookup aCircle_eq = some ⟨ocCircle_eq, odCircle_eq, .func (PySem.W.fnOf "__eq__" "Circle.__eq__" (defArgs s_Circle_eq) (defBody s_Circle_eq) (defScope s_Circle_eq) .none kVCircle_eq dcCircle_eq pmCircle_eq anCircle_eq cdCircle_eq ctCircle_eq), slCircle_eq⟩)
    (cCircle_eq : PySem.W.codeIn K cdCircle_eq "Circle.__eq__" = true)
    (kCircle_eq : PySem.W.keepIn K (.ref aCircle_eq) = true)
    (fCircle_eq : PySem.W.isFn K (.ref aCircle_eq) = true)
    (mCircle_len : PySem.W.findIn K (.ref C1) "__len__" = some (some (.ref aCircle_len)))
    (lCircle_len : K.lookup aCircle_len = some ⟨ocCircle_len, odCircle_len, .func (PySem.W.fnOf "__len__" "Circle.__len__" (defArgs s_Circle_len) (defBody s_Circle_len) (defScope s_Circle_len) .none kVCircle_len dcCircle_len pmCircle_len anCircle_len cdCircle_len ctCircle_len), slCircle_len⟩)
    (cCircle_len : PySem.W.codeIn K cdCircle_len "Circle.__len__" = true)
    (kCircle_len : PySem.W.keepIn K (.ref aCircle_len) = true)
    (fCircle_len : PySem.W.isFn K (.ref aCircle_len) = true)
    (mCircle_repr : PySem.W.findIn K (.ref C1) "__repr__" = some (some (.ref aCircle_repr)))
    (lCircle_repr : K.lookup aCircle_repr = some ⟨ocCircle_repr, odCircle_repr, .func (PySem.W.fnOf "__repr__" "Circle.__repr__" (defArgs s_Circle_repr) (defBody s_Circle_repr) (defScope s_Circle_repr) .none kVCircle_repr dcCircle_repr pmCircle_repr anCircle_repr cdCircle_repr ctCircle_repr), slCircle_repr⟩)
    (cCircle_repr : PySem.W.codeIn K cdCircle_repr "Circle.__repr__" = true)
    (kCircle_repr : PySem.W.keepIn K (.ref aCircle_repr) = true)
    (fCircle_repr : PySem.W.isFn K (.ref aCircle_repr) = true)
    (mCircle_names : PySem.W.findIn K (.ref C1) "names" = some (some (.ref aCircle_names)))
    (lCircle_names : K.lookup aCircle_names = some ⟨ocCircle_names, odCircle_names, .func (PySem.W.fnOf "names" "Circle.names" (defArgs s_Circle_names) (defBody s_Circle_names) (defScope s_Circle_names) .none kVCircle_names dcCircle_names pmCircle_names anCircle_names cdCircle_names ctCircle_names), slCircle_names⟩)
    (cCircle_names : PySem.W.codeIn K cdCircle_names "Circle.names" = true)
    (kCircle_names : PySem.W.keepIn K (.ref aCircle_names) = true)
    (fCircle_names : PySem.W.isFn K (.ref aCircle_names) = true)
    (mCircle_has : PySem.W.findIn K (.ref C1) "has" = some (some (.ref aCircle_has)))
    (lCircle_has : K.lookup aCircle_has = some ⟨ocCircle_has, odCircle_has, .func (PySem.W.fnOf "has" "Circle.has" (defArgs s_Circle_has) (defBody s_Circle_has) (defScope s_Circle_has) .none kVCircle_has dcCircle_has pmCircle_has anCircle_has cdCircle_has ctCircle_has), slCircle_has⟩)
    (cCircle_has : PySem.W.codeIn K cdCircle_has "Circle.has" = true)
    (kCircle_has : PySem.W.keepIn K (.ref aCircle_has) = true)
    (fCircle_has : PySem.W.isFn K (.ref aCircle_has) = true)
    (mCircle_house_of : PySem.W.findIn K (.ref C1) "house_of" = some (some (.ref aCircle_house_of)))
    (lCircle_house_of : K.lookup aCircle_house_of = some ⟨ocCircle_house_of, odCircle_house_of, .func (PySem.W.fnOf "house_of" "Circle.house_of" (defArgs s_Circle_house_of) (defBody s_Circle_house_of) (defScope s_Circle_house_of) .none kVCircle_house_of dcCircle_house_of pmCircle_house_of anCircle_house_of cdCircle_house_of ctCircle_house_of), slCircle_house_of⟩)
    (cCircle_house_of : PySem.W.codeIn K cdCircle_house_of "Circle.house_of" = true)
    (kCircle_house_of : PySem.W.keepIn K (.ref aCircle_house_of) = true)
    (fCircle_house_of : PySem.W.isFn K (.ref aCircle_house_of) = true)
    (mCircle_reason : PySem.W.findIn K (.ref C1) "reason" = some (some (.ref aCircle_reason)))
    (lCircle_reason : K.lookup aCircle_reason = some ⟨ocCircle_reason, odCircle_reason, .func (PySem.W.fnOf "reason" "Circle.reason" (defArgs s_Circle_reason) (defBody s_Circle_reason) (defScope s_Circle_reason) .none kVCircle_reason dcCircle_reason pmCircle_reason anCircle_reason cdCircle_reason ctCircle_reason), slCircle_reason⟩)
    (cCircle_reason : PySem.W.codeIn K cdCircle_reason "Circle.reason" = true)
    (kCircle_reason : PySem.W.keepIn K (.ref aCircle_reason) = true)
    (fCircle_reason : PySem.W.isFn K (.ref aCircle_reason) = true)
    (mCircle_takers : PySem.W.findIn K (.ref C1) "takers" = some (some (.ref aCircle_takers)))
    (lCircle_takers : K.lookup aCircle_takers = some ⟨ocCircle_takers, odCircle_takers, .func (PySem.W.fnOf "takers" "Circle.takers" (defArgs s_Circle_takers) (defBody s_Circle_takers) (defScope s_Circle_takers) .none kVCircle_takers dcCircle_takers pmCircle_takers anCircle_takers cdCircle_takers ctCircle_takers), slCircle_takers⟩)
    (cCircle_takers : PySem.W.codeIn K cdCircle_takers "Circle.takers" = true)
    (kCircle_takers : PySem.W.keepIn K (.ref aCircle_takers) = true)
    (fCircle_takers : PySem.W.isFn K (.ref aCircle_takers) = true)
    (mCircle_givers : PySem.W.findIn K (.ref C1) "givers" = some (some (.ref aCircle_givers)))
    (lCircle_givers : K.lookup aCircle_givers = some ⟨ocCircle_givers, odCircle_givers, .func (PySem.W.fnOf "givers" "Circle.givers" (defArgs s_Circle_givers) (defBody s_Circle_givers) (defScope s_Circle_givers) .none kVCircle_givers dcCircle_givers pmCircle_givers anCircle_givers cdCircle_givers ctCircle_givers), slCircle_givers⟩)
    (cCircle_givers : PySem.W.codeIn K cdCircle_givers "Circle.givers" = true)
    (kCircle_givers : PySem.W.keepIn K (.ref aCircle_givers) = true)
    (fCircle_givers : PySem.W.isFn K (.ref aCircle_givers) = true)
    (clCircle : clsB K C1 = true)
    (neCircle : PySem.W.findIn K (.ref C1) "__ne__" = some (some (.builtin "object.__ne__")))
    (eqCircle : eqB K [C0, C1] [1] ([C0, C1].getD 1 0) = true)
    (ioCircle : isoB K [C0, C1] [1] ([C0, C1].getD 1 0) io_Circle = true)
    (ofmembers : naB K [C0, C1] [1] "members" = true)
    (ofbars : naB K [C0, C1] [1] "bars" = true)
    (ofpast : naB K [C0, C1] [1] "past" = true)
    (ofgap : naB K [C0, C1] [1] "gap" = true)
    (flname : flB K [C0, C1] [0] "name" = true)
    (g_LETTERS : PySem.W.nsIn K mainGlobals "LETTERS" = some (some (.str "abcdefghijklmnopqrstuvwxyz" tkLETTERS)))
    (zabs : PySem.W.nsIn K mainGlobals "abs" = some none)
    (zall : PySem.W.nsIn K mainGlobals "all" = some none)
    (zany : PySem.W.nsIn K mainGlobals "any" = some none)
    (zbool : PySem.W.nsIn K mainGlobals "bool" = some none)
    (zdict : PySem.W.nsIn K mainGlobals "dict" = some none)
    (zenumerate : PySem.W.nsIn K mainGlobals "enumerate" = some none)
    (zisinstance : PySem.W.nsIn K mainGlobals "isinstance" = some none)
    (zlen : PySem.W.nsIn K mainGlobals "len" = some none)
    (zlist : PySem.W.nsIn K mainGlobals "list" = some none)
    (zmax : PySem.W.nsIn K mainGlobals "max" = some none)
    (zmin : PySem.W.nsIn K mainGlobals "min" = some none)
    (zrange : PySem.W.nsIn K mainGlobals "range" = some none)
    (zrepr : PySem.W.nsIn K mainGlobals "repr" = some none)
    (zsorted : PySem.W.nsIn K mainGlobals "sorted" = some none)
    (zstr : PySem.W.nsIn K mainGlobals "str" = some none)
    (ztuple : PySem.W.nsIn K mainGlobals "tuple" = some none)
    (zzip : PySem.W.nsIn K mainGlobals "zip" = some none)
    (zsuper : PySem.W.nsIn K mainGlobals "super" = some none) :
    ∃ (fd : FuncData) (g : G), g.K = K ∧ (∀ (s : Shared) (u : Value), BindsTo s fd ⟨[u], []⟩ [("_law_script", u)]) ∧ ∀ base : Heap, K.In base → base.Ns mainGlobals mg → (∃ o, base.get? sysModules = some o) → FnG P w K mg base 13 fa fd ["_law_script"] (spOf g 1 m_law) := by
  have e := hfa.symm.trans (PySem.W.mg_of X GG nlaw)
  cases e
  have Fmember_rows := fun_mk (st := s_member_rows) lmember_rows cmember_rows kmember_rows
  have Dmember_rows : DefAt K mg "member_rows" s_member_rows ["members"] _ _ := ⟨Fmember_rows, PySem.W.mg_of X GG nmember_rows, Fmember_rows.binds (ps := ["members"]) fun _ _ _ _ _ _ us hl => match us, hl with | [_], _ => rfl⟩
  have Fis_name := fun_mk (st := s_is_name) lis_name cis_name kis_name
  have Dis_name : DefAt K mg "is_name" s_is_name ["thing"] _ _ := ⟨Fis_name, PySem.W.mg_of X GG nis_name, Fis_name.binds (ps := ["thing"]) fun _ _ _ _ _ _ us hl => match us, hl with | [_], _ => rfl⟩
  have Fcopied := fun_mk (st := s_copied) lcopied ccopied kcopied
  have Dcopied : DefAt K mg "copied" s_copied ["thing"] _ _ := ⟨Fcopied, PySem.W.mg_of X GG ncopied, Fcopied.binds (ps := ["thing"]) fun _ _ _ _ _ _ us hl => match us, hl with | [_], _ => rfl⟩
  have Flast_of := fun_mk (st := s_last_of) llast_of clast_of klast_of
  have Dlast_of : DefAt K mg "last_of" s_last_of ["years", "gap"] _ _ := ⟨Flast_of, PySem.W.mg_of X GG nlast_of, Flast_of.binds (ps := ["years", "gap"]) fun _ _ _ _ _ _ us hl => match us, hl with | [_, _], _ => rfl⟩
  have F_law_blend := fun_mk (st := s__law_blend) l_law_blend c_law_blend k_law_blend
  have D_law_blend : DefAt K mg "_law_blend" s__law_blend ["_law_number", "_law_turn"] _ _ := ⟨F_law_blend, PySem.W.mg_of X GG n_law_blend, F_law_blend.binds (ps := ["_law_number", "_law_turn"]) fun _ _ _ _ _ _ us hl => match us, hl with | [_, _], _ => rfl⟩
  have F_law_pot := fun_mk (st := s__law_pot) l_law_pot c_law_pot k_law_pot
  have D_law_pot : DefAt K mg "_law_pot" s__law_pot ["_law_script"] _ _ := ⟨F_law_pot, PySem.W.mg_of X GG n_law_pot, F_law_pot.binds (ps := ["_law_script"]) fun _ _ _ _ _ _ us hl => match us, hl with | [_], _ => rfl⟩
  have F_law_draw := fun_mk (st := s__law_draw) l_law_draw c_law_draw k_law_draw
  have D_law_draw : DefAt K mg "_law_draw" s__law_draw ["_law_pot_here", "_law_size"] _ _ := ⟨F_law_draw, PySem.W.mg_of X GG n_law_draw, F_law_draw.binds (ps := ["_law_pot_here", "_law_size"]) fun _ _ _ _ _ _ us hl => match us, hl with | [_, _], _ => rfl⟩
  have F_law_pick := fun_mk (st := s__law_pick) l_law_pick c_law_pick k_law_pick
  have D_law_pick : DefAt K mg "_law_pick" s__law_pick ["_law_pot_here", "_law_some"] _ _ := ⟨F_law_pick, PySem.W.mg_of X GG n_law_pick, F_law_pick.binds (ps := ["_law_pot_here", "_law_some"]) fun _ _ _ _ _ _ us hl => match us, hl with | [_, _], _ => rfl⟩
  have F_law_words := fun_mk (st := s__law_words) l_law_words c_law_words k_law_words
  have D_law_words : DefAt K mg "_law_words" s__law_words ["_law_pot_here", "_law_size"] _ _ := ⟨F_law_words, PySem.W.mg_of X GG n_law_words, F_law_words.binds (ps := ["_law_pot_here", "_law_size"]) fun _ _ _ _ _ _ us hl => match us, hl with | [_, _], _ => rfl⟩
  have F_law_pairs := fun_mk (st := s__law_pairs) l_law_pairs c_law_pairs k_law_pairs
  have D_law_pairs : DefAt K mg "_law_pairs" s__law_pairs ["_law_pot_here", "_law_pool", "_law_size"] _ _ := ⟨F_law_pairs, PySem.W.mg_of X GG n_law_pairs, F_law_pairs.binds (ps := ["_law_pot_here", "_law_pool", "_law_size"]) fun _ _ _ _ _ _ us hl => match us, hl with | [_, _, _], _ => rfl⟩
  have F_law_turned_round := fun_mk (st := s__law_turned_round) l_law_turned_round c_law_turned_round k_law_turned_round
  have D_law_turned_round : DefAt K mg "_law_turned_round" s__law_turned_round ["_law_pot_here", "_law_some"] _ _ := ⟨F_law_turned_round, PySem.W.mg_of X GG n_law_turned_round, F_law_turned_round.binds (ps := ["_law_pot_here", "_law_some"]) fun _ _ _ _ _ _ us hl => match us, hl with | [_, _], _ => rfl⟩
  have F_law_parts := fun_mk (st := s__law_parts) l_law_parts c_law_parts k_law_parts
  have D_law_parts : DefAt K mg "_law_parts" s__law_parts ["_law_pot_here", "_law_most"] _ _ := ⟨F_law_parts, PySem.W.mg_of X GG n_law_parts, F_law_parts.binds (ps := ["_law_pot_here", "_law_most"]) fun _ _ _ _ _ _ us hl => match us, hl with | [_, _], _ => rfl⟩
  have F_law_reason := fun_mk (st := s__law_reason) l_law_reason c_law_reason k_law_reason
  have D_law_reason : DefAt K mg "_law_reason" s__law_reason ["_law_parts_here", "_law_one", "_law_other"] _ _ := ⟨F_law_reason, PySem.W.mg_of X GG n_law_reason, F_law_reason.binds (ps := ["_law_parts_here", "_law_one", "_law_other"]) fun _ _ _ _ _ _ us hl => match us, hl with | [_, _, _], _ => rfl⟩
  have F_law_values_right := fun_mk (st := s__law_values_right) l_law_values_right c_law_values_right k_law_values_right
  have D_law_values_right : DefAt K mg "_law_values_right" s__law_values_right ["_law_circle", "_law_parts_here"] _ _ := ⟨F_law_values_right, PySem.W.mg_of X GG n_law_values_right, F_law_values_right.binds (ps := ["_law_circle", "_law_parts_here"]) fun _ _ _ _ _ _ us hl => match us, hl with | [_, _], _ => rfl⟩
  have F_law_one_right := fun_mk (st := s__law_one_right) l_law_one_right c_law_one_right k_law_one_right
  have D_law_one_right : DefAt K mg "_law_one_right" s__law_one_right ["_law_circle", "_law_parts_here", "_law_one", "_law_some"] _ _ := ⟨F_law_one_right, PySem.W.mg_of X GG n_law_one_right, F_law_one_right.binds (ps := ["_law_circle", "_law_parts_here", "_law_one", "_law_some"]) fun _ _ _ _ _ _ us hl => match us, hl with | [_, _, _, _], _ => rfl⟩
  have F_law_right := fun_mk (st := s__law_right) l_law_right c_law_right k_law_right
  have D_law_right : DefAt K mg "_law_right" s__law_right ["_law_pot_here", "_law_circle", "_law_parts_here"] _ _ := ⟨F_law_right, PySem.W.mg_of X GG n_law_right, F_law_right.binds (ps := ["_law_pot_here", "_law_circle", "_law_parts_here"]) fun _ _ _ _ _ _ us hl => match us, hl with | [_, _, _], _ => rfl⟩
  have Flaw := fun_mk (st := s_law) llaw claw klaw
  have Dlaw : DefAt K mg "law" s_law ["_law_script"] _ _ := ⟨Flaw, PySem.W.mg_of X GG nlaw, Flaw.binds (ps := ["_law_script"]) fun _ _ _ _ _ _ us hl => match us, hl with | [_], _ => rfl⟩
  have Xi_NoMember : XI K P mg "NoMember" "NoMember.__init__" s_i_NoMember ([C0, C1].getD 0 0) _ _ _ _ := xi_of (st := s_i_NoMember) li_NoMember ci_NoMember ui_NoMember (PySem.W.mg_of X GG n_NoMember) (PySem.W.mg_none_of X GG zsuper) ii_NoMember ti_NoMember
  have FCircle_init : FunF K "__init__" "Circle.__init__" s_Circle_init [.non, .non, .int 1] _ _ := funF_mk (st := s_Circle_init) lCircle_init tCircle_init (.cons rfl (.cons rfl (.cons ⟨_, rfl⟩ .nil))) (by simp) cCircle_init kCircle_init
  obtain ⟨ds4Circle_init, v4Circle_init, b4Circle_init⟩ := FCircle_init.binds1 (ps := ["self", "members", "bars", "past", "gap"]) 5 3 (by simp) rfl fun T kV doc pm an cdv ct us its h1 h2 => match us, its, h1, h2 with | [_, _, _, _, _], [_, _, _], _, _ => ⟨_, rfl, rfl⟩
  obtain ⟨ds1Circle_init, v1Circle_init, b1Circle_init⟩ := FCircle_init.binds1 (ps := ["self", "members", "bars", "past", "gap"]) 2 0 (by simp) rfl fun T kV doc pm an cdv ct us its h1 h2 => match us, its, h1, h2 with | [_, _], [_, _, _], _, _ => ⟨_, rfl, rfl⟩
  have FCircle_eq := fun_mk (st := s_Circle_eq) lCircle_eq cCircle_eq kCircle_eq
  have FCircle_len := fun_mk (st := s_Circle_len) lCircle_len cCircle_len kCircle_len
  have FCircle_repr := fun_mk (st := s_Circle_repr) lCircle_repr cCircle_repr kCircle_repr
  have FCircle_names := fun_mk (st := s_Circle_names) lCircle_names cCircle_names kCircle_names
  have FCircle_has := fun_mk (st := s_Circle_has) lCircle_has cCircle_has kCircle_has
  have FCircle_house_of := fun_mk (st := s_Circle_house_of) lCircle_house_of cCircle_house_of kCircle_house_of
  have FCircle_reason := fun_mk (st := s_Circle_reason) lCircle_reason cCircle_reason kCircle_reason
  have FCircle_takers := fun_mk (st := s_Circle_takers) lCircle_takers cCircle_takers kCircle_takers
  have FCircle_givers := fun_mk (st := s_Circle_givers) lCircle_givers cCircle_givers kCircle_givers
  let T : Tx K P mg := {
    Cs := [C0, C1],
    L := Lx,
    a_member_rows := _, fd_member_rows := _, d_member_rows := Dmember_rows,
    a_is_name := _, fd_is_name := _, d_is_name := Dis_name,
    a_copied := _, fd_copied := _, d_copied := Dcopied,
    a_last_of := _, fd_last_of := _, d_last_of := Dlast_of,
    a__law_blend := _, fd__law_blend := _, d__law_blend := D_law_blend,
    a__law_pot := _, fd__law_pot := _, d__law_pot := D_law_pot,
    a__law_draw := _, fd__law_draw := _, d__law_draw := D_law_draw,
    a__law_pick := _, fd__law_pick := _, d__law_pick := D_law_pick,
    a__law_words := _, fd__law_words := _, d__law_words := D_law_words,
    a__law_pairs := _, fd__law_pairs := _, d__law_pairs := D_law_pairs,
    a__law_turned_round := _, fd__law_turned_round := _, d__law_turned_round := D_law_turned_round,
    a__law_parts := _, fd__law_parts := _, d__law_parts := D_law_parts,
    a__law_reason := _, fd__law_reason := _, d__law_reason := D_law_reason,
    a__law_values_right := _, fd__law_values_right := _, d__law_values_right := D_law_values_right,
    a__law_one_right := _, fd__law_one_right := _, d__law_one_right := D_law_one_right,
    a__law_right := _, fd__law_right := _, d__law_right := D_law_right,
    a_law := _, fd_law := _, d_law := Dlaw,
    fI_NoMember := _, cda_NoMember := _, cc_NoMember := _, fd_NoMember := _, x_NoMember := Xi_NoMember, b_NoMember := .all fun us hl => match us, hl with | [_, _], _ => rfl,
    cl_Circle := clsI_of clCircle,
    a_Circle_init := _, fd_Circle_init := _, d_Circle_init := ⟨FCircle_init⟩, me_Circle_init := ⟨mCircle_init, fCircle_init, kCircle_init⟩, du_Circle_init := ⟨mCircle_init, fCircle_init⟩, ds4_Circle_init := ds4Circle_init, b4_Circle_init := b4Circle_init, v4_Circle_init := v4Circle_init, ds1_Circle_init := ds1Circle_init, b1_Circle_init := b1Circle_init, v1_Circle_init := v1Circle_init, mk_Circle := ⟨mkCircle, mCircle_init, fCircle_init, kcCircle⟩,
    a_Circle_eq := _, fd_Circle_eq := _, d_Circle_eq := ⟨FCircle_eq⟩, b_Circle_eq := FCircle_eq.binds (ps := ["self", "other"]) fun _ _ _ _ _ _ us hl => match us, hl with | [_, _], _ => rfl, me_Circle_eq := ⟨mCircle_eq, fCircle_eq, kCircle_eq⟩, du_Circle_eq := ⟨mCircle_eq, fCircle_eq⟩,
    a_Circle_len := _, fd_Circle_len := _, d_Circle_len := ⟨FCircle_len⟩, b_Circle_len := FCircle_len.binds (ps := ["self"]) fun _ _ _ _ _ _ us hl => match us, hl with | [_], _ => rfl, me_Circle_len := ⟨mCircle_len, fCircle_len, kCircle_len⟩, du_Circle_len := ⟨mCircle_len, fCircle_len⟩,
    a_Circle_repr := _, fd_Circle_repr := _, d_Circle_repr := ⟨FCircle_repr⟩, b_Circle_repr := FCircle_repr.binds (ps := ["self"]) fun _ _ _ _ _ _ us hl => match us, hl with | [_], _ => rfl, me_Circle_repr := ⟨mCircle_repr, fCircle_repr, kCircle_repr⟩, du_Circle_repr := ⟨mCircle_repr, fCircle_repr⟩,
    a_Circle_names := _, fd_Circle_names := _, d_Circle_names := ⟨FCircle_names⟩, b_Circle_names := FCircle_names.binds (ps := ["self"]) fun _ _ _ _ _ _ us hl => match us, hl with | [_], _ => rfl, me_Circle_names := ⟨mCircle_names, fCircle_names, kCircle_names⟩, du_Circle_names := ⟨mCircle_names, fCircle_names⟩,
    a_Circle_has := _, fd_Circle_has := _, d_Circle_has := ⟨FCircle_has⟩, b_Circle_has := FCircle_has.binds (ps := ["self", "name"]) fun _ _ _ _ _ _ us hl => match us, hl with | [_, _], _ => rfl, me_Circle_has := ⟨mCircle_has, fCircle_has, kCircle_has⟩, du_Circle_has := ⟨mCircle_has, fCircle_has⟩,
    a_Circle_house_of := _, fd_Circle_house_of := _, d_Circle_house_of := ⟨FCircle_house_of⟩, b_Circle_house_of := FCircle_house_of.binds (ps := ["self", "name"]) fun _ _ _ _ _ _ us hl => match us, hl with | [_, _], _ => rfl, me_Circle_house_of := ⟨mCircle_house_of, fCircle_house_of, kCircle_house_of⟩, du_Circle_house_of := ⟨mCircle_house_of, fCircle_house_of⟩,
    a_Circle_reason := _, fd_Circle_reason := _, d_Circle_reason := ⟨FCircle_reason⟩, b_Circle_reason := FCircle_reason.binds (ps := ["self", "giver", "taker"]) fun _ _ _ _ _ _ us hl => match us, hl with | [_, _, _], _ => rfl, me_Circle_reason := ⟨mCircle_reason, fCircle_reason, kCircle_reason⟩, du_Circle_reason := ⟨mCircle_reason, fCircle_reason⟩,
    a_Circle_takers := _, fd_Circle_takers := _, d_Circle_takers := ⟨FCircle_takers⟩, b_Circle_takers := FCircle_takers.binds (ps := ["self", "giver"]) fun _ _ _ _ _ _ us hl => match us, hl with | [_, _], _ => rfl, me_Circle_takers := ⟨mCircle_takers, fCircle_takers, kCircle_takers⟩, du_Circle_takers := ⟨mCircle_takers, fCircle_takers⟩,
    a_Circle_givers := _, fd_Circle_givers := _, d_Circle_givers := ⟨FCircle_givers⟩, b_Circle_givers := FCircle_givers.binds (ps := ["self", "taker"]) fun _ _ _ _ _ _ us hl => match us, hl with | [_, _], _ => rfl, me_Circle_givers := ⟨mCircle_givers, fCircle_givers, kCircle_givers⟩, du_Circle_givers := ⟨mCircle_givers, fCircle_givers⟩,
    ne_Circle := neCircle, eq_Circle := eqF_of (g := ⟨K, fun i => [C0, C1].getD i 0, []⟩) rfl eqCircle,
    io_Circle := iso_of ioCircle (fun c b h => by unfold io_Circle at h; split at h <;> first | assumption | cases h),
    of_members := na_of ofmembers,
    of_bars := na_of ofbars,
    of_past := na_of ofpast,
    of_gap := na_of ofgap,
    fl_name := fl_of flname,
    c_NoMember := PySem.W.mg_of X GG n_NoMember,
    c_Circle := PySem.W.mg_of X GG n_Circle,
    c_LotError := PySem.W.mg_of X GG n_LotError,
    abs := PySem.W.mg_none_of X GG zabs,
    all := PySem.W.mg_none_of X GG zall,
    any := PySem.W.mg_none_of X GG zany,
    bool := PySem.W.mg_none_of X GG zbool,
    dict := PySem.W.mg_none_of X GG zdict,
    enumerate := PySem.W.mg_none_of X GG zenumerate,
    isinstance := PySem.W.mg_none_of X GG zisinstance,
    len := PySem.W.mg_none_of X GG zlen,
    list := PySem.W.mg_none_of X GG zlist,
    max := PySem.W.mg_none_of X GG zmax,
    min := PySem.W.mg_none_of X GG zmin,
    range := PySem.W.mg_none_of X GG zrange,
    repr := PySem.W.mg_none_of X GG zrepr,
    sorted := PySem.W.mg_none_of X GG zsorted,
    str := PySem.W.mg_none_of X GG zstr,
    tuple := PySem.W.mg_none_of X GG ztuple,
    zip := PySem.W.mg_none_of X GG zzip,
    tk_LETTERS := _, g_LETTERS := PySem.W.mg_of X GG g_LETTERS }
  exact ⟨_, gOf T, rfl, fun s v => .of_eq rfl, fun base _ _ sm => (ok_law T).toG⟩
end Lw

set_option exponentiation.threshold 600
namespace Lw
open PySem L2 Lg
abbrev Ps := List (PySem.Str × PySem.Str)
/-! ### names -/
def LET : PySem.Str := "abcdefghijklmnopqrstuvwxyz"
def nameB (s : PySem.Str) : Bool := decide (1 ≤ s.length ∧ s.length ≤ 12) && s.cps.toList.all fun c => decide (c ∈ LET.cps.toList)
theorem in_let (c : Nat) (S : Store) : dIn (.str ⟨#[c]⟩) (.str LET) S = .ok (.bl (decide (c ∈ LET.cps.toList))) S := rfl
theorem signs (s : PySem.Str) (hs : s.length ≤ 12) (S : Store) : mLc (itStr (mVar 0)) (gmName 1) bYes (mOp dIn (mVar 1) (mC (.str "abcdefghijklmnopqrstuvwxyz"))) [1] [some (.str s), none] S = .ok (.lst (s.cps.toList.map fun c => .bl (decide (c ∈ LET.cps.toList)))) S := by
  refine lc_sameY (fun c => D.str ⟨#[c]⟩) (fun c => .bl (decide (c ∈ LET.cps.toList))) rfl (fun c _ => ⟨_, rfl, in_let c S⟩) ?_
  have : s.cps.toList.length = s.length := by simp [PySem.Str.length]
  rw [this]
  show _ ≤ 2 ^ 24
  omega
theorem name_str (s : PySem.Str) (hs : s.length ≤ sizeLine) (S : Store) : m_is_name [.str s] S = .ok (.bl (nameB s)) S := by
  have len : mCall cLen (mCons (mVar 0) mNil) [some (.str s), none] S = .ok (.int s.length) S := by
    show (if s.length ≤ sizeLine then Res.ok (D.int s.length) S else .stuck) = _
    rw [if_pos hs]
  have ch : mChain dLeA dLeA (mC (.int 1)) (mCall cLen (mCons (mVar 0) mNil)) (mC (.int 12)) [some (.str s), none] S = .ok (.bl (decide (1 ≤ s.length ∧ s.length ≤ 12))) S := by
    unfold mChain
    simp only [mC, Res.bind, len, dLeA]
    by_cases h1 : (1 : Int) ≤ s.length
    · rw [decide_eq_true h1]
      show Res.ok (D.bl (decide ((s.length : Int) ≤ 12))) S = _
      congr 2
      exact decide_eq_decide.mpr (by omega)
    · rw [decide_eq_false h1]
      simp; omega
  have body : (mAndV (mChain dLeA dLeA (mC (.int 1)) (mCall cLen (mCons (mVar 0) mNil)) (mC (.int 12))) (mCall cAll (mCons (mLc (itStr (mVar 0)) (gmName 1) bYes (mOp dIn (mVar 1) (mC (.str "abcdefghijklmnopqrstuvwxyz"))) [1]) mNil))) [some (.str s), none] S = .ok (.bl (nameB s)) S := by
    rw [andV ch]
    unfold nameB
    by_cases h : 1 ≤ s.length ∧ s.length ≤ 12
    · rw [if_pos (decide_eq_true h), all_ok (bs := s.cps.toList.map fun c => decide (c ∈ LET.cps.toList)) (by rw [signs s h.2 S, List.map_map]; rfl), decide_eq_true h]
      simp [List.all_map, Function.comp_def]
    · rw [if_neg (by rw [decide_eq_false h]; decide), decide_eq_false h]
      rfl
  refine def_run rfl ?_
  have c : bNot (bVal (mIsi "str" (mVar 0))) [some (.str s), none] S = .ok false S := by
    have k : kitB "str" "str" = some true := by decide +kernel
    rw [not_v (k := true)]
    · rfl
    · refine val_ok ?_
      unfold mIsi
      rw [var_ok (d := .str s) rfl]
      simp [Res.bind, kindD, k]
  show sSeq _ _ [some (.str s), none] S = _
  rw [sq (ifn c)]
  exact ret_ok body
theorem let_iff (c : Nat) : c ∈ LET.cps.toList ↔ 97 ≤ c ∧ c ≤ 122 := by
  rw [show LET.cps.toList = [97,98,99,100,101,102,103,104,105,106,107,108,109,110,111,112,113,114,115,116,117,118,119,120,121,122] from by decide +kernel]
  simp
  omega
/-- a name -/
structure Nm (s : PySem.Str) : Prop where
  az : Az s
  one : 1 ≤ s.length
  top : s.length ≤ 12
theorem Nm.ok {s : PySem.Str} (h : Nm s) : nameB s = true := by
  unfold nameB
  rw [decide_eq_true ⟨h.one, h.top⟩, Bool.true_and, List.all_eq_true]
  exact fun c hc => decide_eq_true ((let_iff c).mpr (h.az c hc))
theorem Nm.short {s : PySem.Str} (h : Nm s) : s.length ≤ sizeLine := Nat.le_trans h.top (by decide)
/-! ### a circle -/
def yrD (y : Ps) : D := .tup (y.map prD)
def yrP (y : Ps) : PyData := .tuple (y.map prP)
def CiD (ms bs : Ps) (ys : List Ps) (gap : Int) : Ob := .ins 1 [("members", .tupX (ms.map prD)), ("bars", .tup (bs.map prD)), ("past", .tup (ys.map yrD)), ("gap", .int gap)]
/-- what the parts of a circle are -/
structure Ok (ms bs : Ps) (ys : List Ps) (gap : Int) : Prop where
  nm : ∀ m ∈ ms, Nm m.1
  ho : ∀ m ∈ ms, Az m.2 ∧ m.2.length ≤ 12
  nd : (ms.map (·.1)).Nodup
  lm : ms.length ≤ 100
  lb : bs.length ≤ 1000
  ly : ys.length ≤ 1000
  az : ∀ b ∈ bs, Az2 b
  ay : ∀ y ∈ ys, ∀ p ∈ y, Az2 p
  g0 : 0 ≤ gap
section
variable {ms bs : Ps} {ys : List Ps} {gap : Int} {n : Nat} {S : Store}
theorem Ok.plM (h : Ok ms bs ys gap) : Pl (.tupX (ms.map prD)) (.tuple (ms.map prP)) := (Pl.tupX (n := 1) ms (fun x hx => ⟨.pr ⟨(h.nm x hx).az, (h.ho x hx).1⟩, dep_pr x⟩) (by decide)).1
theorem plYr {y : Ps} (h : ∀ p ∈ y, Az2 p) : Pl (yrD y) (yrP y) ∧ (yrP y).depth ≤ 2 := Pl.tup (n := 1) y (fun x hx => ⟨.pr (h x hx), dep_pr x⟩) (by decide)
theorem Ok.plB (h : Ok ms bs ys gap) : Pl (.tup (bs.map prD)) (.tuple (bs.map prP)) := (plYr h.az).1
theorem Ok.plY (h : Ok ms bs ys gap) : Pl (.tup (ys.map yrD)) (.tuple (ys.map yrP)) ∧ (PyData.tuple (ys.map yrP)).depth ≤ 3 := Pl.tup (n := 2) ys (fun y hy => plYr (h.ay y hy)) (by decide)
theorem fldM {e : EM} {env : En} {S' : Store} (he : e env S = .ok (.loc n) S') (h : S'[n]? = some (CiD ms bs ys gap)) : mFldO ok_of_members "members" e env S = .ok (.tupX (ms.map prD)) S' := by
  unfold mFldO
  rw [he]
  simp only [Res.bind, insF, h, CiD]
  rfl
theorem fldB {e : EM} {env : En} {S' : Store} (he : e env S = .ok (.loc n) S') (h : S'[n]? = some (CiD ms bs ys gap)) : mFldO ok_of_bars "bars" e env S = .ok (.tup (bs.map prD)) S' := by
  unfold mFldO
  rw [he]
  simp only [Res.bind, insF, h, CiD]
  rfl
theorem fldP {e : EM} {env : En} {S' : Store} (he : e env S = .ok (.loc n) S') (h : S'[n]? = some (CiD ms bs ys gap)) : mFldO ok_of_past "past" e env S = .ok (.tup (ys.map yrD)) S' := by
  unfold mFldO
  rw [he]
  simp only [Res.bind, insF, h, CiD]
  rfl
theorem fldG {e : EM} {env : En} {S' : Store} (he : e env S = .ok (.loc n) S') (h : S'[n]? = some (CiD ms bs ys gap)) : mFldO ok_of_gap "gap" e env S = .ok (.int gap) S' := by
  unfold mFldO
  rw [he]
  simp only [Res.bind, insF, h, CiD]
  rfl
theorem meth {m : PySem.Str} {f : List D → Store → Res D} {e : EM} {a : AM} {env : En} {S' S'' : Store} {ds : List D} {r : Res D} (he : e env S = .ok (.loc n) S') (h : S'[n]? = some (CiD ms bs ys gap)) (hm : List.lookup m [(("members" : PySem.Str), D.tupX (ms.map prD)), ("bars", .tup (bs.map prD)), ("past", .tup (ys.map yrD)), ("gap", .int gap)] = none) (ha : a env S' = .ok ds S'') (hf : f (.loc n :: ds) S'' = r) : mMeth 1 m f [] e a env S = r := by
  unfold mMeth
  rw [he]
  simp only [Res.bind, insAt, h, CiD, if_true, hm, ha, List.append_nil]
  exact hf
theorem two_name {env : En} {S : Store} {i j : Nat} (p : PySem.Str × PySem.Str) : gmTup 2 (gmCons (gmName i) (gmCons (gmName j) gmNil)) (prD p) env S = .ok ((env.set i (some (.str p.1))).set j (some (.str p.2))) S := rfl
theorem names (h : S[n]? = some (CiD ms bs ys gap)) (hl : ms.length ≤ sizeLine) : m_Circle_names [.loc n] S = .ok (.tup ((ms.map (·.1)).map D.str)) S := by
  refine def_ret rfl (tuple_lst ?_)
  rw [List.map_map]
  exact lc_sameY prD (fun p => D.str p.1) (seq_tupX (fldM (var_ok rfl) h)) (fun p _ => ⟨_, two_name p, var_ok rfl⟩) hl
theorem has (ok : Ok ms bs ys gap) (h : S[n]? = some (CiD ms bs ys gap)) {a : PySem.Str} (ha : a ∈ ms.map (·.1)) : m_Circle_has [.loc n, .str a] S = .ok (.bl true) S := by
  obtain ⟨m, hm, rfl⟩ := List.mem_map.mp ha
  have nm := ok.nm m hm
  have zl : ms.length ≤ sizeLine := Nat.le_trans ok.lm (by decide)
  refine def_ret rfl ?_
  rw [andV ((call_ok (cons_ok (var_ok rfl) nil_ok)).trans (name_str _ nm.short S)), if_pos nm.ok]
  refine opv (var_ok rfl) (meth (var_ok rfl) h rfl nil_ok (names h zl)) ?_
  rw [in_strs (fun x hx => by obtain ⟨q, hq, rfl⟩ := List.mem_map.mp hx; exact (ok.nm q hq).az) nm.az, decide_eq_true ha]
/-! ### houses -/
def kvs (ms : Ps) : List (Key × D) := ms.map fun p => (.inr p.1, .str p.2)
theorem pairs_of_ms : ∀ ms : Ps, pairsD (ms.map prD) = some (kvs ms)
  | [] => rfl
  | p :: ms => by
    show pairsD (.tup [.str p.1, .str p.2] :: ms.map prD) = _
    unfold pairsD
    rw [pairs_of_ms ms]
    rfl
theorem put_new {acc : List (Key × D)} {k : Key} {v : D} (h : ∀ q ∈ acc, q.1 ≠ k) : putKD acc k v = acc ++ [(k, v)] := by
  unfold putKD
  rw [if_neg]
  intro hc
  obtain ⟨q, hq, e⟩ := List.any_eq_true.mp hc
  exact h q hq (of_decide_eq_true e)
theorem merge_go : ∀ (ms : Ps) (acc : List (Key × D)), (ms.map (·.1)).Nodup → (∀ q ∈ acc, ∀ m ∈ ms, q.1 ≠ .inr m.1) → (kvs ms).foldl (fun acc kv => putKD acc kv.1 kv.2) acc = acc ++ kvs ms
  | [], acc, _, _ => by simp [kvs]
  | m :: ms, acc, hn, hq => by
    rw [List.map_cons, List.nodup_cons] at hn
    show (kvs ms).foldl _ (putKD acc (.inr m.1) (.str m.2)) = _
    rw [put_new (fun q h => hq q h m List.mem_cons_self), merge_go ms _ hn.2 (fun q h m' hm' => ?_)]
    · simp [kvs]
    · rcases List.mem_append.mp h with h | h
      · exact hq q h m' (List.mem_cons_of_mem _ hm')
      · obtain rfl := List.mem_singleton.mp h
        intro e
        have e' : m.1 = m'.1 := Sum.inr.inj e
        exact hn.1 (e' ▸ List.mem_map.mpr ⟨m', hm', rfl⟩)
theorem merge_ms (hn : (ms.map (·.1)).Nodup) : mergeD (kvs ms) = kvs ms := by
  have := merge_go ms [] hn (fun q h => absurd h List.not_mem_nil)
  simpa [mergeD] using this
def hou (ms : Ps) (a : PySem.Str) : PySem.Str := ((ms.find? fun p => decide (p.1 = a)).map (·.2)).getD PySem.Str.empty
theorem val_ms : ∀ (ms : Ps) {a : PySem.Str}, a ∈ ms.map (·.1) → valD (kvs ms) (.inr a) = some (.str (hou ms a))
  | [], a, h => absurd h List.not_mem_nil
  | m :: ms, a, h => by
    by_cases e : m.1 = a
    · have e2 : (Sum.inr m.1 : Key) = Sum.inr a := by rw [e]
      simp [valD, kvs, hou, e, e2]
    · have e2 : ¬ (Sum.inr m.1 : Key) = Sum.inr a := fun q => e (Sum.inr.inj q)
      have h' : a ∈ ms.map (·.1) := by
        rcases List.mem_cons.mp (by simpa using h : a ∈ m.1 :: ms.map (·.1)) with q | q
        · exact absurd q.symm e
        · exact q
      have ih := val_ms ms h'
      simp only [valD, kvs, hou] at ih ⊢
      rw [List.map_cons, List.find?_cons_of_neg (by simpa using e2), List.find?_cons_of_neg (by simpa using e)]
      exact ih
theorem hou_mem : ∀ (ms : Ps), (ms.map (·.1)).Nodup → ∀ m ∈ ms, hou ms m.1 = m.2
  | [], _, m, h => absurd h List.not_mem_nil
  | m :: ms, hn, q, hq => by
    rw [List.map_cons, List.nodup_cons] at hn
    rcases List.mem_cons.mp hq with rfl | hq
    · simp [hou]
    · have e : ¬ m.1 = q.1 := fun e => hn.1 (e ▸ List.mem_map.mpr ⟨q, hq, rfl⟩)
      have ih := hou_mem ms hn.2 q hq
      unfold hou at ih ⊢
      rw [List.find?_cons_of_neg (by simpa using e)]
      exact ih
theorem dget {a i : EM} {env : En} {S S1 S2 : Store} {k : Nat} {s : PySem.Str} {l : List (Key × D)} {d : D} (ha : a env S = .ok (.loc k) S1) (hi : i env S1 = .ok (.str s) S2) (hk : S2[k]? = some (.dK l)) (hv : valD l (.inr s) = some d) : mDGet a i env S = .ok d S2 := by
  unfold mDGet
  rw [ha]
  simp only [Res.bind, hi, getK, hk, keyD, Option.map, hv]
theorem house_of (ok : Ok ms bs ys gap) (h : S[n]? = some (CiD ms bs ys gap)) {a : PySem.Str} (ha : a ∈ ms.map (·.1)) : m_Circle_house_of [.loc n, .str a] S = .ok (.str (hou ms a)) (S ++ [.dK (kvs ms)]) := by
  refine def_run rfl ?_
  show sSeq _ _ [some (.loc n), some (.str a)] S = _
  have c : bNot (bVal (mMeth 1 "has" m_Circle_has [] (mVar 0) (mCons (mVar 1) mNil))) [some (.loc n), some (.str a)] S = .ok false S := by
    rw [not_v (val_ok (meth (var_ok rfl) h rfl (cons_ok (var_ok rfl) nil_ok) (has ok h ha)))]; rfl
  rw [sq (ifn c)]
  refine ret_ok (dget (k := S.length) (s := a) (l := kvs ms) ?_ (var_ok rfl) (by simp) (val_ms ms ha))
  rw [call_ok (cons_ok (fldM (var_ok rfl) h) nil_ok)]
  simp only [cDictX, pairs_of_ms, merge_ms ok.nd]
/-! ### reasons -/
def lst (ys : List Ps) (gap : Int) : List Ps := ys.drop ((ys.length : Int) - gap).toNat
def rsn (ms bs : Ps) (ys : List Ps) (gap : Int) (a b : PySem.Str) : D :=
  if a = b then .str "self" else if hou ms a ≠ "" ∧ hou ms a = hou ms b then .str "house" else if (a, b) ∈ bs then .str "bar" else if ((lst ys gap).map fun y => decide ((a, b) ∈ y)).any id = true then .str "past" else .non
theorem last_of (hg : 0 ≤ gap) : m_last_of [.tup (ys.map yrD), .int gap] S = .ok (.tup ((lst ys gap).map yrD)) S := by
  refine def_ret rfl ?_
  have mx : mCall cMax2 (mCons (mC (.int 0)) (mCons (mOp dSub (mCall cLen (mCons (mVar 0) mNil)) (mVar 1)) mNil)) [some (.tup (ys.map yrD)), some (.int gap)] S = .ok (.int ((((ys.length : Int) - gap).toNat : Nat) : Int)) S := by
    have ln : mCall cLen (mCons (mVar 0) mNil) [some (.tup (ys.map yrD)), some (.int gap)] S = .ok (.int (ys.length : Int)) S := by
      rw [call_ok (cons_ok (var_ok rfl) nil_ok)]
      simp [cLen]
    rw [call_ok (cons_ok c_ok (cons_ok (opv ln (var_ok rfl) sub_i) nil_ok))]
    show Res.ok (D.int (if (ys.length : Int) - gap > 0 then (ys.length : Int) - gap else 0)) S = _
    congr 2
    split <;> omega
  show mSl _ _ _ [some (.tup (ys.map yrD)), some (.int gap)] S = _
  unfold mSl oSome oNone
  rw [var_ok (d := .tup (ys.map yrD)) rfl]
  simp only [Res.bind, mx, dSl, cutD]
  have h1 : HT.sIx (ys.map yrD).length (ys.map yrD).length none = (ys.map yrD).length := rfl
  rw [HT.sIx_nat, h1]
  unfold lst
  congr 2
  rw [List.map_drop]
  by_cases q : ((ys.length : Int) - gap).toNat ≤ ys.length
  · rw [Nat.min_eq_left (by simpa using q), List.take_of_length_le (by simp)]
  · omega
theorem year_in {a b : PySem.Str} (az : Az2 (a, b)) {y : Ps} (hy : ∀ p ∈ y, Az2 p) (S : Store) : dIn (.tup [.str a, .str b]) (yrD y) S = .ok (.bl (decide ((a, b) ∈ y))) S := in_prs hy (a := (a, b)) az S
theorem any_years (ok : Ok ms bs ys gap) {a b : PySem.Str} (az : Az2 (a, b)) {it : IM} {e1 e2 : EM} {i : Nat} {env : En} (hi : it env S = .ok ((lst ys gap).map yrD) S) (hl : i < env.length) (h1 : ∀ x, e1 ((env.set i none).set i (some x)) S = .ok (.tup [.str a, .str b]) S) (h2 : ∀ x, e2 ((env.set i none).set i (some x)) S = .ok x S) :
    mCall cAny (mCons (mLc it (gmName i) bYes (mOp dIn e1 e2) [i]) mNil) env S = .ok (.bl (((lst ys gap).map fun y => decide ((a, b) ∈ y)).any id)) S := by
  refine any_ok ?_
  rw [List.map_map]
  refine lc_sameY yrD (fun y => D.bl (decide ((a, b) ∈ y))) hi (fun y hy => ⟨_, rfl, opv (h1 _) (h2 _) (year_in az (ok.ay y (List.mem_of_mem_drop hy)) S)⟩) ?_
  have : (lst ys gap).length ≤ ys.length := by simp [lst]
  have z : 1000 ≤ sizeLine := by decide
  have := ok.ly
  omega
theorem reason (ok : Ok ms bs ys gap) (h : S[n]? = some (CiD ms bs ys gap)) {a b : PySem.Str} (ha : a ∈ ms.map (·.1)) (hb : b ∈ ms.map (·.1)) : ∃ X, m_Circle_reason [.loc n, .str a, .str b] S = .ok (rsn ms bs ys gap a b) (S ++ X) := by
  have az : Az2 (a, b) := by
    obtain ⟨p, hp, rfl⟩ := List.mem_map.mp ha
    obtain ⟨q, hq, rfl⟩ := List.mem_map.mp hb
    exact ⟨(ok.nm p hp).az, (ok.nm q hq).az⟩
  refine ⟨[.dK (kvs ms)] ++ [.dK (kvs ms)], def_run rfl ?_⟩
  show sSeq _ _ [some (.loc n), some (.str a), some (.str b), none, none, none, none] S = _
  have h2 := at_app [.dK (kvs ms)] h
  have h3 := at_app [.dK (kvs ms)] h2
  rw [sq (asg_ok (i := 3) (meth (var_ok rfl) h rfl (cons_ok (var_ok rfl) nil_ok) (house_of ok h ha)))]
  rw [sq (asg_ok (i := 4) (meth (var_ok rfl) h2 rfl (cons_ok (var_ok rfl) nil_ok) (house_of ok h2 hb)))]
  rw [sq (asg_ok (i := 5) (tup_ok (cons_ok (var_ok rfl) (cons_ok (var_ok rfl) nil_ok)) (show 2 ≤ sizeLine by decide)))]
  rw [← List.append_assoc]
  generalize S ++ [Ob.dK (kvs ms)] ++ [Ob.dK (kvs ms)] = S' at h3
  show sSeq _ _ [some (.loc n), some (.str a), some (.str b), some (.str (hou ms a)), some (.str (hou ms b)), some (.tup [.str a, .str b]), none] S' = _
  unfold rsn
  have c1 : bVal (mOp dEqA (mVar 1) (mVar 2)) [some (.loc n), some (.str a), some (.str b), some (.str (hou ms a)), some (.str (hou ms b)), some (.tup [.str a, .str b]), none] S' = .ok (decide (a = b)) S' := val_ok (opv (var_ok rfl) (var_ok rfl) (eqS _ _ _))
  by_cases q1 : a = b
  · rw [if_pos q1, sqr (show sIf _ _ _ _ _ = .ret (.str "self") S' by rw [if_ok c1, if_pos (decide_eq_true q1)]; exact ret_ok c_ok)]
  rw [if_neg q1, sq (ifn (by rw [c1, decide_eq_false q1]))]
  have c2 : bAnd (bVal (mOp dNeA (mVar 3) (mC (.str "")))) (bVal (mOp dEqA (mVar 3) (mVar 4))) [some (.loc n), some (.str a), some (.str b), some (.str (hou ms a)), some (.str (hou ms b)), some (.tup [.str a, .str b]), none] S' = .ok (decide (hou ms a ≠ "" ∧ hou ms a = hou ms b)) S' := by
    rw [and_v (val_ok (opv (var_ok rfl) c_ok (neS _ _ _)))]
    by_cases z : hou ms a = ""
    · simp [z]
    · rw [decide_eq_false z]
      simp only [Bool.not_false, if_true]
      rw [val_ok (opv (var_ok rfl) (var_ok rfl) (eqS _ _ _))]
      simp [z]
  by_cases q2 : hou ms a ≠ "" ∧ hou ms a = hou ms b
  · rw [if_pos q2, sqr (show sIf _ _ _ _ _ = .ret (.str "house") S' by rw [if_ok c2, if_pos (decide_eq_true q2)]; exact ret_ok c_ok)]
  rw [if_neg q2, sq (ifn (by rw [c2, decide_eq_false q2]))]
  have c3 : bVal (mOp dIn (mVar 5) (mFldO ok_of_bars "bars" (mVar 0))) [some (.loc n), some (.str a), some (.str b), some (.str (hou ms a)), some (.str (hou ms b)), some (.tup [.str a, .str b]), none] S' = .ok (decide ((a, b) ∈ bs)) S' := val_ok (opv (var_ok rfl) (fldB (var_ok rfl) h3) (in_prs ok.az (a := (a, b)) az S'))
  by_cases q3 : (a, b) ∈ bs
  · rw [if_pos q3, sqr (show sIf _ _ _ _ _ = .ret (.str "bar") S' by rw [if_ok c3, if_pos (decide_eq_true q3)]; exact ret_ok c_ok)]
  rw [if_neg q3, sq (ifn (by rw [c3, decide_eq_false q3]))]
  have c4 := any_years (S := S') ok az (it := itSeq (mCall m_last_of (mCons (mFldO ok_of_past "past" (mVar 0)) (mCons (mFldO ok_of_gap "gap" (mVar 0)) mNil)))) (e1 := mVar 5) (e2 := mVar 6) (i := 6) (env := [some (.loc n), some (.str a), some (.str b), some (.str (hou ms a)), some (.str (hou ms b)), some (.tup [.str a, .str b]), none]) (seq_tup ((call_ok (cons_ok (fldP (var_ok rfl) h3) (cons_ok (fldG (var_ok rfl) h3) nil_ok))).trans (last_of ok.g0))) (show 6 < 7 by decide) (fun x => var_ok rfl) (fun x => var_ok rfl)
  by_cases q4 : ((lst ys gap).map fun y => decide ((a, b) ∈ y)).any id = true
  · rw [if_pos q4, sqr (show sIf _ _ _ _ _ = .ret (.str "past") S' by rw [if_ok (val_ok c4), if_pos q4]; exact ret_ok c_ok)]
  rw [if_neg q4, sq (ifn (by rw [val_ok c4]; rw [Bool.not_eq_true] at q4; rw [q4]))]
  exact ret_ok c_ok
end
end Lw

set_option exponentiation.threshold 600
namespace Lw
open PySem L2 Lg
section
variable {ms bs : Ps} {ys : List Ps} {gap : Int} {n : Nat} {S : Store}
theorem Ok.zl (ok : Ok ms bs ys gap) : ms.length ≤ sizeLine := Nat.le_trans ok.lm (by decide)
abbrev Nam (ms : Ps) : List PySem.Str := ms.map (·.1)
theorem rsn_pl (ms bs : Ps) (ys : List Ps) (gap : Int) (a b : PySem.Str) : ∃ p, Pl (rsn ms bs ys gap a b) p ∧ p.depth ≤ 1 := by
  have lit : ∀ s : PySem.Str, PyData.canLay0 (.str s) = true → ∃ p, Pl (.str s) p ∧ p.depth ≤ 1 := fun s h => ⟨.str s, ⟨rfl, h, by simp [PyData.depth]⟩, by simp [PyData.depth]⟩
  unfold rsn
  split
  · exact lit _ (by decide +kernel)
  split
  · exact lit _ (by decide +kernel)
  split
  · exact lit _ (by decide +kernel)
  split
  · exact lit _ (by decide +kernel)
  · exact ⟨.none, ⟨rfl, rfl, by simp [PyData.depth]⟩, by simp [PyData.depth]⟩
theorem Pl.pack {l : List D} {n : Nat} (h : ∀ d ∈ l, ∃ p, Pl d p ∧ p.depth ≤ n) : ∃ q : List (D × PyData), q.map (·.1) = l ∧ ∀ x ∈ q, Pl x.1 x.2 ∧ x.2.depth ≤ n := by
  induction l with
  | nil => exact ⟨[], rfl, fun x hx => absurd hx List.not_mem_nil⟩
  | cons d l ih =>
    obtain ⟨p, hp⟩ := h d List.mem_cons_self
    obtain ⟨q, q1, q2⟩ := ih fun d hd => h d (List.mem_cons_of_mem _ hd)
    refine ⟨(d, p) :: q, by simp [q1], fun x hx => ?_⟩
    rcases List.mem_cons.mp hx with rfl | hx
    · exact hp
    · exact q2 x hx
theorem Pl.anyL {l : List D} {n : Nat} (h : ∀ d ∈ l, ∃ p, Pl d p ∧ p.depth ≤ n) (hn : n < 20) : ∃ p, Pl (.lst l) p := by
  obtain ⟨q, rfl, h2⟩ := Pl.pack h
  exact ⟨_, (Pl.lst q h2 hn).1⟩
theorem Pl.anyT {l : List D} {n : Nat} (h : ∀ d ∈ l, ∃ p, Pl d p ∧ p.depth ≤ n) (hn : n < 20) : ∃ p, Pl (.tup l) p ∧ p.depth ≤ n + 1 := by
  obtain ⟨q, rfl, h2⟩ := Pl.pack h
  exact ⟨_, Pl.tup q h2 hn⟩
/-! ### takers, givers -/
theorem no_has (ok : Ok ms bs ys gap) (h : S[n]? = some (CiD ms bs ys gap)) {a : PySem.Str} (ha : a ∈ Nam ms) {x : Option D} : bNot (bVal (mMeth 1 "has" m_Circle_has [] (mVar 0) (mCons (mVar 1) mNil))) [some (.loc n), some (.str a), x] S = .ok false S := by
  rw [not_v (val_ok (meth (var_ok rfl) h rfl (cons_ok (var_ok rfl) nil_ok) (has ok h ha)))]; rfl
theorem takers (ok : Ok ms bs ys gap) (h : S[n]? = some (CiD ms bs ys gap)) {a : PySem.Str} (ha : a ∈ Nam ms) : ∃ X, m_Circle_takers [.loc n, .str a] S = .ok (.tup (((Nam ms).filter fun b => isNon (rsn ms bs ys gap a b)).map D.str)) (S ++ X) := by
  obtain ⟨X, hX⟩ := lc_of (it := itSeq (mMeth 1 "names" m_Circle_names [] (mVar 0) mNil)) (g := gmName 2) (t := bVal (mOp dIsN (mMeth 1 "reason" m_Circle_reason [] (mVar 0) (mCons (mVar 1) (mCons (mVar 2) mNil))) (mC .non))) (e := mVar 2) (vs := [2]) (env := [some (.loc n), some (.str a), none]) (S := S) (fun S => S[n]? = some (CiD ms bs ys gap)) (fun S X hS => at_app X hS) D.str (fun b => isNon (rsn ms bs ys gap a b)) D.str (xs := Nam ms) (seq_tup (meth (var_ok rfl) h rfl nil_ok (names h ok.zl))) h (fun b hb S hS => by
    obtain ⟨X, hX⟩ := reason ok hS ha hb
    exact ⟨_, X, rfl, val_ok (opv (meth (var_ok rfl) hS rfl (cons_ok (var_ok rfl) (cons_ok (var_ok rfl) nil_ok)) hX) c_ok (isn _ _)), fun _ => ⟨[], by simp [mVar, wipeE]⟩⟩) (by rw [List.length_map]; exact ok.zl)
  refine ⟨X, def_run rfl ?_⟩
  show sSeq _ _ [some (.loc n), some (.str a), none] S = _
  rw [sq (ifn (no_has ok h ha))]
  exact ret_ok (tuple_lst hX)
theorem givers (ok : Ok ms bs ys gap) (h : S[n]? = some (CiD ms bs ys gap)) {a : PySem.Str} (ha : a ∈ Nam ms) : ∃ X, m_Circle_givers [.loc n, .str a] S = .ok (.tup (((Nam ms).filter fun b => isNon (rsn ms bs ys gap b a)).map D.str)) (S ++ X) := by
  obtain ⟨X, hX⟩ := lc_of (it := itSeq (mMeth 1 "names" m_Circle_names [] (mVar 0) mNil)) (g := gmName 2) (t := bVal (mOp dIsN (mMeth 1 "reason" m_Circle_reason [] (mVar 0) (mCons (mVar 2) (mCons (mVar 1) mNil))) (mC .non))) (e := mVar 2) (vs := [2]) (env := [some (.loc n), some (.str a), none]) (S := S) (fun S => S[n]? = some (CiD ms bs ys gap)) (fun S X hS => at_app X hS) D.str (fun b => isNon (rsn ms bs ys gap b a)) D.str (xs := Nam ms) (seq_tup (meth (var_ok rfl) h rfl nil_ok (names h ok.zl))) h (fun b hb S hS => by
    obtain ⟨X, hX⟩ := reason ok hS hb ha
    exact ⟨_, X, rfl, val_ok (opv (meth (var_ok rfl) hS rfl (cons_ok (var_ok rfl) (cons_ok (var_ok rfl) nil_ok)) hX) c_ok (isn _ _)), fun _ => ⟨[], by simp [mVar, wipeE]⟩⟩) (by rw [List.length_map]; exact ok.zl)
  refine ⟨X, def_run rfl ?_⟩
  show sSeq _ _ [some (.loc n), some (.str a), none] S = _
  rw [sq (ifn (no_has ok h ha))]
  exact ret_ok (tuple_lst hX)
/-! ### the law's own reason -/
def PaD (ms bs : Ps) (ys : List Ps) (gap : Int) (st : D) : D := .tup [.tupX (ms.map prD), .tup (bs.map prD), .tup (ys.map yrD), .int gap, st]
theorem zip_filter (len gap : Int) : ∀ (ys : List Ps) (off : Nat), (((List.range' off ys.length).zip ys).filter fun q => decide (len ≤ (q.1 : Int) + gap)).map (·.2) = ys.drop (len - gap - off).toNat
  | [], off => by simp
  | y :: ys, off => by
    rw [List.length_cons, List.range'_succ, List.zip_cons_cons]
    have ih := zip_filter len gap ys (off + 1)
    by_cases h : len ≤ (off : Int) + gap
    · rw [List.filter_cons_of_pos (by simpa using h), List.map_cons, ih]
      have e1 : (len - gap - (off : Int)).toNat = 0 := by omega
      have e2 : (len - gap - ((off + 1 : Nat) : Int)).toNat = 0 := by omega
      rw [e1, e2]; rfl
    · rw [List.filter_cons_of_neg (by simpa using h), ih]
      have e1 : (len - gap - (off : Int)).toNat = (len - gap - ((off + 1 : Nat) : Int)).toNat + 1 := by omega
      rw [e1, List.drop_succ_cons]
theorem enum_yrs (ys : List Ps) : enumD (ys.map yrD) = ((List.range' 0 ys.length).zip ys).map fun q => D.tup [.int (q.1 : Nat), yrD q.2] := by
  unfold enumD
  rw [List.length_map, List.range_eq_range', List.zipWith_map_right, List.zip, List.map_zipWith]
theorem lreason (ok : Ok ms bs ys gap) {st : D} {a b : PySem.Str} (ha : a ∈ Nam ms) (hb : b ∈ Nam ms) (S : Store) : ∃ X, m__law_reason [PaD ms bs ys gap st, .str a, .str b] S = .ok (rsn ms bs ys gap a b) (S ++ X) := by
  have az : Az2 (a, b) := by
    obtain ⟨p, hp, rfl⟩ := List.mem_map.mp ha
    obtain ⟨q, hq, rfl⟩ := List.mem_map.mp hb
    exact ⟨(ok.nm p hp).az, (ok.nm q hq).az⟩
  have z : 1000 ≤ sizeLine := by decide
  refine ⟨[.dK (kvs ms)], def_run rfl ?_⟩
  show sSeq _ _ [some (PaD ms bs ys gap st), some (.str a), some (.str b), none, none, none, none, none, none, none, none, none] S = _
  have s0 : sAsg (mVar 0) (gmTup 5 (gmCons (gmName 3) (gmCons (gmName 4) (gmCons (gmName 5) (gmCons (gmName 6) (gmCons (gmName 7) gmNil)))))) [some (PaD ms bs ys gap st), some (.str a), some (.str b), none, none, none, none, none, none, none, none, none] S = .next [some (PaD ms bs ys gap st), some (.str a), some (.str b), some (.tupX (ms.map prD)), some (.tup (bs.map prD)), some (.tup (ys.map yrD)), some (.int gap), some st, none, none, none, none] S := rfl
  rw [sq s0]
  have s1 : sAsg (mCall cDictX (mCons (mVar 3) mNil)) (gmName 8) [some (PaD ms bs ys gap st), some (.str a), some (.str b), some (.tupX (ms.map prD)), some (.tup (bs.map prD)), some (.tup (ys.map yrD)), some (.int gap), some st, none, none, none, none] S = .next [some (PaD ms bs ys gap st), some (.str a), some (.str b), some (.tupX (ms.map prD)), some (.tup (bs.map prD)), some (.tup (ys.map yrD)), some (.int gap), some st, some (.loc S.length), none, none, none] (S ++ [.dK (kvs ms)]) := by
    rw [asg_ok (d := .loc S.length) (S' := S ++ [.dK (kvs ms)])]
    · rfl
    · rw [call_ok (cons_ok (var_ok rfl) nil_ok)]
      simp only [cDictX, pairs_of_ms, merge_ms ok.nd]
  rw [sq s1]
  have hk : (S ++ [Ob.dK (kvs ms)])[S.length]? = some (.dK (kvs ms)) := by simp
  generalize S.length = k at hk
  generalize S ++ [Ob.dK (kvs ms)] = S' at hk
  have va := val_ms ms ha
  have vb := val_ms ms hb
  unfold rsn
  generalize hE : [some (PaD ms bs ys gap st), some (D.str a), some (.str b), some (.tupX (ms.map prD)), some (.tup (bs.map prD)), some (.tup (ys.map yrD)), some (.int gap), some st, some (.loc k), none, none, none] = E
  have e1 : E[1]? = some (some (.str a)) := by rw [← hE]; rfl
  have e2 : E[2]? = some (some (.str b)) := by rw [← hE]; rfl
  have e4 : E[4]? = some (some (.tup (bs.map prD))) := by rw [← hE]; rfl
  have e5 : E[5]? = some (some (.tup (ys.map yrD))) := by rw [← hE]; rfl
  have e8 : E[8]? = some (some (.loc k)) := by rw [← hE]; rfl
  have c1 : bVal (mOp dEqA (mVar 1) (mVar 2)) E S' = .ok (decide (a = b)) S' := val_ok (opv (var_ok e1) (var_ok e2) (eqS _ _ _))
  by_cases q1 : a = b
  · rw [if_pos q1, sqr (show sIf _ _ _ _ _ = .ret (.str "self") S' by rw [if_ok c1, if_pos (decide_eq_true q1)]; exact ret_ok c_ok)]
  rw [if_neg q1, sq (ifn (by rw [c1, decide_eq_false q1]))]
  have da : mDGet (mVar 8) (mVar 1) E S' = .ok (.str (hou ms a)) S' := dget (var_ok e8) (var_ok e1) hk va
  have db : mDGet (mVar 8) (mVar 2) E S' = .ok (.str (hou ms b)) S' := dget (var_ok e8) (var_ok e2) hk vb
  have c2 : bAnd (bVal (mOp dNeA (mDGet (mVar 8) (mVar 1)) (mC (.str "")))) (bVal (mOp dEqA (mDGet (mVar 8) (mVar 1)) (mDGet (mVar 8) (mVar 2)))) E S' = .ok (decide (hou ms a ≠ "" ∧ hou ms a = hou ms b)) S' := by
    rw [and_v (val_ok (opv da c_ok (neS _ _ _)))]
    by_cases z : hou ms a = ""
    · simp [z]
    · rw [decide_eq_false z]
      simp only [Bool.not_false, if_true]
      rw [val_ok (opv da db (eqS _ _ _))]
      simp [z]
  by_cases q2 : hou ms a ≠ "" ∧ hou ms a = hou ms b
  · rw [if_pos q2, sqr (show sIf _ _ _ _ _ = .ret (.str "house") S' by rw [if_ok c2, if_pos (decide_eq_true q2)]; exact ret_ok c_ok)]
  rw [if_neg q2, sq (ifn (by rw [c2, decide_eq_false q2]))]
  have c3 : bVal (mOp dIn (mTup (mCons (mVar 1) (mCons (mVar 2) mNil))) (mVar 4)) E S' = .ok (decide ((a, b) ∈ bs)) S' := val_ok (opv (tup_ok (cons_ok (var_ok e1) (cons_ok (var_ok e2) nil_ok)) (show 2 ≤ sizeLine by decide)) (var_ok e4) (in_prs ok.az (a := (a, b)) az S'))
  by_cases q3 : (a, b) ∈ bs
  · rw [if_pos q3, sqr (show sIf _ _ _ _ _ = .ret (.str "bar") S' by rw [if_ok c3, if_pos (decide_eq_true q3)]; exact ret_ok c_ok)]
  rw [if_neg q3, sq (ifn (by rw [c3, decide_eq_false q3]))]
  have ln : ∀ E' : En, E'[5]? = some (some (.tup (ys.map yrD))) → mCall cLen (mCons (mVar 5) mNil) E' S' = .ok (.int (ys.length : Int)) S' := fun E' h => by
    rw [call_ok (cons_ok (var_ok h) nil_ok)]
    simp [cLen]
  have rc : mLc (itEnumA (mCons (mVar 5) mNil)) (gmTup 2 (gmCons (gmName 10) (gmCons (gmName 11) gmNil))) (bVal (mOp dGe (mOp dAdd (mVar 10) (mVar 6)) (mCall cLen (mCons (mVar 5) mNil)))) (mVar 11) [10, 11] E S' = .ok (.lst ((lst ys gap).map yrD)) S' := by
    have it : itEnumA (mCons (mVar 5) mNil) E S' = .ok (((List.range' 0 ys.length).zip ys).map fun q => D.tup [.int (q.1 : Nat), yrD q.2]) S' := by
      unfold itEnumA
      rw [cons_ok (var_ok e5) nil_ok, ← enum_yrs]
      rfl
    have key := lc_same (g := gmTup 2 (gmCons (gmName 10) (gmCons (gmName 11) gmNil))) (t := bVal (mOp dGe (mOp dAdd (mVar 10) (mVar 6)) (mCall cLen (mCons (mVar 5) mNil)))) (e := mVar 11) (vs := [10, 11]) (fun q : Nat × Ps => D.tup [.int (q.1 : Nat), yrD q.2]) (fun q => decide ((ys.length : Int) ≤ (q.1 : Int) + gap)) (fun q => yrD q.2) it (fun q _ => by
      rw [← hE]
      exact ⟨_, rfl, val_ok (opv (opv (var_ok rfl) (var_ok rfl) add_i) (ln _ rfl) rfl), fun _ => var_ok rfl⟩) (by
        rw [List.length_zip, List.length_range']
        have := ok.ly
        omega)
    rw [key]
    congr 2
    have zf := zip_filter (ys.length : Int) gap ys 0
    rw [show (fun q : Nat × Ps => yrD q.2) = yrD ∘ (·.2) from rfl, ← List.map_map, zf]
    simp [lst]
  have s9 := asg_ok (i := 9) rc
  rw [sq s9]
  have c4 := any_years (S := S') ok az (it := itSeq (mVar 9)) (e1 := mTup (mCons (mVar 1) (mCons (mVar 2) mNil))) (e2 := mVar 11) (i := 11) (env := E.set 9 (some (.lst ((lst ys gap).map yrD)))) (seq_lst (var_ok (by rw [← hE]; rfl))) (by rw [← hE]; exact (show 11 < 12 by decide)) (fun x => by rw [← hE]; exact tup_ok (cons_ok (var_ok rfl) (cons_ok (var_ok rfl) nil_ok)) (show 2 ≤ sizeLine by decide)) (fun x => by rw [← hE]; exact var_ok rfl)
  refine ret_ok ?_
  rw [ife (val_ok c4)]
  split <;> rfl
end
end Lw

set_option exponentiation.threshold 600
namespace Lw
open PySem L2 Lg
section
variable {ms bs : Ps} {ys : List Ps} {gap : Int} {n : Nat} {S : Store}
theorem Ok.azN (ok : Ok ms bs ys gap) {a : PySem.Str} (ha : a ∈ Nam ms) : Az a := by
  obtain ⟨p, hp, rfl⟩ := List.mem_map.mp ha
  exact (ok.nm p hp).az
theorem pl_strs {l : List PySem.Str} (h : ∀ a ∈ l, Az a) : Pl (.tup (l.map D.str)) (.tuple (l.map PyData.str)) := (Pl.tup (n := 0) l (fun x hx => ⟨.str (h x hx), by simp [PyData.depth]⟩) (by decide)).1
theorem zip_self (l : List PySem.Str) (f : PySem.Str → D) : zipD (l.map D.str) (l.map f) = l.map fun b => .tup [.str b, f b] := by
  unfold zipD
  rw [List.zipWith_map, List.zipWith_self]
theorem one_right (ok : Ok ms bs ys gap) (h : S[n]? = some (CiD ms bs ys gap)) {st : D} {a : PySem.Str} (ha : a ∈ Nam ms) : ∃ X, m__law_one_right [.loc n, PaD ms bs ys gap st, .str a, .lst ((Nam ms).map D.str)] S = .ok (.bl true) (S ++ X) := by
  have zl : (Nam ms).length ≤ sizeLine := by rw [List.length_map]; exact ok.zl
  have azs := fun a ha => ok.azN (a := a) ha
  -- the law's reasons
  obtain ⟨X1, h1⟩ := lc_yes (it := itSeq (mVar 3)) (g := gmName 6) (e := mCall m__law_reason (mCons (mVar 1) (mCons (mVar 2) (mCons (mVar 6) mNil)))) (vs := [6]) (env := [some (.loc n), some (PaD ms bs ys gap st), some (.str a), some (.lst ((Nam ms).map D.str)), none, none, none, none]) (S := S) (fun _ => True) (fun _ _ h => h) D.str (fun b => rsn ms bs ys gap a b) (xs := Nam ms) (seq_lst (var_ok rfl)) trivial (fun b hb S _ => by
    obtain ⟨X, q⟩ := lreason ok (st := st) ha hb S
    exact ⟨_, rfl, X, (call_ok (cons_ok (var_ok rfl) (cons_ok (var_ok rfl) (cons_ok (var_ok rfl) nil_ok)))).trans q⟩) zl
  obtain ⟨X2, h2⟩ := lc_yes (it := itSeq (mVar 3)) (g := gmName 6) (e := mCall m__law_reason (mCons (mVar 1) (mCons (mVar 6) (mCons (mVar 2) mNil)))) (vs := [6]) (env := [some (.loc n), some (PaD ms bs ys gap st), some (.str a), some (.lst ((Nam ms).map D.str)), some (.lst ((Nam ms).map fun b => rsn ms bs ys gap a b)), none, none, none]) (S := S ++ X1) (fun _ => True) (fun _ _ h => h) D.str (fun b => rsn ms bs ys gap b a) (xs := Nam ms) (seq_lst (var_ok rfl)) trivial (fun b hb S _ => by
    obtain ⟨X, q⟩ := lreason ok (st := st) hb ha S
    exact ⟨_, rfl, X, (call_ok (cons_ok (var_ok rfl) (cons_ok (var_ok rfl) (cons_ok (var_ok rfl) nil_ok)))).trans q⟩) zl
  have hS2 := at_app X2 (at_app X1 h)
  obtain ⟨X3, h3⟩ := takers ok hS2 ha
  have hS3 := at_app X3 hS2
  obtain ⟨X4, h4⟩ := givers ok hS3 ha
  have hS4 := at_app X4 hS3
  generalize hA : (Nam ms).map (fun b => rsn ms bs ys gap a b) = A at h2
  generalize hB : (Nam ms).map (fun b => rsn ms bs ys gap b a) = B at h2
  obtain ⟨X5, h5⟩ := lc_yes (it := itSeq (mVar 3)) (g := gmName 6) (e := mMeth 1 "reason" m_Circle_reason [] (mVar 0) (mCons (mVar 2) (mCons (mVar 6) mNil))) (vs := [6]) (env := [some (.loc n), some (PaD ms bs ys gap st), some (.str a), some (.lst ((Nam ms).map D.str)), some (.lst A), some (.lst B), none, none]) (S := S ++ X1 ++ X2 ++ X3 ++ X4) (fun S => S[n]? = some (CiD ms bs ys gap)) (fun S X hS => at_app X hS) D.str (fun b => rsn ms bs ys gap a b) (xs := Nam ms) (seq_lst (var_ok rfl)) hS4 (fun b hb S hS => by
    obtain ⟨X, q⟩ := reason ok hS ha hb
    exact ⟨_, rfl, X, meth (var_ok rfl) hS rfl (cons_ok (var_ok rfl) (cons_ok (var_ok rfl) nil_ok)) q⟩) zl
  have hS5 := at_app X5 hS4
  obtain ⟨X6, h6⟩ := lc_yes (it := itSeq (mVar 3)) (g := gmName 6) (e := mMeth 1 "reason" m_Circle_reason [] (mVar 0) (mCons (mVar 6) (mCons (mVar 2) mNil))) (vs := [6]) (env := [some (.loc n), some (PaD ms bs ys gap st), some (.str a), some (.lst ((Nam ms).map D.str)), some (.lst A), some (.lst B), none, none]) (S := S ++ X1 ++ X2 ++ X3 ++ X4 ++ X5) (fun S => S[n]? = some (CiD ms bs ys gap)) (fun S X hS => at_app X hS) D.str (fun b => rsn ms bs ys gap b a) (xs := Nam ms) (seq_lst (var_ok rfl)) hS5 (fun b hb S hS => by
    obtain ⟨X, q⟩ := reason ok hS hb ha
    exact ⟨_, rfl, X, meth (var_ok rfl) hS rfl (cons_ok (var_ok rfl) (cons_ok (var_ok rfl) nil_ok)) q⟩) zl
  refine ⟨X1 ++ X2 ++ X3 ++ X4 ++ X5 ++ X6, def_run rfl ?_⟩
  show sSeq _ _ [some (.loc n), some (PaD ms bs ys gap st), some (.str a), some (.lst ((Nam ms).map D.str)), none, none, none, none] S = _
  rw [sq (asg_ok (i := 4) h1)]
  rw [hA]
  show sSeq _ _ [some (.loc n), some (PaD ms bs ys gap st), some (.str a), some (.lst ((Nam ms).map D.str)), some (.lst A), none, none, none] _ = _
  rw [sq (asg_ok (i := 5) h2)]
  have zt : ∀ (f : PySem.Str → D) (i : Nat) (S' : Store), [some (.loc n), some (PaD ms bs ys gap st), some (.str a), some (D.lst ((Nam ms).map D.str)), some (.lst A), some (.lst B), none, none][i]? = some (some (.lst ((Nam ms).map f))) → mCall cTuple (mCons (mLc (itZip (mCons (mVar 3) (mCons (mVar i) mNil))) (gmTup 2 (gmCons (gmName 6) (gmCons (gmName 7) gmNil))) (bVal (mOp dIsN (mVar 7) (mC .non))) (mVar 6) [6, 7]) mNil) [some (.loc n), some (PaD ms bs ys gap st), some (.str a), some (.lst ((Nam ms).map D.str)), some (.lst A), some (.lst B), none, none] S' = .ok (.tup (((Nam ms).filter fun b => isNon (f b)).map D.str)) S' := by
    intro f i S' hi
    refine tuple_lst (lc_same (fun b => D.tup [.str b, f b]) (fun b => isNon (f b)) D.str ?_ (fun b hb => ⟨_, rfl, val_ok (opv (var_ok rfl) c_ok (isn _ _)), fun _ => var_ok rfl⟩) zl)
    unfold itZip
    rw [cons_ok (var_ok rfl) (cons_ok (var_ok hi) nil_ok)]
    show Res.ok (zipD _ _) _ = _
    rw [zip_self]
  have c1 : bVal (mOp dNeA (mMeth 1 "takers" m_Circle_takers [] (mVar 0) (mCons (mVar 2) mNil)) (mCall cTuple (mCons (mLc (itZip (mCons (mVar 3) (mCons (mVar 4) mNil))) (gmTup 2 (gmCons (gmName 6) (gmCons (gmName 7) gmNil))) (bVal (mOp dIsN (mVar 7) (mC .non))) (mVar 6) [6, 7]) mNil))) [some (.loc n), some (PaD ms bs ys gap st), some (.str a), some (.lst ((Nam ms).map D.str)), some (.lst A), some (.lst B), none, none] (S ++ X1 ++ X2) = .ok false (S ++ X1 ++ X2 ++ X3) :=
    val_ok (opv (meth (var_ok rfl) hS2 rfl (cons_ok (var_ok rfl) nil_ok) h3) (zt (fun b => rsn ms bs ys gap a b) 4 _ (by rw [hA]; rfl)) ((pl_strs fun x hx => azs x (List.mem_filter.mp hx).1).ne _))
  have c2 : bVal (mOp dNeA (mMeth 1 "givers" m_Circle_givers [] (mVar 0) (mCons (mVar 2) mNil)) (mCall cTuple (mCons (mLc (itZip (mCons (mVar 3) (mCons (mVar 5) mNil))) (gmTup 2 (gmCons (gmName 6) (gmCons (gmName 7) gmNil))) (bVal (mOp dIsN (mVar 7) (mC .non))) (mVar 6) [6, 7]) mNil))) [some (.loc n), some (PaD ms bs ys gap st), some (.str a), some (.lst ((Nam ms).map D.str)), some (.lst A), some (.lst B), none, none] (S ++ X1 ++ X2 ++ X3) = .ok false (S ++ X1 ++ X2 ++ X3 ++ X4) :=
    val_ok (opv (meth (var_ok rfl) hS3 rfl (cons_ok (var_ok rfl) nil_ok) h4) (zt (fun b => rsn ms bs ys gap b a) 5 _ (by rw [hB]; rfl)) ((pl_strs fun x hx => azs x (List.mem_filter.mp hx).1).ne _))
  obtain ⟨p1, pl1⟩ := Pl.anyL (l := A) (n := 1) (by rw [← hA]; intro d hd; obtain ⟨b, _, rfl⟩ := List.mem_map.mp hd; exact rsn_pl ms bs ys gap a b) (by decide)
  obtain ⟨p2, pl2⟩ := Pl.anyL (l := B) (n := 1) (by rw [← hB]; intro d hd; obtain ⟨b, _, rfl⟩ := List.mem_map.mp hd; exact rsn_pl ms bs ys gap b a) (by decide)
  rw [hA] at h5
  rw [hB] at h6
  show sSeq _ _ [some (.loc n), some (PaD ms bs ys gap st), some (.str a), some (.lst ((Nam ms).map D.str)), some (.lst A), some (.lst B), none, none] _ = _
  rw [sq (ifn c1), sq (ifn c2), sq (ifn (val_ok (opv h5 (var_ok rfl) (pl1.ne _))))]
  rw [show S ++ (X1 ++ X2 ++ X3 ++ X4 ++ X5 ++ X6) = S ++ X1 ++ X2 ++ X3 ++ X4 ++ X5 ++ X6 by simp]
  exact ret_ok (opv h6 (var_ok rfl) (pl2.eq _))
/-! ### values -/
theorem Ok.pl3 (ok : Ok ms bs ys gap) : ∃ p, Pl (.tup [.tupX (ms.map prD), .tup (bs.map prD), .tup (ys.map yrD)]) p ∧ p.depth ≤ 11 := by
  refine Pl.anyT (n := 10) (fun d hd => ?_) (by decide)
  have a := Pl.tupX (n := 1) ms (fun x hx => ⟨.pr ⟨(ok.nm x hx).az, (ok.ho x hx).1⟩, dep_pr x⟩) (by decide)
  have b := plYr ok.az
  have c := ok.plY
  simp only [List.mem_cons, List.not_mem_nil, or_false] at hd
  rcases hd with rfl | rfl | rfl
  · exact ⟨_, a.1, by have := a.2; omega⟩
  · exact ⟨_, b.1, by have := b.2; omega⟩
  · exact ⟨_, c.1, by have := c.2; omega⟩
theorem repr_ (ok : Ok ms bs ys gap) (h : S[n]? = some (CiD ms bs ys gap)) : m_Circle_repr [.loc n] S = .ok (.str ("Circle(" ++ tx ms.length ++ ")")) S := by
  have lm := ok.lm
  have l2 : ms.length < 2 ^ 500 := Nat.lt_of_le_of_lt lm (by decide)
  have la := tx_len l2
  have l1 : ("Circle(" : PySem.Str).length = 7 := by decide +kernel
  have l3 : (")" : PySem.Str).length = 1 := by decide +kernel
  have z : 2000 ≤ sizeLine := by decide
  have ln : mCall cLen (mCons (mFldO ok_of_members "members" (mVar 0)) mNil) [some (.loc n)] S = .ok (.int (ms.length : Nat)) S := by
    rw [call_ok (cons_ok (fldM (var_ok rfl) h) nil_ok)]
    simp [cLen]
  refine def_ret rfl (js_ok c_ok ?_ (js_ok (fmt_ok ln l2) ?_ (js_ok c_ok ?_ ?_))) <;> rw [emp_app]
  · rw [l1]; omega
  · rw [Str.length_append, l1]; omega
  · simp only [Str.length_append, l1, l3]; omega
  · rfl
theorem own1 {f : List D → Store → Res D} {want : D → Bool} {base : List D → Store → Res D} {y : D} {env : En} {i : Nat} (h : S[n]? = some (CiD ms bs ys gap)) (hf : f [.loc n] S = .ok y S) (hw : want y = true) (e : env[i]? = some (some (.loc n))) : mCall (cO1 1 want f base) (mCons (mVar i) mNil) env S = .ok y S := by
  rw [call_ok (cons_ok (var_ok e) nil_ok)]
  unfold cO1
  simp [insC, h, CiD, hf, Res.bind, hw]
theorem values (ok : Ok ms bs ys gap) (h : S[n]? = some (CiD ms bs ys gap)) (st : D) : m__law_values_right [.loc n, PaD ms bs ys gap st] S = .ok (.bl true) S := by
  have lm := ok.lm
  have l2 : ms.length < 2 ^ 500 := Nat.lt_of_le_of_lt lm (by decide)
  have la := tx_len l2
  have l1 : ("Circle(" : PySem.Str).length = 7 := by decide +kernel
  have l3 : (")" : PySem.Str).length = 1 := by decide +kernel
  have z : 2000 ≤ sizeLine := by decide
  refine def_run rfl ?_
  have s0 : sAsg (mVar 1) (gmTup 5 (gmCons (gmName 2) (gmCons (gmName 3) (gmCons (gmName 4) (gmCons (gmName 5) (gmCons (gmName 6) gmNil)))))) (startE 9 [.loc n, PaD ms bs ys gap st]) S = .next [some (.loc n), some (PaD ms bs ys gap st), some (.tupX (ms.map prD)), some (.tup (bs.map prD)), some (.tup (ys.map yrD)), some (.int gap), some st, none, none] S := rfl
  rw [sq s0]
  generalize hE : [some (D.loc n), some (PaD ms bs ys gap st), some (.tupX (ms.map prD)), some (.tup (bs.map prD)), some (.tup (ys.map yrD)), some (.int gap), some st, none, none] = E
  have e0 : E[0]? = some (some (.loc n)) := by rw [← hE]; rfl
  have e2 : E[2]? = some (some (.tupX (ms.map prD))) := by rw [← hE]; rfl
  have e3 : E[3]? = some (some (.tup (bs.map prD))) := by rw [← hE]; rfl
  have e4 : E[4]? = some (some (.tup (ys.map yrD))) := by rw [← hE]; rfl
  have e5 : E[5]? = some (some (.int gap)) := by rw [← hE]; rfl
  obtain ⟨p3, pl3, _⟩ := ok.pl3
  have c1 : bOr (bVal (mOp dNeA (mTup (mCons (mFldO ok_of_members "members" (mVar 0)) (mCons (mFldO ok_of_bars "bars" (mVar 0)) (mCons (mFldO ok_of_past "past" (mVar 0)) mNil)))) (mTup (mCons (mVar 2) (mCons (mVar 3) (mCons (mVar 4) mNil)))))) (bVal (mOp dNeA (mFldO ok_of_gap "gap" (mVar 0)) (mVar 5))) E S = .ok false S := by
    rw [or_no (val_ok (opv (tup_ok (cons_ok (fldM (var_ok e0) h) (cons_ok (fldB (var_ok e0) h) (cons_ok (fldP (var_ok e0) h) nil_ok))) (show 3 ≤ sizeLine by decide)) (tup_ok (cons_ok (var_ok e2) (cons_ok (var_ok e3) (cons_ok (var_ok e4) nil_ok))) (show 3 ≤ sizeLine by decide)) (pl3.ne S)))]
    exact val_ok (opv (fldG (var_ok e0) h) (var_ok e5) (by rw [neI]; simp))
  have ln : mCall cLen (mCons (mVar 2) mNil) E S = .ok (.int (ms.length : Nat)) S := by
    rw [call_ok (cons_ok (var_ok e2) nil_ok)]
    simp [cLen]
  have c2 : bOr (bVal (mIsi "bool" (mFldO ok_of_gap "gap" (mVar 0)))) (bVal (mOp dNeA (mCall (cO1 1 isStrD m_Circle_repr cReprS) (mCons (mVar 0) mNil)) (mOp dAdd (mOp dAdd (mC (.str "Circle(")) (mCall cStr (mCons (mCall cLen (mCons (mVar 2) mNil)) mNil))) (mC (.str ")"))))) E S = .ok false S := by
    rw [or_no (isi_int (fldG (var_ok e0) h))]
    have ad : mOp dAdd (mOp dAdd (mC (.str "Circle(")) (mCall cStr (mCons (mCall cLen (mCons (mVar 2) mNil)) mNil))) (mC (.str ")")) E S = .ok (.str ("Circle(" ++ tx ms.length ++ ")")) S := by
      refine opv (opv c_ok (str_ok ln l2) (if_pos ?_)) c_ok (if_pos ?_)
      · rw [l1]; omega
      · rw [Str.length_append, l1, l3]; omega
    exact val_ok (opv (own1 h (repr_ ok h) rfl e0) ad (by rw [neS]; simp))
  have lenc : m_Circle_len [.loc n] S = .ok (.int (ms.length : Nat)) S := by
    refine def_ret rfl ?_
    rw [call_ok (cons_ok (fldM (var_ok rfl) h) nil_ok)]
    simp [cLen]
  have wl : isLenD (.int (ms.length : Nat)) = true := by
    have : (100 : Int) < 2 ^ 63 := by decide
    have g : (0 : Int) ≤ (ms.length : Nat) ∧ ((ms.length : Nat) : Int) < 2 ^ 63 := ⟨by omega, by omega⟩
    unfold isLenD
    exact decide_eq_true g
  have c3 : bVal (mOp dNeA (mCall (cO1 1 isLenD m_Circle_len cLen) (mCons (mVar 0) mNil)) (mCall cLen (mCons (mVar 2) mNil))) E S = .ok false S := val_ok (opv (own1 h lenc wl e0) ln (by rw [neI]; simp))
  rw [sq (ifn c1), sq (ifn c2), sq (ifn c3)]
  have nm : mCall cTuple (mCons (mLc (itSeq (mVar 2)) (gmTup 2 (gmCons (gmName 7) (gmCons (gmName 8) gmNil))) bYes (mVar 7) [7, 8]) mNil) E S = .ok (.tup ((Nam ms).map D.str)) S := by
    refine tuple_lst ?_
    rw [List.map_map]
    exact lc_sameY prD (fun p => D.str p.1) (seq_tupX (var_ok e2)) (fun p _ => by rw [← hE]; exact ⟨_, two_name p, var_ok rfl⟩) ok.zl
  exact ret_ok (opv (meth (var_ok e0) h rfl nil_ok (names h ok.zl)) nm ((pl_strs fun a ha => ok.azN ha).eq S))
/-! ### made -/
theorem fld_set {f : PySem.Str} {o a : EM} {env : En} {S S1 S2 : Store} {fs : List (PySem.Str × D)} {d : D} {k : Nat} (ha : a env S = .ok d S1) (ho : o env S1 = .ok (.loc k) S2) (hk : S2[k]? = some (.ins 1 fs)) (hl : fs.length < 1000) : sFldM 1 f o a env S = .next env (S2.set k (.ins 1 (putD f d fs))) := by
  unfold sFldM
  rw [ha]
  simp only [Res.bindS, ho, hk]
  rw [if_pos ⟨trivial, hl⟩]
theorem app_set (S : Store) (o o' : Ob) : (S ++ [o]).set S.length o' = S ++ [o'] := by simp
theorem app_at (S : Store) (o : Ob) : (S ++ [o])[S.length]? = some o := by simp
theorem init_ (m b p g b' p' : D) (hb : ∀ S, mIf (bVal (mOp dIsN (mVar 2) (mC .non))) (mTup mNil) (mVar 2) [some (.loc S.length), some m, some b, some p, some g] (S ++ [.ins 1 [("members", m)]]) = .ok b' (S ++ [.ins 1 [("members", m)]])) (hp : ∀ S, mIf (bVal (mOp dIsN (mVar 3) (mC .non))) (mTup mNil) (mVar 3) [some (.loc S.length), some m, some b, some p, some g] (S ++ [.ins 1 [("members", m), ("bars", b')]]) = .ok p' (S ++ [.ins 1 [("members", m), ("bars", b')]])) (S : Store) :
    m_Circle_init [.loc S.length, m, b, p, g] (S ++ [.ins 1 []]) = .ok .non (S ++ [.ins 1 [("members", m), ("bars", b'), ("past", p'), ("gap", g)]]) := by
  unfold m_Circle_init mDef
  rw [if_pos (by rfl)]
  show (match sSeq _ _ [some (.loc S.length), some m, some b, some p, some g] (S ++ [.ins 1 []]) with | .ret d S' => Res.ok d S' | .next _ S' => .ok .non S' | .err x S' => .err x S' | _ => .stuck) = _
  have k1 : putD "members" m [] = [(("members" : PySem.Str), m)] := rfl
  have k2 : putD "bars" b' [(("members" : PySem.Str), m)] = [(("members" : PySem.Str), m), ("bars", b')] := by
    unfold putD; rw [if_neg (by decide +kernel)]; rfl
  have k3 : putD "past" p' [(("members" : PySem.Str), m), ("bars", b')] = [(("members" : PySem.Str), m), ("bars", b'), ("past", p')] := by
    unfold putD; rw [if_neg (by decide +kernel)]; unfold putD; rw [if_neg (by decide +kernel)]; rfl
  have k4 : putD "gap" g [(("members" : PySem.Str), m), ("bars", b'), ("past", p')] = [(("members" : PySem.Str), m), ("bars", b'), ("past", p'), ("gap", g)] := by
    unfold putD; rw [if_neg (by decide +kernel)]; unfold putD; rw [if_neg (by decide +kernel)]; unfold putD; rw [if_neg (by decide +kernel)]; rfl
  rw [sq (fld_set (d := m) (var_ok rfl) (var_ok rfl) (app_at _ _) (by decide)), app_set, k1]
  rw [sq (fld_set (d := b') (hb S) (var_ok rfl) (app_at _ _) (show 1 < 1000 by decide)), app_set, k2]
  rw [sq (fld_set (d := p') (hp S) (var_ok rfl) (app_at _ _) (show 2 < 1000 by decide)), app_set, k3]
  rw [fld_set (fs := [(("members" : PySem.Str), m), ("bars", b'), ("past", p')]) (d := g) (var_ok rfl) (var_ok rfl) (app_at _ _) (show 3 < 1000 by decide), app_set, k4]
end
end Lw

set_option exponentiation.threshold 600
namespace Lw
open PySem L2 Lg
theorem blend (sown turn : Int) (h0 : 0 ≤ turn) (h1 : turn ≤ 1000001) (S : Store) : ∃ r : Int, m__law_blend [.int sown, .int turn] S = .ok (.int r) S ∧ 0 ≤ r ∧ r < 2305843009213693907 := by
  have t2 : turn * turn ≤ 1000001 * 1000001 := Int.mul_le_mul h1 h1 h0 (by decide)
  have t3 : 0 ≤ turn * turn := Int.mul_nonneg h0 h0
  have e1 : 104729 * turn * turn = 104729 * (turn * turn) := by rw [Int.mul_assoc]
  have m1 := Int.emod_nonneg sown (show (2305843009213693951 : Int) ≠ 0 by decide)
  have m2 := Int.emod_lt_of_pos sown (show (0 : Int) < 2305843009213693951 by decide)
  have b : (10000000000000000000000000000000 : Int) < 2 ^ 500 := by decide
  have c1 : CMulW 104729 turn := cm (by decide) (by decide) h0 (by omega)
  have c2 : CMulW (104729 * turn) turn := cm (by omega) (by omega) h0 (by omega)
  have c3 : CMulW 17 turn := cm (by decide) (by decide) h0 (by omega)
  generalize hs : sown % 2305843009213693951 + 104729 * turn * turn + 17 * turn + 5 = seed
  have s1 : 0 ≤ seed ∧ seed < 10000000000000000000 := by omega
  have c4 : CMulW seed 48271 := cm s1.1 (by omega) (by decide) (by decide)
  generalize ho : seed * 48271 % 2305843009213693921 = once
  have o1 : 0 ≤ once ∧ once < 2305843009213693921 := by
    rw [← ho]; exact ⟨Int.emod_nonneg _ (by decide), Int.emod_lt_of_pos _ (by decide)⟩
  have c5 : CMulW 99991 turn := cm (by decide) (by decide) h0 (by omega)
  have m3 := Int.emod_nonneg once (show (1000003 : Int) ≠ 0 by decide)
  have m4 := Int.emod_lt_of_pos once (show (0 : Int) < 1000003 by decide)
  have c6 : CMulW once (once % 1000003 + 99991 * turn) := cm o1.1 (by omega) (by omega) (by omega)
  have c7 : CDivW once 11 := by unfold CDivW; decide
  refine ⟨(once * (once % 1000003 + 99991 * turn) + once / 11) % 2305843009213693907, ?_, Int.emod_nonneg _ (by decide), Int.emod_lt_of_pos _ (by decide)⟩
  have p1 : (0 : Int) < 2305843009213693951 := by decide
  have p2 : (0 : Int) < 2305843009213693921 := by decide
  have p3 : (0 : Int) < 1000003 := by decide
  have p4 : (0 : Int) < 2305843009213693907 := by decide
  simp only [m__law_blend, mDef, startE, sSeq, sAsg, sRet, mOp, mVar, mC, gmName, Res.bind, Res.bindS, FRes.seq, dInt, dAdd, List.length_cons, List.length_nil, List.map_cons, List.map_nil, List.replicate, List.cons_append, List.nil_append, List.append_nil, List.getElem?_cons_zero, List.getElem?_cons_succ, List.set, if_true, p1, p2, p3, p4, c1, c2, c3, hs, c4, ho, c5, c6, c7, Nat.reduceAdd, Nat.reduceSub]

def Pot (R : Store) (cells : List Int) (big seed turn : Int) : Store := .lst (cells.map D.int) :: .lst [.loc 0, .int big, .int seed, .int turn] :: R
theorem pys_ints : ∀ l : List Int, pys (l.map D.int) = some (l.map PyData.int)
  | [] => rfl
  | x :: l => by simp [pys, D.py, pys_ints l]
theorem lay_ints : ∀ l : List Int, PyData.canLayAll0 (l.map PyData.int) = true
  | [] => rfl
  | x :: l => by simp [PyData.canLayAll0, PyData.canLay0, lay_ints l]
theorem dep_ints : ∀ l : List Int, PyData.depthAll (l.map PyData.int) = 0
  | [] => rfl
  | x :: l => by simp [PyData.depthAll, PyData.depth, dep_ints l]
theorem ne0 (R : Store) (cells : List Int) (big seed turn : Int) : dNeA (.loc 0) (.lst []) (Pot R cells big seed turn) = .ok (.bl (!cells.isEmpty)) (Pot R cells big seed turn) := by
  show dNe _ _ _ = _
  have h1 : SeqAt.shaped (.list (cells.map PyData.int)) = true := by
    unfold SeqAt.shaped
    simp [PyData.canLay0, PyData.depth, lay_ints, dep_ints]
  have h2 : SeqAt.shaped (.list []) = true := rfl
  have e1 : pyOf (.loc 0) (Pot R cells big seed turn) = some (.list (cells.map PyData.int)) := by simp [pyOf, Pot, pys_ints]
  have e2 : pyOf (.lst []) (Pot R cells big seed turn) = some (.list []) := rfl
  unfold dNe dEqB
  rw [e1, e2]
  simp only [h1, h2, and_self, if_true]
  cases cells <;> rfl
theorem draw {R : Store} {cells : List Int} {big seed turn size : Int} (hb : 0 ≤ big) (hc : cells.length ≤ 63) (ht0 : 0 ≤ turn) (ht : turn ≤ 1000000) (hs0 : 0 < size) (hs : size < 2 ^ 500) :
    ∃ (r : Int) (cells' : List Int) (big' seed' : Int), m__law_draw [.loc 1, .int size] (Pot R cells big seed turn) = .ok (.int r) (Pot R cells' big' seed' (turn + 1)) ∧ 0 ≤ r ∧ r < size ∧ 0 ≤ big' ∧ cells'.length ≤ 63 := by
  have dv : ∀ i, CDivW i size := fun i => ⟨hs0, Nat.lt_of_lt_of_le (lg (Int.le_of_lt hs0) hs (by decide)) (by decide)⟩
  have d7 : ∀ i, CDivW i 7 := fun i => by unfold CDivW; decide
  have p18 : CPow 10 18 := by unfold CPow; decide
  -- the last part
  have last : ∀ (x y : Option D) (cells : List Int) (big seed : Int), 0 ≤ big → cells.length ≤ 63 → ∃ (r : Int) (big' : Int), (sSeq (sIf (bVal (mOp dGt (mOp dIx (mVar 0) (mC (.int 1))) (mC (.int 0)))) (sSeq (sAsg (mOp dMod (mOp dIx (mVar 0) (mC (.int 1))) (mVar 1)) (gmName 3)) (sSeq (sAsg (mOp dDiv (mOp dIx (mVar 0) (mC (.int 1))) (mVar 1)) (gmSub (mVar 0) (mC (.int 1)) dSet)) (sRet (mVar 3)))) sNext) (sRet (mOp dMod (mOp dDiv (mCall m__law_blend (mCons (mOp dIx (mVar 0) (mC (.int 2))) (mCons (mOp dIx (mVar 0) (mC (.int 3))) mNil))) (mC (.int 7))) (mVar 1)))) [some (.loc 1), some (.int size), x, y] (Pot R cells big seed (turn + 1)) = .ret (.int r) (Pot R cells big' seed (turn + 1)) ∧ 0 ≤ r ∧ r < size ∧ 0 ≤ big' := by
    intro x y cells big seed hb hc
    obtain ⟨q, hq, q0, q1⟩ := blend seed (turn + 1) (by omega) (by omega) (Pot R cells big seed (turn + 1))
    by_cases hz : 0 < big
    · refine ⟨big % size, big / size, ?_, Int.emod_nonneg _ (by omega), Int.emod_lt_of_pos _ hs0, Int.ediv_nonneg hb (by omega)⟩
      simp [sSeq, sIf, sAsg, sRet, bVal, mOp, mVar, mC, gmName, gmSub, Res.bind, Res.bindS, FRes.seq, dInt, dIx, asL, atI, ixN, dSet, Pot, hz, hs0, dv]
    · refine ⟨q / 7 % size, big, ?_, Int.emod_nonneg _ (by omega), Int.emod_lt_of_pos _ hs0, hb⟩
      have hq' := hq
      simp only [Pot] at hq'
      simp [sSeq, sIf, sAsg, sRet, sNext, bVal, mOp, mVar, mC, mCall, mCons, mNil, gmName, gmSub, Res.bind, Res.bindS, FRes.seq, dInt, dIx, asL, atI, ixN, dSet, Pot, hz, hs0, dv, hq', d7]
  have sA : sAsg (mOp dAdd (mOp dIx (mVar 0) (mC (.int 3))) (mC (.int 1))) (gmSub (mVar 0) (mC (.int 3)) dSet) (startE 4 [.loc 1, .int size]) (Pot R cells big seed turn) = .next [some (.loc 1), some (.int size), none, none] (Pot R cells big seed (turn + 1)) := by
    simp [sAsg, mOp, mVar, mC, gmSub, startE, Res.bind, Res.bindS, dAdd, dIx, asL, atI, ixN, dSet, Pot, List.replicate]
  have mid : ∃ (x : Option D) (cells' : List Int) (big' seed' : Int), (sIf (bAnd (bVal (mOp dEqA (mOp dIx (mVar 0) (mC (.int 1))) (mC (.int 0)))) (bVal (mOp dNeA (mOp dIx (mVar 0) (mC (.int 0))) (mLst mNil)))) (sSeq (sAsg (mBMt "list" qPopAt (mOp dIx (mVar 0) (mC (.int 0))) (mCons (mC (.int 0)) mNil)) (gmName 2)) (sSeq (sAsg (mCall m__law_blend (mCons (mOp dAdd (mOp dIx (mVar 0) (mC (.int 2))) (mVar 2)) (mCons (mCall cLen (mCons (mOp dIx (mVar 0) (mC (.int 0))) mNil)) mNil))) (gmSub (mVar 0) (mC (.int 2)) dSet)) (sIf (bVal (mOp dGe (mCall cAbs (mCons (mVar 2) mNil)) (mOp dPow (mC (.int 10)) (mC (.int 18))))) (sAsg (mCall cAbs (mCons (mVar 2) mNil)) (gmSub (mVar 0) (mC (.int 1)) dSet)) sNext))) sNext) [some (.loc 1), some (.int size), none, none] (Pot R cells big seed (turn + 1)) =
      .next [some (.loc 1), some (.int size), x, none] (Pot R cells' big' seed' (turn + 1)) ∧ 0 ≤ big' ∧ cells'.length ≤ 63 := by
    have i0 : ∀ (cells : List Int) (b sd : Int) (x : Option D), mOp dIx (mVar 0) (mC (.int 0)) [some (.loc 1), some (.int size), x, none] (Pot R cells b sd (turn + 1)) = .ok (.loc 0) (Pot R cells b sd (turn + 1)) := fun _ _ _ _ => by simp [mOp, mVar, mC, Res.bind, dIx, asL, atI, ixN, Pot]
    have i1 : mOp dIx (mVar 0) (mC (.int 1)) [some (.loc 1), some (.int size), none, none] (Pot R cells big seed (turn + 1)) = .ok (.int big) (Pot R cells big seed (turn + 1)) := by simp [mOp, mVar, mC, Res.bind, dIx, asL, atI, ixN, Pot]
    have c1 : bVal (mOp dEqA (mOp dIx (mVar 0) (mC (.int 1))) (mC (.int 0))) [some (.loc 1), some (.int size), none, none] (Pot R cells big seed (turn + 1)) = .ok (decide (big = 0)) (Pot R cells big seed (turn + 1)) := by
      exact val_ok ((op_ok i1 rfl).trans (eqI _ _ _))
    have c2 : bVal (mOp dNeA (mOp dIx (mVar 0) (mC (.int 0))) (mLst mNil)) [some (.loc 1), some (.int size), none, none] (Pot R cells big seed (turn + 1)) = .ok (!cells.isEmpty) (Pot R cells big seed (turn + 1)) := by
      exact val_ok ((op_ok (i0 cells big seed none) rfl).trans (ne0 _ _ _ _ _))
    by_cases hz : big = 0
    · subst hz
      cases cells with
      | nil => exact ⟨none, [], 0, seed, by simp [sIf, bAnd, c1, c2, Res.bind, Res.bindS, sNext], hb, hc⟩
      | cons c cs =>
        have hl : cs.length ≤ 62 := by simpa using hc
        obtain ⟨q, hq, q0, q1⟩ := blend (seed + c) (cs.length : Int) (by omega) (by omega) (Pot R cs 0 seed (turn + 1))
        have pop : mBMt "list" qPopAt (mOp dIx (mVar 0) (mC (.int 0))) (mCons (mC (.int 0)) mNil) [some (.loc 1), some (.int size), none, none] (Pot R (c :: cs) 0 seed (turn + 1)) = .ok (.int c) (Pot R cs 0 seed (turn + 1)) := by
          have j := i0 (c :: cs) 0 seed none
          simp only [mBMt, j, Res.bind]
          simp [mCons, mNil, mC, Res.bind, tyD, qPopAt, Pot, seqIndex?]
        have e2 : mOp dIx (mVar 0) (mC (.int 2)) [some (.loc 1), some (.int size), some (.int c), none] (Pot R cs 0 seed (turn + 1)) = .ok (.int seed) (Pot R cs 0 seed (turn + 1)) := by simp [mOp, mVar, mC, Res.bind, dIx, asL, atI, ixN, Pot]
        have ln : mCall cLen (mCons (mOp dIx (mVar 0) (mC (.int 0))) mNil) [some (.loc 1), some (.int size), some (.int c), none] (Pot R cs 0 seed (turn + 1)) = .ok (.int cs.length) (Pot R cs 0 seed (turn + 1)) := by
          have j := i0 cs 0 seed (some (.int c))
          rw [call_ok (cons_ok j rfl)]
          simp [cLen, asL, Pot]
        have st : sAsg (mCall m__law_blend (mCons (mOp dAdd (mOp dIx (mVar 0) (mC (.int 2))) (mVar 2)) (mCons (mCall cLen (mCons (mOp dIx (mVar 0) (mC (.int 0))) mNil)) mNil))) (gmSub (mVar 0) (mC (.int 2)) dSet) [some (.loc 1), some (.int size), some (.int c), none] (Pot R cs 0 seed (turn + 1)) = .next [some (.loc 1), some (.int size), some (.int c), none] (Pot R cs 0 q (turn + 1)) := by
          have ad : mOp dAdd (mOp dIx (mVar 0) (mC (.int 2))) (mVar 2) [some (.loc 1), some (.int size), some (.int c), none] (Pot R cs 0 seed (turn + 1)) = .ok (.int (seed + c)) (Pot R cs 0 seed (turn + 1)) := by
            exact (op_ok e2 (show mVar 2 _ _ = .ok (.int c) _ from rfl)).trans rfl
          have cl : mCall m__law_blend (mCons (mOp dAdd (mOp dIx (mVar 0) (mC (.int 2))) (mVar 2)) (mCons (mCall cLen (mCons (mOp dIx (mVar 0) (mC (.int 0))) mNil)) mNil)) [some (.loc 1), some (.int size), some (.int c), none] (Pot R cs 0 seed (turn + 1)) = .ok (.int q) (Pot R cs 0 seed (turn + 1)) := by
            exact (call_ok (cons_ok ad (cons_ok ln rfl))).trans hq
          simp only [sAsg, cl, Res.bindS]
          simp [gmSub, mVar, mC, Res.bind, dSet, ixN, Pot]
        by_cases hg : (1000000000000000000 : Int) ≤ (if c < 0 then -c else c)
        · refine ⟨some (.int c), cs, (if c < 0 then -c else c), q, ?_, by omega, by omega⟩
          simp only [sIf, bAnd, c1, c2, Res.bind, Res.bindS, eq_self, decide_true, if_true, List.isEmpty_cons, Bool.not_false]
          have pop' : sAsg (mBMt "list" qPopAt (mOp dIx (mVar 0) (mC (.int 0))) (mCons (mC (.int 0)) mNil)) (gmName 2) [some (.loc 1), some (.int size), none, none] (Pot R (c :: cs) 0 seed (turn + 1)) = .next [some (.loc 1), some (.int size), some (.int c), none] (Pot R cs 0 seed (turn + 1)) := by
            simp only [sAsg, pop, Res.bindS, gmName]
            rfl
          rw [sq pop', sq st]
          simp [sIf, bVal, mOp, mCall, mCons, mNil, mVar, mC, cAbs, dInt, p18, hg, sAsg, gmSub, dSet, ixN, Pot, Res.bind, Res.bindS]
        · refine ⟨some (.int c), cs, 0, q, ?_, hb, by omega⟩
          simp only [sIf, bAnd, c1, c2, Res.bind, Res.bindS, eq_self, decide_true, if_true, List.isEmpty_cons, Bool.not_false]
          have pop' : sAsg (mBMt "list" qPopAt (mOp dIx (mVar 0) (mC (.int 0))) (mCons (mC (.int 0)) mNil)) (gmName 2) [some (.loc 1), some (.int size), none, none] (Pot R (c :: cs) 0 seed (turn + 1)) = .next [some (.loc 1), some (.int size), some (.int c), none] (Pot R cs 0 seed (turn + 1)) := by
            simp only [sAsg, pop, Res.bindS, gmName]
            rfl
          rw [sq pop', sq st]
          simp [sIf, bVal, mOp, mCall, mCons, mNil, mVar, mC, cAbs, dInt, p18, hg, sNext, Res.bind, Res.bindS]
    · exact ⟨none, cells, big, seed, by simp [sIf, bAnd, c1, Res.bind, Res.bindS, hz, sNext], hb, hc⟩
  obtain ⟨x, cells', big', seed', m1, m2, m3⟩ := mid
  obtain ⟨r, big'', l1, l2, l3, l4⟩ := last x none cells' big' seed' m2 m3
  refine ⟨r, cells', big'', seed', ?_, l2, l3, l4, m3⟩
  unfold m__law_draw mDef
  rw [if_pos (by rfl), sq sA, sq m1, l1]

/-! ### the pot, and what stands behind it -/
def PO (t : Nat) (R S : Store) : Prop := ∃ (cells : List Int) (big seed turn : Int), S = Pot R cells big seed turn ∧ 0 ≤ big ∧ cells.length ≤ 63 ∧ 0 ≤ turn ∧ turn ≤ t
theorem PO.mono {t t' : Nat} {R S : Store} (h : PO t R S) (ht : t ≤ t') : PO t' R S := by
  obtain ⟨c, b, s, n, h1, h2, h3, h4, h5⟩ := h
  exact ⟨c, b, s, n, h1, h2, h3, h4, by omega⟩
theorem PO.app {t : Nat} {R S : Store} (h : PO t R S) (X : Store) : PO t (R ++ X) (S ++ X) := by
  obtain ⟨c, b, s, n, h1, h2, h3, h4, h5⟩ := h
  exact ⟨c, b, s, n, by rw [h1]; rfl, h2, h3, h4, h5⟩
theorem PO.len {t : Nat} {R S : Store} (h : PO t R S) : S.length = R.length + 2 := by
  obtain ⟨c, b, s, n, rfl, _⟩ := h
  simp [Pot]
theorem PO.at {t : Nat} {R S : Store} (h : PO t R S) (k : Nat) : S[k + 2]? = R[k]? := by
  obtain ⟨c, b, s, n, rfl, _⟩ := h
  simp [Pot]
theorem PO.set {t : Nat} {R S : Store} (h : PO t R S) (k : Nat) (o : Ob) : PO t (R.set k o) (S.set (k + 2) o) := by
  obtain ⟨c, b, s, n, rfl, h2, h3, h4, h5⟩ := h
  exact ⟨c, b, s, n, by simp [Pot], h2, h3, h4, h5⟩
theorem drawn {t : Nat} {R S : Store} {size : Int} (h : PO t R S) (ht : t ≤ 1000000) (h0 : 0 < size) (h1 : size < 2 ^ 500) : ∃ (r : Nat) (S' : Store), m__law_draw [.loc 1, .int size] S = .ok (.int r) S' ∧ PO (t + 1) R S' ∧ (r : Int) < size := by
  obtain ⟨c, b, s, n, rfl, h2, h3, h4, h5⟩ := h
  obtain ⟨r, c', b', s', q1, q2, q3, q4, q5⟩ := draw (R := R) (cells := c) (seed := s) h2 h3 h4 (by omega) h0 h1
  refine ⟨r.toNat, _, ?_, ⟨c', b', s', n + 1, rfl, q4, q5, by omega, by omega⟩, by omega⟩
  rw [q1, Int.toNat_of_nonneg q2]
/-- a drawn number as an expression -/
theorem drawE {t : Nat} {R S S1 : Store} {size : Int} {a b : EM} {env : En} (ha : a env S = .ok (.loc 1) S) (hb : b env S = .ok (.int size) S1) (h : PO t R S1) (ht : t ≤ 1000000) (h0 : 0 < size) (h1 : size < 2 ^ 500) : ∃ (r : Nat) (S' : Store), mCall m__law_draw (mCons a (mCons b mNil)) env S = .ok (.int r) S' ∧ PO (t + 1) R S' ∧ (r : Int) < size := by
  obtain ⟨r, S', q1, q2, q3⟩ := drawn h ht h0 h1
  exact ⟨r, S', (call_ok (cons_ok ha (cons_ok hb nil_ok))).trans q1, q2, q3⟩
/-- things to pick from -/
structure Pk (R : Store) (v : D) (len : Nat) (f : Nat → D) : Prop where
  ln : ∀ t S, PO t R S → cLen [v] S = .ok (.int len) S
  ix : ∀ t S, PO t R S → ∀ r : Nat, r < len → dIx v (.int r) S = .ok (f r) S
theorem picked {t : Nat} {R S : Store} {v : D} {len : Nat} {f : Nat → D} (p : Pk R v len f) (h : PO t R S) (ht : t ≤ 1000000) (h0 : 0 < len) (h1 : len ≤ 1000) : ∃ (r : Nat) (S' : Store), m__law_pick [.loc 1, v] S = .ok (f r) S' ∧ PO (t + 1) R S' ∧ r < len := by
  have b : (1000 : Int) < 2 ^ 500 := by decide
  obtain ⟨r, S', q1, q2, q3⟩ := drawE (a := mVar 0) (b := mCall cLen (mCons (mVar 1) mNil)) (env := [some (.loc 1), some v]) (size := (len : Nat)) (var_ok rfl) ((call_ok (cons_ok (var_ok rfl) nil_ok)).trans (p.ln t S h)) h ht (by omega) (by omega)
  exact ⟨r, S', def_ret rfl (opv (var_ok rfl) q1 (p.ix _ _ q2 r (by omega))), q2, by omega⟩
theorem pickE {t : Nat} {R S : Store} {v : D} {len : Nat} {f : Nat → D} {a b : EM} {env : En} (ha : a env S = .ok (.loc 1) S) (hb : b env S = .ok v S) (p : Pk R v len f) (h : PO t R S) (ht : t ≤ 1000000) (h0 : 0 < len) (h1 : len ≤ 1000) : ∃ (r : Nat) (S' : Store), mCall m__law_pick (mCons a (mCons b mNil)) env S = .ok (f r) S' ∧ PO (t + 1) R S' ∧ r < len := by
  obtain ⟨r, S', q1, q2, q3⟩ := picked p h ht h0 h1
  exact ⟨r, S', (call_ok (cons_ok ha (cons_ok hb nil_ok))).trans q1, q2, q3⟩
theorem atI_nat {α : Type} {xs : List α} {r : Nat} (h : r < xs.length) : atI xs (r : Int) = some xs[r] := by
  unfold atI ixN
  have e : 0 ≤ (r : Int) := by omega
  have e2 : (r : Int) < (xs.length : Int) := by omega
  rw [if_pos e, if_pos e2]
  simp [h]
theorem Pk.lst (R : Store) (ds : List D) : Pk R (.lst ds) ds.length (fun r => ds.getD r .non) := by
  refine ⟨fun t S h => rfl, fun t S h r hr => ?_⟩
  have e : asL (.lst ds) S = some ds := rfl
  unfold dIx
  simp only [e, atI_nat hr]
  simp [hr]
theorem Pk.loc {R : Store} {k : Nat} {ds : List D} (hk : R[k]? = some (.lst ds)) : Pk R (.loc (k + 2)) ds.length (fun r => ds.getD r .non) := by
  have e : ∀ t S, PO t R S → asL (.loc (k + 2)) S = some ds := fun t S h => by
    unfold asL
    simp only [h.at, hk]
  refine ⟨fun t S h => ?_, fun t S h r hr => ?_⟩
  · have := e t S h
    simp only [cLen, this]
  · unfold dIx
    simp only [e t S h, atI_nat hr]
    simp [hr]
theorem Pk.str {R : Store} {z : PySem.Str} (hz : z.length ≤ sizeLine) : Pk R (.str z) z.length (fun r => .str ⟨#[z.cps.toList.getD r 0]⟩) := by
  refine ⟨fun t S h => ?_, fun t S h r hr => ?_⟩
  · show (if z.length ≤ sizeLine then Res.ok (D.int z.length) S else .stuck) = _
    rw [if_pos hz]
  · have hr' : r < z.cps.toList.length := by simpa [PySem.Str.length] using hr
    show (if z.length ≤ sizeLine then _ else _) = _
    rw [if_pos hz]
    unfold strAt
    rw [atI_nat hr']
    have hs : r < z.cps.size := by simpa using hr'
    simp [List.getD, hs]
/-- comprehensions that draw -/
theorem lc_draw {α β : Type} {g : GM} {e : EM} {env : En} (Inv : Nat → Store → Prop) (inj : α → D) (out : α → β → D) (Q : β → Prop) : ∀ (as : List α) (acc : List D) (i : Nat) (S : Store), Inv i S →
    (∀ a ∈ as, ∀ j S, j < i + as.length → Inv j S → ∃ env1 b S', g (inj a) env S = .ok env1 S ∧ e env1 S = .ok (out a b) S' ∧ Inv (j + 1) S' ∧ Q b) → acc.length + as.length ≤ sizeLine →
    ∃ (bs : List β) (S' : Store), mLcGo g bYes e env (as.map inj) acc S = .ok (acc ++ List.zipWith out as bs) S' ∧ bs.length = as.length ∧ (∀ b ∈ bs, Q b) ∧ Inv (i + as.length) S'
  | [], acc, i, S, hS, _, _ => ⟨[], S, by simp [mLcGo], rfl, fun b hb => absurd hb List.not_mem_nil, hS⟩
  | a :: as, acc, i, S, hS, h, hl => by
    rw [List.length_cons] at hl
    obtain ⟨env1, b, S1, h1, h2, h3, h4⟩ := h a List.mem_cons_self i S (by simp) hS
    obtain ⟨bs, S2, q1, q2, q3, q4⟩ := lc_draw Inv inj out Q as (acc ++ [out a b]) (i + 1) S1 h3 (fun a ha j S hj hI => h a (List.mem_cons_of_mem _ ha) j S (by rw [List.length_cons]; omega) hI) (by simp; omega)
    refine ⟨b :: bs, S2, ?_, by simp [q2], fun x hx => ?_, by rw [List.length_cons]; rw [show i + (as.length + 1) = i + 1 + as.length by omega]; exact q4⟩
    · rw [List.map_cons, lc_step h1 h2 (by omega), q1]
      simp
    · rcases List.mem_cons.mp hx with rfl | hx
      · exact h4
      · exact q3 x hx
/-- loops -/
theorem for_inv {g : GM} {b : SM} (Inv : Nat → En → Store → Prop) : ∀ (ds : List D) (i : Nat) (env : En) (S : Store), Inv i env S →
    (∀ d ∈ ds, ∀ j env S, j < i + ds.length → Inv j env S → ∃ env1 env2 S', g d env S = .ok env1 S ∧ b env1 S = .next env2 S' ∧ Inv (j + 1) env2 S') →
    ∃ (env' : En) (S' : Store), sFor g b ds env S = .next env' S' ∧ Inv (i + ds.length) env' S'
  | [], i, env, S, h, _ => ⟨env, S, rfl, h⟩
  | d :: ds, i, env, S, h, hs => by
    obtain ⟨env1, env2, S1, h1, h2, h3⟩ := hs d List.mem_cons_self i env S (by simp) h
    obtain ⟨env', S', q1, q2⟩ := for_inv Inv ds (i + 1) env2 S1 h3 (fun d hd j env S hj hI => hs d (List.mem_cons_of_mem _ hd) j env S (by rw [List.length_cons]; omega) hI)
    refine ⟨env', S', ?_, by rw [List.length_cons]; rw [show i + (ds.length + 1) = i + 1 + ds.length by omega]; exact q2⟩
    rw [for_step h1 h2, q1]
end Lw

set_option exponentiation.threshold 600
namespace Lw
open PySem L2 Lg
section
variable {ms bs : Ps} {ys : List Ps} {gap : Int} {k t : Nat} {R S : Store}
theorem all_true {α : Type} (l : List α) : (l.map fun _ => true).all id = true := by simp
theorem right (ok : Ok ms bs ys gap) {st : D} (hp : PO t R S) (ht : t ≤ 900000) (hc : R[k]? = some (CiD ms bs ys gap)) : ∃ (X S' : Store), m__law_right [.loc 1, .loc (k + 2), PaD ms bs ys gap st] S = .ok (.bl true) S' ∧ PO (t + 6) (R ++ X) S' := by
  have hS : S[k + 2]? = some (CiD ms bs ys gap) := by rw [hp.at, hc]
  have zl : (Nam ms).length ≤ sizeLine := by rw [List.length_map]; exact ok.zl
  have ix : ∀ (env : En) (S : Store), env[2]? = some (some (PaD ms bs ys gap st)) → mOp dIx (mVar 2) (mC (.int 0)) env S = .ok (.tupX (ms.map prD)) S := fun env S h => opv (var_ok h) c_ok rfl
  have s1 : sAsg (mLc (itSeq (mOp dIx (mVar 2) (mC (.int 0)))) (gmTup 2 (gmCons (gmName 5) (gmCons (gmName 6) gmNil))) bYes (mVar 5) [5, 6]) (gmName 3) [some (.loc 1), some (.loc (k + 2)), some (PaD ms bs ys gap st), none, none, none, none, none] S = .next [some (.loc 1), some (.loc (k + 2)), some (PaD ms bs ys gap st), some (.lst ((Nam ms).map D.str)), none, none, none, none] S := by
    rw [asg_ok (d := .lst ((Nam ms).map D.str)) (S' := S)]
    · rfl
    · rw [List.map_map]
      exact lc_sameY prD (fun p => D.str p.1) (seq_tupX (ix _ S rfl)) (fun p _ => ⟨_, two_name p, var_ok rfl⟩) ok.zl
  obtain ⟨X, h2⟩ := lc_yes (it := itSeq (mOp dIx (mVar 2) (mC (.int 0)))) (g := gmTup 2 (gmCons (gmName 5) (gmCons (gmName 6) gmNil))) (e := mOp dEqA (mMeth 1 "house_of" m_Circle_house_of [] (mVar 1) (mCons (mVar 5) mNil)) (mVar 6)) (vs := [5, 6]) (env := [some (.loc 1), some (.loc (k + 2)), some (PaD ms bs ys gap st), some (.lst ((Nam ms).map D.str)), none, none, none, none]) (S := S) (fun S => S[k + 2]? = some (CiD ms bs ys gap)) (fun S X hS => at_app X hS) prD (fun _ => D.bl true) (xs := ms) (seq_tupX (ix _ S rfl)) hS (fun p hp S hS => ⟨_, two_name p, [.dK (kvs ms)], opv (meth (var_ok rfl) hS rfl (cons_ok (var_ok rfl) nil_ok) (house_of ok hS (List.mem_map.mpr ⟨p, hp, rfl⟩))) (var_ok rfl) (by rw [hou_mem ms ok.nd p hp, eqS]; simp)⟩) ok.zl
  have c2 : bNot (bVal (mCall cAll (mCons (mLc (itSeq (mOp dIx (mVar 2) (mC (.int 0)))) (gmTup 2 (gmCons (gmName 5) (gmCons (gmName 6) gmNil))) bYes (mOp dEqA (mMeth 1 "house_of" m_Circle_house_of [] (mVar 1) (mCons (mVar 5) mNil)) (mVar 6)) [5, 6]) mNil))) [some (.loc 1), some (.loc (k + 2)), some (PaD ms bs ys gap st), some (.lst ((Nam ms).map D.str)), none, none, none, none] S = .ok false (S ++ X) := by
    rw [not_v (val_ok (all_ok (bs := ms.map fun _ => true) (by rw [h2, List.map_map]; rfl))), all_true]; rfl
  have hp2 := hp.app X
  have hc2 : (R ++ X)[k]? = some (CiD ms bs ys gap) := at_app X hc
  have ln : mCall cLen (mCons (mVar 3) mNil) [some (.loc 1), some (.loc (k + 2)), some (PaD ms bs ys gap st), some (.lst ((Nam ms).map D.str)), none, none, none, none] (S ++ X) = .ok (.int (ms.length : Nat)) (S ++ X) := by
    rw [call_ok (cons_ok (var_ok rfl) nil_ok)]
    show Res.ok (D.int ((((Nam ms).map D.str).length : Nat) : Int)) _ = _
    simp
  have asked : ∃ (qs : List PySem.Str) (S3 : Store), mIf (bVal (mOp dLtA (mCall cLen (mCons (mVar 3) mNil)) (mC (.int 9)))) (mVar 3) (mLc (itRange1 (mCons (mC (.int 6)) mNil)) (gmName 7) bYes (mCall m__law_pick (mCons (mVar 0) (mCons (mVar 3) mNil))) [7]) [some (.loc 1), some (.loc (k + 2)), some (PaD ms bs ys gap st), some (.lst ((Nam ms).map D.str)), none, none, none, none] (S ++ X) = .ok (.lst (qs.map D.str)) S3 ∧ PO (t + 6) (R ++ X) S3 ∧ (∀ q ∈ qs, q ∈ Nam ms) ∧ qs.length ≤ sizeLine := by
    rw [ife (val_ok (opv ln c_ok (show dLtA (.int (ms.length : Nat)) (.int 9) (S ++ X) = .ok (.bl (decide (((ms.length : Nat) : Int) < 9))) (S ++ X) from rfl)))]
    by_cases h9 : ((ms.length : Nat) : Int) < 9
    · rw [if_pos (decide_eq_true h9)]
      exact ⟨Nam ms, S ++ X, var_ok rfl, hp2.mono (by omega), fun q h => h, zl⟩
    · rw [if_neg (by rw [decide_eq_false h9]; decide)]
      have rg : itRange1 (mCons (mC (.int 6)) mNil) [some (.loc 1), some (.loc (k + 2)), some (PaD ms bs ys gap st), some (.lst ((Nam ms).map D.str)), none, none, none, none] (S ++ X) = .ok ((List.range 6).map fun i : Nat => D.int (0 + (i : Int))) (S ++ X) := rfl
      obtain ⟨qs, S3, q1, q2, q3, q4⟩ := lc_draw (g := gmName 7) (e := mCall m__law_pick (mCons (mVar 0) (mCons (mVar 3) mNil))) (env := [some (.loc 1), some (.loc (k + 2)), some (PaD ms bs ys gap st), some (.lst ((Nam ms).map D.str)), none, none, none, none]) (fun i S => PO (t + i) (R ++ X) S) (fun i : Nat => D.int (0 + (i : Int))) (fun _ q => D.str q) (fun q => q ∈ Nam ms) (List.range 6) [] 0 (S ++ X) hp2 (fun a _ j S hj hI => by
        have lm := ok.lm
        have lr : (List.range 6).length = 6 := List.length_range
        have l0 : ((Nam ms).map D.str).length = ms.length := by simp
        obtain ⟨r, S', z1, z2, z3⟩ := pickE (a := mVar 0) (b := mVar 3) (env := [some (.loc 1), some (.loc (k + 2)), some (PaD ms bs ys gap st), some (.lst ((Nam ms).map D.str)), none, none, none, some (.int (0 + (a : Int)))]) (var_ok rfl) (var_ok rfl) (Pk.lst (R ++ X) ((Nam ms).map D.str)) hI (by omega) (by omega) (by omega)
        have hr : r < (Nam ms).length := by simpa using z3
        refine ⟨_, (Nam ms)[r], S', rfl, ?_, z2, List.getElem_mem hr⟩
        refine z1.trans ?_
        congr 1
        rw [List.getD_eq_getElem?_getD, List.getElem?_map, List.getElem?_eq_getElem hr]
        rfl) (by rw [List.length_range]; decide)
      refine ⟨qs, S3, ?_, by simpa using q4, q3, by rw [q2, List.length_range]; decide⟩
      unfold mLc
      rw [rg]
      simp only [Res.bind]
      rw [show wipeE [some (.loc 1), some (.loc (k + 2)), some (PaD ms bs ys gap st), some (.lst ((Nam ms).map D.str)), none, none, none, none] [7] = [some (.loc 1), some (.loc (k + 2)), some (PaD ms bs ys gap st), some (.lst ((Nam ms).map D.str)), none, none, none, none] from rfl, q1]
      have zz : ∀ (l : List Nat) (qs : List PySem.Str), qs.length = l.length → List.zipWith (fun (_ : Nat) q => D.str q) l qs = qs.map D.str := by
        intro l
        induction l with
        | nil => intro qs h; cases qs with
          | nil => rfl
          | cons => simp at h
        | cons a l ih => intro qs h; cases qs with
          | nil => simp at h
          | cons q qs => simp at h; simp [ih qs h]
      rw [zz _ _ q2]
      rfl
  obtain ⟨qs, S3, h3, p3, hq, hql⟩ := asked
  have hS3 : S3[k + 2]? = some (CiD ms bs ys gap) := by rw [p3.at, hc2]
  obtain ⟨Y, h4⟩ := lc_yes (it := itSeq (mVar 4)) (g := gmName 5) (e := mCall m__law_one_right (mCons (mVar 1) (mCons (mVar 2) (mCons (mVar 5) (mCons (mVar 3) mNil))))) (vs := [5]) (env := [some (.loc 1), some (.loc (k + 2)), some (PaD ms bs ys gap st), some (.lst ((Nam ms).map D.str)), some (.lst (qs.map D.str)), none, none, none]) (S := S3) (fun S => S[k + 2]? = some (CiD ms bs ys gap)) (fun S X hS => at_app X hS) D.str (fun _ => D.bl true) (xs := qs) (seq_lst (var_ok rfl)) hS3 (fun a ha S hS => by
    obtain ⟨Z, z⟩ := one_right ok hS (st := st) (hq a ha)
    exact ⟨_, rfl, Z, (call_ok (cons_ok (var_ok rfl) (cons_ok (var_ok rfl) (cons_ok (var_ok rfl) (cons_ok (var_ok rfl) nil_ok))))).trans z⟩) hql
  refine ⟨X ++ Y, S3 ++ Y, def_run rfl ?_, by rw [← List.append_assoc]; exact p3.app Y⟩
  show sSeq _ _ [some (.loc 1), some (.loc (k + 2)), some (PaD ms bs ys gap st), none, none, none, none, none] S = _
  rw [sq s1, sq (ifn c2), sq (asg_ok (i := 4) h3)]
  refine ret_ok ?_
  have := all_ok (bs := qs.map fun _ => true) (show mLc (itSeq (mVar 4)) (gmName 5) bYes (mCall m__law_one_right (mCons (mVar 1) (mCons (mVar 2) (mCons (mVar 5) (mCons (mVar 3) mNil))))) [5] [some (.loc 1), some (.loc (k + 2)), some (PaD ms bs ys gap st), some (.lst ((Nam ms).map D.str)), some (.lst (qs.map D.str)), none, none, none] S3 = .ok (.lst ((qs.map fun _ => true).map D.bl)) (S3 ++ Y) by rw [h4, List.map_map]; rfl)
  rw [all_true] at this
  exact this
end
end Lw

set_option exponentiation.threshold 600
namespace Lw
open PySem L2 Lg
theorem er_map {α β : Type} (f : α → β) : ∀ (l : List α) (i : Nat), (l.map f).eraseIdx i = (l.eraseIdx i).map f
  | [], i => by simp
  | x :: l, 0 => rfl
  | x :: l, i + 1 => by simp [er_map f l i]
theorem er_perm {α : Type} : ∀ (l : List α) (i : Nat) (h : i < l.length), (l[i] :: l.eraseIdx i).Perm l
  | x :: l, 0, _ => List.Perm.refl _
  | x :: l, i + 1, h => by
    have ih := er_perm l i (by simpa using h)
    simp only [List.getElem_cons_succ, List.eraseIdx_cons_succ]
    exact (List.Perm.swap x _ _).trans (ih.cons x)
theorem nd_map {α β : Type} (f : α → β) : ∀ l : List α, (l.map f).Nodup → l.Nodup
  | [], _ => List.nodup_nil
  | x :: l, h => by
    rw [List.map_cons, List.nodup_cons] at h
    rw [List.nodup_cons]
    exact ⟨fun hm => h.1 (List.mem_map.mpr ⟨x, hm, rfl⟩), nd_map f l h.2⟩
theorem map_nd {α β : Type} {f : α → β} (hf : ∀ x y, f x = f y → x = y) : ∀ l : List α, l.Nodup → (l.map f).Nodup
  | [], _ => List.nodup_nil
  | x :: l, h => by
    rw [List.nodup_cons] at h
    rw [List.map_cons, List.nodup_cons]
    refine ⟨fun hm => ?_, map_nd hf l h.2⟩
    obtain ⟨y, hy, e⟩ := List.mem_map.mp hm
    exact h.1 (hf _ _ e ▸ hy)
/-! ### words -/
def ch (c : Nat) : D := .str ⟨#[c]⟩
theorem ofr {α : Type} {a b : Option α} (h : a = b) : b = a := h.symm
theorem popE {k : Nat} {ds : List D} {r t : Nat} {R S S1 : Store} {o a : EM} {env : En} (ho : o env S = .ok (.loc (k + 2)) S) (h : PO t R S) {t1 : Nat} (ha : a env S = .ok (.int r) S1) (h1 : PO t1 R S1) (hk : R[k]? = some (.lst ds)) (hr : r < ds.length) (hs : ds.length ≤ 1000) : mBMt "list" qPopAt o (mCons a mNil) env S = .ok ds[r] (S1.set (k + 2) (.lst (ds.eraseIdx r))) ∧ PO t1 (R.set k (.lst (ds.eraseIdx r))) (S1.set (k + 2) (.lst (ds.eraseIdx r))) := by
  refine ⟨?_, h1.set k _⟩
  have e1 : S[k + 2]? = some (.lst ds) := by rw [h.at, hk]
  have e2 : S1[k + 2]? = some (.lst ds) := by rw [h1.at, hk]
  unfold mBMt
  rw [ho]
  simp only [Res.bind]
  have ty : tyD "list" (.loc (k + 2)) S = true := by
    unfold tyD
    simp only [e1]
    rfl
  rw [if_pos ty, cons_ok ha nil_ok]
  simp only [Res.bind, qPopAt, e2]
  have b : (1000 : Int) < 2 ^ 63 := by decide
  rw [if_pos ⟨by omega, by omega⟩]
  have sx : seqIndex? (r : Int) ds.length = some r := by
    unfold seqIndex?
    have n0 : ¬ (r : Int) < 0 := by omega
    simp only [n0, if_false]
    have c : (decide (0 ≤ (r : Int)) && decide ((r : Int) < (ds.length : Int))) = true := by
      rw [decide_eq_true (by omega), decide_eq_true (by omega)]; rfl
    rw [if_pos c]
    simp
  simp only [sx, List.getElem?_eq_getElem hr]
theorem appE {k : Nat} {ds : List D} {d : D} {t t1 : Nat} {R S S1 : Store} {o a : EM} {env : En} (ho : o env S = .ok (.loc (k + 2)) S) (h : PO t R S) (ha : a env S = .ok d S1) {R1 : Store} (h1 : PO t1 R1 S1) (hk : R[k]? = some (.lst ds)) (hk1 : R1[k]? = some (.lst ds)) (hs : ds.length ≤ 1000) : sDrop (mBMt "list" qAppend o (mCons a mNil)) env S = .next env (S1.set (k + 2) (.lst (ds ++ [d]))) ∧ PO t1 (R1.set k (.lst (ds ++ [d]))) (S1.set (k + 2) (.lst (ds ++ [d]))) := by
  refine ⟨?_, h1.set k _⟩
  have e1 : S[k + 2]? = some (.lst ds) := by rw [h.at, hk]
  have e2 : S1[k + 2]? = some (.lst ds) := by rw [h1.at, hk1]
  have z : 1000 < sizeLine := by decide
  unfold sDrop mBMt
  rw [ho]
  simp only [Res.bind]
  have ty : tyD "list" (.loc (k + 2)) S = true := by
    unfold tyD
    simp only [e1]
    rfl
  rw [if_pos ty, cons_ok ha nil_ok]
  simp only [Res.bind, qAppend, e2]
  rw [if_pos (by omega)]
  rfl
theorem txs_ch : ∀ cs : List Nat, txs (cs.map ch) = some (cs.map fun c => (⟨#[c]⟩ : PySem.Str))
  | [] => rfl
  | c :: cs => by
    show txs (.str ⟨#[c]⟩ :: cs.map ch) = _
    unfold txs
    rw [txs_ch cs]
    rfl
theorem joinL_nil : ∀ l : List (List Nat), TL.joinL [] l = l.flatten
  | [] => rfl
  | [p] => by simp [TL.joinL]
  | p :: q :: r => by
    have := joinL_nil (q :: r)
    simp only [TL.joinL, List.nil_append, this, List.flatten_cons]
theorem join_ch (cs : List Nat) : (Txt.join "" (cs.map fun c => (⟨#[c]⟩ : PySem.Str))).cps.toList = cs := by
  show TL.tl _ = _
  rw [TL.join_eq, TL.tl_join]
  have e : TL.tl "" = [] := by decide +kernel
  rw [e, joinL_nil, List.map_map]
  induction cs with
  | nil => rfl
  | cons c cs ih =>
    rw [List.map_cons, List.flatten_cons, ih]
    rfl
theorem join_ok {env : En} {S S' : Store} {a : EM} {cs : List Nat} (h : a env S = .ok (.lst (cs.map ch)) S') (hl : cs.length ≤ 1000) : mBMt "str" qJoin (mC (.str "")) (mCons a mNil) env S = .ok (.str (Txt.join "" (cs.map fun c => (⟨#[c]⟩ : PySem.Str)))) S' := by
  unfold mBMt
  simp only [mC, Res.bind]
  rw [if_pos (by rfl), cons_ok h nil_ok]
  have e : asLT (.lst (cs.map ch)) S' = some (cs.map ch) := rfl
  simp only [Res.bind, qJoin, e, txs_ch]
  have e0 : ("" : PySem.Str).length = 0 := by decide +kernel
  have sm : ∀ cs : List Nat, ((cs.map fun c => (⟨#[c]⟩ : PySem.Str)).map (·.length)).sum = cs.length := by
    intro cs
    induction cs with
    | nil => rfl
    | cons c cs ih =>
      rw [List.map_cons, List.map_cons, List.sum_cons, ih, List.length_cons]
      show 1 + cs.length = _
      omega
  rw [if_pos (by rw [sm, e0]; omega)]
/-- a cut at the front, behind -/
theorem cut_to (z : PySem.Str) (n : Nat) (h : n ≤ z.length) : (cutS z none (some (n : Int))).cps.toList = z.cps.toList.take n := by
  unfold cutS
  rw [HT.sIx_nat, show HT.sIx z.length 0 none = 0 from rfl, Nat.min_eq_left h]
  simp
theorem cut_from (z : PySem.Str) (n : Nat) (h : n ≤ z.length) : (cutS z (some (n : Int)) none).cps.toList = z.cps.toList.drop n := by
  unfold cutS
  rw [HT.sIx_nat, show HT.sIx z.length z.length none = z.length from rfl, Nat.min_eq_left h]
  have : z.length = z.cps.toList.length := by simp [PySem.Str.length]
  simp [this, List.take_of_length_le]
theorem slE {a : EM} {lo hi : OM} {env : En} {S S1 S2 : Store} {z : PySem.Str} {i j : Option Int} (ha : a env S = .ok (.str z) S) (hl : lo env S = .ok i S1) (hh : hi env S1 = .ok j S2) (hz : z.length ≤ sizeLine) : mSl a lo hi env S = .ok (.str (cutS z i j)) S2 := by
  unfold mSl
  rw [ha]
  simp only [Res.bind, hl, hh, dSl]
  rw [if_pos hz]
theorem someE {a : EM} {env : En} {S S1 : Store} {i : Int} (h : a env S = .ok (.int i) S1) : oSome a env S = .ok (some i) S1 := by
  unfold oSome
  rw [h]
  rfl
theorem addS {a b : PySem.Str} {S : Store} (h : a.length + b.length ≤ sizeLine) : dAdd (.str a) (.str b) S = .ok (.str (a ++ b)) S := if_pos h
theorem lenS {z : PySem.Str} {a : EM} {env : En} {S : Store} (h : a env S = .ok (.str z) S) (hz : z.length ≤ sizeLine) : mCall cLen (mCons a mNil) env S = .ok (.int z.length) S := by
  rw [call_ok (cons_ok h nil_ok)]
  exact if_pos hz
theorem lenL {k : Nat} {ds : List D} {a : EM} {env : En} {S : Store} (h : a env S = .ok (.loc k) S) (hk : S[k]? = some (.lst ds)) : mCall cLen (mCons a mNil) env S = .ok (.int ds.length) S := by
  rw [call_ok (cons_ok h nil_ok)]
  simp only [cLen, asL, hk]
/-- what stands where two lists were laid -/
theorem two_set0 (R : Store) (a b o : Ob) : (R ++ [a, b]).set R.length o = R ++ [o, b] := by simp
theorem two_set1 (R : Store) (a b o : Ob) : (R ++ [a, b]).set (R.length + 1) o = R ++ [a, o] := by simp
theorem two_at0 (R : Store) (a b : Ob) : (R ++ [a, b])[R.length]? = some a := by simp
theorem two_at1 (R : Store) (a b : Ob) : (R ++ [a, b])[R.length + 1]? = some b := by simp
theorem range_okI {a : EM} {env : En} {S S' : Store} {j : Int} (h : a env S = .ok (.int j) S') (h0 : 0 ≤ j) (h1 : j ≤ 1000) : itRange1 (mCons a mNil) env S = .ok ((List.range j.toNat).map fun i : Nat => D.int (0 + (i : Int))) S' := by
  unfold itRange1
  rw [cons_ok h nil_ok]
  simp only [Res.bind]
  rw [if_pos ⟨by have : -(2 ^ 62 : Int) < 0 := by decide
                 omega, by have : (1000 : Int) < 2 ^ 62 := by decide
                           omega⟩]
theorem range_ok {a : EM} {env : En} {S S' : Store} {n : Nat} (h : a env S = .ok (.int n) S') (hn : n ≤ 1000) : itRange1 (mCons a mNil) env S = .ok ((List.range n).map fun i : Nat => D.int (0 + (i : Int))) S' := by
  have e := range_okI h (by omega) (by omega)
  rw [Int.toNat_natCast] at e
  exact e
/-- the word of a letter -/
def keyOf (way at_ : Nat) (w : PySem.Str) : Option Nat := w.cps.toList[if way = 0 then at_ else 0]?
abbrev wordsBody : SM := (sSeq (sAsg (mBMt "list" qPopAt (mVar 2) (mCons (mCall m__law_draw (mCons (mVar 0) (mCons (mCall cLen (mCons (mVar 2) mNil)) mNil))) mNil)) (gmName 8)) (sDrop (mBMt "list" qAppend (mVar 3) (mCons (mOp dIx (mLst (mCons (mOp dAdd (mOp dAdd (mSl (mVar 4) oNone (oSome (mVar 5))) (mVar 8)) (mSl (mVar 4) (oSome (mVar 5)) oNone)) (mCons (mOp dAdd (mVar 8) (mSl (mVar 4) oNone (oSome (mCall m__law_draw (mCons (mVar 0) (mCons (mOp dAdd (mCall cLen (mCons (mVar 4) mNil)) (mC (.int 1))) mNil)))))) mNil))) (mVar 6)) mNil))))
structure WInv (R : Store) (sz : Nat) (stem : PySem.Str) (at_ way t0 : Nat) (j : Nat) (env : En) (S : Store) : Prop where
  ex : ∃ (ls : List Nat) (fs : List PySem.Str) (used : List Nat) (x7 x8 : Option D), env = [some (.loc 1), some (.int sz), some (.loc (R.length + 2)), some (.loc (R.length + 1 + 2)), some (.str stem), some (.int at_), some (.int way), x7, x8] ∧ PO (t0 + 2 * j) (R ++ [.lst (ls.map ch), .lst (fs.map D.str)]) S ∧ ls.length + j = 26 ∧ fs.length = j ∧ (used ++ ls).Nodup ∧ (∀ c ∈ used ++ ls, 97 ≤ c ∧ c ≤ 122) ∧ fs.map (keyOf way at_) = used.map some ∧ ∀ w ∈ fs, Nm w
theorem words_step {R : Store} {sz at_ way t0 : Nat} {stem : PySem.Str} (hz : Az stem) (hl : stem.length ≤ 11) (ha : at_ ≤ stem.length) (hw : way < 2) (ht : t0 ≤ 900000) {d : D} {j : Nat} (hj : j < 26) {env : En} {S : Store} (h : WInv R sz stem at_ way t0 j env S) :
    ∃ env1 env2 S', gmName 7 d env S = .ok env1 S ∧ wordsBody env1 S = .next env2 S' ∧ WInv R sz stem at_ way t0 (j + 1) env2 S' := by
  obtain ⟨ls, fs, used, x7, x8, rfl, hp, h1, h2, h3, h4, h5, h6⟩ := h.ex
  have zs : 1000 ≤ sizeLine := by decide
  have b5 : (1000 : Int) < 2 ^ 500 := by decide
  generalize hE : [some (D.loc 1), some (.int sz), some (.loc (R.length + 2)), some (.loc (R.length + 1 + 2)), some (.str stem), some (.int at_), some (.int way), some d, x8] = E
  have k0 := two_at0 R (.lst (ls.map ch)) (.lst (fs.map D.str))
  -- the letter
  have v2 : mVar 2 E S = .ok (.loc (R.length + 2)) S := var_ok (by rw [← hE]; rfl)
  obtain ⟨r, S1, d1, d2, d3⟩ := drawE (a := mVar 0) (b := mCall cLen (mCons (mVar 2) mNil)) (env := E) (size := ((ls.map ch).length : Nat)) (var_ok (by rw [← hE]; rfl)) (lenL v2 (by rw [hp.at, k0])) hp (by omega) (by rw [List.length_map]; omega) (by rw [List.length_map]; omega)
  rw [List.length_map] at d3
  have hr : r < ls.length := by omega
  obtain ⟨p1, p2⟩ := popE v2 hp d1 d2 k0 (by rw [List.length_map]; exact hr) (by rw [List.length_map]; omega)
  rw [er_map] at p1 p2
  rw [two_set0] at p2
  have hch : (ls.map ch)[r]'(by rw [List.length_map]; exact hr) = ch ls[r] := by simp
  rw [hch] at p1
  have hc : 97 ≤ ls[r] ∧ ls[r] ≤ 122 := h4 _ (List.mem_append_right _ (List.getElem_mem hr))
  generalize hS2 : S1.set (R.length + 2) (.lst ((ls.eraseIdx r).map ch)) = S2 at p1 p2
  generalize hcc : ls[r] = c at p1 hc
  have s1 : sAsg (mBMt "list" qPopAt (mVar 2) (mCons (mCall m__law_draw (mCons (mVar 0) (mCons (mCall cLen (mCons (mVar 2) mNil)) mNil))) mNil)) (gmName 8) E S = .next (E.set 8 (some (ch c))) S2 := asg_ok p1
  generalize hF : E.set 8 (some (ch c)) = F at s1
  have hF' : F = [some (D.loc 1), some (.int sz), some (.loc (R.length + 2)), some (.loc (R.length + 1 + 2)), some (.str stem), some (.int at_), some (.int way), some d, some (ch c)] := by rw [← hF, ← hE]; rfl
  have l1 : (⟨#[c]⟩ : PySem.Str).length = 1 := rfl
  have vs : ∀ S, mVar 4 F S = .ok (.str stem) S := fun S => var_ok (by rw [hF']; rfl)
  have vc : ∀ S, mVar 8 F S = .ok (.str ⟨#[c]⟩) S := fun S => var_ok (by rw [hF']; rfl)
  have va : ∀ S, mVar 5 F S = .ok (.int (at_ : Nat)) S := fun S => var_ok (by rw [hF']; rfl)
  have lc : ∀ i j, (cutS stem i j).length ≤ stem.length := fun i j => by
    have e : (cutS stem i j).length = (cutS stem i j).cps.toList.length := by simp [PySem.Str.length]
    rw [e]
    unfold cutS
    simp [PySem.Str.length]
    omega
  -- the first form
  have q1 : mOp dAdd (mOp dAdd (mSl (mVar 4) oNone (oSome (mVar 5))) (mVar 8)) (mSl (mVar 4) (oSome (mVar 5)) oNone) F S2 = .ok (.str (cutS stem none (some (at_ : Nat)) ++ ⟨#[c]⟩ ++ cutS stem (some (at_ : Nat)) none)) S2 := by
    have y1 := lc none (some (at_ : Nat))
    have y2 := lc (some (at_ : Nat)) none
    refine opv (opv (slE (vs _) rfl (someE (va _)) (by omega)) (vc _) (addS (by rw [l1]; omega))) (slE (vs _) (someE (va _)) rfl (by omega)) (addS ?_)
    rw [Str.length_append, l1]; omega
  obtain ⟨r2, S3, e1, e2, e3⟩ := drawE (a := mVar 0) (b := mOp dAdd (mCall cLen (mCons (mVar 4) mNil)) (mC (.int 1))) (env := F) (size := (stem.length : Int) + 1) (var_ok (by rw [hF']; rfl)) (opv (lenS (vs _) (by omega)) c_ok add_i) p2 (by omega) (by omega) (by omega)
  have q2 : mOp dAdd (mVar 8) (mSl (mVar 4) oNone (oSome (mCall m__law_draw (mCons (mVar 0) (mCons (mOp dAdd (mCall cLen (mCons (mVar 4) mNil)) (mC (.int 1))) mNil))))) F S2 = .ok (.str (⟨#[c]⟩ ++ cutS stem none (some (r2 : Nat)))) S3 := by
    have y1 := lc none (some (r2 : Nat))
    exact opv (vc _) (slE (vs _) rfl (someE e1) (by omega)) (addS (by rw [l1]; omega))
  -- what the word is
  have word : ∃ w : PySem.Str, mOp dIx (mLst (mCons (mOp dAdd (mOp dAdd (mSl (mVar 4) oNone (oSome (mVar 5))) (mVar 8)) (mSl (mVar 4) (oSome (mVar 5)) oNone)) (mCons (mOp dAdd (mVar 8) (mSl (mVar 4) oNone (oSome (mCall m__law_draw (mCons (mVar 0) (mCons (mOp dAdd (mCall cLen (mCons (mVar 4) mNil)) (mC (.int 1))) mNil)))))) mNil))) (mVar 6) F S2 = .ok (.str w) S3 ∧ keyOf way at_ w = some c ∧ Nm w := by
    have v6 : ∀ S, mVar 6 F S = .ok (.int (way : Nat)) S := fun S => var_ok (by rw [hF']; rfl)
    have lst := lst_ok (cons_ok q1 (cons_ok q2 nil_ok)) (show 2 ≤ sizeLine by decide)
    have hs : stem.length = stem.cps.toList.length := by simp [PySem.Str.length]
    by_cases w0 : way = 0
    · refine ⟨_, opv lst (v6 _) (by rw [w0]; rfl), ?_, ?_⟩
      · unfold keyOf
        rw [if_pos w0]
        show (TL.tl _)[at_]? = _
        rw [TL.tl_append, TL.tl_append]
        show ((cutS stem none (some (at_ : Nat))).cps.toList ++ [c] ++ (cutS stem (some (at_ : Nat)) none).cps.toList)[at_]? = _
        rw [cut_to _ _ ha, cut_from _ _ ha, List.append_assoc, List.getElem?_append_right (by simp; omega)]
        simp
        rw [Nat.min_eq_left (by rw [← PySem.Str.length]; exact ha)]
        try simp
      · have e : (cutS stem none (some (at_ : Nat)) ++ ⟨#[c]⟩ ++ cutS stem (some (at_ : Nat)) none).cps.toList = stem.cps.toList.take at_ ++ [c] ++ stem.cps.toList.drop at_ := by
          show TL.tl _ = _
          rw [TL.tl_append, TL.tl_append, show TL.tl (cutS stem none (some (at_ : Nat))) = _ from cut_to _ _ ha, show TL.tl (cutS stem (some (at_ : Nat)) none) = _ from cut_from _ _ ha]
        have el : (cutS stem none (some (at_ : Nat)) ++ ⟨#[c]⟩ ++ cutS stem (some (at_ : Nat)) none).length = stem.length + 1 := by
          rw [TL.len_tl, show TL.tl _ = _ from e, hs]
          simp
          omega
        refine ⟨fun x hx => ?_, by rw [el]; omega, by rw [el]; omega⟩
        rw [e] at hx
        rcases List.mem_append.mp hx with hx | hx
        · rcases List.mem_append.mp hx with hx | hx
          · exact hz x (List.mem_of_mem_take hx)
          · rw [List.mem_singleton.mp hx]; exact hc
        · exact hz x (List.mem_of_mem_drop hx)
    · have w1 : way = 1 := by omega
      have hr2 : r2 ≤ stem.length := by omega
      have e : (⟨#[c]⟩ ++ cutS stem none (some (r2 : Nat)) : PySem.Str).cps.toList = c :: stem.cps.toList.take r2 := by
        show TL.tl _ = _
        rw [TL.tl_append, show TL.tl (cutS stem none (some (r2 : Nat))) = _ from cut_to _ _ hr2]
        rfl
      have el : (⟨#[c]⟩ ++ cutS stem none (some (r2 : Nat)) : PySem.Str).length = r2 + 1 := by
        rw [TL.len_tl, show TL.tl _ = _ from e]
        simp
        rw [← PySem.Str.length]
        omega
      refine ⟨_, opv lst (v6 _) (by rw [w1]; rfl), ?_, fun x hx => ?_, by rw [el]; omega, by rw [el]; omega⟩
      · unfold keyOf
        rw [if_neg w0, e]
        rfl
      · rw [e] at hx
        rcases List.mem_cons.mp hx with rfl | hx
        · exact hc
        · exact hz x (List.mem_of_mem_take hx)
  obtain ⟨w, w1, w2, w3⟩ := word
  have k1 := two_at1 R (.lst ((ls.eraseIdx r).map ch)) (.lst (fs.map D.str))
  obtain ⟨a1, a2⟩ := appE (show mVar 3 F S2 = .ok (.loc (R.length + 1 + 2)) S2 from var_ok (by rw [hF']; rfl)) p2 w1 e2 k1 k1 (by rw [List.length_map]; omega)
  rw [two_set1] at a2
  refine ⟨E, F, S3.set (R.length + 1 + 2) (.lst (fs.map D.str ++ [.str w])), by rw [← hE]; rfl, ?_, ⟨ls.eraseIdx r, fs ++ [w], used ++ [c], some d, some (ch c), hF', ?_, ?_, by simp [h2], ?_, ?_, ?_, ?_⟩⟩
  · unfold wordsBody
    rw [sq s1]
    exact a1
  · rw [List.map_append]
    exact a2.mono (by omega)
  · rw [List.length_eraseIdx, if_pos hr]; omega
  · have pm : (used ++ [c] ++ ls.eraseIdx r).Perm (used ++ ls) := by
      rw [List.append_assoc]
      refine List.Perm.append_left used ?_
      rw [← hcc]
      exact er_perm ls r hr
    exact pm.nodup_iff.mpr h3
  · intro x hx
    refine h4 x ?_
    rcases List.mem_append.mp hx with hx | hx
    · rcases List.mem_append.mp hx with hx | hx
      · exact List.mem_append_left _ hx
      · rw [List.mem_singleton.mp hx, ← hcc]; exact List.mem_append_right _ (List.getElem_mem hr)
    · exact List.mem_append_right _ (List.mem_of_mem_eraseIdx hx)
  · rw [List.map_append, List.map_append, h5, List.map_singleton, List.map_singleton, w2]
  · intro x hx
    rcases List.mem_append.mp hx with hx | hx
    · exact h6 x hx
    · rw [List.mem_singleton.mp hx]; exact w3
end Lw

set_option exponentiation.threshold 600
namespace Lw
open PySem L2 Lg
theorem zipR {α β : Type} (f : β → D) : ∀ (l : List α) (bs : List β), bs.length = l.length → List.zipWith (fun _ b => f b) l bs = bs.map f
  | [], [], _ => rfl
  | [], b :: bs, h => by simp at h
  | a :: l, [], h => by simp at h
  | a :: l, b :: bs, h => by
    rw [List.zipWith_cons_cons, zipR f l bs (by simpa using h), List.map_cons]
theorem newL {env : En} {S : Store} : mLstL mNil env S = .ok (.loc S.length) (S ++ [.lst []]) := by
  unfold mLstL
  rw [nil_ok]
  simp only [Res.bind]
  rw [if_pos (show ([] : List D).length ≤ sizeLine from Nat.zero_le _)]
theorem let26 : LET.cps.toList.length = 26 ∧ LET.cps.toList.Nodup := by decide +kernel
theorem words {t sz : Nat} {R S : Store} (hp : PO t R S) (ht : t ≤ 800000) (hz : sz ≤ 26) : ∃ (a : Ob) (ws : List PySem.Str) (S' : Store), m__law_words [.loc 1, .int sz] S = .ok (.loc (R.length + 1 + 2)) S' ∧ PO (t + 100) (R ++ [a, .lst (ws.map D.str)]) S' ∧ ws.length = sz ∧ ws.Nodup ∧ ∀ w ∈ ws, Nm w := by
  have zs : 1000 ≤ sizeLine := by decide
  have b5 : (1000 : Int) < 2 ^ 500 := by decide
  have e0 : startE 9 [D.loc 1, .int sz] = [some (.loc 1), some (.int sz), none, none, none, none, none, none, none] := rfl
  -- the lists
  have s1 : sPar 2 3 (mCons (mCall cListSL (mCons (mC (.str "abcdefghijklmnopqrstuvwxyz")) mNil)) (mCons (mLstL mNil) mNil)) [some (.loc 1), some (.int sz), none, none, none, none, none, none, none] S = .next [some (.loc 1), some (.int sz), some (.loc (R.length + 2)), some (.loc (R.length + 1 + 2)), none, none, none, none, none] (S ++ [.lst (LET.cps.toList.map ch), .lst []]) := by
    have c1 : mCall cListSL (mCons (mC (.str "abcdefghijklmnopqrstuvwxyz")) mNil) [some (.loc 1), some (.int sz), none, none, none, none, none, none, none] S = .ok (.loc S.length) (S ++ [.lst (LET.cps.toList.map ch)]) := by
      rw [call_ok (cons_ok c_ok nil_ok)]
      show (if LET.length ≤ sizeLine then Res.ok (D.loc S.length) (S ++ [.lst (signsD LET)]) else .stuck) = _
      rw [if_pos (by decide +kernel)]
      rfl
    have c2 : mLstL mNil [some (.loc 1), some (.int sz), none, none, none, none, none, none, none] (S ++ [.lst (LET.cps.toList.map ch)]) = .ok (.loc (S ++ [Ob.lst (LET.cps.toList.map ch)]).length) (S ++ [.lst (LET.cps.toList.map ch)] ++ [.lst []]) := by
      exact newL
    unfold sPar
    rw [cons_ok c1 (cons_ok c2 nil_ok)]
    have q1 := hp.len
    simp only [Res.bindS]
    rw [List.length_append, q1, show R.length + 2 + [Ob.lst (LET.cps.toList.map ch)].length = R.length + 1 + 2 by simp, List.append_assoc]
    rfl
  have hp1 := hp.app [.lst (LET.cps.toList.map ch), .lst []]
  generalize hS1 : S ++ [Ob.lst (LET.cps.toList.map ch), .lst []] = S1 at s1 hp1
  -- the stem
  obtain ⟨r, S2, d1, d2, d3⟩ := drawE (a := mVar 0) (b := mC (.int 12)) (env := [some (.loc 1), some (.int sz), some (.loc (R.length + 2)), some (.loc (R.length + 1 + 2)), none, none, none, none, none]) (var_ok rfl) c_ok hp1 (by omega) (by decide) (by decide)
  have rg := range_ok d1 (by omega)
  obtain ⟨cs, S3, q1, q2, q3, q4⟩ := lc_draw (g := gmName 7) (e := mCall m__law_pick (mCons (mVar 0) (mCons (mC (.str "abxyz")) mNil))) (env := [some (.loc 1), some (.int sz), some (.loc (R.length + 2)), some (.loc (R.length + 1 + 2)), none, none, none, none, none]) (fun i S => PO (t + 1 + i) (R ++ [.lst (LET.cps.toList.map ch), .lst []]) S) (fun i : Nat => D.int (0 + (i : Int))) (fun _ c => ch c) (fun c => 97 ≤ c ∧ c ≤ 122) (List.range r) [] 0 S2 d2 (fun a _ j S hj hI => by
    rw [List.length_range] at hj
    have l5 : ("abxyz" : PySem.Str).length = 5 := by decide +kernel
    obtain ⟨r, S', z1, z2, z3⟩ := pickE (a := mVar 0) (b := mC (.str "abxyz")) (env := [some (.loc 1), some (.int sz), some (.loc (R.length + 2)), some (.loc (R.length + 1 + 2)), none, none, none, some (.int (0 + (a : Int))), none]) (var_ok rfl) c_ok (Pk.str (R := R ++ [.lst (LET.cps.toList.map ch), .lst []]) (z := "abxyz") (by rw [l5]; omega)) hI (by omega) (by rw [l5]; decide) (by rw [l5]; decide)
    rw [l5] at z3
    refine ⟨_, _, S', rfl, z1, z2, ?_⟩
    have all : ∀ r < 5, 97 ≤ (("abxyz" : PySem.Str).cps.toList.getD r 0) ∧ (("abxyz" : PySem.Str).cps.toList.getD r 0) ≤ 122 := by decide +kernel
    exact all r z3) (by rw [List.length_range]; simp; omega)
  rw [List.length_range] at q2 q4
  have lc : mLc (itRange1 (mCons (mCall m__law_draw (mCons (mVar 0) (mCons (mC (.int 12)) mNil))) mNil)) (gmName 7) bYes (mCall m__law_pick (mCons (mVar 0) (mCons (mC (.str "abxyz")) mNil))) [7] [some (.loc 1), some (.int sz), some (.loc (R.length + 2)), some (.loc (R.length + 1 + 2)), none, none, none, none, none] S1 = .ok (.lst (cs.map ch)) S3 := by
    unfold mLc
    rw [rg]
    simp only [Res.bind]
    rw [show wipeE [some (D.loc 1), some (.int sz), some (.loc (R.length + 2)), some (.loc (R.length + 1 + 2)), none, none, none, none, none] [7] = [some (D.loc 1), some (.int sz), some (.loc (R.length + 2)), some (.loc (R.length + 1 + 2)), none, none, none, none, none] from rfl, q1, zipR ch _ _ (by rw [List.length_range]; exact q2)]
    rfl
  have s2 := asg_ok (i := 4) (join_ok lc (by omega))
  have hst := join_ch cs
  generalize Txt.join "" (cs.map fun c => (⟨#[c]⟩ : PySem.Str)) = stem at s2 hst
  have hl : stem.length ≤ 11 := by
    rw [TL.len_tl, show TL.tl stem = cs from hst]; omega
  have haz : Az stem := fun c hc => q3 c (by rw [hst] at hc; exact hc)
  -- place and way
  obtain ⟨at_, S4, x1, x2, x3⟩ := drawE (a := mVar 0) (b := mOp dAdd (mCall cLen (mCons (mVar 4) mNil)) (mC (.int 1))) (env := [some (.loc 1), some (.int sz), some (.loc (R.length + 2)), some (.loc (R.length + 1 + 2)), some (.str stem), none, none, none, none]) (size := (stem.length : Int) + 1) (var_ok rfl) (opv (lenS (var_ok rfl) (by omega)) c_ok add_i) q4 (by omega) (by omega) (by omega)
  obtain ⟨way, S5, y1, y2, y3⟩ := drawE (a := mVar 0) (b := mC (.int 2)) (env := [some (.loc 1), some (.int sz), some (.loc (R.length + 2)), some (.loc (R.length + 1 + 2)), some (.str stem), none, none, none, none]) (var_ok rfl) c_ok x2 (by omega) (by decide) (by decide)
  have s3 : sPar 5 6 (mCons (mCall m__law_draw (mCons (mVar 0) (mCons (mOp dAdd (mCall cLen (mCons (mVar 4) mNil)) (mC (.int 1))) mNil))) (mCons (mCall m__law_draw (mCons (mVar 0) (mCons (mC (.int 2)) mNil))) mNil)) [some (.loc 1), some (.int sz), some (.loc (R.length + 2)), some (.loc (R.length + 1 + 2)), some (.str stem), none, none, none, none] S3 = .next [some (.loc 1), some (.int sz), some (.loc (R.length + 2)), some (.loc (R.length + 1 + 2)), some (.str stem), some (.int at_), some (.int way), none, none] S5 := by
    unfold sPar
    rw [cons_ok x1 (cons_ok y1 nil_ok)]
    rfl
  -- the loop
  obtain ⟨env', S6, f1, f2⟩ := for_inv (g := gmName 7) (b := wordsBody) (WInv R sz stem at_ way (t + 1 + (0 + r) + 1 + 1)) ((List.range sz).map fun i : Nat => D.int (0 + (i : Int))) 0 [some (.loc 1), some (.int sz), some (.loc (R.length + 2)), some (.loc (R.length + 1 + 2)), some (.str stem), some (.int at_), some (.int way), none, none] S5 ⟨LET.cps.toList, [], [], none, none, rfl, y2, by rw [let26.1], rfl, by rw [List.nil_append]; exact let26.2, fun c hc => (let_iff c).mp (by simpa using hc), rfl, fun w hw => absurd hw List.not_mem_nil⟩ (fun d _ j env S hj hI => words_step haz hl (by omega) (by omega) (by omega) (by simp at hj; omega) hI)
  rw [List.length_map, List.length_range] at f2
  obtain ⟨ls, fs, used, x7, x8, rfl, hp6, g1, g2, g3, g4, g5, g6⟩ := f2.ex
  refine ⟨_, fs, S6, def_run rfl ?_, hp6.mono (by omega), by omega, ?_, g6⟩
  · rw [e0, sq s1, sq s2]
    show sSeq _ _ [some (.loc 1), some (.int sz), some (.loc (R.length + 2)), some (.loc (R.length + 1 + 2)), some (.str stem), none, none, none, none] _ = _
    rw [sq s3]
    rw [sq (show sForI _ _ _ _ _ = .next _ S6 by unfold sForI; rw [range_ok (var_ok rfl) (by omega)]; exact f1)]
    exact ret_ok (var_ok rfl)
  · have n1 : (used.map some).Nodup := map_nd (fun x y h => Option.some.inj h) used (List.nodup_append.mp g3).1
    rw [← g5] at n1
    exact nd_map _ fs n1
end Lw

set_option exponentiation.threshold 600
namespace Lw
open PySem L2 Lg
theorem unmap {α β : Type} (f : α → β) (Q : α → Prop) : ∀ l : List β, (∀ x ∈ l, ∃ a, x = f a ∧ Q a) → ∃ as : List α, l = as.map f ∧ ∀ a ∈ as, Q a
  | [], _ => ⟨[], rfl, fun a h => absurd h List.not_mem_nil⟩
  | x :: l, h => by
    obtain ⟨a, rfl, qa⟩ := h x List.mem_cons_self
    obtain ⟨as, rfl, q⟩ := unmap f Q l fun y hy => h y (List.mem_cons_of_mem _ hy)
    refine ⟨a :: as, rfl, fun b hb => ?_⟩
    rcases List.mem_cons.mp hb with rfl | hb
    · exact qa
    · exact q b hb
theorem Az.ok {s : PySem.Str} : PySem.W.alike (.str s) (.str s) = true := by simp [PySem.W.alike]
theorem alike_str (a b : PySem.Str) : PySem.W.alike (.str a) (.str b) = true := by simp [PySem.W.alike]
theorem alike_pr (p q : PySem.Str × PySem.Str) : PySem.W.alike (prP p) (prP q) = true := by simp [prP, PySem.W.alike, PySem.W.alikeAll]
theorem alikeB_map {α : Type} {f : α → PyData} (h : ∀ a b, PySem.W.alike (f a) (f b) = true) (l : List α) : alikeB (l.map f) = true := by
  unfold alikeB
  rw [List.all_eq_true]
  intro x hx
  obtain ⟨a, _, rfl⟩ := List.mem_map.mp hx
  rw [List.all_eq_true]
  intro y hy
  obtain ⟨b, _, rfl⟩ := List.mem_map.mp hy
  exact h a b
/-! ### pairs -/
def kP (p : PySem.Str × PySem.Str) : List Key := [.inr p.1, .inr p.2]
theorem pdT_kP (p : PySem.Str × PySem.Str) : pdT (kP p) = prP p := rfl
theorem dTup_kP (p : PySem.Str × PySem.Str) : dTup (kP p) = prD p := rfl
theorem put_fst {kvs : List (List Key × D)} {k : List Key} {v : D} : (∀ q ∈ putKD kvs k v, q.1 = k ∨ ∃ q' ∈ kvs, q'.1 = q.1) ∧ (putKD kvs k v).length ≤ kvs.length + 1 := by
  unfold putKD
  split
  · refine ⟨fun q hq => ?_, by simp⟩
    obtain ⟨q', h1, rfl⟩ := List.mem_map.mp hq
    refine .inr ⟨q', h1, ?_⟩
    split <;> rfl
  · refine ⟨fun q hq => ?_, by simp⟩
    rcases List.mem_append.mp hq with hq | hq
    · exact .inr ⟨q, hq, rfl⟩
    · rw [List.mem_singleton.mp hq]; exact .inl rfl
theorem one_at (R : Store) (a : Ob) : (R ++ [a])[R.length]? = some a := by simp
theorem one_set (R : Store) (a o : Ob) : (R ++ [a]).set R.length o = R ++ [o] := by simp
theorem sort_pairs {S : Store} {n : Nat} {kvs : List (List Key × D)} {Q : PySem.Str × PySem.Str → Prop} (hS : S[n]? = some (.dT kvs)) (h : ∀ kv ∈ kvs, ∃ p, kv.1 = kP p ∧ Q p) : ∃ ps : Ps, cSortDT [.loc n] S = .ok (.lst (ps.map prD)) S ∧ ps.length = kvs.length ∧ ∀ p ∈ ps, Q p := by
  obtain ⟨ps0, e0, q0⟩ := unmap kP Q (kvs.map (·.1)) (fun x hx => by
    obtain ⟨kv, hk, rfl⟩ := List.mem_map.mp hx
    exact h kv hk)
  have perm : (sortK (kvs.map (·.1))).Perm (kvs.map (·.1)) := List.mergeSort_perm _ _
  obtain ⟨ps, e1, q1⟩ := unmap kP Q (sortK (kvs.map (·.1))) (fun x hx => by
    have := perm.mem_iff.mp hx
    rw [e0] at this
    obtain ⟨p, hp, rfl⟩ := List.mem_map.mp this
    exact ⟨p, rfl, q0 p hp⟩)
  have em : (kvs.map fun kv => pdT kv.1) = ps0.map prP := by
    have := congrArg (List.map pdT) e0
    rw [List.map_map, List.map_map] at this
    exact this
  have c1 : alikeB (kvs.map fun kv => pdT kv.1) = true := by rw [em]; exact alikeB_map alike_pr ps0
  have c2 : sortB (kvs.map fun kv => pdT kv.1) = true := by
    rw [em]
    unfold sortB
    rw [Bool.or_eq_true_iff]
    left
    rw [List.all_eq_true]
    intro x hx
    obtain ⟨p, _, rfl⟩ := List.mem_map.mp hx
    rfl
  have c3 : (kvs.all fun kv => decide ((pdT kv.1).depth ≤ 40)) = true := by
    rw [List.all_eq_true]
    intro kv hk
    have : pdT kv.1 ∈ kvs.map fun kv => pdT kv.1 := List.mem_map.mpr ⟨kv, hk, rfl⟩
    rw [em] at this
    obtain ⟨p, _, e⟩ := List.mem_map.mp this
    rw [← e]
    exact decide_eq_true (Nat.le_trans (dep_pr p) (by decide))
  refine ⟨ps, ?_, ?_, q1⟩
  · unfold cSortDT
    simp only [hS]
    rw [if_pos ⟨c1, c2, c3⟩, e1, List.map_map]
    rfl
  · have := congrArg List.length e1
    rw [perm.length_eq] at this
    simpa using this.symm
theorem pairs {t sz kw : Nat} {R S : Store} {ws : List PySem.Str} (hp : PO t R S) (ht : t ≤ 900000) (hz : sz ≤ 20) (hk : R[kw]? = some (.lst (ws.map D.str))) (hw : 0 < ws.length) (hw2 : ws.length ≤ 26) : ∃ (ps : Ps) (X S' : Store), m__law_pairs [.loc 1, .loc (kw + 2), .int sz] S = .ok (.tup (ps.map prD)) S' ∧ PO (t + 2 * sz) (R ++ X) S' ∧ ps.length ≤ sz ∧ ∀ p ∈ ps, p.1 ∈ ws ∧ p.2 ∈ ws := by
  have zs : 1000 ≤ sizeLine := by decide
  have s1 : sAsg mNewT (gmName 3) [some (.loc 1), some (.loc (kw + 2)), some (.int sz), none, none] S = .next [some (.loc 1), some (.loc (kw + 2)), some (.int sz), some (.loc (R.length + 2)), none] (S ++ [.dT []]) := by
    rw [asg_ok (d := .loc S.length) (S' := S ++ [.dT []]) rfl, hp.len]
    rfl
  obtain ⟨env', S', f1, f2⟩ := for_inv (g := gmName 4) (b := sAsg (mC (.bl true)) (gmSub (mVar 3) (mTup (mCons (mCall m__law_pick (mCons (mVar 0) (mCons (mVar 1) mNil))) (mCons (mCall m__law_pick (mCons (mVar 0) (mCons (mVar 1) mNil))) mNil))) dSetK))
    (fun j env S => ∃ (kvs : List (List Key × D)) (x : Option D), env = [some (.loc 1), some (.loc (kw + 2)), some (.int sz), some (.loc (R.length + 2)), x] ∧ PO (t + 2 * j) (R ++ [.dT kvs]) S ∧ kvs.length ≤ j ∧ ∀ kv ∈ kvs, ∃ p, kv.1 = kP p ∧ p.1 ∈ ws ∧ p.2 ∈ ws)
    ((List.range sz).map fun i : Nat => D.int (0 + (i : Int))) 0 [some (.loc 1), some (.loc (kw + 2)), some (.int sz), some (.loc (R.length + 2)), none] (S ++ [.dT []]) ⟨[], none, rfl, hp.app _, Nat.le_refl _, fun kv h => absurd h List.not_mem_nil⟩ (fun d _ j env S hj hI => by
      obtain ⟨kvs, x, rfl, h1, h2, h3⟩ := hI
      rw [List.length_map, List.length_range] at hj
      have hk' : (R ++ [Ob.dT kvs])[kw]? = some (.lst (ws.map D.str)) := at_app _ hk
      have lw : (ws.map D.str).length = ws.length := by simp
      obtain ⟨r1, S1, a1, a2, a3⟩ := pickE (a := mVar 0) (b := mVar 1) (env := [some (.loc 1), some (.loc (kw + 2)), some (.int sz), some (.loc (R.length + 2)), some d]) (var_ok rfl) (var_ok rfl) (Pk.loc hk') h1 (by omega) (by omega) (by omega)
      obtain ⟨r2, S2, b1, b2, b3⟩ := pickE (a := mVar 0) (b := mVar 1) (env := [some (.loc 1), some (.loc (kw + 2)), some (.int sz), some (.loc (R.length + 2)), some d]) (var_ok rfl) (var_ok rfl) (Pk.loc hk') a2 (by omega) (by omega) (by omega)
      rw [lw] at a3 b3
      have g1 : (ws.map D.str).getD r1 .non = .str ws[r1] := by
        rw [List.getD_eq_getElem?_getD, List.getElem?_map, List.getElem?_eq_getElem a3]; rfl
      have g2 : (ws.map D.str).getD r2 .non = .str ws[r2] := by
        rw [List.getD_eq_getElem?_getD, List.getElem?_map, List.getElem?_eq_getElem b3]; rfl
      rw [g1] at a1
      rw [g2] at b1
      have hS2 : S2[R.length + 2]? = some (.dT kvs) := by rw [b2.at, one_at]
      refine ⟨[some (.loc 1), some (.loc (kw + 2)), some (.int sz), some (.loc (R.length + 2)), some d], [some (.loc 1), some (.loc (kw + 2)), some (.int sz), some (.loc (R.length + 2)), some d], S2.set (R.length + 2) (.dT (putKD kvs (kP (ws[r1], ws[r2])) (.bl true))), rfl, ?_, putKD kvs (kP (ws[r1], ws[r2])) (.bl true), some d, rfl, ?_, ?_, ?_⟩
      · have st : dSetK (.loc (R.length + 2)) (.tup [.str ws[r1], .str ws[r2]]) (.bl true) S2 = some (S2.set (R.length + 2) (.dT (putKD kvs (kP (ws[r1], ws[r2])) (.bl true)))) := by
          unfold dSetK
          simp only [hS2, keysD, keyD]
          rw [if_pos (by omega)]
          rfl
        have v3 : ∀ S, mVar 3 [some (.loc 1), some (.loc (kw + 2)), some (.int sz), some (.loc (R.length + 2)), some d] S = .ok (.loc (R.length + 2)) S := fun S => var_ok rfl
        unfold sAsg
        rw [c_ok]
        simp only [Res.bindS, gmSub, v3, Res.bind, tup_ok (cons_ok a1 (cons_ok b1 nil_ok)) (show 2 ≤ sizeLine by decide), st]
      · have := b2.set R.length (.dT (putKD kvs (kP (ws[r1], ws[r2])) (.bl true)))
        rw [one_set] at this
        exact this.mono (by omega)
      · have := (put_fst (kvs := kvs) (k := kP (ws[r1], ws[r2])) (v := .bl true)).2
        omega
      · intro kv hkv
        rcases (put_fst (kvs := kvs) (k := kP (ws[r1], ws[r2])) (v := .bl true)).1 kv hkv with e | ⟨q', hq', e⟩
        · exact ⟨_, e, List.getElem_mem _, List.getElem_mem _⟩
        · obtain ⟨p, e2, e3⟩ := h3 q' hq'
          exact ⟨p, e ▸ e2, e3⟩)
  rw [List.length_map, List.length_range, Nat.zero_add] at f2
  obtain ⟨kvs, x, rfl, h1, h2, h3⟩ := f2
  obtain ⟨ps, g1, g2, g3⟩ := sort_pairs (Q := fun p => p.1 ∈ ws ∧ p.2 ∈ ws) (show S'[R.length + 2]? = some (.dT kvs) by rw [h1.at, one_at]) h3
  refine ⟨ps, [.dT kvs], S', def_run rfl ?_, h1, by omega, g3⟩
  show sSeq _ _ [some (.loc 1), some (.loc (kw + 2)), some (.int sz), none, none] S = _
  rw [sq s1, sq (show sForI _ _ _ _ _ = .next _ S' by unfold sForI; rw [range_ok (var_ok rfl) (by omega)]; exact f1)]
  exact ret_ok (tuple_lst ((call_ok (cons_ok (var_ok rfl) nil_ok)).trans g1))
/-! ### a year of all -/
theorem with_strs : ∀ is : List PySem.Str, withPy (is.map D.str) = some (is.map fun s => (D.str s, PyData.str s))
  | [] => rfl
  | s :: is => by
    show withPy (.str s :: is.map D.str) = _
    unfold withPy
    rw [with_strs is]
    rfl
theorem sort_strs (is : List PySem.Str) (S : Store) : ∃ js : List PySem.Str, cSort [.lst (is.map D.str)] S = .ok (.lst (js.map D.str)) S ∧ js.length = is.length ∧ ∀ j ∈ js, j ∈ is := by
  have em : (is.map fun s => (D.str s, PyData.str s)).map (·.2) = is.map PyData.str := by rw [List.map_map]; rfl
  have c1 : alikeB ((is.map fun s => (D.str s, PyData.str s)).map (·.2)) = true := by rw [em]; exact alikeB_map alike_str is
  have c2 : sortB ((is.map fun s => (D.str s, PyData.str s)).map (·.2)) = true := by
    rw [em]
    unfold sortB
    rw [Bool.or_eq_true_iff]
    right
    rw [List.all_eq_true]
    intro x hx
    obtain ⟨p, _, rfl⟩ := List.mem_map.mp hx
    rfl
  have c3 : ((is.map fun s => (D.str s, PyData.str s)).all fun b => decide (b.2.depth ≤ 40)) = true := by
    rw [List.all_eq_true]
    intro x hx
    obtain ⟨p, _, rfl⟩ := List.mem_map.mp hx
    simp [PyData.depth]
  have perm := List.mergeSort_perm (is.map fun s => (D.str s, PyData.str s)) (PySem.W.dataLe false (·.2))
  obtain ⟨js, e1, q1⟩ := unmap (fun s => (D.str s, PyData.str s)) (fun s => s ∈ is) _ (fun x hx => by
    obtain ⟨s, hs, rfl⟩ := List.mem_map.mp (perm.mem_iff.mp hx)
    exact ⟨s, rfl, hs⟩)
  refine ⟨js, ?_, ?_, q1⟩
  · unfold cSort
    have e : asL (.lst (is.map D.str)) S = some (is.map D.str) := rfl
    simp only [e, with_strs]
    rw [if_pos ⟨c1, c2, c3⟩]
    unfold sortD
    rw [e1, List.map_map]
    rfl
  · have := perm.length_eq
    rw [e1] at this
    simpa using this
theorem turned {t : Nat} {R S : Store} {is : List PySem.Str} (hp : PO t R S) (ht : t ≤ 900000) (hz : is.length ≤ 24) : ∃ (ps : Ps) (X S' : Store), m__law_turned_round [.loc 1, .lst (is.map D.str)] S = .ok (.tup (ps.map prD)) S' ∧ PO (t + 24) (R ++ X) S' ∧ ∀ p ∈ ps, p.1 ∈ is ∧ p.2 ∈ is := by
  have zs : 1000 ≤ sizeLine := by decide
  have b5 : (1000 : Int) < 2 ^ 500 := by decide
  have s1 : sPar 2 3 (mCons (mCall cListL (mCons (mVar 1) mNil)) (mCons (mLstL mNil) mNil)) [some (.loc 1), some (.lst (is.map D.str)), none, none, none] S = .next [some (.loc 1), some (.lst (is.map D.str)), some (.loc (R.length + 2)), some (.loc (R.length + 1 + 2)), none] (S ++ [.lst (is.map D.str), .lst []]) := by
    have c1 : mCall cListL (mCons (mVar 1) mNil) [some (.loc 1), some (.lst (is.map D.str)), none, none, none] S = .ok (.loc S.length) (S ++ [.lst (is.map D.str)]) := (call_ok (cons_ok (var_ok rfl) nil_ok)).trans rfl
    unfold sPar
    rw [cons_ok c1 (cons_ok newL nil_ok)]
    have q1 := hp.len
    simp only [Res.bindS]
    rw [List.length_append, q1, show R.length + 2 + [Ob.lst (is.map D.str)].length = R.length + 1 + 2 by simp, List.append_assoc]
    rfl
  have hp1 := hp.app [.lst (is.map D.str), .lst []]
  generalize S ++ [Ob.lst (is.map D.str), .lst []] = S1 at s1 hp1
  obtain ⟨js, j1, j2, j3⟩ := sort_strs is S1
  obtain ⟨env', S', f1, f2⟩ := for_inv (g := gmName 4) (b := sDrop (mBMt "list" qAppend (mVar 3) (mCons (mTup (mCons (mVar 4) (mCons (mBMt "list" qPopAt (mVar 2) (mCons (mCall m__law_draw (mCons (mVar 0) (mCons (mCall cLen (mCons (mVar 2) mNil)) mNil))) mNil)) mNil))) mNil)))
    (fun j env S => ∃ (rs : List PySem.Str) (fs : Ps) (x : Option D), env = [some (.loc 1), some (.lst (is.map D.str)), some (.loc (R.length + 2)), some (.loc (R.length + 1 + 2)), x] ∧ PO (t + j) (R ++ [.lst (rs.map D.str), .lst (fs.map prD)]) S ∧ rs.length + j = is.length ∧ fs.length = j ∧ (∀ r ∈ rs, r ∈ is) ∧ ∀ p ∈ fs, p.1 ∈ is ∧ p.2 ∈ is)
    (js.map D.str) 0 [some (.loc 1), some (.lst (is.map D.str)), some (.loc (R.length + 2)), some (.loc (R.length + 1 + 2)), none] S1 ⟨is, [], none, rfl, hp1, rfl, rfl, fun r h => h, fun p h => absurd h List.not_mem_nil⟩ (fun d hd j env S hj hI => by
      obtain ⟨rs, fs, x, rfl, h1, h2, h3, h4, h5⟩ := hI
      obtain ⟨s, hs, rfl⟩ := List.mem_map.mp hd
      rw [List.length_map, j2] at hj
      generalize hE : [some (D.loc 1), some (.lst (is.map D.str)), some (.loc (R.length + 2)), some (.loc (R.length + 1 + 2)), some (.str s)] = E
      have k0 := two_at0 R (.lst (rs.map D.str)) (.lst (fs.map prD))
      have v2 : mVar 2 E S = .ok (.loc (R.length + 2)) S := var_ok (by rw [← hE]; rfl)
      obtain ⟨r, S2, d1, d2, d3⟩ := drawE (a := mVar 0) (b := mCall cLen (mCons (mVar 2) mNil)) (env := E) (size := ((rs.map D.str).length : Nat)) (var_ok (by rw [← hE]; rfl)) (lenL v2 (by rw [h1.at, k0])) h1 (by omega) (by rw [List.length_map]; omega) (by rw [List.length_map]; omega)
      rw [List.length_map] at d3
      have hr : r < rs.length := by omega
      obtain ⟨p1, p2⟩ := popE v2 h1 d1 d2 k0 (by rw [List.length_map]; exact hr) (by rw [List.length_map]; omega)
      rw [er_map] at p1 p2
      rw [two_set0] at p2
      have hg : (rs.map D.str)[r]'(by rw [List.length_map]; exact hr) = .str rs[r] := by simp
      rw [hg] at p1
      have k1 := two_at1 R (.lst (rs.map D.str)) (.lst (fs.map prD))
      have k2 := two_at1 R (.lst ((rs.eraseIdx r).map D.str)) (.lst (fs.map prD))
      have tp := tup_ok (cons_ok (show mVar 4 E S = .ok (.str s) S from var_ok (by rw [← hE]; rfl)) (cons_ok p1 nil_ok)) (show 2 ≤ sizeLine by decide)
      obtain ⟨a1, a2⟩ := appE (show mVar 3 E S = .ok (.loc (R.length + 1 + 2)) S from var_ok (by rw [← hE]; rfl)) h1 tp p2 k1 k2 (by rw [List.length_map]; omega)
      rw [two_set1] at a2
      refine ⟨E, E, _, by rw [← hE]; rfl, a1, rs.eraseIdx r, fs ++ [(s, rs[r])], some (.str s), hE.symm, by rw [List.map_append]; exact a2, ?_, by simp [h3], fun q hq => h4 q (List.mem_of_mem_eraseIdx hq), fun p hp => ?_⟩
      · rw [List.length_eraseIdx, if_pos hr]; omega
      · rcases List.mem_append.mp hp with hp | hp
        · exact h5 p hp
        · rw [List.mem_singleton.mp hp]; exact ⟨j3 s hs, h4 _ (List.getElem_mem hr)⟩)
  obtain ⟨rs, fs, x, rfl, h1, h2, h3, h4, h5⟩ := f2
  rw [List.length_map, j2] at h1
  refine ⟨fs, [.lst (rs.map D.str), .lst (fs.map prD)], S', def_run rfl ?_, h1.mono (by omega), h5⟩
  show sSeq _ _ [some (.loc 1), some (.lst (is.map D.str)), none, none, none] S = _
  rw [sq s1, sq (show sForI _ _ _ _ _ = .next _ S' by unfold sForI; rw [seq_lst ((call_ok (cons_ok (var_ok rfl) nil_ok)).trans j1)]; exact f1)]
  refine ret_ok ?_
  rw [call_ok (cons_ok (var_ok rfl) nil_ok)]
  have e : asL (.loc (R.length + 1 + 2)) S' = some (fs.map Lg.prD) := by
    unfold asL
    simp only [h1.at, two_at1]
  show (match asL (.loc (R.length + 1 + 2)) S' with | some xs => Res.ok (D.tup xs) S' | none => .stuck) = _
  rw [e]
end Lw

set_option exponentiation.threshold 600
namespace Lw
open PySem L2 Lg
def Ext (R R' : Store) : Prop := ∀ (i : Nat) (o : Ob), R[i]? = some o → R'[i]? = some o
theorem Ext.refl (R : Store) : Ext R R := fun _ _ h => h
theorem Ext.app {R R' : Store} (h : Ext R R') (X : Store) : Ext R (R' ++ X) := fun i o q => at_app X (h i o q)
theorem Ext.trans {R R' R'' : Store} (h : Ext R R') (h' : Ext R' R'') : Ext R R'' := fun i o q => h' i o (h i o q)
/-- one of three numbers, then one below it -/
theorem draw3 {t : Nat} {R S : Store} {a b c : Int} {env : En} (hp : PO t R S) (ht : t ≤ 900000) (e0 : env[0]? = some (some (.loc 1))) (ha : 0 < a ∧ a ≤ 14) (hb : 0 < b ∧ b ≤ 14) (hc : 0 < c ∧ c ≤ 14) : ∃ (r : Nat) (S' : Store), mCall m__law_draw (mCons (mVar 0) (mCons (mOp dIx (mLst (mCons (mC (.int a)) (mCons (mC (.int b)) (mCons (mC (.int c)) mNil)))) (mCall m__law_draw (mCons (mVar 0) (mCons (mC (.int 3)) mNil)))) mNil)) env S = .ok (.int r) S' ∧ PO (t + 2) R S' ∧ r < 14 := by
  have b5 : (1000 : Int) < 2 ^ 500 := by decide
  obtain ⟨r, S1, d1, d2, d3⟩ := drawE (a := mVar 0) (b := mC (.int 3)) (env := env) (var_ok e0) c_ok hp (by omega) (by decide) (by decide)
  have hr : r = 0 ∨ r = 1 ∨ r = 2 := by omega
  have ix : ∃ v : Int, 0 < v ∧ v ≤ 14 ∧ mOp dIx (mLst (mCons (mC (.int a)) (mCons (mC (.int b)) (mCons (mC (.int c)) mNil)))) (mCall m__law_draw (mCons (mVar 0) (mCons (mC (.int 3)) mNil))) env S = .ok (.int v) S1 := by
    have l := lst_ok (env := env) (S := S) (cons_ok (c_ok (d := .int a)) (cons_ok (c_ok (d := .int b)) (cons_ok (c_ok (d := .int c)) nil_ok))) (show 3 ≤ sizeLine by decide)
    rcases hr with rfl | rfl | rfl
    · exact ⟨a, ha.1, ha.2, opv l d1 rfl⟩
    · exact ⟨b, hb.1, hb.2, opv l d1 rfl⟩
    · exact ⟨c, hc.1, hc.2, opv l d1 rfl⟩
  obtain ⟨v, v0, v1, hv⟩ := ix
  obtain ⟨r', S2, g1, g2, g3⟩ := drawn d2 (by omega) v0 (by omega)
  exact ⟨r', S2, (call_ok (cons_ok (var_ok e0) (cons_ok hv nil_ok))).trans g1, g2, by omega⟩
/-! ### members -/
def nmD : D × PyData → PySem.Str
  | (.tup (.str a :: _), _) => a
  | _ => PySem.Str.empty
theorem with_prs : ∀ ms : Ps, withPy (ms.map Lg.prD) = some (ms.map fun p => (Lg.prD p, prP p))
  | [] => rfl
  | p :: ms => by
    show withPy (Lg.prD p :: ms.map Lg.prD) = _
    unfold withPy
    rw [with_prs ms]
    rfl
theorem sort_members (ms0 : Ps) (hn : (Nam ms0).Nodup) (S : Store) : ∃ ms : Ps, cSort [.lst (ms0.map Lg.prD)] S = .ok (.lst (ms.map Lg.prD)) S ∧ ms.length = ms0.length ∧ (∀ p ∈ ms, p ∈ ms0) ∧ (Nam ms).Nodup := by
  have em : (ms0.map fun p => (Lg.prD p, prP p)).map (·.2) = ms0.map prP := by rw [List.map_map]; rfl
  have c1 : alikeB ((ms0.map fun p => (Lg.prD p, prP p)).map (·.2)) = true := by rw [em]; exact alikeB_map alike_pr ms0
  have c2 : sortB ((ms0.map fun p => (Lg.prD p, prP p)).map (·.2)) = true := by
    rw [em]
    unfold sortB
    rw [Bool.or_eq_true_iff]
    left
    rw [List.all_eq_true]
    intro x hx
    obtain ⟨p, _, rfl⟩ := List.mem_map.mp hx
    rfl
  have c3 : ((ms0.map fun p => (Lg.prD p, prP p)).all fun b => decide (b.2.depth ≤ 40)) = true := by
    rw [List.all_eq_true]
    intro x hx
    obtain ⟨p, _, rfl⟩ := List.mem_map.mp hx
    exact decide_eq_true (Nat.le_trans (dep_pr p) (by decide))
  have perm := List.mergeSort_perm (ms0.map fun p => (Lg.prD p, prP p)) (PySem.W.dataLe false (·.2))
  obtain ⟨ms, e1, q1⟩ := unmap (fun p => (Lg.prD p, prP p)) (fun p => p ∈ ms0) _ (fun x hx => by
    obtain ⟨s, hs, rfl⟩ := List.mem_map.mp (perm.mem_iff.mp hx)
    exact ⟨s, rfl, hs⟩)
  refine ⟨ms, ?_, ?_, q1, ?_⟩
  · unfold cSort
    have e : asL (.lst (ms0.map Lg.prD)) S = some (ms0.map Lg.prD) := rfl
    simp only [e, with_prs]
    rw [if_pos ⟨c1, c2, c3⟩]
    unfold sortD
    rw [e1, List.map_map]
    rfl
  · have := perm.length_eq
    rw [e1] at this
    simpa using this
  · have p2 := perm.map nmD
    rw [e1, List.map_map, List.map_map] at p2
    exact (p2.nodup_iff (l₁ := Nam ms) (l₂ := Nam ms0)).mpr hn
theorem zip_out : ∀ (as bs : List PySem.Str), List.zipWith (fun w h => Lg.prD (w, h)) as bs = (List.zip as bs).map Lg.prD
  | [], bs => by simp
  | a :: as, [] => by simp
  | a :: as, b :: bs => by simp [zip_out as bs]
theorem zip_fst : ∀ (as bs : List PySem.Str), bs.length = as.length → Nam (List.zip as bs) = as
  | [], bs, _ => by simp
  | a :: as, [], h => by simp at h
  | a :: as, b :: bs, h => by
    have := zip_fst as bs (by simpa using h)
    simp at this ⊢
    simpa using this
/-! ### one more year -/
abbrev yearBody : SM := (sDrop (mBMt "list" qAppend (mVar 8) (mCons (mOp dIx (mLst (mCons (mCall m__law_turned_round (mCons (mVar 0) (mCons (mVar 3) mNil))) (mCons (mCall m__law_pairs (mCons (mVar 0) (mCons (mVar 2) (mCons (mCall m__law_draw (mCons (mVar 0) (mCons (mC (.int 5)) mNil))) mNil)))) mNil))) (mOp dDiv (mCall m__law_draw (mCons (mVar 0) (mCons (mC (.int 4)) mNil))) (mC (.int 3)))) mNil)))
theorem set_ne {R : Store} {k i : Nat} {o : Ob} (h : i ≠ k) : (R.set k o)[i]? = R[i]? := by
  rw [List.getElem?_set]
  rw [if_neg (fun e => h e.symm)]
theorem set_eq {R : Store} {k : Nat} {o o' : Ob} (h : R[k]? = some o') : (R.set k o)[k]? = some o := by
  have hl : k < R.length := (List.getElem?_eq_some_iff.mp h).1
  simp [hl]
theorem year_step {t kw kp : Nat} {R S : Store} {ws is : List PySem.Str} {yrs : List Ps} {env : En} (e0 : env[0]? = some (some (.loc 1))) (e2 : env[2]? = some (some (.loc (kw + 2)))) (e3 : env[3]? = some (some (.lst (is.map D.str)))) (e8 : env[8]? = some (some (.loc (kp + 2)))) (hp : PO t R S) (ht : t ≤ 800000) (hw : 0 < ws.length) (hw2 : ws.length ≤ 26) (hi : ∀ i ∈ is, i ∈ ws) (hil : is.length ≤ 24)
    (hk : R[kw]? = some (.lst (ws.map D.str))) (hy : R[kp]? = some (.lst (yrs.map yrD))) (hne : kw ≠ kp) (hyl : yrs.length ≤ 900) : ∃ (y : Ps) (R' S' : Store), yearBody env S = .next env S' ∧ PO (t + 40) R' S' ∧ R'[kp]? = some (.lst ((yrs ++ [y]).map yrD)) ∧ (∀ (i : Nat) (o : Ob), i ≠ kp → R[i]? = some o → R'[i]? = some o) ∧ ∀ p ∈ y, p.1 ∈ ws ∧ p.2 ∈ ws := by
  have b5 : (1000 : Int) < 2 ^ 500 := by decide
  obtain ⟨y1, X1, S1, a1, a2, a3⟩ := turned hp (by omega) hil
  obtain ⟨r1, S2, b1, b2, b3⟩ := drawE (a := mVar 0) (b := mC (.int 5)) (env := env) (var_ok e0) c_ok a2 (by omega) (by decide) (by decide)
  obtain ⟨y2, X2, S3, c1, c2, c3, c4⟩ := pairs (sz := r1) b2 (by omega) (by omega) (at_app X1 hk) hw hw2
  obtain ⟨r2, S4, d1, d2, d3⟩ := drawE (a := mVar 0) (b := mC (.int 4)) (env := env) (var_ok e0) c_ok c2 (by omega) (by decide) (by decide)
  have l := lst_ok (cons_ok ((call_ok (cons_ok (var_ok e0) (cons_ok (var_ok e3) nil_ok))).trans a1) (cons_ok ((call_ok (cons_ok (var_ok e0) (cons_ok (var_ok e2) (cons_ok b1 nil_ok)))).trans c1) nil_ok)) (show 2 ≤ sizeLine by decide)
  have dv : mOp dDiv (mCall m__law_draw (mCons (mVar 0) (mCons (mC (.int 4)) mNil))) (mC (.int 3)) env S3 = .ok (.int ((r2 : Int) / 3)) S4 := opv d1 c_ok (div_i (cd (by decide) (by decide)))
  have ye : ∃ y : Ps, (mOp dIx (mLst (mCons (mCall m__law_turned_round (mCons (mVar 0) (mCons (mVar 3) mNil))) (mCons (mCall m__law_pairs (mCons (mVar 0) (mCons (mVar 2) (mCons (mCall m__law_draw (mCons (mVar 0) (mCons (mC (.int 5)) mNil))) mNil)))) mNil))) (mOp dDiv (mCall m__law_draw (mCons (mVar 0) (mCons (mC (.int 4)) mNil))) (mC (.int 3)))) env S = .ok (yrD y) S4 ∧ ∀ p ∈ y, p.1 ∈ ws ∧ p.2 ∈ ws := by
    by_cases h3 : r2 < 3
    · refine ⟨y1, opv l dv ?_, fun p hp => ⟨hi _ (a3 p hp).1, hi _ (a3 p hp).2⟩⟩
      rw [show (r2 : Int) / 3 = 0 by omega]
      rfl
    · refine ⟨y2, opv l dv ?_, c4⟩
      rw [show (r2 : Int) / 3 = 1 by omega]
      rfl
  obtain ⟨y, y3, y4⟩ := ye
  have hy4 : (R ++ X1 ++ X2)[kp]? = some (.lst (yrs.map yrD)) := at_app X2 (at_app X1 hy)
  obtain ⟨f1, f2⟩ := appE (show mVar 8 env S = .ok (.loc (kp + 2)) S from var_ok e8) hp y3 d2 hy hy4 (by rw [List.length_map]; omega)
  refine ⟨y, _, _, f1, f2.mono (by omega), ?_, fun i o hi ho => ?_, y4⟩
  · rw [set_eq hy4, List.map_append]
    rfl
  · rw [set_ne hi]
    exact at_app X2 (at_app X1 ho)
end Lw

set_option exponentiation.threshold 600
namespace Lw
open PySem L2 Lg
theorem cut_drop (xs : List D) (k : Nat) (h : k ≤ xs.length) : cutD xs (some (k : Int)) none = xs.drop k := by
  unfold cutD
  rw [HT.sIx_nat, show HT.sIx xs.length xs.length none = xs.length from rfl, Nat.min_eq_left h, List.take_of_length_le (by simp)]
theorem cut_take (xs : List D) (k : Nat) (h : k ≤ xs.length) : cutD xs none (some (k : Int)) = xs.take k := by
  unfold cutD
  rw [HT.sIx_nat, show HT.sIx xs.length 0 none = 0 from rfl, Nat.min_eq_left h]
  simp
theorem slL {k : Nat} {ds : List D} {a : EM} {lo hi : OM} {env : En} {S : Store} {i j : Option Int} (ha : a env S = .ok (.loc k) S) (hk : S[k]? = some (.lst ds)) (hl : lo env S = .ok i S) (hh : hi env S = .ok j S) : mSl a lo hi env S = .ok (.lst (cutD ds i j)) S := by
  unfold mSl
  rw [ha]
  simp only [Res.bind, hl, hh, dSl, asL, hk]
theorem hs_ok {h : PySem.Str} (n : Nm h) : Az h ∧ h.length ≤ 12 := ⟨n.az, n.top⟩
theorem pow29 {env : En} {S : Store} : mOp dPow (mC (.int 10)) (mC (.int 29)) env S = .ok (.int (10 ^ 29)) S := opv c_ok c_ok (pow_i (by unfold CPow; decide))
theorem parts {t most : Nat} {R S : Store} (hp : PO t R S) (ht : t ≤ 700000) (hm : most ≤ 24) : ∃ (ms bs : Ps) (ys : List Ps) (gap : Int) (st : D) (R' S' : Store), m__law_parts [.loc 1, .int most] S = .ok (PaD ms bs ys gap st) S' ∧ PO (t + 800) R' S' ∧ Ext R R' ∧ Ok ms bs ys gap := by
  have b5 : (1000 : Int) < 2 ^ 500 := by decide
  have zs : 1000 ≤ sizeLine := by decide
  -- words
  obtain ⟨r0, S1, d1, d2, d3⟩ := drawE (a := mVar 0) (b := mOp dAdd (mVar 1) (mC (.int 1))) (env := [some (.loc 1), some (.int most), none, none, none, none, none, none, none, none, none, none]) (size := (most : Int) + 1) (var_ok rfl) (opv (var_ok rfl) c_ok add_i) hp (by omega) (by omega) (by omega)
  obtain ⟨a0, ws, S2, w1, w2, w3, w4, w5⟩ := words (sz := 2 + r0) d2 (by omega) (by omega)
  have s1 : sAsg (mCall m__law_words (mCons (mVar 0) (mCons (mOp dAdd (mC (.int 2)) (mCall m__law_draw (mCons (mVar 0) (mCons (mOp dAdd (mVar 1) (mC (.int 1))) mNil)))) mNil))) (gmName 2) [some (.loc 1), some (.int most), none, none, none, none, none, none, none, none, none, none] S = .next [some (.loc 1), some (.int most), some (.loc (R.length + 1 + 2)), none, none, none, none, none, none, none, none, none] S2 := by
    rw [asg_ok (d := .loc (R.length + 1 + 2)) (S' := S2)]
    · rfl
    · rw [call_ok (cons_ok (var_ok rfl) (cons_ok (opv c_ok d1 add_i) nil_ok)), show (2 : Int) + (r0 : Int) = ((2 + r0 : Nat) : Int) by omega]
      exact w1
  generalize hkw : R.length + 1 = kw at w1 s1
  have k1 : (R ++ [a0, Ob.lst (ws.map D.str)])[kw]? = some (.lst (ws.map D.str)) := by rw [← hkw]; exact two_at1 _ _ _
  have x1 : Ext R (R ++ [a0, Ob.lst (ws.map D.str)]) := (Ext.refl R).app _
  have kwl : kw < (R ++ [a0, Ob.lst (ws.map D.str)]).length := by rw [← hkw]; simp
  generalize R ++ [a0, Ob.lst (ws.map D.str)] = R1 at w2 k1 x1 kwl
  have hS2 : S2[kw + 2]? = some (.lst (ws.map D.str)) := by rw [w2.at, k1]
  have wl : (ws.map D.str).length = ws.length := by simp
  -- those within, strangers
  have s2 : sPar 3 4 (mCons (mSl (mVar 2) (oSome (mC (.int 2))) oNone) (mCons (mSl (mVar 2) oNone (oSome (mC (.int 2)))) mNil)) [some (.loc 1), some (.int most), some (.loc (kw + 2)), none, none, none, none, none, none, none, none, none] S2 = .next [some (.loc 1), some (.int most), some (.loc (kw + 2)), some (.lst ((ws.drop 2).map D.str)), some (.lst ((ws.take 2).map D.str)), none, none, none, none, none, none, none] S2 := by
    unfold sPar
    rw [cons_ok (slL (var_ok rfl) hS2 (someE c_ok) rfl) (cons_ok (slL (var_ok rfl) hS2 rfl (someE c_ok)) nil_ok)]
    rw [show (2 : Int) = ((2 : Nat) : Int) from rfl, cut_drop _ 2 (by omega), cut_take _ 2 (by omega), List.map_drop, List.map_take]
    rfl
  generalize hst : D.lst ((ws.take 2).map D.str) = st at s2
  -- houses
  have s3 : ∃ hs : List PySem.Str, hs.length = 6 ∧ (∀ h ∈ hs, Az h ∧ h.length ≤ 12) ∧ sAsg (mLst (mCons (mC (.str "")) (mCons (mC (.str "")) (mCons (mC (.str "")) (mCons (mOp dIx (mVar 4) (mC (.int 0))) (mCons (mOp dIx (mVar 2) (mUn dNeg (mC (.int 1)))) (mCons (mC (.str "h")) mNil))))))) (gmName 5) [some (.loc 1), some (.int most), some (.loc (kw + 2)), some (.lst ((ws.drop 2).map D.str)), some st, none, none, none, none, none, none, none] S2 = .next [some (.loc 1), some (.int most), some (.loc (kw + 2)), some (.lst ((ws.drop 2).map D.str)), some st, some (.lst (hs.map D.str)), none, none, none, none, none, none] S2 := by
    have h0 : 0 < ws.length := by omega
    have hl : ws.length - 1 < ws.length := by omega
    have i4 : mOp dIx (mVar 4) (mC (.int 0)) [some (.loc 1), some (.int most), some (.loc (kw + 2)), some (.lst ((ws.drop 2).map D.str)), some st, none, none, none, none, none, none, none] S2 = .ok (.str ws[0]) S2 := by
      refine opv (var_ok rfl) c_ok ?_
      rw [← hst]
      have e : asL (.lst ((ws.take 2).map D.str)) S2 = some ((ws.take 2).map D.str) := rfl
      have l2 : 0 < ((ws.take 2).map D.str).length := by simp; omega
      unfold dIx
      simp only [e]
      rw [show (0 : Int) = ((0 : Nat) : Int) from rfl, atI_nat l2]
      simp
    have i2 : mOp dIx (mVar 2) (mUn dNeg (mC (.int 1))) [some (.loc 1), some (.int most), some (.loc (kw + 2)), some (.lst ((ws.drop 2).map D.str)), some st, none, none, none, none, none, none, none] S2 = .ok (.str ws[ws.length - 1]) S2 := by
      refine opv (var_ok rfl) (show mUn dNeg (mC (.int 1)) _ S2 = .ok (.int (-1)) S2 from rfl) ?_
      have e : asL (.loc (kw + 2)) S2 = some (ws.map D.str) := by
        unfold asL
        simp only [hS2]
      have at1 : atI (ws.map D.str) (-1) = some (.str ws[ws.length - 1]) := by
        unfold atI ixN
        rw [if_neg (by decide), if_pos (by omega), wl]
        have : (-1 + (ws.length : Int)).toNat = ws.length - 1 := by omega
        simp only [Option.bind, this]
        rw [List.getElem?_map, List.getElem?_eq_getElem hl]
        rfl
      unfold dIx
      simp only [e, at1]
    refine ⟨["", "", "", ws[0], ws[ws.length - 1], "h"], rfl, ?_, ?_⟩
    · have ez : Az "" ∧ ("" : PySem.Str).length ≤ 12 := by
        refine ⟨fun c hc => ?_, by decide +kernel⟩
        rw [show ("" : PySem.Str).cps.toList = [] from by decide +kernel] at hc
        exact absurd hc List.not_mem_nil
      have eh : Az "h" ∧ ("h" : PySem.Str).length ≤ 12 := by
        refine ⟨fun c hc => ?_, by decide +kernel⟩
        rw [show ("h" : PySem.Str).cps.toList = [104] from by decide +kernel] at hc
        rw [List.mem_singleton.mp hc]
        decide
      intro h hh
      simp only [List.mem_cons, List.not_mem_nil, or_false] at hh
      rcases hh with rfl | rfl | rfl | rfl | rfl | rfl
      · exact ez
      · exact ez
      · exact ez
      · exact hs_ok (w5 _ (List.getElem_mem _))
      · exact hs_ok (w5 _ (List.getElem_mem _))
      · exact eh
    · rw [asg_ok (lst_ok (cons_ok c_ok (cons_ok c_ok (cons_ok c_ok (cons_ok i4 (cons_ok i2 (cons_ok c_ok nil_ok)))))) (show 6 ≤ sizeLine by decide))]
      rfl
  obtain ⟨hs, hs1, hs2, s3⟩ := s3
  -- members
  have dl : (ws.drop 2).length = r0 := by rw [List.length_drop]; omega
  obtain ⟨hh, S3, q1, q2, q3, q4⟩ := lc_draw (g := gmName 11) (e := mTup (mCons (mVar 11) (mCons (mCall m__law_pick (mCons (mVar 0) (mCons (mVar 5) mNil))) mNil))) (env := [some (.loc 1), some (.int most), some (.loc (kw + 2)), some (.lst ((ws.drop 2).map D.str)), some st, some (.lst (hs.map D.str)), none, none, none, none, none, none]) (fun i S => PO (t + 1 + 100 + i) R1 S) D.str (fun w h => Lg.prD (w, h)) (fun h => Az h ∧ h.length ≤ 12) (ws.drop 2) [] 0 S2 w2 (fun a _ j S hj hI => by
    have l6 : (hs.map D.str).length = 6 := by simp [hs1]
    obtain ⟨r, S', z1, z2, z3⟩ := pickE (a := mVar 0) (b := mVar 5) (env := [some (.loc 1), some (.int most), some (.loc (kw + 2)), some (.lst ((ws.drop 2).map D.str)), some st, some (.lst (hs.map D.str)), none, none, none, none, none, some (.str a)]) (var_ok rfl) (var_ok rfl) (Pk.lst R1 (hs.map D.str)) hI (by omega) (by omega) (by omega)
    have hr : r < hs.length := by simpa using z3
    have g1 : (hs.map D.str).getD r .non = .str hs[r] := by
      rw [List.getD_eq_getElem?_getD, List.getElem?_map, List.getElem?_eq_getElem hr]; rfl
    rw [g1] at z1
    exact ⟨_, hs[r], S', rfl, tup_ok (cons_ok (var_ok rfl) (cons_ok z1 nil_ok)) (show 2 ≤ sizeLine by decide), z2, hs2 _ (List.getElem_mem _)⟩) (by rw [dl]; simp; omega)
  have nd0 : (Nam (List.zip (ws.drop 2) hh)).Nodup := by
    rw [zip_fst _ _ q2]
    have e := w4
    rw [← List.take_append_drop 2 ws] at e
    exact (List.nodup_append.mp e).2.1
  obtain ⟨ms, m1, m2, m3, m4⟩ := sort_members (List.zip (ws.drop 2) hh) nd0 S3
  have s4 : sAsg (mCall cTupX (mCons (mCall cSort (mCons (mLc (itSeq (mVar 3)) (gmName 11) bYes (mTup (mCons (mVar 11) (mCons (mCall m__law_pick (mCons (mVar 0) (mCons (mVar 5) mNil))) mNil))) [11]) mNil)) mNil)) (gmName 6) [some (.loc 1), some (.int most), some (.loc (kw + 2)), some (.lst ((ws.drop 2).map D.str)), some st, some (.lst (hs.map D.str)), none, none, none, none, none, none] S2 = .next [some (.loc 1), some (.int most), some (.loc (kw + 2)), some (.lst ((ws.drop 2).map D.str)), some st, some (.lst (hs.map D.str)), some (.tupX (ms.map Lg.prD)), none, none, none, none, none] S3 := by
    have lc : mLc (itSeq (mVar 3)) (gmName 11) bYes (mTup (mCons (mVar 11) (mCons (mCall m__law_pick (mCons (mVar 0) (mCons (mVar 5) mNil))) mNil))) [11] [some (.loc 1), some (.int most), some (.loc (kw + 2)), some (.lst ((ws.drop 2).map D.str)), some st, some (.lst (hs.map D.str)), none, none, none, none, none, none] S2 = .ok (.lst ((List.zip (ws.drop 2) hh).map Lg.prD)) S3 := by
      unfold mLc
      rw [seq_lst (var_ok (d := .lst ((ws.drop 2).map D.str)) rfl)]
      simp only [Res.bind]
      rw [show wipeE [some (D.loc 1), some (.int most), some (.loc (kw + 2)), some (.lst ((ws.drop 2).map D.str)), some st, some (.lst (hs.map D.str)), none, none, none, none, none, none] [11] = [some (D.loc 1), some (.int most), some (.loc (kw + 2)), some (.lst ((ws.drop 2).map D.str)), some st, some (.lst (hs.map D.str)), none, none, none, none, none, none] from rfl, q1, zip_out]
      rfl
    rw [asg_ok ((call_ok (cons_ok ((call_ok (cons_ok lc nil_ok)).trans m1) nil_ok)).trans (show cTupX [.lst (ms.map Lg.prD)] S3 = .ok (.tupX (ms.map Lg.prD)) S3 from rfl))]
    rfl
  have zl : (List.zip (ws.drop 2) hh).length = r0 := by rw [List.length_zip, q2, dl]; omega
  have okm : (∀ m ∈ ms, Nm m.1) ∧ (∀ m ∈ ms, Az m.2 ∧ m.2.length ≤ 12) := by
    refine ⟨fun m hm => ?_, fun m hm => ?_⟩
    · have := List.of_mem_zip (show (m.1, m.2) ∈ List.zip (ws.drop 2) hh from m3 m hm)
      exact w5 _ (List.mem_of_mem_drop this.1)
    · have := List.of_mem_zip (show (m.1, m.2) ∈ List.zip (ws.drop 2) hh from m3 m hm)
      exact q3 _ this.2
  -- bars
  obtain ⟨r1, S4, u1, u2, u3⟩ := draw3 (a := 1) (b := 4) (c := 14) (env := [some (.loc 1), some (.int most), some (.loc (kw + 2)), some (.lst ((ws.drop 2).map D.str)), some st, some (.lst (hs.map D.str)), some (.tupX (ms.map Lg.prD)), none, none, none, none, none]) q4 (by omega) rfl (by decide) (by decide) (by decide)
  obtain ⟨bs, X1, S5, v1, v2, v3, v4⟩ := pairs (sz := r1) u2 (by omega) (by omega) k1 (by omega) (by omega)
  have s5 : sPar 7 8 (mCons (mCall m__law_pairs (mCons (mVar 0) (mCons (mVar 2) (mCons (mCall m__law_draw (mCons (mVar 0) (mCons (mOp dIx (mLst (mCons (mC (.int 1)) (mCons (mC (.int 4)) (mCons (mC (.int 14)) mNil)))) (mCall m__law_draw (mCons (mVar 0) (mCons (mC (.int 3)) mNil)))) mNil))) mNil)))) (mCons (mLstL mNil) mNil)) [some (.loc 1), some (.int most), some (.loc (kw + 2)), some (.lst ((ws.drop 2).map D.str)), some st, some (.lst (hs.map D.str)), some (.tupX (ms.map Lg.prD)), none, none, none, none, none] S3 = .next [some (.loc 1), some (.int most), some (.loc (kw + 2)), some (.lst ((ws.drop 2).map D.str)), some st, some (.lst (hs.map D.str)), some (.tupX (ms.map Lg.prD)), some (.tup (bs.map Lg.prD)), some (.loc ((R1 ++ X1).length + 2)), none, none, none] (S5 ++ [.lst []]) := by
    unfold sPar
    rw [cons_ok ((call_ok (cons_ok (var_ok rfl) (cons_ok (var_ok rfl) (cons_ok u1 nil_ok)))).trans v1) (cons_ok newL nil_ok), v2.len]
    rfl
  have v5 := v2.app [.lst []]
  have k5 : (R1 ++ X1 ++ [Ob.lst []])[kw]? = some (.lst (ws.map D.str)) := at_app _ (at_app _ k1)
  have k6 : (R1 ++ X1 ++ [Ob.lst []])[(R1 ++ X1).length]? = some (.lst (([] : List Ps).map yrD)) := one_at _ _
  have x5 : Ext R (R1 ++ X1 ++ [Ob.lst []]) := (x1.app _).app _
  have hne : kw ≠ (R1 ++ X1).length := by rw [List.length_append]; omega
  have hRl : R.length < (R1 ++ X1).length := by rw [List.length_append]; omega
  generalize (R1 ++ X1).length = kp at s5 k6 hne hRl
  generalize R1 ++ X1 ++ [Ob.lst []] = R5 at v5 k5 k6 x5
  generalize S5 ++ [Ob.lst []] = S6 at s5 v5
  -- years
  obtain ⟨r2, S7, o1, o2, o3⟩ := draw3 (a := 2) (b := 4) (c := 11) (env := [some (.loc 1), some (.int most), some (.loc (kw + 2)), some (.lst ((ws.drop 2).map D.str)), some st, some (.lst (hs.map D.str)), some (.tupX (ms.map Lg.prD)), some (.tup (bs.map Lg.prD)), some (.loc (kp + 2)), none, none, none]) v5 (by omega) rfl (by decide) (by decide) (by decide)
  obtain ⟨env', S8, f1, f2⟩ := for_inv (g := gmName 9) (b := yearBody)
    (fun j env S => ∃ (yrs : List Ps) (R' : Store) (x : Option D), env = [some (.loc 1), some (.int most), some (.loc (kw + 2)), some (.lst ((ws.drop 2).map D.str)), some st, some (.lst (hs.map D.str)), some (.tupX (ms.map Lg.prD)), some (.tup (bs.map Lg.prD)), some (.loc (kp + 2)), x, none, none] ∧ PO (t + 1 + 100 + (0 + (ws.drop 2).length) + 2 + 2 * r1 + 2 + 40 * j) R' S ∧ R'[kp]? = some (.lst (yrs.map yrD)) ∧ R'[kw]? = some (.lst (ws.map D.str)) ∧ Ext R R' ∧ yrs.length = j ∧ ∀ y ∈ yrs, ∀ p ∈ y, p.1 ∈ ws ∧ p.2 ∈ ws)
    ((List.range r2).map fun i : Nat => D.int (0 + (i : Int))) 0 [some (.loc 1), some (.int most), some (.loc (kw + 2)), some (.lst ((ws.drop 2).map D.str)), some st, some (.lst (hs.map D.str)), some (.tupX (ms.map Lg.prD)), some (.tup (bs.map Lg.prD)), some (.loc (kp + 2)), none, none, none] S7 ⟨[], R5, none, rfl, o2, k6, k5, x5, rfl, fun y h => absurd h List.not_mem_nil⟩ (fun d _ j env S hj hI => by
      obtain ⟨yrs, R', x, rfl, i1, i2, i3, i4, i5, i6⟩ := hI
      rw [List.length_map, List.length_range] at hj
      obtain ⟨y, R'', S', g1, g2, g3, g4, g5⟩ := year_step (env := [some (.loc 1), some (.int most), some (.loc (kw + 2)), some (.lst ((ws.drop 2).map D.str)), some st, some (.lst (hs.map D.str)), some (.tupX (ms.map Lg.prD)), some (.tup (bs.map Lg.prD)), some (.loc (kp + 2)), some d, none, none]) rfl rfl rfl rfl i1 (by omega) (by omega) (by omega) (fun i hi => List.mem_of_mem_drop hi) (by omega) i3 i2 hne (by omega)
      refine ⟨_, _, S', rfl, g1, yrs ++ [y], R'', some d, rfl, g2.mono (by omega), g3, g4 kw _ hne i3, fun i o ho => ?_, by simp [i5], fun z hz => ?_⟩
      · have hl : i < R.length := (List.getElem?_eq_some_iff.mp ho).1
        exact g4 i o (by omega) (i4 i o ho)
      · rcases List.mem_append.mp hz with hz | hz
        · exact i6 z hz
        · rw [List.mem_singleton.mp hz]; exact g5)
  obtain ⟨yrs, R', x, rfl, i1, i2, i3, i4, i5, i6⟩ := f2
  rw [List.length_map, List.length_range] at i1 i5
  have s6 : sForI (itRange1 (mCons (mCall m__law_draw (mCons (mVar 0) (mCons (mOp dIx (mLst (mCons (mC (.int 2)) (mCons (mC (.int 4)) (mCons (mC (.int 11)) mNil)))) (mCall m__law_draw (mCons (mVar 0) (mCons (mC (.int 3)) mNil)))) mNil))) mNil)) (gmName 9) yearBody [some (.loc 1), some (.int most), some (.loc (kw + 2)), some (.lst ((ws.drop 2).map D.str)), some st, some (.lst (hs.map D.str)), some (.tupX (ms.map Lg.prD)), some (.tup (bs.map Lg.prD)), some (.loc (kp + 2)), none, none, none] S6 = .next [some (.loc 1), some (.int most), some (.loc (kw + 2)), some (.lst ((ws.drop 2).map D.str)), some st, some (.lst (hs.map D.str)), some (.tupX (ms.map Lg.prD)), some (.tup (bs.map Lg.prD)), some (.loc (kp + 2)), x, none, none] S8 := by
    unfold sForI
    rw [range_ok o1 (by omega)]
    exact f1
  have hS8 : S8[kp + 2]? = some (.lst (yrs.map yrD)) := by rw [i1.at, i2]
  -- the gap
  obtain ⟨r3, S9, l1, l2, l3⟩ := drawE (a := mVar 0) (b := mOp dPow (mC (.int 10)) (mC (.int 29))) (env := [some (.loc 1), some (.int most), some (.loc (kw + 2)), some (.lst ((ws.drop 2).map D.str)), some st, some (.lst (hs.map D.str)), some (.tupX (ms.map Lg.prD)), some (.tup (bs.map Lg.prD)), some (.loc (kp + 2)), x, none, none]) (var_ok rfl) pow29 i1 (by omega) (by decide) (by decide)
  obtain ⟨r4, S10, n1, n2, n3⟩ := drawE (a := mVar 0) (b := mC (.int 7)) (env := [some (.loc 1), some (.int most), some (.loc (kw + 2)), some (.lst ((ws.drop 2).map D.str)), some st, some (.lst (hs.map D.str)), some (.tupX (ms.map Lg.prD)), some (.tup (bs.map Lg.prD)), some (.loc (kp + 2)), x, none, none]) (var_ok rfl) c_ok l2 (by omega) (by decide) (by decide)
  have s7 : ∃ gap : Int, 0 ≤ gap ∧ sAsg (mOp dIx (mLst (mCons (mC (.int 0)) (mCons (mC (.int 1)) (mCons (mC (.int 1)) (mCons (mC (.int 2)) (mCons (mCall cLen (mCons (mVar 8) mNil)) (mCons (mOp dAdd (mCall cLen (mCons (mVar 8) mNil)) (mC (.int 1))) (mCons (mCall m__law_draw (mCons (mVar 0) (mCons (mOp dPow (mC (.int 10)) (mC (.int 29))) mNil))) mNil)))))))) (mCall m__law_draw (mCons (mVar 0) (mCons (mC (.int 7)) mNil)))) (gmName 10) [some (.loc 1), some (.int most), some (.loc (kw + 2)), some (.lst ((ws.drop 2).map D.str)), some st, some (.lst (hs.map D.str)), some (.tupX (ms.map Lg.prD)), some (.tup (bs.map Lg.prD)), some (.loc (kp + 2)), x, none, none] S8 = .next [some (.loc 1), some (.int most), some (.loc (kw + 2)), some (.lst ((ws.drop 2).map D.str)), some st, some (.lst (hs.map D.str)), some (.tupX (ms.map Lg.prD)), some (.tup (bs.map Lg.prD)), some (.loc (kp + 2)), x, some (.int gap), none] S10 := by
    have ly := lenL (a := mVar 8) (env := [some (.loc 1), some (.int most), some (.loc (kw + 2)), some (.lst ((ws.drop 2).map D.str)), some st, some (.lst (hs.map D.str)), some (.tupX (ms.map Lg.prD)), some (.tup (bs.map Lg.prD)), some (.loc (kp + 2)), x, none, none]) (var_ok rfl) hS8
    have l := lst_ok (cons_ok (c_ok (d := .int 0)) (cons_ok (c_ok (d := .int 1)) (cons_ok (c_ok (d := .int 1)) (cons_ok (c_ok (d := .int 2)) (cons_ok ly (cons_ok (opv ly (c_ok (d := .int 1)) add_i) (cons_ok l1 nil_ok))))))) (show 7 ≤ sizeLine by decide)
    have hr : r4 = 0 ∨ r4 = 1 ∨ r4 = 2 ∨ r4 = 3 ∨ r4 = 4 ∨ r4 = 5 ∨ r4 = 6 := by omega
    rcases hr with rfl | rfl | rfl | rfl | rfl | rfl | rfl
    · exact ⟨0, by decide, by rw [asg_ok (opv l n1 (show _ = Res.ok (D.int 0) S10 from rfl))]; rfl⟩
    · exact ⟨1, by decide, by rw [asg_ok (opv l n1 (show _ = Res.ok (D.int 1) S10 from rfl))]; rfl⟩
    · exact ⟨1, by decide, by rw [asg_ok (opv l n1 (show _ = Res.ok (D.int 1) S10 from rfl))]; rfl⟩
    · exact ⟨2, by decide, by rw [asg_ok (opv l n1 (show _ = Res.ok (D.int 2) S10 from rfl))]; rfl⟩
    · exact ⟨((yrs.map yrD).length : Nat), by omega, by rw [asg_ok (opv l n1 (show _ = Res.ok (D.int ((yrs.map yrD).length : Nat)) S10 from rfl))]; rfl⟩
    · exact ⟨((yrs.map yrD).length : Nat) + 1, by omega, by rw [asg_ok (opv l n1 (show _ = Res.ok (D.int (((yrs.map yrD).length : Nat) + 1)) S10 from rfl))]; rfl⟩
    · exact ⟨(r3 : Nat), by omega, by rw [asg_ok (opv l n1 (show _ = Res.ok (D.int (r3 : Nat)) S10 from rfl))]; rfl⟩
  obtain ⟨gap, g0, s7⟩ := s7
  have az2 : ∀ p : PySem.Str × PySem.Str, p.1 ∈ ws ∧ p.2 ∈ ws → Az2 p := fun p h => ⟨(w5 _ h.1).az, (w5 _ h.2).az⟩
  refine ⟨ms, bs, yrs, gap, st, R', S10, def_run rfl ?_, n2.mono (by omega), i4, ⟨okm.1, okm.2, m4, by omega, by omega, by omega, fun b hb => az2 b (v4 b hb), fun y hy p hp => az2 p (i6 y hy p hp), g0⟩⟩
  show sSeq _ _ [some (.loc 1), some (.int most), none, none, none, none, none, none, none, none, none, none] S = _
  rw [sq s1, sq s2, sq s3, sq s4, sq s5, sq s6, sq s7]
  have hS10 : S10[kp + 2]? = some (.lst (yrs.map yrD)) := by rw [n2.at, i2]
  have ct : mCall cTuple (mCons (mVar 8) mNil) [some (.loc 1), some (.int most), some (.loc (kw + 2)), some (.lst ((ws.drop 2).map D.str)), some st, some (.lst (hs.map D.str)), some (.tupX (ms.map Lg.prD)), some (.tup (bs.map Lg.prD)), some (.loc (kp + 2)), x, some (.int gap), none] S10 = .ok (.tup (yrs.map yrD)) S10 := by
    rw [call_ok (cons_ok (var_ok rfl) nil_ok)]
    have e : asL (.loc (kp + 2)) S10 = some (yrs.map yrD) := by
      unfold asL
      simp only [hS10]
    show (match asL (.loc (kp + 2)) S10 with | some xs => Res.ok (D.tup xs) S10 | none => .stuck) = _
    rw [e]
  exact ret_ok (tup_ok (cons_ok (var_ok rfl) (cons_ok (var_ok rfl) (cons_ok ct (cons_ok (var_ok rfl) (cons_ok (var_ok rfl) nil_ok))))) (show 5 ≤ sizeLine by decide))
end Lw

set_option exponentiation.threshold 600
namespace Lw
open PySem L2 Lg
theorem make {f : List D → Store → Res D} {dd : List D} {as : AM} {env : En} {S S2 : Store} {ds : List D} (ha : as env S = .ok ds S) (hf : f (.loc S.length :: (ds ++ dd)) (S ++ [.ins 1 []]) = .ok .non S2) : mMake 1 f dd as env S = .ok (.loc S.length) S2 := by
  unfold mMake
  rw [ha]
  simp only [Res.bind, hf]
theorem init_full (ms bs : Ps) (ys : List Ps) (gap : Int) (S : Store) : m_Circle_init [.loc S.length, .tupX (ms.map Lg.prD), .tup (bs.map Lg.prD), .tup (ys.map yrD), .int gap] (S ++ [.ins 1 []]) = .ok .non (S ++ [CiD ms bs ys gap]) := by
  refine init_ _ _ _ _ (.tup (bs.map Lg.prD)) (.tup (ys.map yrD)) (fun S => ?_) (fun S => ?_) S
  · rw [ife (val_ok (opv (var_ok rfl) c_ok (isn _ _))), if_neg (show ¬ (Lg.isNon (.tup _) = true) from Bool.false_ne_true)]
    exact var_ok rfl
  · rw [ife (val_ok (opv (var_ok rfl) c_ok (isn _ _))), if_neg (show ¬ (Lg.isNon (.tup _) = true) from Bool.false_ne_true)]
    exact var_ok rfl
theorem init_bare (ms : Ps) (S : Store) : m_Circle_init [.loc S.length, .tupX (ms.map Lg.prD), .non, .non, .int 1] (S ++ [.ins 1 []]) = .ok .non (S ++ [CiD ms [] [] 1]) := by
  refine init_ _ _ _ _ (.tup []) (.tup []) (fun S => ?_) (fun S => ?_) S
  · rw [ife (val_ok (opv (var_ok rfl) c_ok (isn _ _)))]
    exact tup_ok nil_ok (Nat.zero_le _)
  · rw [ife (val_ok (opv (var_ok rfl) c_ok (isn _ _)))]
    exact tup_ok nil_ok (Nat.zero_le _)
theorem Ok.bare {ms bs : Ps} {ys : List Ps} {gap : Int} (ok : Ok ms bs ys gap) : Ok ms [] [] 1 := ⟨ok.nm, ok.ho, ok.nd, ok.lm, Nat.zero_le _, Nat.zero_le _, fun b h => absurd h List.not_mem_nil, fun y h => absurd h List.not_mem_nil, by decide⟩
def AhOk (R : Store) (ah : D) : Prop := ah = .non ∨ ∃ (k : Nat) (ms bs : Ps) (ys : List Ps) (gap : Int) (st : D), ah = .tup [.loc (k + 2), PaD ms bs ys gap st] ∧ R[k]? = some (CiD ms bs ys gap) ∧ Ok ms bs ys gap
theorem AhOk.ext {R R' : Store} {ah : D} (h : AhOk R ah) (e : Ext R R') : AhOk R' ah := by
  rcases h with h | ⟨k, ms, bs, ys, gap, st, h1, h2, h3⟩
  · exact .inl h
  · exact .inr ⟨k, ms, bs, ys, gap, st, h1, e _ _ h2, h3⟩
abbrev lawBody : SM := (sSeq (sAsg (mCall m__law_parts (mCons (mVar 1) (mCons (mIf (bVal (mOp dEqA (mOp dAdd (mCall m__law_draw (mCons (mVar 1) (mCons (mC (.int 4)) mNil))) (mVar 3)) (mC (.int 0)))) (mC (.int 24)) (mC (.int 6))) mNil))) (gmName 4)) (sSeq (sAsg (mMake 1 m_Circle_init [] (mCons (mOp dIx (mVar 4) (mC (.int 0))) (mCons (mOp dIx (mVar 4) (mC (.int 1))) (mCons (mOp dIx (mVar 4) (mC (.int 2))) (mCons (mOp dIx (mVar 4) (mC (.int 3))) mNil))))) (gmName 5)) (sSeq (sIf (bOr (bNot (bVal (mCall m__law_values_right (mCons (mVar 5) (mCons (mVar 4) mNil))))) (bNot (bVal (mCall m__law_right (mCons (mVar 1) (mCons (mVar 5) (mCons (mVar 4) mNil))))))) (sRet (mC (.bl false))) sNext) (sSeq (sIf (bAnd (bVal (mOp dNotN (mVar 2) (mC .non))) (bNot (bVal (mCall m__law_values_right (mCons (mOp dIx (mVar 2) (mC (.int 0))) (mCons (mOp dIx (mVar 2) (mC (.int 1))) mNil)))))) (sRet (mC (.bl false))) sNext) (sSeq (sAsg (mMake 1 m_Circle_init [.non, .non, .int 1] (mCons (mOp dIx (mVar 4) (mC (.int 0))) mNil)) (gmName 6)) (sSeq (sIf (bNot (bVal (mCall m__law_values_right (mCons (mVar 6) (mCons (mTup (mCons (mOp dIx (mVar 4) (mC (.int 0))) (mCons (mTup mNil) (mCons (mTup mNil) (mCons (mC (.int 1)) (mCons (mOp dIx (mVar 4) (mC (.int 4))) mNil)))))) mNil))))) (sRet (mC (.bl false))) sNext) (sAsg (mTup (mCons (mVar 5) (mCons (mVar 4) mNil))) (gmName 2))))))))
theorem law_turn {ns : List Int} {j : Nat} {ah : D} {i : Int} {x4 x5 x6 : Option D} {R S : Store} (hj : j < 6) (hp : PO (1000 * j) R S) (ha : AhOk R ah) : ∃ (ah' : D) (y4 y5 y6 : Option D) (R' S' : Store), lawBody [some (.scr ns), some (.loc 1), some ah, some (.int i), x4, x5, x6] S = .next [some (.scr ns), some (.loc 1), some ah', some (.int i), y4, y5, y6] S' ∧ PO (1000 * (j + 1)) R' S' ∧ AhOk R' ah' := by
  obtain ⟨r0, S1, d1, d2, d3⟩ := drawE (a := mVar 1) (b := mC (.int 4)) (env := [some (.scr ns), some (.loc 1), some ah, some (.int i), x4, x5, x6]) (var_ok rfl) c_ok hp (by omega) (by decide) (by decide)
  have most : ∃ m : Nat, m ≤ 24 ∧ mIf (bVal (mOp dEqA (mOp dAdd (mCall m__law_draw (mCons (mVar 1) (mCons (mC (.int 4)) mNil))) (mVar 3)) (mC (.int 0)))) (mC (.int 24)) (mC (.int 6)) [some (.scr ns), some (.loc 1), some ah, some (.int i), x4, x5, x6] S = .ok (.int m) S1 := by
    rw [ife (val_ok (opv (opv d1 (var_ok rfl) add_i) c_ok (eqI _ _ _)))]
    by_cases h : (r0 : Int) + i = 0
    · exact ⟨24, by decide, by rw [if_pos (decide_eq_true h)]; rfl⟩
    · exact ⟨6, by decide, by rw [if_neg (by rw [decide_eq_false h]; decide)]; rfl⟩
  obtain ⟨m, hm, hmo⟩ := most
  obtain ⟨ms, bs, ys, gap, st, R1, S2, p1, p2, p3, ok⟩ := parts (most := m) d2 (by omega) hm
  have s1 : sAsg (mCall m__law_parts (mCons (mVar 1) (mCons (mIf (bVal (mOp dEqA (mOp dAdd (mCall m__law_draw (mCons (mVar 1) (mCons (mC (.int 4)) mNil))) (mVar 3)) (mC (.int 0)))) (mC (.int 24)) (mC (.int 6))) mNil))) (gmName 4) [some (.scr ns), some (.loc 1), some ah, some (.int i), x4, x5, x6] S = .next [some (.scr ns), some (.loc 1), some ah, some (.int i), some (PaD ms bs ys gap st), x5, x6] S2 := by
    rw [asg_ok ((call_ok (cons_ok (var_ok rfl) (cons_ok hmo nil_ok))).trans p1)]
    rfl
  -- the circle
  have s2 : sAsg (mMake 1 m_Circle_init [] (mCons (mOp dIx (mVar 4) (mC (.int 0))) (mCons (mOp dIx (mVar 4) (mC (.int 1))) (mCons (mOp dIx (mVar 4) (mC (.int 2))) (mCons (mOp dIx (mVar 4) (mC (.int 3))) mNil))))) (gmName 5) [some (.scr ns), some (.loc 1), some ah, some (.int i), some (PaD ms bs ys gap st), x5, x6] S2 = .next [some (.scr ns), some (.loc 1), some ah, some (.int i), some (PaD ms bs ys gap st), some (.loc (R1.length + 2)), x6] (S2 ++ [CiD ms bs ys gap]) := by
    rw [asg_ok (make (cons_ok (opv (var_ok rfl) c_ok rfl) (cons_ok (opv (var_ok rfl) c_ok rfl) (cons_ok (opv (var_ok rfl) c_ok rfl) (cons_ok (opv (var_ok rfl) c_ok rfl) nil_ok)))) (init_full ms bs ys gap S2)), p2.len]
    rfl
  have p4 := p2.app [CiD ms bs ys gap]
  have x1 : Ext R (R1 ++ [CiD ms bs ys gap]) := p3.app _
  have hk : (R1 ++ [CiD ms bs ys gap])[R1.length]? = some (CiD ms bs ys gap) := one_at _ _
  generalize R1.length = k at s2 hk
  generalize R1 ++ [CiD ms bs ys gap] = R2 at p4 x1 hk
  generalize S2 ++ [CiD ms bs ys gap] = S3 at s2 p4
  have hS3 : S3[k + 2]? = some (CiD ms bs ys gap) := by rw [p4.at, hk]
  -- looked at
  obtain ⟨X, S4, q1, q2⟩ := right ok (st := st) p4 (by omega) hk
  have c3 : bOr (bNot (bVal (mCall m__law_values_right (mCons (mVar 5) (mCons (mVar 4) mNil))))) (bNot (bVal (mCall m__law_right (mCons (mVar 1) (mCons (mVar 5) (mCons (mVar 4) mNil)))))) [some (.scr ns), some (.loc 1), some ah, some (.int i), some (PaD ms bs ys gap st), some (.loc (k + 2)), x6] S3 = .ok false S4 := by
    rw [or_no (S1 := S3)]
    · rw [not_v (val_ok ((call_ok (cons_ok (var_ok rfl) (cons_ok (var_ok rfl) (cons_ok (var_ok rfl) nil_ok)))).trans q1))]; rfl
    · rw [not_v (val_ok ((call_ok (cons_ok (var_ok rfl) (cons_ok (var_ok rfl) nil_ok))).trans (values ok hS3 st)))]; rfl
  have x2 := x1.app X
  have hk2 := at_app X hk
  generalize R2 ++ X = R3 at q2 x2 hk2
  have ha3 := ha.ext x2
  have c4 : bAnd (bVal (mOp dNotN (mVar 2) (mC .non))) (bNot (bVal (mCall m__law_values_right (mCons (mOp dIx (mVar 2) (mC (.int 0))) (mCons (mOp dIx (mVar 2) (mC (.int 1))) mNil))))) [some (.scr ns), some (.loc 1), some ah, some (.int i), some (PaD ms bs ys gap st), some (.loc (k + 2)), x6] S4 = .ok false S4 := by
    rcases ha3 with rfl | ⟨k', ms', bs', ys', gap', st', rfl, h2, ok'⟩
    · rw [and_v (val_ok (opv (var_ok rfl) c_ok (show dNotN .non .non S4 = .ok (.bl false) S4 from rfl)))]; rfl
    · rw [and_v (val_ok (opv (var_ok rfl) c_ok (show dNotN (.tup _) .non S4 = .ok (.bl true) S4 from rfl))), if_pos rfl]
      rw [not_v (val_ok ((call_ok (cons_ok (opv (var_ok rfl) c_ok rfl) (cons_ok (opv (var_ok rfl) c_ok rfl) nil_ok))).trans (values ok' (show S4[k' + 2]? = some (CiD ms' bs' ys' gap') by rw [q2.at, h2]) st')))]; rfl
  -- the bare one
  have s5 : sAsg (mMake 1 m_Circle_init [.non, .non, .int 1] (mCons (mOp dIx (mVar 4) (mC (.int 0))) mNil)) (gmName 6) [some (.scr ns), some (.loc 1), some ah, some (.int i), some (PaD ms bs ys gap st), some (.loc (k + 2)), x6] S4 = .next [some (.scr ns), some (.loc 1), some ah, some (.int i), some (PaD ms bs ys gap st), some (.loc (k + 2)), some (.loc (R3.length + 2))] (S4 ++ [CiD ms [] [] 1]) := by
    rw [asg_ok (make (cons_ok (opv (var_ok rfl) c_ok rfl) nil_ok) (init_bare ms S4)), q2.len]
    rfl
  have p6 := q2.app [CiD ms [] [] 1]
  have x3 := x2.app [CiD ms [] [] 1]
  have hk3 := at_app [CiD ms [] [] 1] hk2
  have hb : (R3 ++ [CiD ms [] [] 1])[R3.length]? = some (CiD ms [] [] 1) := one_at _ _
  generalize R3.length = kb at s5 hb
  generalize R3 ++ [CiD ms [] [] 1] = R4 at p6 x3 hk3 hb
  generalize S4 ++ [CiD ms [] [] 1] = S5 at s5 p6
  have hS5 : S5[kb + 2]? = some (CiD ms [] [] 1) := by rw [p6.at, hb]
  have c6 : bNot (bVal (mCall m__law_values_right (mCons (mVar 6) (mCons (mTup (mCons (mOp dIx (mVar 4) (mC (.int 0))) (mCons (mTup mNil) (mCons (mTup mNil) (mCons (mC (.int 1)) (mCons (mOp dIx (mVar 4) (mC (.int 4))) mNil)))))) mNil)))) [some (.scr ns), some (.loc 1), some ah, some (.int i), some (PaD ms bs ys gap st), some (.loc (k + 2)), some (.loc (kb + 2))] S5 = .ok false S5 := by
    have tn : ∀ (env : En) (S : Store), mTup mNil env S = .ok (.tup []) S := fun env S => tup_ok nil_ok (Nat.zero_le _)
    rw [not_v (val_ok ((call_ok (cons_ok (var_ok rfl) (cons_ok (tup_ok (cons_ok (opv (var_ok rfl) c_ok rfl) (cons_ok (tn _ _) (cons_ok (tn _ _) (cons_ok c_ok (cons_ok (opv (var_ok rfl) c_ok rfl) nil_ok))))) (show 5 ≤ sizeLine by decide)) nil_ok))).trans (values ok.bare hS5 st)))]; rfl
  refine ⟨.tup [.loc (k + 2), PaD ms bs ys gap st], some (PaD ms bs ys gap st), some (.loc (k + 2)), some (.loc (kb + 2)), R4, S5, ?_, p6.mono (by omega), .inr ⟨k, ms, bs, ys, gap, st, rfl, hk3, ok⟩⟩
  unfold lawBody
  rw [sq s1, sq s2, sq (ifn c3), sq (ifn c4), sq s5, sq (ifn c6)]
  rw [asg_ok (tup_ok (cons_ok (var_ok rfl) (cons_ok (var_ok rfl) nil_ok)) (show 2 ≤ sizeLine by decide))]
  rfl
theorem law_true : ∀ ns : List Int, ns.length ≤ 63 → (∀ z ∈ ns, Builtin.Int.intBits z ≤ 1048576) → ∃ S', m_law [.scr ns] [] = .ok (.bl true) S' := by
  intro ns hn _
  have hp0 : PO (1000 * 0) [] (Pot [] ns 0 3 0) := ⟨ns, 0, 3, 0, rfl, by decide, hn, by decide, by decide⟩
  have s1 : sPar 1 2 (mCons (mCall m__law_pot (mCons (mVar 0) mNil)) (mCons (mC .non) mNil)) [some (.scr ns), none, none, none, none, none, none] [] = .next [some (.scr ns), some (.loc 1), some .non, none, none, none, none] (Pot [] ns 0 3 0) := by
    have p : m__law_pot [.scr ns] [] = .ok (.loc 1) (Pot [] ns 0 3 0) := rfl
    unfold sPar
    rw [cons_ok ((call_ok (cons_ok (var_ok rfl) nil_ok)).trans p) (cons_ok c_ok nil_ok)]
    rfl
  have z63 : ns.length ≤ sizeLine := Nat.le_trans hn (by decide)
  have ln : mCall cLen (mCons (mVar 0) mNil) [some (.scr ns), some (.loc 1), some .non, none, none, none, none] (Pot [] ns 0 3 0) = .ok (.int ns.length) (Pot [] ns 0 3 0) := (call_ok (cons_ok (var_ok rfl) nil_ok)).trans rfl
  have cnt : ∃ m : Nat, m ≤ 6 ∧ mCall cMax2 (mCons (mC (.int 3)) (mCons (mCall cMin2 (mCons (mCall cLen (mCons (mVar 0) mNil)) (mCons (mC (.int 6)) mNil))) mNil)) [some (.scr ns), some (.loc 1), some .non, none, none, none, none] (Pot [] ns 0 3 0) = .ok (.int m) (Pot [] ns 0 3 0) := by
    have mn : mCall cMin2 (mCons (mCall cLen (mCons (mVar 0) mNil)) (mCons (mC (.int 6)) mNil)) [some (.scr ns), some (.loc 1), some .non, none, none, none, none] (Pot [] ns 0 3 0) = .ok (.int (if (6 : Int) < (ns.length : Int) then 6 else (ns.length : Int))) (Pot [] ns 0 3 0) := (call_ok (cons_ok ln (cons_ok c_ok nil_ok))).trans rfl
    have mx := (call_ok (f := cMax2) (cons_ok (c_ok (d := .int 3)) (cons_ok mn nil_ok)))
    by_cases h6 : (6 : Int) < (ns.length : Int)
    · rw [if_pos h6] at mx
      exact ⟨6, by decide, mx⟩
    · rw [if_neg h6] at mx
      by_cases h3 : (ns.length : Int) > 3
      · refine ⟨ns.length, by omega, mx.trans ?_⟩
        show Res.ok (D.int (if (ns.length : Int) > 3 then (ns.length : Int) else 3)) _ = _
        rw [if_pos h3]
      · refine ⟨3, by omega, mx.trans ?_⟩
        show Res.ok (D.int (if (ns.length : Int) > 3 then (ns.length : Int) else 3)) _ = _
        rw [if_neg h3]
        rfl
  obtain ⟨m, hm, hmx⟩ := cnt
  obtain ⟨env', S', f1, f2⟩ := for_inv (g := gmName 3) (b := lawBody) (fun j env S => ∃ (ah : D) (x3 x4 x5 x6 : Option D) (R : Store), env = [some (.scr ns), some (.loc 1), some ah, x3, x4, x5, x6] ∧ PO (1000 * j) R S ∧ AhOk R ah) ((List.range m).map fun i : Nat => D.int (0 + (i : Int))) 0 [some (.scr ns), some (.loc 1), some .non, none, none, none, none] (Pot [] ns 0 3 0) ⟨.non, none, none, none, none, [], rfl, hp0, .inl rfl⟩ (fun d hd j env S hj hI => by
    obtain ⟨ah, x3, x4, x5, x6, R, rfl, h1, h2⟩ := hI
    obtain ⟨i, _, rfl⟩ := List.mem_map.mp hd
    rw [List.length_map, List.length_range] at hj
    obtain ⟨ah', y4, y5, y6, R', S', g1, g2, g3⟩ := law_turn (ns := ns) (i := 0 + (i : Int)) (x4 := x4) (x5 := x5) (x6 := x6) (show j < 6 by omega) h1 h2
    exact ⟨_, _, S', rfl, g1, ah', some (.int (0 + (i : Int))), y4, y5, y6, R', rfl, g2, g3⟩)
  refine ⟨S', def_run rfl ?_⟩
  show sSeq _ _ [some (.scr ns), none, none, none, none, none, none] [] = _
  rw [sq s1, sq (show sForI _ _ _ _ _ = .next env' S' by unfold sForI; rw [range_ok hmx (by omega)]; exact f1)]
  exact ret_ok c_ok
end Lw

open PySem PySem.W PyProof.Rows in
set_option maxRecDepth 100000 in
set_option maxHeartbeats 0 in
theorem PySem.Challenge.cw_lotgivers_k02_circles_asked_holds : PySem.Challenge.rw_lotgivers_k02_circles_asked.Holds := by
  w_on; o_law; k_head; (case hw => w_witness2)
  k_fill
  refine Lg.walkG (l := PySem.Challenge.rw_lotgivers_k02_circles_asked) (n := 63) (k := 13) (x := "_law_script") (f := Lw.m_law) rfl (by decide) rfl ⟨rfl, by decide, by decide⟩ (by first | rfl | kernel_rfl) (fun w h Y => PySem.W.kIn_of Y) ?F Lw.law_true
  case F =>
    intro w mg fa h KX G hmg
    refine' Lw.all_mk KX G hmg ?n_NoMember ?n_Circle ?n_LotError ?nmember_rows ?lmember_rows ?cmember_rows ?kmember_rows ?nis_name ?lis_name ?cis_name ?kis_name ?ncopied ?lcopied ?ccopied ?kcopied ?nlast_of ?llast_of ?clast_of ?klast_of ?n_law_blend ?l_law_blend ?c_law_blend ?k_law_blend ?n_law_pot ?l_law_pot ?c_law_pot ?k_law_pot ?n_law_draw ?l_law_draw ?c_law_draw ?k_law_draw ?n_law_pick ?l_law_pick ?c_law_pick ?k_law_pick ?n_law_words ?l_law_words ?c_law_words ?k_law_words ?n_law_pairs ?l_law_pairs ?c_law_pairs ?k_law_pairs ?n_law_turned_round ?l_law_turned_round ?c_law_turned_round ?k_law_turned_round ?n_law_parts ?l_law_parts ?c_law_parts ?k_law_parts ?n_law_reason ?l_law_reason ?c_law_reason ?k_law_reason ?n_law_values_right ?l_law_values_right ?c_law_values_right ?k_law_values_right ?n_law_one_right ?l_law_one_right ?c_law_one_right ?k_law_one_right ?n_law_right ?l_law_right ?c_law_right ?k_law_right ?nlaw ?llaw ?claw ?klaw ?ii_NoMember ?li_NoMember ?ci_NoMember ?ti_NoMember ?ui_NoMember ?hx ?mCircle_init ?tCircle_init ?lCircle_init ?cCircle_init ?kCircle_init ?fCircle_init ?mkCircle ?kcCircle ?mCircle_eq ?lCircle_eq ?cCircle_eq ?kCircle_eq ?fCircle_eq ?mCircle_len ?lCircle_len ?cCircle_len ?kCircle_len ?fCircle_len ?mCircle_repr ?lCircle_repr ?cCircle_repr ?kCircle_repr ?fCircle_repr ?mCircle_names ?lCircle_names ?cCircle_names ?kCircle_names ?fCircle_names ?mCircle_has ?lCircle_has ?cCircle_has ?kCircle_has ?fCircle_has ?mCircle_house_of ?lCircle_house_of ?cCircle_house_of ?kCircle_house_of ?fCircle_house_of ?mCircle_reason ?lCircle_reason ?cCircle_reason ?kCircle_reason ?fCircle_reason ?mCircle_takers ?lCircle_takers ?cCircle_takers ?kCircle_takers ?fCircle_takers ?mCircle_givers ?lCircle_givers ?cCircle_givers ?kCircle_givers ?fCircle_givers ?clCircle ?neCircle ?eqCircle ?ioCircle ?ofmembers ?ofbars ?ofpast ?ofgap ?flname ?g_LETTERS ?zabs ?zall ?zany ?zbool ?zdict ?zenumerate ?zisinstance ?zlen ?zlist ?zmax ?zmin ?zrange ?zrepr ?zsorted ?zstr ?ztuple ?zzip ?zsuper
    (case n_NoMember => k_is)
    (case n_Circle => k_is)
    (case n_LotError => k_is)
    (case nmember_rows => k_is)
    (case lmember_rows => k_is)
    (case cmember_rows => k_is)
    (case kmember_rows => k_is)
    (case nis_name => k_is)
    (case lis_name => k_is)
    (case cis_name => k_is)
    (case kis_name => k_is)
    (case ncopied => k_is)
    (case lcopied => k_is)
    (case ccopied => k_is)
    (case kcopied => k_is)
    (case nlast_of => k_is)
    (case llast_of => k_is)
    (case clast_of => k_is)
    (case klast_of => k_is)
    (case n_law_blend => k_is)
    (case l_law_blend => k_is)
    (case c_law_blend => k_is)
    (case k_law_blend => k_is)
    (case n_law_pot => k_is)
    (case l_law_pot => k_is)
    (case c_law_pot => k_is)
    (case k_law_pot => k_is)
    (case n_law_draw => k_is)
    (case l_law_draw => k_is)
    (case c_law_draw => k_is)
    (case k_law_draw => k_is)
    (case n_law_pick => k_is)
    (case l_law_pick => k_is)
    (case c_law_pick => k_is)
    (case k_law_pick => k_is)
    (case n_law_words => k_is)
    (case l_law_words => k_is)
    (case c_law_words => k_is)
    (case k_law_words => k_is)
    (case n_law_pairs => k_is)
    (case l_law_pairs => k_is)
    (case c_law_pairs => k_is)
    (case k_law_pairs => k_is)
    (case n_law_turned_round => k_is)
    (case l_law_turned_round => k_is)
    (case c_law_turned_round => k_is)
    (case k_law_turned_round => k_is)
    (case n_law_parts => k_is)
    (case l_law_parts => k_is)
    (case c_law_parts => k_is)
    (case k_law_parts => k_is)
    (case n_law_reason => k_is)
    (case l_law_reason => k_is)
    (case c_law_reason => k_is)
    (case k_law_reason => k_is)
    (case n_law_values_right => k_is)
    (case l_law_values_right => k_is)
    (case c_law_values_right => k_is)
    (case k_law_values_right => k_is)
    (case n_law_one_right => k_is)
    (case l_law_one_right => k_is)
    (case c_law_one_right => k_is)
    (case k_law_one_right => k_is)
    (case n_law_right => k_is)
    (case l_law_right => k_is)
    (case c_law_right => k_is)
    (case k_law_right => k_is)
    (case nlaw => k_is)
    (case llaw => k_is)
    (case claw => k_is)
    (case klaw => k_is)
    (case ii_NoMember => k_is)
    (case li_NoMember => k_is)
    (case ci_NoMember => k_is)
    (case ti_NoMember => k_is)
    (case ui_NoMember => kernel_rfl)
    (case hx => kernel_rfl)
    (case mCircle_init => k_is)
    (case lCircle_init => k_is)
    (case tCircle_init => k_is)
    (case cCircle_init => k_is)
    (case kCircle_init => k_is)
    (case fCircle_init => k_is)
    (case mkCircle => k_is)
    (case kcCircle => k_is)
    (case mCircle_eq => k_is)
    (case lCircle_eq => k_is)
    (case cCircle_eq => k_is)
    (case kCircle_eq => k_is)
    (case fCircle_eq => k_is)
    (case mCircle_len => k_is)
    (case lCircle_len => k_is)
    (case cCircle_len => k_is)
    (case kCircle_len => k_is)
    (case fCircle_len => k_is)
    (case mCircle_repr => k_is)
    (case lCircle_repr => k_is)
    (case cCircle_repr => k_is)
    (case kCircle_repr => k_is)
    (case fCircle_repr => k_is)
    (case mCircle_names => k_is)
    (case lCircle_names => k_is)
    (case cCircle_names => k_is)
    (case kCircle_names => k_is)
    (case fCircle_names => k_is)
    (case mCircle_has => k_is)
    (case lCircle_has => k_is)
    (case cCircle_has => k_is)
    (case kCircle_has => k_is)
    (case fCircle_has => k_is)
    (case mCircle_house_of => k_is)
    (case lCircle_house_of => k_is)
    (case cCircle_house_of => k_is)
    (case kCircle_house_of => k_is)
    (case fCircle_house_of => k_is)
    (case mCircle_reason => k_is)
    (case lCircle_reason => k_is)
    (case cCircle_reason => k_is)
    (case kCircle_reason => k_is)
    (case fCircle_reason => k_is)
    (case mCircle_takers => k_is)
    (case lCircle_takers => k_is)
    (case cCircle_takers => k_is)
    (case kCircle_takers => k_is)
    (case fCircle_takers => k_is)
    (case mCircle_givers => k_is)
    (case lCircle_givers => k_is)
    (case cCircle_givers => k_is)
    (case kCircle_givers => k_is)
    (case fCircle_givers => k_is)
    (case clCircle => kernel_rfl)
    (case neCircle => k_is)
    (case eqCircle => kernel_rfl)
    (case ioCircle => kernel_rfl)
    (case ofmembers => kernel_rfl)
    (case ofbars => kernel_rfl)
    (case ofpast => kernel_rfl)
    (case ofgap => kernel_rfl)
    (case flname => kernel_rfl)
    (case g_LETTERS => k_is)
    (case zabs => k_is)
    (case zall => k_is)
    (case zany => k_is)
    (case zbool => k_is)
    (case zdict => k_is)
    (case zenumerate => k_is)
    (case zisinstance => k_is)
    (case zlen => k_is)
    (case zlist => k_is)
    (case zmax => k_is)
    (case zmin => k_is)
    (case zrange => k_is)
    (case zrepr => k_is)
    (case zsorted => k_is)
    (case zstr => k_is)
    (case ztuple => k_is)
    (case zzip => k_is)
    (case zsuper => k_is)
