import PyProof.Rows.All
import Wide.All
import OpenK.AllK
import Wide.FinOn
import HandS.ForMost
import HandS.ForExc
import HandS.ExcInit
import HandS.ExcValue
import HandS.Walk
import HandS.Wide
import HandS.Deep
import HandS.TupAny
import HandS.IsInst
import HandS.ExcIs
import HandS.ExcField
import KE.KExcSuper
import HandS.Defaults
import HandS.DictComp
import HandS.Dict
import HandS.Iter
import HandS.EndBits
import KE.SortData
import HandS.FStr
import HandS.Text
import HandS.Small
import HandS.Zip
import HandS.Sort
import HandS.Style
import KE.LtData
import KE.LtSeq
import HandS.SlotsOwn
import HandS.OwnEq
import HandS.MakeKw
import HandS.MakeKwOnly
import HandS.Gcd
import HandS.RaiseMore
import KE.KFmtOwn
import KE.KCallOwn
import PySem.Challenge.RW_lotgivers_k26_exact_shares
set_option Elab.async false
set_option linter.all false
set_option maxRecDepth 100000
set_option maxHeartbeats 4000000

namespace Lg
open PySem L2

/-- data: by value, or (loc) an object of the store that may change -/
inductive D where
  | non | bl (b : Bool) | int (i : Int) | str (s : PySem.Str) | tup (ds : List D) | lst (ds : List D) | scr (ns : List Int) | loc (n : Nat)
  | emp (fr : Bool)

inductive Ob where
  | lst (ds : List D) | dK (kvs : List (Key × D)) | dT (kvs : List (List Key × D)) | ins (c : Nat) (fs : List (PySem.Str × D))
  | exc (c : Nat) (d : Option Nat) | xd (fs : List (PySem.Str × D)) | ex0 (c : Nat)
abbrev Store := List Ob

/-- what the text's classes are: the place of each -/
structure G where
  K : PySem.W.Frag
  cls : Nat → Addr
  hid : List Addr := []
/-- the same, other places hidden: nothing that is known speaks of them -/
def G.hide (g : G) (l : List Addr) : G := { g with hid := l }
def Out (g : G) (ρ : List Addr) (a : Addr) : Prop := a ∉ ρ ∧ a ∉ g.hid

mutual
inductive RD (g : G) (ρ : List Addr) (H : Hp) : V → D → Prop
  | non : RD g ρ H .non .non
  | bl (b : Bool) : RD g ρ H (.bl b) (.bl b)
  | int (i : Int) : RD g ρ H (.int i) (.int i)
  | str (s : PySem.Str) : RD g ρ H (.str s) (.str s)
  | tup {a : Addr} {vs : List V} {ds : List D} (h : H a = some (.tup vs)) (n : Out g ρ a) (r : RDs g ρ H vs ds) : RD g ρ H (.ref a) (.tup ds)
  | lst {a : Addr} {vs : List V} {ds : List D} (h : H a = some (.lst vs)) (n : Out g ρ a) (r : RDs g ρ H vs ds) : RD g ρ H (.ref a) (.lst ds)
  | scr {a : Addr} {ns : List Int} (n : (∃ o, H a = some (.frz o (.lst (ns.map V.int))) ∧ Out g ρ a) ∨ ∀ H', SqL g.K H' a (ns.map V.int)) : RD g ρ H (.ref a) (.scr ns)
  | loc {n : Nat} {a : Addr} (h : ρ[n]? = some a) : RD g ρ H (.ref a) (.loc n)
  | empF {a : Addr} {o : Obj} (h : H a = some (.frz o (.dK []))) (n : Out g ρ a) : RD g ρ H (.ref a) (.emp true)
  | empU {a : Addr} (h : H a = some (.dK [])) (n : Out g ρ a) : RD g ρ H (.ref a) (.emp false)
inductive RDs (g : G) (ρ : List Addr) (H : Hp) : List V → List D → Prop
  | nil : RDs g ρ H [] []
  | cons {v : V} {d : D} {vs : List V} {ds : List D} (h : RD g ρ H v d) (t : RDs g ρ H vs ds) : RDs g ρ H (v :: vs) (d :: ds)
end

def RKV {κ : Type} (g : G) (ρ : List Addr) (H : Hp) : List (κ × V) → List (κ × D) → Prop := Paired fun p q => p.1 = q.1 ∧ RD g ρ H p.2 q.2

def RO (g : G) (ρ : List Addr) (H : Hp) (a : Addr) : Ob → Prop
  | .lst ds => ∃ vs, H a = some (.lst vs) ∧ RDs g ρ H vs ds
  | .dK kvs => ∃ kv, H a = some (.dK kv) ∧ RKV g ρ H kv kvs
  | .dT kvs => ∃ kv, H a = some (.dT kv) ∧ RKV g ρ H kv kvs
  | .ins c fs => ∃ dx fv, H a = some (.ins (g.cls c) dx fv) ∧ RKV g ρ H fv fs
  | .exc c none => H a = some (exo a (g.cls c) none)
  | .exc c (some n) => ∃ dx, ρ[n]? = some dx ∧ H a = some (exo a (g.cls c) (some dx))
  | .xd fs => ∃ fv, H a = some (exd a fv) ∧ RKV g ρ H fv fs
  | .ex0 c => H a = some (ExO (.ref (g.cls c)) a)

structure RS (g : G) (ρ : List Addr) (S : Store) (H : Hp) : Prop where
  len : ρ.length = S.length
  nd : ρ.Nodup
  ob : ∀ (n : Nat) (a : Addr) (o : Ob), ρ[n]? = some a → S[n]? = some o → RO g ρ H a o
  hd : ∀ a, a ∈ g.hid → (∃ o, H a = some o) ∧ a ∉ ρ

/-- what is known goes on: all that is no object of the store stays -/
structure Ex (ρ : List Addr) (H : Hp) (ρ' : List Addr) (H' : Hp) : Prop where
  new : ∃ l, ρ' = ρ ++ l ∧ ∀ a ∈ l, H a = none ∧ a ∉ ρ
  keep : ∀ a o, a ∉ ρ → H a = some o → H' a = some o

theorem Ex.refl {ρ : List Addr} {H : Hp} : Ex ρ H ρ H := ⟨⟨[], by simp, by simp⟩, fun _ _ _ h => h⟩
theorem Ex.out {ρ ρ' : List Addr} {H H' : Hp} (e : Ex ρ H ρ' H') {a : Addr} {o : HO} (h : H a = some o) (n : a ∉ ρ) : a ∉ ρ' := by
  obtain ⟨l, rfl, hl⟩ := e.new
  intro m
  rcases List.mem_append.mp m with m | m
  · exact n m
  · rw [(hl a m).1] at h; cases h
theorem Ex.trans {ρ ρ1 ρ2 : List Addr} {H H1 H2 : Hp} (a : Ex ρ H ρ1 H1) (b : Ex ρ1 H1 ρ2 H2) : Ex ρ H ρ2 H2 := by
  obtain ⟨l, rfl, hl⟩ := a.new
  obtain ⟨m, rfl, hm⟩ := b.new
  refine ⟨⟨l ++ m, by simp, fun x hx => ?_⟩, fun x o n h => b.keep x o (a.out h n) (a.keep x o n h)⟩
  rcases List.mem_append.mp hx with hx | hx
  · exact hl x hx
  · obtain ⟨h1, h2⟩ := hm x hx
    have h3 : x ∉ ρ := fun q => h2 (List.mem_append_left _ q)
    refine ⟨?_, h3⟩
    cases q : H x with
    | none => rfl
    | some o => rw [a.keep x o h3 q] at h1; cases h1
theorem Ex.at {ρ ρ' : List Addr} {H H' : Hp} (e : Ex ρ H ρ' H') {n : Nat} {a : Addr} (h : ρ[n]? = some a) : ρ'[n]? = some a := by
  obtain ⟨l, rfl, _⟩ := e.new
  rw [List.getElem?_append_left (List.getElem?_eq_some_iff.mp h).1]
  exact h
/-- a new object that is no object of the store -/
theorem Ex.new1 {ρ : List Addr} {H : Hp} {p : Addr} {o : HO} (h : H p = none) : Ex ρ H ρ (upd H p o) :=
  ⟨⟨[], by simp, by simp⟩, fun a u _ e => by rw [upd_ne (ne_of_none e h)]; exact e⟩

section
variable {g : G} {ρ ρ' : List Addr} {H H' : Hp} {S : Store}
theorem RD.mono (e : Ex ρ H ρ' H') {v : V} {d : D} (r : RD g ρ H v d) : RD g ρ' H' v d := by
  refine RD.rec (motive_1 := fun v d _ => RD g ρ' H' v d) (motive_2 := fun vs ds _ => RDs g ρ' H' vs ds) .non .bl .int .str ?_ ?_ ?_ ?_ ?_ ?_ .nil ?_ r
  · intro a vs ds h n _ ih; exact .tup (e.keep a _ n.1 h) ⟨e.out h n.1, n.2⟩ ih
  · intro a vs ds h n _ ih; exact .lst (e.keep a _ n.1 h) ⟨e.out h n.1, n.2⟩ ih
  · intro a ns n
    refine .scr ?_
    rcases n with ⟨o, h, n⟩ | n
    · exact .inl ⟨o, e.keep a _ n.1 h, e.out h n.1, n.2⟩
    · exact .inr n
  · intro n a h; exact .loc (e.at h)
  · intro a o h n; exact .empF (e.keep a _ n.1 h) ⟨e.out h n.1, n.2⟩
  · intro a h n; exact .empU (e.keep a _ n.1 h) ⟨e.out h n.1, n.2⟩
  · intro v d vs ds _ _ h t; exact .cons h t
theorem RDs.mono (e : Ex ρ H ρ' H') : ∀ {vs : List V} {ds : List D}, RDs g ρ H vs ds → RDs g ρ' H' vs ds
  | _, _, .nil => .nil
  | _, _, .cons h t => .cons (h.mono e) (RDs.mono e t)
theorem RDs.length : ∀ {vs : List V} {ds : List D}, RDs g ρ H vs ds → vs.length = ds.length
  | _, _, .nil => rfl
  | _, _, .cons _ t => by simp [RDs.length t]
theorem RDs.get : ∀ {vs : List V} {ds : List D} {i : Nat} {d : D}, RDs g ρ H vs ds → ds[i]? = some d → ∃ v, vs[i]? = some v ∧ RD g ρ H v d
  | _, _, _, _, .nil, e => by simp at e
  | _, _, 0, _, .cons h _, e => by simp at e; subst e; exact ⟨_, rfl, h⟩
  | _, _, i + 1, d, .cons _ t, e => by
    obtain ⟨v, h1, h2⟩ := RDs.get (i := i) (d := d) t (by simpa using e)
    exact ⟨v, by simpa using h1, h2⟩
theorem RDs.append : ∀ {vs ws : List V} {ds es : List D}, RDs g ρ H vs ds → RDs g ρ H ws es → RDs g ρ H (vs ++ ws) (ds ++ es)
  | _, _, _, _, .nil, s => s
  | _, _, _, _, .cons h t, s => .cons h (RDs.append t s)
theorem RDs.take : ∀ {vs : List V} {ds : List D} (n : Nat), RDs g ρ H vs ds → RDs g ρ H (vs.take n) (ds.take n)
  | _, _, 0, _ => .nil
  | _, _, _ + 1, .nil => .nil
  | _, _, n + 1, .cons h t => .cons h (RDs.take n t)
theorem RDs.drop : ∀ {vs : List V} {ds : List D} (n : Nat), RDs g ρ H vs ds → RDs g ρ H (vs.drop n) (ds.drop n)
  | _, _, 0, r => r
  | _, _, _ + 1, .nil => .nil
  | _, _, n + 1, .cons _ t => RDs.drop n t
theorem RDs.set {v : V} {d : D} (r : RD g ρ H v d) : ∀ {vs : List V} {ds : List D} (i : Nat), RDs g ρ H vs ds → RDs g ρ H (vs.set i v) (ds.set i d)
  | _, _, _, .nil => .nil
  | _, _, 0, .cons _ t => .cons r t
  | _, _, i + 1, .cons q t => .cons q (RDs.set r i t)
theorem RDs.eraseIdx : ∀ {vs : List V} {ds : List D} (i : Nat), RDs g ρ H vs ds → RDs g ρ H (vs.eraseIdx i) (ds.eraseIdx i)
  | _, _, _, .nil => .nil
  | _, _, 0, .cons _ t => t
  | _, _, i + 1, .cons q t => .cons q (RDs.eraseIdx i t)
theorem RDs.snoc {vs : List V} {ds : List D} {v : V} {d : D} (h : RDs g ρ H vs ds) (r : RD g ρ H v d) : RDs g ρ H (vs ++ [v]) (ds ++ [d]) := h.append (.cons r .nil)
theorem RKV.mono {κ : Type} (e : Ex ρ H ρ' H') {xs : List (κ × V)} {ys : List (κ × D)} (r : RKV g ρ H xs ys) : RKV g ρ' H' xs ys := Paired.mapP r fun _ _ h => ⟨h.1, h.2.mono e⟩

/-- the same facts elsewhere -/
theorem RD.tr {g' : G} (hK : g.K = g'.K) (hρ : ∀ (n : Nat) a, ρ[n]? = some a → ρ'[n]? = some a) (k : ∀ a o, Out g ρ a → H a = some o → Out g' ρ' a ∧ H' a = some o) {v : V} {d : D} (r : RD g ρ H v d) : RD g' ρ' H' v d := by
  refine RD.rec (motive_1 := fun v d _ => RD g' ρ' H' v d) (motive_2 := fun vs ds _ => RDs g' ρ' H' vs ds) .non .bl .int .str ?_ ?_ ?_ ?_ ?_ ?_ .nil ?_ r
  · intro a vs ds h n _ ih; exact .tup (k a _ n h).2 (k a _ n h).1 ih
  · intro a vs ds h n _ ih; exact .lst (k a _ n h).2 (k a _ n h).1 ih
  · intro a ns n
    refine .scr ?_
    rcases n with ⟨o, h, n⟩ | n
    · exact .inl ⟨o, (k a _ n h).2, (k a _ n h).1⟩
    · exact .inr (hK ▸ n)
  · intro n a h; exact .loc (hρ n a h)
  · intro a o h n; exact .empF (k a _ n h).2 (k a _ n h).1
  · intro a h n; exact .empU (k a _ n h).2 (k a _ n h).1
  · intro v d vs ds _ _ h t; exact .cons h t
theorem RDs.tr {g' : G} (hK : g.K = g'.K) (hρ : ∀ (n : Nat) a, ρ[n]? = some a → ρ'[n]? = some a) (k : ∀ a o, Out g ρ a → H a = some o → Out g' ρ' a ∧ H' a = some o) : ∀ {vs : List V} {ds : List D}, RDs g ρ H vs ds → RDs g' ρ' H' vs ds
  | _, _, .nil => .nil
  | _, _, .cons h t => .cons (h.tr hK hρ k) (RDs.tr hK hρ k t)
theorem RKV.tr {κ : Type} {g' : G} (hK : g.K = g'.K) (hρ : ∀ (n : Nat) a, ρ[n]? = some a → ρ'[n]? = some a) (k : ∀ a o, Out g ρ a → H a = some o → Out g' ρ' a ∧ H' a = some o) {xs : List (κ × V)} {ys : List (κ × D)} (r : RKV g ρ H xs ys) : RKV g' ρ' H' xs ys := Paired.mapP r fun _ _ h => ⟨h.1, h.2.tr hK hρ k⟩
theorem RO.tr {g' : G} (hK : g.K = g'.K) (hc : g.cls = g'.cls) (hρ : ∀ (n : Nat) a, ρ[n]? = some a → ρ'[n]? = some a) (k : ∀ a o, Out g ρ a → H a = some o → Out g' ρ' a ∧ H' a = some o) {a : Addr} (ha : ∀ o, H a = some o → H' a = some o) {ob : Ob} (r : RO g ρ H a ob) : RO g' ρ' H' a ob := by
  cases ob with
  | lst ds => obtain ⟨vs, q1, q2⟩ := r; exact ⟨vs, ha _ q1, q2.tr hK hρ k⟩
  | dK ds => obtain ⟨vs, q1, q2⟩ := r; exact ⟨vs, ha _ q1, q2.tr hK hρ k⟩
  | dT ds => obtain ⟨vs, q1, q2⟩ := r; exact ⟨vs, ha _ q1, q2.tr hK hρ k⟩
  | ins c fs => obtain ⟨dx, fv, q1, q2⟩ := r; exact ⟨dx, fv, hc ▸ ha _ q1, q2.tr hK hρ k⟩
  | exc c d => cases d with
    | none => exact (hc ▸ ha _ r : H' a = some (exo a (g'.cls c) none))
    | some n => obtain ⟨dx, q1, q2⟩ := r; exact ⟨dx, hρ n dx q1, hc ▸ ha _ q2⟩
  | xd fs => obtain ⟨fv, q1, q2⟩ := r; exact ⟨fv, ha _ q1, q2.tr hK hρ k⟩
  | ex0 c => exact (hc ▸ ha _ r : H' a = some (ExO (.ref (g'.cls c)) a))
theorem RS.there (rs : RS g ρ S H) {a : Addr} (h : a ∈ ρ) : ∃ o, H a = some o := by
  obtain ⟨n, hn, e⟩ := List.getElem_of_mem h
  have hS : n < S.length := by rw [← rs.len]; exact hn
  have r := rs.ob n a S[n] (by rw [List.getElem?_eq_getElem hn, e]) (List.getElem?_eq_getElem hS)
  cases hh : S[n] with
  | lst ds => rw [hh] at r; obtain ⟨vs, q1, _⟩ := r; exact ⟨_, q1⟩
  | dK ds => rw [hh] at r; obtain ⟨vs, q1, _⟩ := r; exact ⟨_, q1⟩
  | dT ds => rw [hh] at r; obtain ⟨vs, q1, _⟩ := r; exact ⟨_, q1⟩
  | ins c fs => rw [hh] at r; obtain ⟨dx, fv, q1, _⟩ := r; exact ⟨_, q1⟩
  | exc c d => cases d with
    | none => rw [hh] at r; exact ⟨_, r⟩
    | some n => rw [hh] at r; obtain ⟨dx, _, q⟩ := r; exact ⟨_, q⟩
  | xd fs => rw [hh] at r; obtain ⟨fv, q1, _⟩ := r; exact ⟨_, q1⟩
  | ex0 c => rw [hh] at r; exact ⟨_, r⟩
theorem RS.fresh (rs : RS g ρ S H) {a : Addr} (h : H a = none) : Out g ρ a := by
  refine ⟨fun m => ?_, fun m => ?_⟩
  · obtain ⟨o, e⟩ := rs.there m
    rw [h] at e; cases e
  · obtain ⟨⟨o, e⟩, _⟩ := rs.hd a m
    rw [h] at e; cases e
/-- a new place is hidden | it is let go, whatever stands there -/
theorem hide_k {l : List Addr} {p : Addr} {o : HO} (hp : H p = none) : ∀ a u, Out (g.hide l) ρ a → H a = some u → Out (g.hide (p :: l)) ρ a ∧ upd H p o a = some u := fun a u n h => by
  have ne := ne_of_none h hp
  exact ⟨⟨n.1, fun m => (List.mem_cons.mp m).elim ne n.2⟩, by rw [upd_ne ne]; exact h⟩
theorem show_k {l : List Addr} {p : Addr} (k : ∀ a, a ≠ p → H' a = H a) : ∀ a u, Out (g.hide (p :: l)) ρ a → H a = some u → Out (g.hide l) ρ a ∧ H' a = some u := fun a u n h =>
  ⟨⟨n.1, fun m => n.2 (List.mem_cons_of_mem _ m)⟩, by rw [k a fun e => n.2 (by rw [e]; exact List.mem_cons_self)]; exact h⟩
theorem RS.hide {l : List Addr} {p : Addr} {o : HO} (rs : RS (g.hide l) ρ S H) (hp : H p = none) : RS (g.hide (p :: l)) ρ S (upd H p o) := by
  refine ⟨rs.len, rs.nd, fun n a ob h1 h2 => RO.tr (g := g.hide l) (g' := g.hide (p :: l)) (H' := upd H p o) rfl rfl (fun _ _ h => h) (hide_k hp) (r := rs.ob n a ob h1 h2) (ha :=  fun u q => by rw [upd_ne (ne_of_none q hp)]; exact q), fun a m => ?_⟩
  rcases List.mem_cons.mp m with e | m
  · rw [e]; exact ⟨⟨o, upd_same⟩, (rs.fresh hp).1⟩
  · obtain ⟨⟨u, h⟩, n⟩ := rs.hd a m
    exact ⟨⟨u, by rw [upd_ne (ne_of_none h hp)]; exact h⟩, n⟩
theorem RS.unhide {l : List Addr} {p : Addr} (hl : p ∉ l) (rs : RS (g.hide (p :: l)) ρ S H) (k : ∀ a, a ≠ p → H' a = H a) : RS (g.hide l) ρ S H' := by
  have np : p ∉ ρ := (rs.hd p List.mem_cons_self).2
  refine ⟨rs.len, rs.nd, fun n a ob h1 h2 => RO.tr (g := g.hide (p :: l)) (g' := g.hide l) (H' := H') rfl rfl (fun _ _ h => h) (show_k k) (r := rs.ob n a ob h1 h2) (ha := fun u q => ?_), fun a m => ?_⟩
  · rw [k a fun e => np (by rw [← e]; exact List.mem_of_getElem? h1)]; exact q
  · obtain ⟨⟨u, h⟩, n⟩ := rs.hd a (List.mem_cons_of_mem _ m)
    exact ⟨⟨u, by rw [k a fun e => hl (by rw [← e]; exact m)]; exact h⟩, n⟩
/-- a hidden place is written -/
theorem RS.hidden {l : List Addr} {p : Addr} {o : HO} (rs : RS (g.hide (p :: l)) ρ S H) : RS (g.hide (p :: l)) ρ S (upd H p o) := by
  have np : p ∉ ρ := (rs.hd p List.mem_cons_self).2
  have kk : ∀ a u, Out (g.hide (p :: l)) ρ a → H a = some u → Out (g.hide (p :: l)) ρ a ∧ upd H p o a = some u := fun a u n h => ⟨n, by rw [upd_ne fun e => n.2 (by rw [e]; exact List.mem_cons_self)]; exact h⟩
  refine ⟨rs.len, rs.nd, fun n a ob h1 h2 => (rs.ob n a ob h1 h2).tr (g' := g.hide (p :: l)) (H' := upd H p o) rfl rfl (fun _ _ h => h) kk fun u q => ?_, fun a m => ?_⟩
  · rw [upd_ne fun e => np (by rw [← e]; exact List.mem_of_getElem? h1)]; exact q
  · obtain ⟨⟨u, h⟩, n⟩ := rs.hd a m
    by_cases e : a = p
    · rw [e]; exact ⟨⟨o, upd_same⟩, np⟩
    · exact ⟨⟨u, by rw [upd_ne e]; exact h⟩, n⟩
theorem hidden_k {l : List Addr} {p : Addr} {o : HO} : ∀ a u, Out (g.hide (p :: l)) ρ a → H a = some u → Out (g.hide (p :: l)) ρ a ∧ upd H p o a = some u := fun a u n h =>
  ⟨n, by rw [upd_ne fun e => n.2 (by rw [e]; exact List.mem_cons_self)]; exact h⟩
/-- what H didn't know may change -/
theorem Ex.mut {ρ' : List Addr} {p : Addr} {o : HO} (e : Ex ρ H ρ' H') (hp : H p = none) : Ex ρ H ρ' (upd H' p o) :=
  ⟨e.new, fun a u n h => by rw [upd_ne (ne_of_none h hp)]; exact e.keep a u n h⟩

/-! ### slots -/
abbrev En := List (Option D)
def RE (g : G) (ρ : List Addr) (H : Hp) : L2.St → En → Prop := Paired fun v d => ∀ x, d = some x → ∃ y, v = some y ∧ RD g ρ H y x
theorem RE.mono (e : Ex ρ H ρ' H') {σ : L2.St} {env : En} (r : RE g ρ H σ env) : RE g ρ' H' σ env := Paired.mapP r fun _ _ h x q => by
  obtain ⟨y, h1, h2⟩ := h x q
  exact ⟨y, h1, h2.mono e⟩
theorem RE.get : ∀ {σ : L2.St} {env : En} {i : Nat} {d : D}, RE g ρ H σ env → env[i]? = some (some d) → ∃ v, σ[i]? = some (some v) ∧ RD g ρ H v d
  | _, _, _, _, .nil, e => by simp at e
  | _, _, 0, _, .cons h _, e => by
    simp at e
    obtain ⟨y, h1, h2⟩ := h _ e
    exact ⟨y, by simp [h1], h2⟩
  | _, _, i + 1, d, .cons _ t, e => by
    obtain ⟨v, h1, h2⟩ := RE.get (i := i) (d := d) t (by simpa using e)
    exact ⟨v, by simpa using h1, h2⟩
theorem RE.set {v : V} {d : D} (r : RD g ρ H v d) : ∀ {σ : L2.St} {env : En} (i : Nat), RE g ρ H σ env → RE g ρ H (σ.set i (some v)) (env.set i (some d))
  | _, _, _, .nil => .nil
  | _, _, 0, .cons _ t => .cons (fun x q => by cases q; exact ⟨v, rfl, r⟩) t
  | _, _, i + 1, .cons q t => .cons q (RE.set r i t)
theorem RE.tr {g' : G} (hK : g.K = g'.K) (hρ : ∀ (n : Nat) a, ρ[n]? = some a → ρ'[n]? = some a) (k : ∀ a o, Out g ρ a → H a = some o → Out g' ρ' a ∧ H' a = some o) {σ : L2.St} {env : En} (r : RE g ρ H σ env) : RE g' ρ' H' σ env := Paired.mapP r fun _ _ h x q => by
  obtain ⟨y, h1, h2⟩ := h x q
  exact ⟨y, h1, h2.tr hK hρ k⟩
/-- what was known ahead of a new place is known behind, the place hidden -/
theorem ahead_k {l : List Addr} {p : Addr} (hp : H p = none) (e : Ex ρ H ρ' H') : ∀ a u, Out (g.hide l) ρ a → H a = some u → Out (g.hide (p :: l)) ρ' a ∧ H' a = some u := fun a u n h =>
  ⟨⟨e.out h n.1, fun m => (List.mem_cons.mp m).elim (ne_of_none h hp) n.2⟩, e.keep a u n.1 h⟩
theorem RE.clear : ∀ {σ : L2.St} {env : En} (i : Nat), RE g ρ H σ env → RE g ρ H (σ.set i none) (env.set i none)
  | _, _, _, .nil => .nil
  | _, _, 0, .cons _ t => .cons (fun x q => by cases q) t
  | _, _, i + 1, .cons q t => .cons q (RE.clear i t)
def wipeE (env : En) : List Nat → En
  | [] => env
  | i :: r => (wipeE env r).set i none
theorem RE.wipe {σ : L2.St} {env : En} (re : RE g ρ H σ env) : ∀ vs : List Nat, RE g ρ H (L2.wipe σ vs) (wipeE env vs)
  | [] => re
  | i :: r => by
    unfold L2.wipe wipeE
    exact (RE.wipe re r).clear i
end

/-! ### answers -/
structure Exc where
  c : Nat
  fs : Option (List (PySem.Str × D))
inductive Res (α : Type) where
  | ok (a : α) (S : Store) | err (x : Exc) (S : Store) | stuck
inductive FRes where
  | next (env : En) (S : Store) | ret (d : D) (S : Store) | brk (env : En) (S : Store) | cont (env : En) (S : Store) | err (x : Exc) (S : Store) | stuck
abbrev EM := En → Store → Res D
abbrev BM := En → Store → Res Bool
abbrev AM := En → Store → Res (List D)
abbrev SM := En → Store → FRes

def RX (g : G) (ρ : List Addr) (H : Hp) (x : Exc) (c : Value) (od : Option Addr) : Prop :=
  c = .ref (g.cls x.c) ∧ match x.fs with
    | none => od = none
    | some fs => ∃ d fv, od = some d ∧ d ∉ ρ ∧ H d = some (.xd fv) ∧ RKV g ρ H fv fs

section
variable (g : G) (E : XK) (ρ : List Addr) (H : Hp)
def PX (x : Exc) (S' : Store) : Prop := ∀ ρ' H' c od, Ex ρ H ρ' H' → RS g ρ' S' H' → RX g ρ' H' x c od → E c od H'
def PostE (Q : VK) : Res D → Prop
  | .ok d S' => ∀ ρ' H' v, Ex ρ H ρ' H' → RS g ρ' S' H' → RD g ρ' H' v d → Q v H'
  | .err x S' => PX g E ρ H x S'
  | .stuck => False
def PostT (Q : Bool → Hp → Prop) : Res Bool → Prop
  | .ok b S' => ∀ ρ' H', Ex ρ H ρ' H' → RS g ρ' S' H' → Q b H'
  | .err x S' => PX g E ρ H x S'
  | .stuck => False
def PostA (Q : List V → Hp → Prop) : Res (List D) → Prop
  | .ok ds S' => ∀ ρ' H' vs, Ex ρ H ρ' H' → RS g ρ' S' H' → RDs g ρ' H' vs ds → Q vs H'
  | .err x S' => PX g E ρ H x S'
  | .stuck => False
def PN (P : L2.St → Hp → Prop) (env' : En) (S' : Store) : Prop := ∀ ρ' H' σ', Ex ρ H ρ' H' → RS g ρ' S' H' → RE g ρ' H' σ' env' → P σ' H'
def PostS (D' : Ends) : FRes → Prop
  | .next env' S' => PN g ρ H D'.nx env' S'
  | .brk env' S' => PN g ρ H D'.bk env' S'
  | .cont env' S' => PN g ρ H D'.ct env' S'
  | .ret d S' => ∀ ρ' H' v, Ex ρ H ρ' H' → RS g ρ' S' H' → RD g ρ' H' v d → D'.rt v H'
  | .err x S' => PX g E ρ H x S'
  | .stuck => False
end
section
variable {g : G} {E : XK} {ρ ρ1 : List Addr} {H H1 : Hp}
theorem PX.ex {x : Exc} {S' : Store} (p : PX g E ρ H x S') (e : Ex ρ H ρ1 H1) : PX g E ρ1 H1 x S' := fun ρ' H' c od a b r => p ρ' H' c od (e.trans a) b r
theorem PostE.ex {Q : VK} {r : Res D} (p : PostE g E ρ H Q r) (e : Ex ρ H ρ1 H1) : PostE g E ρ1 H1 Q r := by
  cases r with
  | ok d S' => exact fun ρ' H' v a b c => p ρ' H' v (e.trans a) b c
  | err x S' => exact PX.ex p e
  | stuck => exact p
theorem PostT.ex {Q : Bool → Hp → Prop} {r : Res Bool} (p : PostT g E ρ H Q r) (e : Ex ρ H ρ1 H1) : PostT g E ρ1 H1 Q r := by
  cases r with
  | ok d S' => exact fun ρ' H' a b => p ρ' H' (e.trans a) b
  | err x S' => exact PX.ex p e
  | stuck => exact p
theorem PostA.ex {Q : List V → Hp → Prop} {r : Res (List D)} (p : PostA g E ρ H Q r) (e : Ex ρ H ρ1 H1) : PostA g E ρ1 H1 Q r := by
  cases r with
  | ok d S' => exact fun ρ' H' v a b c => p ρ' H' v (e.trans a) b c
  | err x S' => exact PX.ex p e
  | stuck => exact p
theorem PN.ex {P : L2.St → Hp → Prop} {env' : En} {S' : Store} (p : PN g ρ H P env' S') (e : Ex ρ H ρ1 H1) : PN g ρ1 H1 P env' S' := fun ρ' H' σ' a b c => p ρ' H' σ' (e.trans a) b c
theorem PostS.ex {D' : Ends} {r : FRes} (p : PostS g E ρ H D' r) (e : Ex ρ H ρ1 H1) : PostS g E ρ1 H1 D' r := by
  cases r with
  | next env' S' => exact PN.ex p e
  | brk env' S' => exact PN.ex p e
  | cont env' S' => exact PN.ex p e
  | ret d S' => exact fun ρ' H' v a b c => p ρ' H' v (e.trans a) b c
  | err x S' => exact PX.ex p e
  | stuck => exact p
end

/-! ### what goes as a plain function -/
section
variable (g : G) (E : XK)
def SimE (t : TE) (m : EM) : Prop := ∀ l σ H Q ρ S env, RE (g.hide l) ρ H σ env → RS (g.hide l) ρ S H → PostE (g.hide l) E ρ H Q (m env S) → t σ H Q
def SimT (t : TT) (m : BM) : Prop := ∀ l σ H Q ρ S env, RE (g.hide l) ρ H σ env → RS (g.hide l) ρ S H → PostT (g.hide l) E ρ H Q (m env S) → t σ H Q
def SimA (t : TA) (m : AM) : Prop := ∀ l σ H Q ρ S env, RE (g.hide l) ρ H σ env → RS (g.hide l) ρ S H → PostA (g.hide l) E ρ H Q (m env S) → t σ H Q
def SimS (t : TS) (m : SM) : Prop := ∀ l D' σ H ρ S env, RE (g.hide l) ρ H σ env → RS (g.hide l) ρ S H → PostS (g.hide l) E ρ H D' (m env S) → t D' σ H
def Res.bind {α β : Type} (r : Res α) (f : α → Store → Res β) : Res β := match r with
  | .ok a S => f a S
  | .err x S => .err x S
  | .stuck => .stuck
def Res.bindS {α : Type} (r : Res α) (f : α → Store → FRes) : FRes := match r with
  | .ok a S => f a S
  | .err x S => .err x S
  | .stuck => .stuck
end
section
variable {g : G} {E : XK}
/-- the shape of most proofs: an answer behind an answer -/
theorem SimE.bind {t : TE} {m : EM} (h : SimE g E t m) {l : List Addr} {σ : L2.St} {H : Hp} {Q Q' : VK} {ρ : List Addr} {S : Store} {env : En} {f : D → Store → Res D} (re : RE (g.hide l) ρ H σ env) (rs : RS (g.hide l) ρ S H) (p : PostE (g.hide l) E ρ H Q' ((m env S).bind f))
    (k : ∀ d S' ρ' H' v, Ex ρ H ρ' H' → RS (g.hide l) ρ' S' H' → RD (g.hide l) ρ' H' v d → RE (g.hide l) ρ' H' σ env → PostE (g.hide l) E ρ' H' Q' (f d S') → Q v H') : t σ H Q := by
  refine h l σ H Q ρ S env re rs ?_
  cases e : m env S with
  | ok d S' => rw [e] at p; exact fun ρ' H' v a b c => k d S' ρ' H' v a b c (re.mono a) (PostE.ex p a)
  | err x S' => rw [e] at p; exact p
  | stuck => rw [e] at p; exact p
theorem SimE.bindT {t : TE} {m : EM} (h : SimE g E t m) {l : List Addr} {σ : L2.St} {H : Hp} {Q : VK} {Q' : Bool → Hp → Prop} {ρ : List Addr} {S : Store} {env : En} {f : D → Store → Res Bool} (re : RE (g.hide l) ρ H σ env) (rs : RS (g.hide l) ρ S H) (p : PostT (g.hide l) E ρ H Q' ((m env S).bind f))
    (k : ∀ d S' ρ' H' v, Ex ρ H ρ' H' → RS (g.hide l) ρ' S' H' → RD (g.hide l) ρ' H' v d → RE (g.hide l) ρ' H' σ env → PostT (g.hide l) E ρ' H' Q' (f d S') → Q v H') : t σ H Q := by
  refine h l σ H Q ρ S env re rs ?_
  cases e : m env S with
  | ok d S' => rw [e] at p; exact fun ρ' H' v a b c => k d S' ρ' H' v a b c (re.mono a) (PostT.ex p a)
  | err x S' => rw [e] at p; exact p
  | stuck => rw [e] at p; exact p
theorem SimE.bindA {t : TE} {m : EM} (h : SimE g E t m) {l : List Addr} {σ : L2.St} {H : Hp} {Q : VK} {Q' : List V → Hp → Prop} {ρ : List Addr} {S : Store} {env : En} {f : D → Store → Res (List D)} (re : RE (g.hide l) ρ H σ env) (rs : RS (g.hide l) ρ S H) (p : PostA (g.hide l) E ρ H Q' ((m env S).bind f))
    (k : ∀ d S' ρ' H' v, Ex ρ H ρ' H' → RS (g.hide l) ρ' S' H' → RD (g.hide l) ρ' H' v d → RE (g.hide l) ρ' H' σ env → PostA (g.hide l) E ρ' H' Q' (f d S') → Q v H') : t σ H Q := by
  refine h l σ H Q ρ S env re rs ?_
  cases e : m env S with
  | ok d S' => rw [e] at p; exact fun ρ' H' v a b c => k d S' ρ' H' v a b c (re.mono a) (PostA.ex p a)
  | err x S' => rw [e] at p; exact p
  | stuck => rw [e] at p; exact p
theorem SimE.bindS {t : TE} {m : EM} (h : SimE g E t m) {l : List Addr} {σ : L2.St} {H : Hp} {Q : VK} {D' : Ends} {ρ : List Addr} {S : Store} {env : En} {f : D → Store → FRes} (re : RE (g.hide l) ρ H σ env) (rs : RS (g.hide l) ρ S H) (p : PostS (g.hide l) E ρ H D' ((m env S).bindS f))
    (k : ∀ d S' ρ' H' v, Ex ρ H ρ' H' → RS (g.hide l) ρ' S' H' → RD (g.hide l) ρ' H' v d → RE (g.hide l) ρ' H' σ env → PostS (g.hide l) E ρ' H' D' (f d S') → Q v H') : t σ H Q := by
  refine h l σ H Q ρ S env re rs ?_
  cases e : m env S with
  | ok d S' => rw [e] at p; exact fun ρ' H' v a b c => k d S' ρ' H' v a b c (re.mono a) (PostS.ex p a)
  | err x S' => rw [e] at p; exact p
  | stuck => rw [e] at p; exact p
theorem SimT.bind {t : TT} {m : BM} (h : SimT g E t m) {l : List Addr} {σ : L2.St} {H : Hp} {Q Q' : Bool → Hp → Prop} {ρ : List Addr} {S : Store} {env : En} {f : Bool → Store → Res Bool} (re : RE (g.hide l) ρ H σ env) (rs : RS (g.hide l) ρ S H) (p : PostT (g.hide l) E ρ H Q' ((m env S).bind f))
    (k : ∀ d S' ρ' H', Ex ρ H ρ' H' → RS (g.hide l) ρ' S' H' → RE (g.hide l) ρ' H' σ env → PostT (g.hide l) E ρ' H' Q' (f d S') → Q d H') : t σ H Q := by
  refine h l σ H Q ρ S env re rs ?_
  cases e : m env S with
  | ok d S' => rw [e] at p; exact fun ρ' H' a b => k d S' ρ' H' a b (re.mono a) (PostT.ex p a)
  | err x S' => rw [e] at p; exact p
  | stuck => rw [e] at p; exact p
theorem SimT.bindE {t : TT} {m : BM} (h : SimT g E t m) {l : List Addr} {σ : L2.St} {H : Hp} {Q : Bool → Hp → Prop} {Q' : VK} {ρ : List Addr} {S : Store} {env : En} {f : Bool → Store → Res D} (re : RE (g.hide l) ρ H σ env) (rs : RS (g.hide l) ρ S H) (p : PostE (g.hide l) E ρ H Q' ((m env S).bind f))
    (k : ∀ d S' ρ' H', Ex ρ H ρ' H' → RS (g.hide l) ρ' S' H' → RE (g.hide l) ρ' H' σ env → PostE (g.hide l) E ρ' H' Q' (f d S') → Q d H') : t σ H Q := by
  refine h l σ H Q ρ S env re rs ?_
  cases e : m env S with
  | ok d S' => rw [e] at p; exact fun ρ' H' a b => k d S' ρ' H' a b (re.mono a) (PostE.ex p a)
  | err x S' => rw [e] at p; exact p
  | stuck => rw [e] at p; exact p
theorem SimT.bindS {t : TT} {m : BM} (h : SimT g E t m) {l : List Addr} {σ : L2.St} {H : Hp} {Q : Bool → Hp → Prop} {D' : Ends} {ρ : List Addr} {S : Store} {env : En} {f : Bool → Store → FRes} (re : RE (g.hide l) ρ H σ env) (rs : RS (g.hide l) ρ S H) (p : PostS (g.hide l) E ρ H D' ((m env S).bindS f))
    (k : ∀ d S' ρ' H', Ex ρ H ρ' H' → RS (g.hide l) ρ' S' H' → RE (g.hide l) ρ' H' σ env → PostS (g.hide l) E ρ' H' D' (f d S') → Q d H') : t σ H Q := by
  refine h l σ H Q ρ S env re rs ?_
  cases e : m env S with
  | ok d S' => rw [e] at p; exact fun ρ' H' a b => k d S' ρ' H' a b (re.mono a) (PostS.ex p a)
  | err x S' => rw [e] at p; exact p
  | stuck => rw [e] at p; exact p
theorem SimA.bind {t : TA} {m : AM} (h : SimA g E t m) {l : List Addr} {σ : L2.St} {H : Hp} {Q : List V → Hp → Prop} {Q' : VK} {ρ : List Addr} {S : Store} {env : En} {f : List D → Store → Res D} (re : RE (g.hide l) ρ H σ env) (rs : RS (g.hide l) ρ S H) (p : PostE (g.hide l) E ρ H Q' ((m env S).bind f))
    (k : ∀ d S' ρ' H' v, Ex ρ H ρ' H' → RS (g.hide l) ρ' S' H' → RDs (g.hide l) ρ' H' v d → RE (g.hide l) ρ' H' σ env → PostE (g.hide l) E ρ' H' Q' (f d S') → Q v H') : t σ H Q := by
  refine h l σ H Q ρ S env re rs ?_
  cases e : m env S with
  | ok d S' => rw [e] at p; exact fun ρ' H' v a b c => k d S' ρ' H' v a b c (re.mono a) (PostE.ex p a)
  | err x S' => rw [e] at p; exact p
  | stuck => rw [e] at p; exact p
theorem SimA.bindA {t : TA} {m : AM} (h : SimA g E t m) {l : List Addr} {σ : L2.St} {H : Hp} {Q : List V → Hp → Prop} {Q' : List V → Hp → Prop} {ρ : List Addr} {S : Store} {env : En} {f : List D → Store → Res (List D)} (re : RE (g.hide l) ρ H σ env) (rs : RS (g.hide l) ρ S H) (p : PostA (g.hide l) E ρ H Q' ((m env S).bind f))
    (k : ∀ d S' ρ' H' v, Ex ρ H ρ' H' → RS (g.hide l) ρ' S' H' → RDs (g.hide l) ρ' H' v d → RE (g.hide l) ρ' H' σ env → PostA (g.hide l) E ρ' H' Q' (f d S') → Q v H') : t σ H Q := by
  refine h l σ H Q ρ S env re rs ?_
  cases e : m env S with
  | ok d S' => rw [e] at p; exact fun ρ' H' v a b c => k d S' ρ' H' v a b c (re.mono a) (PostA.ex p a)
  | err x S' => rw [e] at p; exact p
  | stuck => rw [e] at p; exact p
end
end Lg

namespace Lg
open PySem L2

/-! ### the plain functions -/
def mVar (i : Nat) : EM := fun env S => match env[i]? with
  | some (some d) => .ok d S
  | _ => .stuck
def mC (d : D) : EM := fun _ S => .ok d S
def mOp (f : D → D → Store → Res D) (a b : EM) : EM := fun env S => (a env S).bind fun x S1 => (b env S1).bind fun y S2 => f x y S2
def mUn (f : D → Store → Res D) (a : EM) : EM := fun env S => (a env S).bind f
def mNil : AM := fun _ S => .ok [] S
def mCons (a : EM) (b : AM) : AM := fun env S => (a env S).bind fun x S1 => (b env S1).bind fun y S2 => .ok (x :: y) S2
def mTup (a : AM) : EM := fun env S => (a env S).bind fun ds S1 => if ds.length ≤ sizeLine then .ok (.tup ds) S1 else .stuck
/-- a list that nobody changes | one that stands in the store -/
def mLst (a : AM) : EM := fun env S => (a env S).bind fun ds S1 => if ds.length ≤ sizeLine then .ok (.lst ds) S1 else .stuck
def mLstL (a : AM) : EM := fun env S => (a env S).bind fun ds S1 => if ds.length ≤ sizeLine then .ok (.loc S1.length) (S1 ++ [.lst ds]) else .stuck
def mCall (f : List D → Store → Res D) (a : AM) : EM := fun env S => (a env S).bind f
def mIf (c : BM) (a b : EM) : EM := fun env S => (c env S).bind fun k S1 => if k = true then a env S1 else b env S1
def bVal (a : EM) : BM := fun env S => (a env S).bind fun x S1 => match x with
  | .bl k => .ok k S1
  | _ => .stuck
def bAnd (a b : BM) : BM := fun env S => (a env S).bind fun k S1 => if k = true then b env S1 else .ok false S1
def bOr (a b : BM) : BM := fun env S => (a env S).bind fun k S1 => if k = true then .ok true S1 else b env S1
def bNot (a : BM) : BM := fun env S => (a env S).bind fun k S1 => .ok (!k) S1
def mAndV (a b : EM) : EM := fun env S => (a env S).bind fun x S1 => match x with
  | .bl k => if k = true then b env S1 else .ok (.bl false) S1
  | _ => .stuck
def mOrV (a b : EM) : EM := fun env S => (a env S).bind fun x S1 => match x with
  | .bl k => if k = true then .ok (.bl true) S1 else b env S1
  | _ => .stuck
def mNotV (a : EM) : EM := fun env S => (a env S).bind fun x S1 => match x with
  | .bl k => .ok (.bl (!k)) S1
  | _ => .stuck
/-- statements -/
def sNext : SM := fun env S => .next env S
def FRes.seq (r : FRes) (f : En → Store → FRes) : FRes := match r with
  | .next env S => f env S
  | r => r
def sSeq (a b : SM) : SM := fun env S => (a env S).seq b
def sRet (a : EM) : SM := fun env S => (a env S).bindS fun d S1 => .ret d S1
def sRetN : SM := fun _ S => .ret .non S
def sDrop (a : EM) : SM := fun env S => (a env S).bindS fun _ S1 => .next env S1
def sIf (c : BM) (a b : SM) : SM := fun env S => (c env S).bindS fun k S1 => if k = true then a env S1 else b env S1
def sNever : SM := fun _ _ => .stuck
def sBrk : SM := fun env S => .brk env S
def sCont : SM := fun env S => .cont env S
/-- targets: what is assigned, the slots, the store -/
abbrev GM := D → En → Store → Res En
def gmName (i : Nat) : GM := fun d env S => .ok (env.set i (some d)) S
def gmNil : List D → En → Store → Res En := fun ds env S => match ds with
  | [] => .ok env S
  | _ => .stuck
def gmCons (t : GM) (u : List D → En → Store → Res En) : List D → En → Store → Res En := fun ds env S => match ds with
  | d :: r => (t d env S).bind fun env' S' => u r env' S'
  | [] => .stuck
def gmTup (n : Nat) (t : List D → En → Store → Res En) : GM := fun d env S => match d with
  | .tup ds => if ds.length = n then t ds env S else .stuck
  | _ => .stuck
def gmSub (o i : EM) (f : D → D → D → Store → Option Store) : GM := fun d env S => (o env S).bind fun x S1 => (i env S1).bind fun y S2 => match f x y d S2 with
  | some S3 => .ok env S3
  | none => .stuck
def sAsg (a : EM) (g : GM) : SM := fun env S => (a env S).bindS fun d S1 => (g d env S1).bindS fun env' S2 => .next env' S2
/-- a loop over items that stand there -/
def sFor (g : GM) (b : SM) : List D → SM
  | [], env, S => .next env S
  | d :: r, env, S => (g d env S).bindS fun env1 S1 => match b env1 S1 with
    | .next env2 S2 => sFor g b r env2 S2
    | .cont env2 S2 => sFor g b r env2 S2
    | .brk env2 S2 => .next env2 S2
    | q => q
abbrev IM := En → Store → Res (List D)
def sForI (it : IM) (g : GM) (b : SM) : SM := fun env S => (it env S).bindS fun ds S1 => sFor g b ds env S1
def sWhile (c : BM) (b : SM) : Nat → SM
  | 0, _, _ => .stuck
  | n + 1, env, S => (c env S).bindS fun k S1 => if k = true then
      match b env S1 with
      | .next env2 S2 => sWhile c b n env2 S2
      | .cont env2 S2 => sWhile c b n env2 S2
      | .brk env2 S2 => .next env2 S2
      | q => q
    else .next env S1
/-- a comprehension: no error leaves it -/
def mLcGo (g : GM) (t : BM) (e : EM) (env : En) : List D → List D → Store → Res (List D)
  | [], acc, S => .ok acc S
  | d :: r, acc, S => match g d env S with
    | .ok env1 S1 => match t env1 S1 with
      | .ok true S2 => match e env1 S2 with
        | .ok x S3 => if acc.length < sizeLine then mLcGo g t e env r (acc ++ [x]) S3 else .stuck
        | _ => .stuck
      | .ok false S2 => mLcGo g t e env r acc S2
      | _ => .stuck
    | _ => .stuck
def mLc (it : IM) (g : GM) (t : BM) (e : EM) (vs : List Nat) : EM := fun env S => (it env S).bind fun ds S1 => (mLcGo g t e (wipeE env vs) ds [] S1).bind fun xs S2 => .ok (.lst xs) S2
/-- the same, the new list an object of the store -/
def mLcL (it : IM) (g : GM) (t : BM) (e : EM) (vs : List Nat) : EM := fun env S => (it env S).bind fun ds S1 => (mLcGo g t e (wipeE env vs) ds [] S1).bind fun xs S2 => .ok (.loc S2.length) (S2 ++ [.lst xs])
def bYes : BM := fun _ S => .ok true S

/-! ### objects of the store -/
section
variable {g : G} {ρ : List Addr} {S : Store} {H : Hp}
theorem RKV.mt {κ : Type} : RKV (κ := κ) g ρ H [] [] := Paired.nil
theorem RO.mono {H' : Hp} {ρ' : List Addr} {a : Addr} {ob : Ob} (r : RO g ρ H a ob) (e : Ex ρ H ρ' H') (k : ∀ o, H a = some o → H' a = some o) : RO g ρ' H' a ob := by
  cases ob with
  | lst ds => obtain ⟨vs, q1, q2⟩ := r; exact ⟨vs, k _ q1, q2.mono e⟩
  | dK ds => obtain ⟨vs, q1, q2⟩ := r; exact ⟨vs, k _ q1, q2.mono e⟩
  | dT ds => obtain ⟨vs, q1, q2⟩ := r; exact ⟨vs, k _ q1, q2.mono e⟩
  | ins c fs => obtain ⟨dx, fv, q1, q2⟩ := r; exact ⟨dx, fv, k _ q1, q2.mono e⟩
  | exc c d => cases d with
    | none => exact k _ r
    | some n => obtain ⟨dx, q1, q2⟩ := r; exact ⟨dx, e.at q1, k _ q2⟩
  | xd fs => obtain ⟨fv, q1, q2⟩ := r; exact ⟨fv, k _ q1, q2.mono e⟩
  | ex0 c => exact k _ r
/-- a new object of the store -/
theorem RS.push (rs : RS g ρ S H) {p : Addr} {o : HO} {ob : Ob} (hp : H p = none) (ho : ∀ ρ' H', Ex ρ H ρ' H' → H' p = some o → RO g ρ' H' p ob) : Ex ρ H (ρ ++ [p]) (upd H p o) ∧ RS g (ρ ++ [p]) (S ++ [ob]) (upd H p o) := by
  have hρ : p ∉ ρ := (rs.fresh hp).1
  have e : Ex ρ H (ρ ++ [p]) (upd H p o) := ⟨⟨[p], rfl, fun a ha => by rw [List.mem_singleton.mp ha]; exact ⟨hp, hρ⟩⟩, fun a u _ q => by rw [upd_ne (ne_of_none q hp)]; exact q⟩
  refine ⟨e, by simp [rs.len], ?_, fun n a o' h1 h2 => ?_, fun a m => ?_⟩
  · rw [List.nodup_append]
    exact ⟨rs.nd, by simp, fun x hx y hy => by rw [List.mem_singleton.mp hy]; exact fun q => hρ (q ▸ hx)⟩
  · by_cases hn : n < ρ.length
    · rw [List.getElem?_append_left hn] at h1
      rw [List.getElem?_append_left (by rw [← rs.len]; exact hn)] at h2
      have r := rs.ob n a o' h1 h2
      have ne : a ≠ p := fun q => hρ (q ▸ List.mem_of_getElem? h1)
      exact r.mono e fun u q => by rw [upd_ne ne]; exact q
    · have hn' : n = ρ.length := by
        have := (List.getElem?_eq_some_iff.mp h1).1
        simp at this
        omega
      subst hn'
      simp at h1
      rw [rs.len] at h2
      simp at h2
      subst h1 h2
      exact ho _ _ e upd_same
  · obtain ⟨⟨u, h⟩, n⟩ := rs.hd a m
    have ne : a ≠ p := ne_of_none h hp
    exact ⟨⟨u, by rw [upd_ne ne]; exact h⟩, fun q => (List.mem_append.mp q).elim n fun q => ne (List.mem_singleton.mp q)⟩
/-- an object of the store is written -/
theorem RS.put (rs : RS g ρ S H) {n : Nat} {a : Addr} {o : HO} {ob : Ob} (ha : ρ[n]? = some a) (ho : ∀ H', Ex ρ H ρ H' → H' a = some o → RO g ρ H' a ob) : Ex ρ H ρ (upd H a o) ∧ RS g ρ (S.set n ob) (upd H a o) := by
  have e : Ex ρ H ρ (upd H a o) := ⟨⟨[], by simp, by simp⟩, fun b u hb q => by rw [upd_ne (fun z => hb (by rw [z]; exact List.mem_of_getElem? ha))]; exact q⟩
  refine ⟨e, by simp [rs.len], rs.nd, fun m b o' h1 h2 => ?_, fun b m => ?_⟩
  have hnS : n < S.length := by rw [← rs.len]; exact (List.getElem?_eq_some_iff.mp ha).1
  by_cases hm : m = n
  · subst hm
    rw [ha] at h1; cases h1
    rw [List.getElem?_set_self hnS] at h2; cases h2
    exact ho _ e upd_same
  · rw [List.getElem?_set_ne (Ne.symm hm)] at h2
    have r := rs.ob m b o' h1 h2
    have ne : b ≠ a := fun q => by
      subst q
      obtain ⟨h3, e1⟩ := List.getElem?_eq_some_iff.mp h1
      obtain ⟨h4, e2⟩ := List.getElem?_eq_some_iff.mp ha
      exact hm ((List.getElem_inj rs.nd).mp (e1.trans e2.symm))
    exact r.mono e fun u q => by rw [upd_ne ne]; exact q
  · obtain ⟨⟨u, h⟩, n⟩ := rs.hd b m
    exact ⟨⟨u, by rw [upd_ne fun q => n (by rw [q]; exact List.mem_of_getElem? ha)]; exact h⟩, n⟩
/-- nothing of the store changes: a new thing beside it -/
theorem RS.aside (rs : RS g ρ S H) {p : Addr} {o : HO} (hp : H p = none) : RS g ρ S (upd H p o) := by
  refine ⟨rs.len, rs.nd, fun n a ob h1 h2 => ?_, fun a m => ?_⟩
  · have r := rs.ob n a ob h1 h2
    exact r.mono (Ex.new1 hp) fun u q => by rw [upd_ne (ne_of_none q hp)]; exact q
  · obtain ⟨⟨u, h⟩, n⟩ := rs.hd a m
    exact ⟨⟨u, by rw [upd_ne (ne_of_none h hp)]; exact h⟩, n⟩
end

/-! ### the proofs -/
section
variable {g : G} {E : XK}
theorem sim_var (i : Nat) : SimE g E (tVar i) (mVar i) := by
  intro l σ H Q ρ S env re rs p
  unfold mVar at p
  cases e : env[i]? with
  | none => rw [e] at p; exact p.elim
  | some o =>
    cases o with
    | none => rw [e] at p; exact p.elim
    | some d =>
      rw [e] at p
      obtain ⟨v, h1, h2⟩ := re.get e
      exact ⟨v, h1, p ρ H v Ex.refl rs h2⟩
theorem sim_c {v : V} {d : D} (r : ∀ l ρ H, RD (g.hide l) ρ H v d) : SimE g E (tC v) (mC d) := fun l σ H Q ρ S env re rs p => p ρ H v Ex.refl rs (r l ρ H)
def OpSim (g₀ : G) (E : XK) (r : R2) (f : D → D → Store → Res D) : Prop := ∀ l x y H Q ρ S dx dy, RD (g₀.hide l) ρ H x dx → RD (g₀.hide l) ρ H y dy → RS (g₀.hide l) ρ S H → PostE (g₀.hide l) E ρ H Q (f dx dy S) → r x y H Q
def UnSim (g₀ : G) (E : XK) (r : V → Hp → VK → Prop) (f : D → Store → Res D) : Prop := ∀ l x H Q ρ S dx, RD (g₀.hide l) ρ H x dx → RS (g₀.hide l) ρ S H → PostE (g₀.hide l) E ρ H Q (f dx S) → r x H Q
def CallSim (g₀ : G) (E : XK) (r : List V → Hp → VK → Prop) (f : List D → Store → Res D) : Prop := ∀ l xs H Q ρ S ds, RDs (g₀.hide l) ρ H xs ds → RS (g₀.hide l) ρ S H → PostE (g₀.hide l) E ρ H Q (f ds S) → r xs H Q
theorem sim_op {r : R2} {f : D → D → Store → Res D} {ta tb : TE} {a b : EM} (h : OpSim g E r f) (ha : SimE g E ta a) (hb : SimE g E tb b) : SimE g E (tOp r ta tb) (mOp f a b) := by
  intro l σ H Q ρ S env re rs p
  exact ha.bind re rs p fun x S1 ρ1 H1 v e1 rs1 rx re1 p1 => hb.bind re1 rs1 p1 fun y S2 ρ2 H2 u e2 rs2 ry re2 p2 => h l v u H2 Q ρ2 S2 x y (rx.mono e2) ry rs2 p2
theorem sim_un {r : V → Hp → VK → Prop} {f : D → Store → Res D} {ta : TE} {a : EM} (h : UnSim g E r f) (ha : SimE g E ta a) : SimE g E (tUn r ta) (mUn f a) := by
  intro l σ H Q ρ S env re rs p
  exact ha.bind re rs p fun x S1 ρ1 H1 v e1 rs1 rx re1 p1 => h l v H1 Q ρ1 S1 x rx rs1 p1
theorem sim_nil : SimA g E tNil mNil := fun l σ H Q ρ S env re rs p => p ρ H [] Ex.refl rs .nil
theorem sim_cons {ta : TE} {tb : TA} {a : EM} {b : AM} (ha : SimE g E ta a) (hb : SimA g E tb b) : SimA g E (tCons ta tb) (mCons a b) := by
  intro l σ H Q ρ S env re rs p
  exact ha.bindA re rs p fun x S1 ρ1 H1 v e1 rs1 rx re1 p1 => hb.bindA re1 rs1 p1 fun y S2 ρ2 H2 u e2 rs2 ry re2 p2 => p2 ρ2 H2 (v :: u) Ex.refl rs2 (.cons (rx.mono e2) ry)
theorem sim_tup {ta : TA} {a : AM} (ha : SimA g E ta a) : SimE g E (tTup ta) (mTup a) := by
  intro l σ H Q ρ S env re rs p
  refine ha.bind re rs p fun ds S1 ρ1 H1 vs e1 rs1 rx re1 p1 => ?_
  by_cases hz : ds.length ≤ sizeLine
  · rw [if_pos hz] at p1
    refine ⟨by rw [rx.length]; exact hz, fun q hq => ?_⟩
    exact p1 ρ1 _ _ (Ex.new1 hq) (rs1.aside hq) (.tup upd_same (rs1.fresh hq) (rx.mono (Ex.new1 hq)))
  · rw [if_neg hz] at p1; exact p1.elim
theorem sim_lst {ta : TA} {a : AM} (ha : SimA g E ta a) : SimE g E (tLst ta) (mLst a) := by
  intro l σ H Q ρ S env re rs p
  refine ha.bind re rs p fun ds S1 ρ1 H1 vs e1 rs1 rx re1 p1 => ?_
  by_cases hz : ds.length ≤ sizeLine
  · rw [if_pos hz] at p1
    refine ⟨by rw [rx.length]; exact hz, fun q hq => ?_⟩
    exact p1 ρ1 _ _ (Ex.new1 hq) (rs1.aside hq) (.lst upd_same (rs1.fresh hq) (rx.mono (Ex.new1 hq)))
  · rw [if_neg hz] at p1; exact p1.elim
theorem sim_lstL {ta : TA} {a : AM} (ha : SimA g E ta a) : SimE g E (tLst ta) (mLstL a) := by
  intro l σ H Q ρ S env re rs p
  refine ha.bind re rs p fun ds S1 ρ1 H1 vs e1 rs1 rx re1 p1 => ?_
  by_cases hz : ds.length ≤ sizeLine
  · rw [if_pos hz] at p1
    refine ⟨by rw [rx.length]; exact hz, fun q hq => ?_⟩
    obtain ⟨e, rs2⟩ := rs1.push (o := .lst vs) (ob := .lst ds) hq fun ρ' H' e q => ⟨vs, q, rx.mono e⟩
    exact p1 _ _ _ e rs2 (.loc (by rw [← rs1.len]; simp))
  · rw [if_neg hz] at p1; exact p1.elim
/-- a call by its promise -/
theorem sim_cb {r : List V → Hp → VK → Prop} {f : List D → Store → Res D} {ta : TA} {a : AM} (h : CallSim g E r f) (ha : SimA g E ta a) : SimE g E (tCB r ta) (mCall f a) := by
  intro l σ H Q ρ S env re rs p
  exact ha.bind re rs p fun ds S1 ρ1 H1 vs e1 rs1 rx re1 p1 => h l vs H1 Q ρ1 S1 ds rx rs1 p1
theorem sim_if {tc : TT} {ta tb : TE} {c : BM} {a b : EM} (hc : SimT g E tc c) (ha : SimE g E ta a) (hb : SimE g E tb b) : SimE g E (tIf tc ta tb) (mIf c a b) := by
  intro l σ H Q ρ S env re rs p
  refine hc.bindE re rs p fun k S1 ρ1 H1 e1 rs1 re1 p1 => ?_
  cases k with
  | true => exact ha l σ H1 Q ρ1 S1 env re1 rs1 p1
  | false => exact hb l σ H1 Q ρ1 S1 env re1 rs1 p1
theorem simt_test {ta : TE} {a : EM} (ha : SimE g E ta a) : SimT g E (tTest ta) (bVal a) := by
  intro l σ H Q ρ S env re rs p
  refine ha.bindT re rs p fun x S1 ρ1 H1 v e1 rs1 rx re1 p1 => ?_
  cases rx with
  | bl b => exact ⟨b, rfl, p1 ρ1 H1 Ex.refl rs1⟩
  | _ => exact p1.elim
theorem simt_tB {ta : TE} {a : EM} (ha : SimE g E ta a) : SimT g E (tB ta) (bVal a) := by
  intro l σ H Q ρ S env re rs p
  refine ha.bindT re rs p fun x S1 ρ1 H1 v e1 rs1 rx re1 p1 => ?_
  cases rx with
  | bl b => exact ⟨b, rfl, p1 ρ1 H1 Ex.refl rs1⟩
  | _ => exact p1.elim
theorem simt_and {ta tb : TT} {a b : BM} (ha : SimT g E ta a) (hb : SimT g E tb b) : SimT g E (tAnd ta tb) (bAnd a b) := by
  intro l σ H Q ρ S env re rs p
  refine ha.bind re rs p fun k S1 ρ1 H1 e1 rs1 re1 p1 => ?_
  cases k with
  | true => exact hb l σ H1 Q ρ1 S1 env re1 rs1 p1
  | false => exact p1 ρ1 H1 Ex.refl rs1
theorem simt_or {ta tb : TT} {a b : BM} (ha : SimT g E ta a) (hb : SimT g E tb b) : SimT g E (tOr ta tb) (bOr a b) := by
  intro l σ H Q ρ S env re rs p
  refine ha.bind re rs p fun k S1 ρ1 H1 e1 rs1 re1 p1 => ?_
  cases k with
  | false => exact hb l σ H1 Q ρ1 S1 env re1 rs1 p1
  | true => exact p1 ρ1 H1 Ex.refl rs1
theorem simt_not {ta : TT} {a : BM} (ha : SimT g E ta a) : SimT g E (tNot ta) (bNot a) := by
  intro l σ H Q ρ S env re rs p
  refine ha.bind re rs p fun k S1 ρ1 H1 e1 rs1 re1 p1 => ?_
  exact p1 ρ1 H1 Ex.refl rs1
theorem simt_yes : SimT g E tYes bYes := fun l σ H Q ρ S env re rs p => p ρ H Ex.refl rs
theorem sim_and {ta tb : TE} {a b : EM} (ha : SimE g E ta a) (hb : SimE g E tb b) : SimE g E (tAndV ta tb) (mAndV a b) := by
  intro l σ H Q ρ S env re rs p
  refine ha.bind re rs p fun x S1 ρ1 H1 v e1 rs1 rx re1 p1 => ?_
  cases rx with
  | bl k =>
    refine ⟨k, rfl, ?_⟩
    cases k with
    | true => exact hb l σ H1 Q ρ1 S1 env re1 rs1 p1
    | false => exact p1 ρ1 H1 _ Ex.refl rs1 (.bl false)
  | _ => exact p1.elim
theorem sim_or {ta tb : TE} {a b : EM} (ha : SimE g E ta a) (hb : SimE g E tb b) : SimE g E (tOrV ta tb) (mOrV a b) := by
  intro l σ H Q ρ S env re rs p
  refine ha.bind re rs p fun x S1 ρ1 H1 v e1 rs1 rx re1 p1 => ?_
  cases rx with
  | bl k =>
    refine ⟨k, rfl, ?_⟩
    cases k with
    | false => exact hb l σ H1 Q ρ1 S1 env re1 rs1 p1
    | true => exact p1 ρ1 H1 _ Ex.refl rs1 (.bl true)
  | _ => exact p1.elim
theorem sim_not {ta : TE} {a : EM} (ha : SimE g E ta a) : SimE g E (tNotV ta) (mNotV a) := by
  intro l σ H Q ρ S env re rs p
  refine ha.bind re rs p fun x S1 ρ1 H1 v e1 rs1 rx re1 p1 => ?_
  cases rx with
  | bl k => exact ⟨k, rfl, p1 ρ1 H1 _ Ex.refl rs1 (.bl _)⟩
  | _ => exact p1.elim
/-! statements -/
theorem sims_next : SimS g E tNext sNext := fun l D' σ H ρ S env re rs p => p ρ H σ Ex.refl rs re
theorem sims_brk : SimS g E tBreak sBrk := fun l D' σ H ρ S env re rs p => p ρ H σ Ex.refl rs re
theorem sims_cont : SimS g E tCont sCont := fun l D' σ H ρ S env re rs p => p ρ H σ Ex.refl rs re
theorem sims_never {t : TS} : SimS g E t sNever := fun l D' σ H ρ S env re rs p => p.elim
theorem PN.of {ρ : List Addr} {H : Hp} {env' : En} {S' : Store} {P : L2.St → Hp → Prop} (h : ∀ ρ' H' σ', Ex ρ H ρ' H' → RS g ρ' S' H' → RE g ρ' H' σ' env' → P σ' H') : PN g ρ H P env' S' := h
theorem sims_seq {t u : TS} {a b : SM} (ha : SimS g E t a) (hb : SimS g E u b) : SimS g E (tSeq t u) (sSeq a b) := by
  intro l D' σ H ρ S env re rs p
  refine ha l { D' with nx := u D' } σ H ρ S env re rs ?_
  unfold sSeq at p
  cases e : a env S with
  | next env1 S1 =>
    rw [e] at p
    exact fun ρ1 H1 σ1 e1 rs1 re1 => hb l D' σ1 H1 ρ1 S1 env1 re1 rs1 (PostS.ex p e1)
  | ret d S1 => rw [e] at p; exact p
  | brk env1 S1 => rw [e] at p; exact p
  | cont env1 S1 => rw [e] at p; exact p
  | err x S1 => rw [e] at p; exact p
  | stuck => rw [e] at p; exact p
theorem sims_ret {ta : TE} {a : EM} (ha : SimE g E ta a) : SimS g E (tRet ta) (sRet a) := by
  intro l D' σ H ρ S env re rs p
  exact ha.bindS re rs p fun d S1 ρ1 H1 v e1 rs1 rx re1 p1 => p1 ρ1 H1 v Ex.refl rs1 rx
theorem sims_retN : SimS g E tRetN sRetN := fun l D' σ H ρ S env re rs p => p ρ H _ Ex.refl rs .non
theorem sims_drop {ta : TE} {a : EM} (ha : SimE g E ta a) : SimS g E (tDrop ta) (sDrop a) := by
  intro l D' σ H ρ S env re rs p
  exact ha.bindS re rs p fun d S1 ρ1 H1 v e1 rs1 rx re1 p1 => p1 ρ1 H1 σ Ex.refl rs1 re1
theorem sims_if {tc : TT} {t u : TS} {c : BM} {a b : SM} (hc : SimT g E tc c) (ha : SimS g E t a) (hb : SimS g E u b) : SimS g E (tIfS tc t u) (sIf c a b) := by
  intro l D' σ H ρ S env re rs p
  refine hc.bindS re rs p fun k S1 ρ1 H1 e1 rs1 re1 p1 => ?_
  cases k with
  | true => exact ha l D' σ H1 ρ1 S1 env re1 rs1 p1
  | false => exact hb l D' σ H1 ρ1 S1 env re1 rs1 p1
/-! targets -/
def PostG (g : G) (E : XK) (ρ : List Addr) (H : Hp) (Q : L2.St → Hp → Prop) : Res En → Prop
  | .ok env' S' => PN g ρ H Q env' S'
  | .err x S' => PX g E ρ H x S'
  | .stuck => False
def SimG (g : G) (E : XK) (t : TG) (m : GM) : Prop := ∀ l v σ H Q ρ S env d, RD (g.hide l) ρ H v d → RE (g.hide l) ρ H σ env → RS (g.hide l) ρ S H → PostG (g.hide l) E ρ H Q (m d env S) → t v σ H Q
def SimGs (g : G) (E : XK) (t : TGs) (m : List D → En → Store → Res En) : Prop := ∀ l vs σ H Q ρ S env ds, RDs (g.hide l) ρ H vs ds → RE (g.hide l) ρ H σ env → RS (g.hide l) ρ S H → PostG (g.hide l) E ρ H Q (m ds env S) → t vs σ H Q
theorem simg_name (i : Nat) : SimG g E (gName i) (gmName i) := fun l v σ H Q ρ S env d rv re rs p => p ρ H _ Ex.refl rs (re.set rv i)
theorem simg_nil : SimGs g E gNil gmNil := by
  intro l vs σ H Q ρ S env ds rv re rs p
  cases rv with
  | nil => exact ⟨rfl, p ρ H σ Ex.refl rs re⟩
  | cons h t => exact p.elim
theorem PostG.ex {ρ ρ1 : List Addr} {H H1 : Hp} {Q : L2.St → Hp → Prop} {r : Res En} (p : PostG g E ρ H Q r) (e : Ex ρ H ρ1 H1) : PostG g E ρ1 H1 Q r := by
  cases r with
  | ok d S' => exact PN.ex p e
  | err x S' => exact PX.ex p e
  | stuck => exact p
theorem simg_cons {t : TG} {u : TGs} {a : GM} {b : List D → En → Store → Res En} (ha : SimG g E t a) (hb : SimGs g E u b) : SimGs g E (gCons t u) (gmCons a b) := by
  intro l vs σ H Q ρ S env ds rv re rs p
  cases rv with
  | nil => exact p.elim
  | @cons v d vs' ds' h r =>
    refine ⟨v, vs', rfl, ?_⟩
    refine ha l v σ H _ ρ S env d h re rs ?_
    have p' : PostG (g.hide l) E ρ H Q ((a d env S).bind fun env' S' => b ds' env' S') := p
    cases e : a d env S with
    | ok env1 S1 => rw [e] at p'; exact fun ρ1 H1 σ1 e1 rs1 re1 => hb l vs' σ1 H1 Q ρ1 S1 env1 ds' (r.mono e1) re1 rs1 (PostG.ex p' e1)
    | err x S1 => rw [e] at p'; exact p'
    | stuck => rw [e] at p'; exact p'
theorem simg_tup {K : PySem.W.Frag} {n : Nat} {t : TGs} {a : List D → En → Store → Res En} (ha : SimGs g E t a) : SimG g E (gTup K n t) (gmTup n a) := by
  intro l v σ H Q ρ S env d rv re rs p
  cases rv with
  | @tup ad vs ds h hn r =>
    unfold gmTup at p
    by_cases hl : ds.length = n
    · simp only [if_pos hl] at p
      exact ⟨ad, vs, rfl, SqT.of h, by rw [r.length]; exact hl, ha l vs σ H Q ρ S env ds r re rs p⟩
    · simp only [if_neg hl] at p; exact p.elim
  | _ => exact p.elim
def SetSim (g₀ : G) (t : TSet) (f : D → D → D → Store → Option Store) : Prop := ∀ l o i v H Q ρ S d1 d2 d3 S', RD (g₀.hide l) ρ H o d1 → RD (g₀.hide l) ρ H i d2 → RD (g₀.hide l) ρ H v d3 → RS (g₀.hide l) ρ S H → f d1 d2 d3 S = some S' →
  (∀ ρ' H', Ex ρ H ρ' H' → RS (g₀.hide l) ρ' S' H' → Q H') → t o i v H Q
theorem simg_sub {to ti : TE} {t : TSet} {o i : EM} {f : D → D → D → Store → Option Store} (ho : SimE g E to o) (hi : SimE g E ti i) (hf : SetSim g t f) : SimG g E (gSub to ti t) (gmSub o i f) := by
  intro l v σ H Q ρ S env d rv re rs p
  unfold gmSub at p
  refine ho l σ H _ ρ S env re rs ?_
  cases e : o env S with
  | ok d1 S1 =>
    rw [e] at p
    refine fun ρ1 H1 v1 e1 rs1 r1 => ?_
    have p1 := PostG.ex p e1
    simp only [Res.bind] at p1
    refine hi l σ H1 _ ρ1 S1 env (re.mono e1) rs1 ?_
    cases e' : i env S1 with
    | ok d2 S2 =>
      rw [e'] at p1
      refine fun ρ2 H2 v2 e2 rs2 r2 => ?_
      have p2 := PostG.ex p1 e2
      simp only [Res.bind] at p2
      cases e3 : f d1 d2 d S2 with
      | some S3 =>
        rw [e3] at p2
        exact hf l v1 v2 v H2 _ ρ2 S2 d1 d2 d S3 (r1.mono e2) r2 (rv.mono (e1.trans e2)) rs2 e3 fun ρ3 H3 e4 rs3 => p2 ρ3 H3 σ e4 rs3 (re.mono ((e1.trans e2).trans e4))
      | none => rw [e3] at p2; exact p2.elim
    | err x S2 => rw [e'] at p1; exact p1
    | stuck => rw [e'] at p1; exact p1
  | err x S1 => rw [e] at p; exact p
  | stuck => rw [e] at p; exact p
theorem sims_asg {te : TE} {t : TG} {a : EM} {m : GM} (ha : SimE g E te a) (hg : SimG g E t m) : SimS g E (tAsg te t) (sAsg a m) := by
  intro l D' σ H ρ S env re rs p
  refine ha.bindS re rs p fun d S1 ρ1 H1 v e1 rs1 rx re1 p1 => ?_
  refine hg l v σ H1 _ ρ1 S1 env d rx re1 rs1 ?_
  cases e : m d env S1 with
  | ok env' S2 => rw [e] at p1; exact p1
  | err x S2 => rw [e] at p1; exact p1
  | stuck => rw [e] at p1; exact p1
end
end Lg

namespace Lg
open PySem L2

/-- an iterator that gives these things, whatever is done beside it -/
def WalkD (g : G) (ρ : List Addr) (H : Hp) (J : It) (ds : List D) : Prop := ∃ (G' : Hp → Prop) (Y : Nat → Hp → V → Hp → Prop), Walk J ds.length G' Y ∧ (∀ ρ' H', Ex ρ H ρ' H' → G' H') ∧
  ∀ i ρ' H' x H'' S, i < ds.length → Ex ρ H ρ' H' → RS g ρ' S H' → Y i H' x H'' → ∃ d, ds[i]? = some d ∧ Ex ρ' H' ρ' H'' ∧ RS g ρ' S H'' ∧ RD g ρ' H'' x d ∧ ∀ p o, H' p = some o → H'' p = some o
def SimI (g : G) (E : XK) (wi : TI) (m : IM) : Prop := ∀ l σ H R ρ S env, RE (g.hide l) ρ H σ env → RS (g.hide l) ρ S H →
  (match m env S with
   | .ok ds S' => ∀ ρ' H' J, Ex ρ H ρ' H' → RS (g.hide l) ρ' S' H' → (∀ l', (∀ a, a ∈ l' → a ∈ l ∨ H' a = none) → WalkD (g.hide l') ρ' H' J ds) → R J H'
   | .err x S' => PX (g.hide l) E ρ H x S'
   | .stuck => False) → wi σ H R

theorem drop_at {α : Type} {ds : List α} {i : Nat} {d : α} (h : ds[i]? = some d) : ds.drop i = d :: ds.drop (i + 1) := by
  obtain ⟨hi, e⟩ := List.getElem?_eq_some_iff.mp h
  rw [List.drop_eq_getElem_cons hi, e]

section
variable {g : G} {E : XK}
theorem sims_for {wi : TI} {gt : TG} {tb : TS} {it : IM} {gm : GM} {bm : SM} (hi : SimI g E wi it) (hg : SimG g E gt gm) (hb : SimS g E tb bm) : SimS g E (tFor wi gt tb) (sForI it gm bm) := by
  intro l D' σ H ρ S env re rs p
  refine hi l σ H _ ρ S env re rs ?_
  unfold sForI at p
  cases e : it env S with
  | err x S' => rw [e] at p; exact p
  | stuck => rw [e] at p; exact p
  | ok ds S1 =>
    rw [e] at p
    simp only [Res.bindS] at p
    intro ρ1 H1 J e1 rs1 wd0
    obtain ⟨G', Y, w, wg, wy⟩ := wd0 l fun a h => .inl h
    refine for_it w (fun i σ' H' => ∃ ρ' S' env', Ex ρ1 H1 ρ' H' ∧ RS (g.hide l) ρ' S' H' ∧ RE (g.hide l) ρ' H' σ' env' ∧ PostS (g.hide l) E ρ' H' D' (sFor gm bm (ds.drop i) env' S')) ?_ ?_ ?_ ?_
    · exact ⟨ρ1, S1, env, Ex.refl, rs1, re.mono e1, by simpa using PostS.ex p e1⟩
    · rintro i σ' H' _ ⟨ρ', S', env', e2, _⟩
      exact wg ρ' H' e2
    · rintro i x σ' H' H'' hi' ⟨ρ', S', env', e2, rs2, re2, p2⟩ y
      obtain ⟨d, hd, e3, rs3, rx, _⟩ := wy i ρ' H' x H'' S' hi' e2 rs2 y
      rw [drop_at hd] at p2
      refine hg l x σ' H'' _ ρ' S' env' d rx (re2.mono e3) rs3 ?_
      have p3 := PostS.ex p2 e3
      have p3' : PostS (g.hide l) E ρ' H'' D' ((gm d env' S').bindS fun env1 S1 => match bm env1 S1 with
        | .next env2 S2 => sFor gm bm (ds.drop (i + 1)) env2 S2
        | .cont env2 S2 => sFor gm bm (ds.drop (i + 1)) env2 S2
        | .brk env2 S2 => .next env2 S2
        | q => q) := p3
      cases eg : gm d env' S' with
      | err x S' => rw [eg] at p3'; exact p3'
      | stuck => rw [eg] at p3'; exact p3'
      | ok env1 S2 =>
        rw [eg] at p3'
        simp only [Res.bindS] at p3'
        intro ρ4 H4 σ4 e4 rs4 re4
        refine hb l _ σ4 H4 ρ4 S2 env1 re4 rs4 ?_
        have p4 := PostS.ex p3' e4
        have e14 := (e2.trans e3).trans e4
        cases eb : bm env1 S2 with
        | next env2 S3 => rw [eb] at p4; exact fun ρ5 H5 σ5 e5 rs5 re5 => ⟨ρ5, S3, env2, e14.trans e5, rs5, re5, PostS.ex p4 e5⟩
        | cont env2 S3 => rw [eb] at p4; exact fun ρ5 H5 σ5 e5 rs5 re5 => ⟨ρ5, S3, env2, e14.trans e5, rs5, re5, PostS.ex p4 e5⟩
        | brk env2 S3 => rw [eb] at p4; exact p4
        | ret d S3 => rw [eb] at p4; exact p4
        | err x S3 => rw [eb] at p4; exact p4
        | stuck => rw [eb] at p4; exact p4
    · rintro σ' H' ⟨ρ', S', env', e2, rs2, re2, p2⟩
      rw [List.drop_length] at p2
      exact p2 ρ' H' σ' Ex.refl rs2 re2
theorem sims_while {tc : TT} {tb : TS} {cm : BM} {bm : SM} (n : Nat) (hc : SimT g E tc cm) (hb : SimS g E tb bm) : SimS g E (tWhile tc tb) (sWhile cm bm n) := by
  intro l D' σ H ρ S env re rs p
  refine ⟨fun m σ' H' => ∃ ρ' S' env', RS (g.hide l) ρ' S' H' ∧ RE (g.hide l) ρ' H' σ' env' ∧ PostS (g.hide l) E ρ' H' D' (sWhile cm bm m env' S'), ⟨n, ρ, S, env, rs, re, p⟩, ?_⟩
  rintro m σ1 H1 ⟨ρ1, S1, env1, rs1, re1, p1⟩
  cases m with
  | zero => exact p1.elim
  | succ m =>
    have p1' : PostS (g.hide l) E ρ1 H1 D' ((cm env1 S1).bindS fun k S1 => if k = true then
      match bm env1 S1 with
      | .next env2 S2 => sWhile cm bm m env2 S2
      | .cont env2 S2 => sWhile cm bm m env2 S2
      | .brk env2 S2 => .next env2 S2
      | q => q
    else .next env1 S1) := p1
    refine hc.bindS re1 rs1 p1' fun k S2 ρ2 H2 e2 rs2 re2 p2 => ?_
    cases k with
    | false => exact p2 ρ2 H2 σ1 Ex.refl rs2 re2
    | true =>
      simp only [if_true] at p2 ⊢
      refine ⟨fun σ' H' => ∃ ρ' S' env', RS (g.hide l) ρ' S' H' ∧ RE (g.hide l) ρ' H' σ' env' ∧ PostS (g.hide l) E ρ' H' D' (sWhile cm bm m env' S'), fun σ' H' q => ⟨m, Nat.lt_succ_self m, q⟩, ?_⟩
      refine hb l _ σ1 H2 ρ2 S2 env1 re2 rs2 ?_
      cases eb : bm env1 S2 with
      | next env2 S3 => rw [eb] at p2; exact fun ρ5 H5 σ5 e5 rs5 re5 => ⟨ρ5, S3, env2, rs5, re5, PostS.ex p2 e5⟩
      | cont env2 S3 => rw [eb] at p2; exact fun ρ5 H5 σ5 e5 rs5 re5 => ⟨ρ5, S3, env2, rs5, re5, PostS.ex p2 e5⟩
      | brk env2 S3 => rw [eb] at p2; exact p2
      | ret d S3 => rw [eb] at p2; exact p2
      | err x S3 => rw [eb] at p2; exact p2
      | stuck => rw [eb] at p2; exact p2
/-- no error leaves -/
theorem px0 {ρ : List Addr} {H : Hp} {x : Exc} {S' : Store} {l : List Addr} (h : False) : PX (g.hide l) E0 ρ H x S' := h.elim

/-- the comprehension's turns: Dl is the new list, hidden meanwhile -/
theorem lc_turns {wi : TI} {gt : TG} {tt : TT} {te : TE} {it : IM} {gm : GM} {tm : BM} {em : EM} {vs : List Nat} (hi : SimI g E wi it) (hg : SimG g E0 gt gm) (ht : SimT g E0 tt tm) (he : SimE g E0 te em)
    (hws : ∀ v σ H Q, gt v σ H Q → gt v σ H fun σ2 H2 => L2.wipe σ2 vs = L2.wipe σ vs ∧ Q σ2 H2)
    {l : List Addr} {σ : L2.St} {H : Hp} {Q : VK} {ρ : List Addr} {S : Store} {env : En} {f : List D → Store → Res D} (hwi : L2.wipe (L2.wipe σ vs) vs = L2.wipe σ vs) (re : RE (g.hide l) ρ H σ env) (rs : RS (g.hide l) ρ S H)
    (p : PostE (g.hide l) E ρ H Q ((it env S).bind fun ds S1 => (mLcGo gm tm em (wipeE env vs) ds [] S1).bind f))
    (k : ∀ Dl xs ws S2 ρ2 H2, Ex ρ H ρ2 H2 → RS (g.hide (Dl :: l)) ρ2 S2 H2 → Dl ∉ l → H2 Dl = some (.lst ws) → RDs (g.hide (Dl :: l)) ρ2 H2 ws xs → PostE (g.hide l) E ρ H Q (f xs S2) → H Dl = none → Dl ∉ ρ → Q (.ref Dl) H2) :
    tLc wi gt tt te vs σ H Q := by
  refine hi l σ H _ ρ S env re rs ?_
  cases e : it env S with
  | err x S' => rw [e] at p; exact p
  | stuck => rw [e] at p; exact p
  | ok ds S1 =>
    rw [e] at p
    have p : PostE (g.hide l) E ρ H Q ((mLcGo gm tm em (wipeE env vs) ds [] S1).bind f) := p
    intro ρ1 H1 J e1 rs1 wd0 Dl hD
    have nDl : Dl ∉ l := (rs1.fresh hD).2
    have nDρ1 : Dl ∉ ρ1 := (rs1.fresh hD).1
    have nDρ : Dl ∉ ρ := fun m => by
      obtain ⟨n, hn, en⟩ := List.getElem_of_mem m
      exact nDρ1 (List.mem_of_getElem? (e1.at (show ρ[n]? = some Dl by rw [List.getElem?_eq_getElem hn, en])))
    have hDn : H Dl = none := by
      cases q : H Dl with
      | none => rfl
      | some o => rw [e1.keep Dl o nDρ q] at hD; cases hD
    obtain ⟨G', Y, w, wg, wy⟩ := wd0 (Dl :: l) fun a m => (List.mem_cons.mp m).elim (fun z => .inr (z ▸ hD)) .inl
    refine lc_it w (fun i H' => ∃ ρ' S' acc ws, Ex ρ1 H1 ρ' H' ∧ RS (g.hide (Dl :: l)) ρ' S' H' ∧ H' Dl = some (.lst ws) ∧ RDs (g.hide (Dl :: l)) ρ' H' ws acc ∧
      PostE (g.hide l) E ρ H Q ((mLcGo gm tm em (wipeE env vs) (ds.drop i) acc S').bind f)) ?_ ?_ ?_ ?_
    · exact ⟨ρ1, S1, [], [], Ex.new1 hD, rs1.hide hD, upd_same, .nil, p⟩
    · rintro i H' _ ⟨ρ', S', acc, ws, e2, _⟩
      exact wg ρ' H' e2
    · rintro i x H' H'' hi' ⟨ρ', S', acc, ws, e2, rs2, hDw, racc, p2⟩ y
      obtain ⟨d, hd, e3, rs3, rx, kp⟩ := wy i ρ' H' x H'' S' hi' e2 rs2 y
      rw [drop_at hd] at p2
      have e23 := e2.trans e3
      have re3 : RE (g.hide (Dl :: l)) ρ' H'' (L2.wipe σ vs) (wipeE env vs) := RE.tr (g := g.hide l) (g' := g.hide (Dl :: l)) rfl (fun _ _ h => e23.at h) (ahead_k hD e23) ((re.mono e1).wipe vs)
      have nD' : Dl ∉ ρ' := (rs3.hd Dl List.mem_cons_self).2
      have hDw3 := kp _ _ hDw
      have racc3 := racc.mono e3
      refine hws x _ H'' _ ?_ |> fun z => by rw [hwi] at z; exact z
      refine hg (Dl :: l) x (L2.wipe σ vs) H'' _ ρ' S' (wipeE env vs) d rx re3 rs3 ?_
      have p3 : PostE (g.hide l) E ρ H Q ((match gm d (wipeE env vs) S' with
        | .ok env1 S1 => match tm env1 S1 with
          | .ok true S2 => match em env1 S2 with
            | .ok x S3 => if acc.length < sizeLine then mLcGo gm tm em (wipeE env vs) (ds.drop (i + 1)) (acc ++ [x]) S3 else .stuck
            | _ => .stuck
          | .ok false S2 => mLcGo gm tm em (wipeE env vs) (ds.drop (i + 1)) acc S2
          | _ => .stuck
        | _ => .stuck : Res (List D)).bind f) := p2
      cases eg : gm d (wipeE env vs) S' with
      | err x S' => rw [eg] at p3; exact p3.elim
      | stuck => rw [eg] at p3; exact p3.elim
      | ok env1 S2 =>
        rw [eg] at p3
        dsimp only at p3
        intro ρ4 H4 σ4 e4 rs4 re4
        refine ht (Dl :: l) σ4 H4 _ ρ4 S2 env1 re4 rs4 ?_
        cases et : tm env1 S2 with
        | err x S' => rw [et] at p3; exact p3.elim
        | stuck => rw [et] at p3; exact p3.elim
        | ok b S3 =>
          rw [et] at p3
          intro ρ5 H5 e5 rs5
          have hDw5 := e5.keep _ _ (rs4.hd Dl List.mem_cons_self).2 (e4.keep _ _ nD' hDw3)
          cases b with
          | false =>
            exact ⟨ρ5, S3, acc, ws, (e23.trans e4).trans e5, rs5, hDw5, (racc3.mono e4).mono e5, p3⟩
          | true =>
            dsimp only at p3
            refine he (Dl :: l) σ4 H5 _ ρ5 S3 env1 (re4.mono e5) rs5 ?_
            cases ee : em env1 S3 with
            | err x S' => rw [ee] at p3; exact p3.elim
            | stuck => rw [ee] at p3; exact p3.elim
            | ok z S4 =>
              rw [ee] at p3
              dsimp only at p3
              intro ρ6 H6 v6 e6 rs6 rz
              have hDw6 := e6.keep _ _ (rs5.hd Dl List.mem_cons_self).2 hDw5
              have racc6 := ((racc3.mono e4).mono e5).mono e6
              by_cases hz : acc.length < sizeLine
              · rw [if_pos hz] at p3
                have e16 := ((e23.trans e4).trans e5).trans e6
                refine ⟨ws, hDw6, by rw [racc6.length]; exact hz, ρ6, S4, acc ++ [z], ws ++ [v6], Ex.mut e16 hD, rs6.hidden, upd_same, ?_, p3⟩
                exact (RDs.tr (g := g.hide (Dl :: l)) (g' := g.hide (Dl :: l)) rfl (fun _ _ h => h) hidden_k (racc6.snoc rz))
              · rw [if_neg hz] at p3; exact p3.elim
    · rintro H' ⟨ρ', S', acc, ws, e2, rs2, hDw, racc, p2⟩
      rw [List.drop_length] at p2
      exact k Dl acc ws S' ρ' H' (e1.trans e2) rs2 nDl hDw racc p2 hDn nDρ
end
end Lg

namespace Lg
open PySem L2

/-! ### comprehensions -/
theorem wipe_set (σ : L2.St) (i : Nat) (x : Option V) : ∀ vs : List Nat, L2.wipe (σ.set i x) vs = if i ∈ vs then L2.wipe σ vs else (L2.wipe σ vs).set i x
  | [] => by simp [L2.wipe]
  | v :: vs => by
    show (L2.wipe (σ.set i x) vs).set v none = if i ∈ v :: vs then (L2.wipe σ vs).set v none else ((L2.wipe σ vs).set v none).set i x
    rw [wipe_set σ i x vs]
    by_cases h : i ∈ vs
    · rw [if_pos h, if_pos (List.mem_cons_of_mem _ h)]
    · rw [if_neg h]
      by_cases e : i = v
      · subst e
        rw [if_pos List.mem_cons_self, List.set_set]
      · rw [if_neg (by simp [e, h]), List.set_comm _ _ e]
theorem wipe_wipe (σ : L2.St) : ∀ vs : List Nat, L2.wipe (L2.wipe σ vs) vs = L2.wipe σ vs
  | [] => rfl
  | v :: vs => by
    show (L2.wipe ((L2.wipe σ vs).set v none) vs).set v none = (L2.wipe σ vs).set v none
    rw [wipe_set, wipe_wipe σ vs]
    by_cases h : v ∈ vs
    · rw [if_pos h]
    · rw [if_neg h, List.set_set]
/-- a target whose names are the comprehension's own -/
def Own (vs : List Nat) (t : TG) : Prop := ∀ v σ H Q, t v σ H Q → t v σ H fun σ2 H2 => L2.wipe σ2 vs = L2.wipe σ vs ∧ Q σ2 H2
def Owns (vs : List Nat) (t : TGs) : Prop := ∀ v σ H Q, t v σ H Q → t v σ H fun σ2 H2 => L2.wipe σ2 vs = L2.wipe σ vs ∧ Q σ2 H2
theorem own_name {vs : List Nat} {i : Nat} (h : i ∈ vs) : Own vs (gName i) := fun v σ H Q q => ⟨by rw [wipe_set, if_pos h], q⟩
theorem owns_nil {vs : List Nat} : Owns vs gNil := fun v σ H Q q => ⟨q.1, rfl, q.2⟩
theorem owns_cons {vs : List Nat} {t : TG} {u : TGs} (ht : Own vs t) (mt : ∀ v σ H Q Q', (∀ σ' H', Q σ' H' → Q' σ' H') → t v σ H Q → t v σ H Q') (hu : Owns vs u) (mu : ∀ v σ H Q Q', (∀ σ' H', Q σ' H' → Q' σ' H') → u v σ H Q → u v σ H Q') : Owns vs (gCons t u) := by
  intro v σ H Q q
  obtain ⟨x, r, e, h⟩ := q
  refine ⟨x, r, e, mt _ _ _ _ _ (fun σ' H' z => ?_) (ht _ _ _ _ h)⟩
  obtain ⟨z1, z2⟩ := z
  exact mu _ _ _ _ _ (fun σ2 H2 y => ⟨y.1.trans z1, y.2⟩) (hu _ _ _ _ z2)
theorem own_tup {vs : List Nat} {K : PySem.W.Frag} {n : Nat} {t : TGs} (h : Owns vs t) : Own vs (gTup K n t) := by
  intro v σ H Q q
  obtain ⟨a, xs, e, h1, h2, h3⟩ := q
  exact ⟨a, xs, e, h1, h2, h _ _ _ _ h3⟩
theorem mono_name {i : Nat} : ∀ v σ H (Q Q' : L2.St → Hp → Prop), (∀ σ' H', Q σ' H' → Q' σ' H') → gName i v σ H Q → gName i v σ H Q' := fun _ _ _ _ _ f q => f _ _ q
theorem monos_nil : ∀ v σ H (Q Q' : L2.St → Hp → Prop), (∀ σ' H', Q σ' H' → Q' σ' H') → gNil v σ H Q → gNil v σ H Q' := fun _ _ _ _ _ f q => ⟨q.1, f _ _ q.2⟩
theorem monos_cons {t : TG} {u : TGs} (mt : ∀ v σ H Q Q', (∀ σ' H', Q σ' H' → Q' σ' H') → t v σ H Q → t v σ H Q') (mu : ∀ v σ H Q Q', (∀ σ' H', Q σ' H' → Q' σ' H') → u v σ H Q → u v σ H Q') :
    ∀ v σ H (Q Q' : L2.St → Hp → Prop), (∀ σ' H', Q σ' H' → Q' σ' H') → gCons t u v σ H Q → gCons t u v σ H Q' := by
  intro v σ H Q Q' f q
  obtain ⟨x, r, e, h⟩ := q
  exact ⟨x, r, e, mt _ _ _ _ _ (fun σ' H' z => mu _ _ _ _ _ f z) h⟩
theorem mono_tup {K : PySem.W.Frag} {n : Nat} {t : TGs} (mt : ∀ v σ H Q Q', (∀ σ' H', Q σ' H' → Q' σ' H') → t v σ H Q → t v σ H Q') :
    ∀ v σ H (Q Q' : L2.St → Hp → Prop), (∀ σ' H', Q σ' H' → Q' σ' H') → gTup K n t v σ H Q → gTup K n t v σ H Q' := by
  intro v σ H Q Q' f q
  obtain ⟨a, xs, e, h1, h2, h3⟩ := q
  exact ⟨a, xs, e, h1, h2, mt _ _ _ _ _ f h3⟩
section
variable {g : G} {E : XK}
/-- the new list is nobody's to change -/
theorem sim_lc {wi : TI} {gt : TG} {tt : TT} {te : TE} {it : IM} {gm : GM} {tm : BM} {em : EM} {vs : List Nat} (hi : SimI g E wi it) (hg : SimG g E0 gt gm) (ho : Own vs gt) (ht : SimT g E0 tt tm) (he : SimE g E0 te em) :
    SimE g E (tLc wi gt tt te vs) (mLc it gm tm em vs) := by
  intro l σ H Q ρ S env re rs p
  refine lc_turns hi hg ht he ho (wipe_wipe σ vs) re rs (f := fun xs S2 => .ok (.lst xs) S2) p fun Dl xs ws S2 ρ2 H2 e rs2 hl hD rx p2 hn nρ => ?_
  have nD : Dl ∉ ρ2 := (rs2.hd Dl List.mem_cons_self).2
  refine p2 ρ2 H2 _ e (rs2.unhide hl fun _ _ => rfl) (.lst hD ⟨nD, hl⟩ ?_)
  exact RDs.tr (g := g.hide (Dl :: l)) (g' := g.hide l) rfl (fun _ _ h => h) (show_k fun _ _ => rfl) rx
theorem sim_lcL {wi : TI} {gt : TG} {tt : TT} {te : TE} {it : IM} {gm : GM} {tm : BM} {em : EM} {vs : List Nat} (hi : SimI g E wi it) (hg : SimG g E0 gt gm) (ho : Own vs gt) (ht : SimT g E0 tt tm) (he : SimE g E0 te em) :
    SimE g E (tLc wi gt tt te vs) (mLcL it gm tm em vs) := by
  intro l σ H Q ρ S env re rs p
  refine lc_turns hi hg ht he ho (wipe_wipe σ vs) re rs (f := fun xs S2 => .ok (.loc S2.length) (S2 ++ [Ob.lst xs])) p fun Dl xs ws S2 ρ2 H2 e rs2 hl hD rx p2 hn nρ => ?_
  have nD : Dl ∉ ρ2 := (rs2.hd Dl List.mem_cons_self).2
  let H3 : Hp := fun a => if a = Dl then none else H2 a
  have k3 : ∀ a, a ≠ Dl → H3 a = H2 a := fun a h => if_neg h
  have rs3 : RS (g.hide l) ρ2 S2 H3 := rs2.unhide hl k3
  have hD3 : H3 Dl = none := if_pos rfl
  have e3 : Ex ρ H ρ2 H3 := ⟨e.new, fun a o n h => by rw [k3 a (ne_of_none h hn)]; exact e.keep a o n h⟩
  have u3 : upd H3 Dl (.lst ws) = H2 := by
    funext a
    by_cases h : a = Dl
    · rw [h, upd_same, hD]
    · rw [upd_ne h, k3 a h]
  have rx3 : RDs (g.hide l) ρ2 H3 ws xs := RDs.tr (g := g.hide (Dl :: l)) (g' := g.hide l) rfl (fun _ _ h => h) (show_k k3) rx
  obtain ⟨e4, rs4⟩ := rs3.push (o := .lst ws) (ob := .lst xs) hD3 fun ρ' H' e' q => ⟨ws, q, rx3.mono e'⟩
  rw [u3] at e4 rs4
  exact p2 _ H2 _ (e3.trans e4) rs4 (.loc (by rw [← rs2.len]; simp))
end

/-! ### defs -/
def startE (n : Nat) (ds : List D) : En := ds.map some ++ List.replicate (n - ds.length) none
def mDef (n np : Nat) (m : SM) (ds : List D) (S : Store) : Res D := if ds.length = np then
    match m (startE n ds) S with
    | .ret d S' => .ok d S'
    | .next _ S' => .ok .non S'
    | .err x S' => .err x S'
    | _ => .stuck
  else .stuck
/-- the promise of a def that goes as f -/
def spOf (g : G) (n : Nat) (f : List D → Store → Res D) : Sp := fun vs H Q E => ∃ l ρ S ds, vs.length = n ∧ RDs (g.hide l) ρ H vs ds ∧ RS (g.hide l) ρ S H ∧ PostE (g.hide l) E ρ H Q (f ds S)
section
variable {g : G} {ρ : List Addr} {H : Hp}
theorem re_none (k : Nat) : RE g ρ H (List.replicate k none) (List.replicate k none) := by
  induction k with
  | zero => exact .nil
  | succ k ih => exact .cons (fun x q => by cases q) ih
theorem re_app : ∀ {σ σ' : L2.St} {e e' : En}, RE g ρ H σ e → RE g ρ H σ' e' → RE g ρ H (σ ++ σ') (e ++ e')
  | _, _, _, _, .nil, s => s
  | _, _, _, _, .cons h t, s => .cons h (re_app t s)
theorem re_some : ∀ {vs : List V} {ds : List D}, RDs g ρ H vs ds → RE g ρ H (vs.map some) (ds.map some)
  | _, _, .nil => .nil
  | _, _, .cons h t => .cons (fun x q => by cases q; exact ⟨_, rfl, h⟩) (re_some t)
theorem re_start {N : List PySem.Str} {vs : List V} {ds : List D} (r : RDs g ρ H vs ds) : RE g ρ H (L2.start N vs) (startE N.length ds) := by
  unfold L2.start startE
  rw [r.length]
  exact re_app (re_some r) (re_none _)
end
section
variable {P : Program} {w : World} {K : PySem.W.Frag} {mg : PySem.Str → Option Value} {base : Heap} {g : G}
/-- THE RULE for a def -/
theorem fn_sim {x qual : PySem.Str} {st : Stmt} {f : Addr} {fd : FuncData} {N ps : List PySem.Str} {k : Nat} {m : SM} (F : Fun K x qual st f fd) (Sc : FnScope N ps (defScope st))
    (hb : ∀ (cdv : Value) (A : Around) (outer : List Env) (s : Shared) (H : Hp) (E : XK), Room k (A.deeper (PyProof.Rows.envOfC qual (defScope st) s.heap.objs.size f cdv)) →
      ∃ t, PSs (cxOf (L2.CX P w) P w K mg base N qual (defScope st) f cdv A outer s H E) (defBody st) t ∧ SimS g E t m) :
    FnOk P w K mg base (L2.CX P w) (k + 1) f fd ps (spOf g ps.length (mDef N.length ps.length m)) := by
  refine F.okX Sc (fun vs H Q E h => ?_) (fun cdv A outer s H vs Q E hr h => ?_)
  · obtain ⟨l, ρ, S, ds, hl, _⟩ := h
    exact hl
  · obtain ⟨l, ρ, S, ds, hl, rd, rs, p⟩ := h
    obtain ⟨t, ht, hs⟩ := hb cdv A outer s H E hr
    refine ⟨t, ht, hs l _ _ H ρ S (startE N.length ds) (re_start rd) rs ?_⟩
    unfold mDef at p
    rw [if_pos (by rw [← rd.length]; exact hl)] at p
    cases e : m (startE N.length ds) S with
    | ret d S' => rw [e] at p; exact p
    | next env' S' => rw [e] at p; exact fun ρ' H' σ' e1 rs1 re1 => p ρ' H' .non e1 rs1 .non
    | err x S' => rw [e] at p; exact p
    | brk env' S' => rw [e] at p; exact p.elim
    | cont env' S' => rw [e] at p; exact p.elim
    | stuck => rw [e] at p; exact p.elim
end
theorem mDef_len {n np : Nat} {m : SM} {ds : List D} {S : Store} (h : ds.length ≠ np) : mDef n np m ds S = .stuck := by
  unfold mDef; rw [if_neg h]
/-- what goes only with n things -/
def Ar (n : Nat) (f : List D → Store → Res D) : Prop := ∀ ds S, ds.length ≠ n → f ds S = .stuck
theorem ar_def {n np : Nat} {m : SM} : Ar np (mDef n np m) := fun _ _ h => mDef_len h
section
variable {g : G} {E : XK}
theorem sp_go {n : Nat} {f : List D → Store → Res D} (ha : Ar n f) {l : List Addr} {ρ : List Addr} {S : Store} {H : Hp} {Q : VK} {vs : List V} {ds : List D} (r : RDs (g.hide l) ρ H vs ds) (rs : RS (g.hide l) ρ S H) (p : PostE (g.hide l) E ρ H Q (f ds S)) : spOf g n f vs H Q E := by
  refine ⟨l, ρ, S, ds, ?_, r, rs, p⟩
  by_cases h : ds.length = n
  · rw [r.length]; exact h
  · rw [ha ds S h] at p; exact p.elim
theorem sim_call {n : Nat} {f : List D → Store → Res D} {ta : TA} {a : AM} (hf : Ar n f) (ha : SimA g E ta a) : SimE g E (tCall (spOf g n f) [] E ta) (mCall f a) := by
  intro l σ H Q ρ S env re rs p
  refine ha.bind re rs p fun ds S1 ρ1 H1 vs e1 rs1 rx re1 p1 => ?_
  show spOf g n f (vs ++ []) H1 Q E
  rw [List.append_nil]
  exact sp_go hf rx rs1 p1
/-- with defaults -/
def mCallD (f : List D → Store → Res D) (dd : List D) (a : AM) : EM := fun env S => (a env S).bind fun ds S1 => f (ds ++ dd) S1
theorem sim_callD {n : Nat} {f : List D → Store → Res D} {ta : TA} {a : AM} {dvs : List V} {dd : List D} (hf : Ar n f) (hd : ∀ l ρ H, RDs (g.hide l) ρ H dvs dd) (ha : SimA g E ta a) : SimE g E (tCall (spOf g n f) dvs E ta) (mCallD f dd a) := by
  intro l σ H Q ρ S env re rs p
  exact ha.bind re rs p fun ds S1 ρ1 H1 vs e1 rs1 rx re1 p1 => sp_go hf (rx.append (hd l ρ1 H1)) rs1 p1

/-! ### objects -/
def lookF (f : PySem.Str) (fs : List (PySem.Str × D)) : Option D := fs.lookup f
/-- the object of the class c at d: its fields -/
def insAt (c : Nat) (d : D) (S : Store) : Option (List (PySem.Str × D)) := match d with
  | .loc n => match S[n]? with
    | some (.ins c' fs) => if c' = c then some fs else none
    | _ => none
  | _ => none
def mFld (c : Nat) (f : PySem.Str) (a : EM) : EM := fun env S => (a env S).bind fun d S1 => match insAt c d S1 with
  | some fs => match fs.lookup f with
    | some x => .ok x S1
    | none => .stuck
  | none => .stuck
def mMeth (c : Nat) (m : PySem.Str) (f : List D → Store → Res D) (dd : List D) (a : EM) (as : AM) : EM := fun env S => (a env S).bind fun d S1 => match insAt c d S1 with
  | some fs => match fs.lookup m with
    | none => (as env S1).bind fun ds S2 => f (d :: (ds ++ dd)) S2
    | some _ => .stuck
  | none => .stuck
def mMake (c : Nat) (f : List D → Store → Res D) (dd : List D) (as : AM) : EM := fun env S => (as env S).bind fun ds S1 => (f (.loc S1.length :: (ds ++ dd)) (S1 ++ [.ins c []])).bind fun v S2 => match v with
  | .non => .ok (.loc S1.length) S2
  | _ => .stuck
def putD (f : PySem.Str) (v : D) : List (PySem.Str × D) → List (PySem.Str × D)
  | [] => [(f, v)]
  | (h, x) :: r => if h = f then (h, v) :: r else (h, x) :: putD f v r
def sFldM (c : Nat) (f : PySem.Str) (o a : EM) : SM := fun env S => (a env S).bindS fun y S1 => (o env S1).bindS fun d S2 => match d with
  | .loc n => match S2[n]? with
    | some (.ins c' fs) => if c' = c ∧ fs.length < 1000 then .next env (S2.set n (.ins c (putD f y fs))) else .stuck
    | _ => .stuck
  | _ => .stuck
theorem RKV.lookup {ρ : List Addr} {H : Hp} {f : PySem.Str} : ∀ {xs : List (PySem.Str × V)} {ys : List (PySem.Str × D)}, RKV g ρ H xs ys → (∀ d, ys.lookup f = some d → ∃ v, xs.lookup f = some v ∧ RD g ρ H v d) ∧ (ys.lookup f = none → xs.lookup f = none)
  | _, _, .nil => ⟨fun d h => (nomatch h), fun _ => rfl⟩
  | (k1, v1) :: xs, (k2, d2) :: ys, .cons h t => by
    obtain ⟨e, r⟩ := h
    have e : k1 = k2 := e
    subst e
    have ih := RKV.lookup (f := f) t
    by_cases q : f = k1
    · subst q
      refine ⟨fun d h => ?_, fun h => ?_⟩
      · simp [List.lookup_cons_self] at h ⊢
        subst h; exact r
      · simp [List.lookup_cons_self] at h
    · have q' : (f == k1) = false := by simpa using q
      simp only [List.lookup_cons, q']
      exact ih
theorem RKV.length {κ : Type} {ρ : List Addr} {H : Hp} {xs : List (κ × V)} {ys : List (κ × D)} (r : RKV g ρ H xs ys) : xs.length = ys.length := Paired.length r
theorem RKV.putF {ρ : List Addr} {H : Hp} {f : PySem.Str} {v : V} {d : D} (rv : RD g ρ H v d) : ∀ {xs : List (PySem.Str × V)} {ys : List (PySem.Str × D)}, RKV g ρ H xs ys → RKV g ρ H (L2.putF f v xs) (putD f d ys)
  | _, _, .nil => .cons ⟨rfl, rv⟩ .nil
  | (k1, v1) :: xs, (k2, d2) :: ys, .cons h t => by
    obtain ⟨e, r⟩ := h
    have e : k1 = k2 := e
    subst e
    show RKV g ρ H (if k1 = f then (k1, v) :: xs else (k1, v1) :: L2.putF f v xs) (if k1 = f then (k1, d) :: ys else (k1, d2) :: putD f d ys)
    by_cases q : k1 = f
    · rw [if_pos q, if_pos q]; exact .cons ⟨rfl, rv⟩ t
    · rw [if_neg q, if_neg q]; exact .cons ⟨rfl, r⟩ (RKV.putF rv t)
theorem ins_at {l : List Addr} {ρ : List Addr} {S : Store} {H : Hp} {c : Nat} {v : V} {d : D} {fs : List (PySem.Str × D)} (rs : RS (g.hide l) ρ S H) (r : RD (g.hide l) ρ H v d) (h : insAt c d S = some fs) : ∃ n a dx fv, d = .loc n ∧ ρ[n]? = some a ∧ v = .ref a ∧ S[n]? = some (.ins c fs) ∧ H a = some (.ins (g.cls c) dx fv) ∧ RKV (g.hide l) ρ H fv fs := by
  cases r with
  | @loc n a hn =>
    unfold insAt at h
    dsimp only at h
    cases e : S[n]? with
    | none => rw [e] at h; cases h
    | some ob =>
      rw [e] at h
      cases ob with
      | ins c' fs' =>
        dsimp only at h
        by_cases q : c' = c
        · subst q
          rw [if_pos rfl] at h; cases h
          obtain ⟨dx, fv, h1, h2⟩ := rs.ob n a _ hn e
          exact ⟨n, a, dx, fv, rfl, hn, rfl, e, h1, h2⟩
        · rw [if_neg q] at h; cases h
      | _ => cases h
  | _ => cases h
theorem sim_fld {c : Nat} {f : PySem.Str} {K : PySem.W.Frag} {ta : TE} {a : EM} (cl : Cls K (g.cls c)) (na : NoAttr K (g.cls c) f) (ha : SimE g E ta a) : SimE g E (tFld K ta f) (mFld c f a) := by
  intro l σ H Q ρ S env re rs p
  refine ha.bind re rs p fun d S1 ρ1 H1 v e1 rs1 rx re1 p1 => ?_
  cases hI : insAt c d S1 with
  | none => rw [hI] at p1; exact p1.elim
  | some fs =>
    rw [hI] at p1
    dsimp only at p1
    obtain ⟨n, ad, dx, fv, e2, hn, e3, hS, hH, rk⟩ := ins_at rs1 rx hI
    cases hF : fs.lookup f with
    | none => rw [hF] at p1; exact p1.elim
    | some x =>
      rw [hF] at p1
      obtain ⟨y, h1, h2⟩ := (rk.lookup (f := f)).1 x hF
      exact ⟨ad, _, dx, fv, y, e3, hH, cl, na, h1, p1 ρ1 H1 y Ex.refl rs1 h2⟩
theorem sim_meth {n : Nat} {c : Nat} {m : PySem.Str} {f : List D → Store → Res D} {ta : TE} {a : EM} {tas : TA} {as : AM} {dvs : List V} {dd : List D} (hf : Ar n f) (hd : ∀ l ρ H, RDs (g.hide l) ρ H dvs dd) (ha : SimE g E ta a) (has : SimA g E tas as) :
    SimE g E (tMeth (g.cls c) m (spOf g n f) dvs E ta tas) (mMeth c m f dd a as) := by
  intro l σ H Q ρ S env re rs p
  refine ha.bind re rs p fun d S1 ρ1 H1 v e1 rs1 rx re1 p1 => ?_
  cases hI : insAt c d S1 with
  | none => rw [hI] at p1; exact p1.elim
  | some fs =>
    rw [hI] at p1
    dsimp only at p1
    obtain ⟨n, ad, dx, fv, e2, hn, e3, hS, hH, rk⟩ := ins_at rs1 rx hI
    cases hF : fs.lookup m with
    | some x => rw [hF] at p1; exact p1.elim
    | none =>
      rw [hF] at p1
      dsimp only at p1
      refine ⟨ad, dx, fv, e3, hH, (rk.lookup (f := m)).2 hF, ?_⟩
      exact has.bind re1 rs1 p1 fun ds S2 ρ2 H2 vs e4 rs2 ry re2 p2 => sp_go hf (.cons (rx.mono e4) (ry.append (hd l ρ2 H2))) rs2 p2
theorem sim_make {n : Nat} {c : Nat} {f : List D → Store → Res D} {tas : TA} {as : AM} {dvs : List V} {dd : List D} (hf : Ar n f) (hd : ∀ l ρ H, RDs (g.hide l) ρ H dvs dd) (has : SimA g E tas as) : SimE g E (tMake (g.cls c) (spOf g n f) dvs E tas) (mMake c f dd as) := by
  intro l σ H Q ρ S env re rs p
  refine has.bind re rs p fun ds S1 ρ1 H1 vs e1 rs1 rx re1 p1 => ?_
  intro x dx hx hdx ne
  have e2 : Ex ρ1 H1 ρ1 (upd H1 dx (.own x)) := Ex.new1 hdx
  have rs2 := rs1.aside (o := .own x) hdx
  have hx2 : upd H1 dx (.own x) x = none := by rw [upd_ne (Ne.symm ne)]; exact hx
  obtain ⟨e3, rs3⟩ := rs2.push (o := .ins (g.cls c) dx []) (ob := .ins c []) hx2 fun ρ' H' e' q => ⟨dx, [], q, RKV.mt⟩
  have e13 := e2.trans e3
  have rself : RD (g.hide l) (ρ1 ++ [x]) (upd (upd H1 dx (.own x)) x (.ins (g.cls c) dx [])) (.ref x) (.loc S1.length) := .loc (by rw [← rs1.len]; simp)
  refine sp_go hf (.cons rself ((rx.mono e13).append (hd l _ _))) rs3 ?_
  have p2 := PostE.ex p1 e13
  cases ef : f (.loc S1.length :: (ds ++ dd)) (S1 ++ [.ins c []]) with
  | err x' S' => rw [ef] at p2; exact p2
  | stuck => rw [ef] at p2; exact p2.elim
  | ok v S2 =>
    rw [ef] at p2
    simp only [Res.bind] at p2
    intro ρ' H' u e4 rs4 ru
    cases ru with
    | non => exact ⟨rfl, p2 ρ' H' _ e4 rs4 (.loc (e4.at (by rw [← rs1.len]; simp)))⟩
    | _ => exact p2.elim
theorem sims_fld {c : Nat} {f : PySem.Str} {K : PySem.W.Frag} {to ta : TE} {o a : EM} (cl : Cls K (g.cls c)) (na : NoAttr K (g.cls c) f) (ho : SimE g E to o) (ha : SimE g E ta a) : SimS g E (sFld K to ta f) (sFldM c f o a) := by
  intro l D' σ H ρ S env re rs p
  refine ha.bindS re rs p fun y S1 ρ1 H1 v e1 rs1 ry re1 p1 => ?_
  refine ho.bindS re1 rs1 p1 fun d S2 ρ2 H2 u e2 rs2 rd re2 p2 => ?_
  cases rd with
  | @loc n ad hn =>
    dsimp only at p2
    cases e : S2[n]? with
    | none => rw [e] at p2; exact p2.elim
    | some ob =>
      rw [e] at p2
      cases ob with
      | ins c' fs =>
        dsimp only at p2
        by_cases q : c' = c ∧ fs.length < 1000
        · rw [if_pos q] at p2
          obtain ⟨rfl, hl⟩ := q
          obtain ⟨dx, fv, h1, h2⟩ := rs2.ob n ad _ hn e
          obtain ⟨e3, rs3⟩ := rs2.put (o := .ins (g.cls c') dx (putF f v fv)) (ob := .ins c' (putD f y fs)) hn fun H' e' q' => ⟨dx, _, q', (h2.mono e').putF ((ry.mono e2).mono e')⟩
          exact ⟨ad, _, dx, fv, rfl, h1, cl, na, by rw [h2.length]; exact hl, p2 ρ2 _ σ e3 rs3 (re2.mono e3)⟩
        · rw [if_neg q] at p2; exact p2.elim
      | _ => exact p2.elim
  | _ => exact p2.elim
end
end Lg
namespace Lg
open PySem L2
section
variable {P : Program} {w : World} {K : PySem.W.Frag} {mg : PySem.Str → Option Value} {base : Heap} {N : List PySem.Str} {qual : PySem.Str} {scope : Scope} {f : Addr} {cd : Value} {A : Around} {outer : List Env} {s : Shared} {H : Hp} {E : XK}
theorem pD : Passes (L2.CX P w) (cxOf (L2.CX P w) P w K mg base N qual scope f cd A outer s H E) E := passes_call (takes_of rfl rfl rfl rfl) (fun _ _ _ _ h => h)
end
end Lg

namespace Lg
open PySem L2

/-! ### data as the library's data -/
mutual
def D.py : D → Option PyData
  | .non => some .none
  | .bl b => some (.bool b)
  | .int i => some (.int i)
  | .str s => some (.str s)
  | .tup ds => (pys ds).map .tuple
  | .lst ds => (pys ds).map .list
  | _ => none
def pys : List D → Option (List PyData)
  | [] => some []
  | d :: ds => match d.py, pys ds with
    | some p, some ps => some (p :: ps)
    | _, _ => none
end
section
variable {g : G} {K : PySem.W.Frag} {ρ : List Addr} {H : Hp}
theorem dp_both {v : V} {d : D} (r : RD g ρ H v d) : ∀ p, d.py = some p → Dp K H v p := by
  refine RD.rec (motive_1 := fun v d _ => ∀ p, d.py = some p → Dp K H v p) (motive_2 := fun vs ds _ => ∀ ps, pys ds = some ps → DpAll K H vs ps) ?_ ?_ ?_ ?_ ?_ ?_ ?_ ?_ ?_ ?_ ?_ ?_ r
  · intro p h; simp [D.py] at h; subst h; exact .non
  · intro b p h; simp [D.py] at h; subst h; exact .bl b
  · intro i p h; simp [D.py] at h; subst h; exact .int i
  · intro s p h; simp [D.py] at h; subst h; exact .str s
  · intro a vs ds h n _ ih p e
    simp only [D.py, Option.map_eq_some_iff] at e
    obtain ⟨ps, e1, rfl⟩ := e
    exact .tup (SqT.of h) (ih ps e1)
  · intro a vs ds h n _ ih p e
    simp only [D.py, Option.map_eq_some_iff] at e
    obtain ⟨ps, e1, rfl⟩ := e
    exact .lst (SqL.of h) (ih ps e1)
  · intro a ns n p e; simp [D.py] at e
  · intro n a h p e; simp [D.py] at e
  · intro a o h n p e; simp [D.py] at e
  · intro a h n p e; simp [D.py] at e
  · intro ps e; simp [pys] at e; subst e; exact .nil
  · intro v d vs ds _ _ ih1 ih2 ps e
    simp only [pys] at e
    split at e
    · rename_i p ps' e1 e2
      cases e
      exact .cons (ih1 p e1) (ih2 ps' e2)
    · cases e
theorem dps_of : ∀ {vs : List V} {ds : List D} {ps : List PyData}, RDs g ρ H vs ds → pys ds = some ps → DpAll K H vs ps
  | _, _, ps, .nil, e => by simp [pys] at e; subst e; exact .nil
  | _, _, ps, .cons h t, e => by
    simp only [pys] at e
    split at e
    · rename_i p ps' e1 e2
      cases e
      exact .cons (dp_both h p e1) (dps_of t e2)
    · cases e
end
/-- the items of a list, wherever it stands -/
def asL (d : D) (S : Store) : Option (List D) := match d with
  | .lst ds => some ds
  | .loc n => match S[n]? with
    | some (.lst ds) => some ds
    | _ => none
  | _ => none
def pyOf (d : D) (S : Store) : Option PyData := match d with
  | .loc n => match S[n]? with
    | some (.lst ds) => (pys ds).map .list
    | _ => none
  | d => d.py
section
variable {g : G} {K : PySem.W.Frag} {ρ : List Addr} {H : Hp} {S : Store} {v : V} {d : D}
theorem as_l {ds : List D} (rs : RS g ρ S H) (r : RD g ρ H v d) (h : asL d S = some ds) : ∃ a vs, v = .ref a ∧ H a = some (.lst vs) ∧ RDs g ρ H vs ds := by
  cases r with
  | @lst a vs ds' h1 n r => cases h; exact ⟨a, vs, rfl, h1, r⟩
  | @loc n a hn =>
    simp only [asL] at h
    split at h
    · rename_i ds' e
      cases h
      obtain ⟨vs, h1, h2⟩ := rs.ob n a _ hn e
      exact ⟨a, vs, rfl, h1, h2⟩
    · cases h
  | _ => cases h
theorem py_of {p : PyData} (rs : RS g ρ S H) (r : RD g ρ H v d) (h : pyOf d S = some p) : Dp K H v p := by
  cases r with
  | @loc n a hn =>
    simp only [pyOf] at h
    split at h
    · rename_i ds' e
      obtain ⟨vs, h1, h2⟩ := rs.ob n a _ hn e
      simp only [Option.map_eq_some_iff] at h
      obtain ⟨ps, e1, rfl⟩ := h
      exact .lst (SqL.of h1) (dps_of h2 e1)
    · cases h
  | non => exact dp_both (g := g) (ρ := ρ) .non p h
  | bl b => exact dp_both (g := g) (ρ := ρ) (.bl b) p h
  | int i => exact dp_both (g := g) (ρ := ρ) (.int i) p h
  | str s => exact dp_both (g := g) (ρ := ρ) (.str s) p h
  | tup h1 n r => exact dp_both (.tup h1 n r) p h
  | lst h1 n r => exact dp_both (.lst h1 n r) p h
  | scr n => exact dp_both (.scr n) p h
  | empF h1 n => exact dp_both (.empF h1 n) p h
  | empU h1 n => exact dp_both (.empU h1 n) p h
end

/-! ### arithmetic, gluing -/
def dAdd (x y : D) (S : Store) : Res D := match x, y with
  | .int i, .int j => .ok (.int (i + j)) S
  | .str a, .str b => if a.length + b.length ≤ sizeLine then .ok (.str (a ++ b)) S else .stuck
  | .tup a, .tup b => if a.length + b.length ≤ sizeLine then .ok (.tup (a ++ b)) S else .stuck
  | x, y => match asL x S, asL y S with
    | some a, some b => if a.length + b.length ≤ sizeLine then .ok (.lst (a ++ b)) S else .stuck
    | _, _ => .stuck
def dInt (f : Int → Int → Option D) (x y : D) (S : Store) : Res D := match x, y with
  | .int i, .int j => match f i j with
    | some d => .ok d S
    | none => .stuck
  | _, _ => .stuck
abbrev dSub := dInt fun i j => some (.int (i - j))
instance (i j : Int) : Decidable (CMulW i j) := inferInstanceAs (Decidable (_ < _))
instance (i j : Int) : Decidable (CDivW i j) := inferInstanceAs (Decidable (_ ∧ _))
instance (i j : Int) : Decidable (CPow i j) := inferInstanceAs (Decidable (_ ∧ _ ∧ _))
abbrev dMul := dInt fun i j => if CMulW i j then some (.int (i * j)) else none
abbrev dDiv := dInt fun i j => if CDivW i j then some (.int (i / j)) else none
abbrev dMod := dInt fun i j => if 0 < j then some (.int (i % j)) else none
abbrev dPow := dInt fun i j => if CPow i j then some (.int (i ^ j.toNat)) else none
abbrev dLt := dInt fun i j => some (.bl (decide (i < j)))
abbrev dLe := dInt fun i j => some (.bl (decide (i ≤ j)))
abbrev dGt := dInt fun i j => some (.bl (decide (j < i)))
abbrev dGe := dInt fun i j => some (.bl (decide (j ≤ i)))
def dNeg (x : D) (S : Store) : Res D := match x with
  | .int i => .ok (.int (-i)) S
  | _ => .stuck
def dEqB (x y : D) (S : Store) : Option Bool := match pyOf x S, pyOf y S with
  | some p, some q => if SeqAt.shaped p = true ∧ SeqAt.shaped q = true then some (PyData.eqv p q) else none
  | _, _ => none
def dEq (x y : D) (S : Store) : Res D := match dEqB x y S with
  | some b => .ok (.bl b) S
  | none => .stuck
def dNe (x y : D) (S : Store) : Res D := match dEqB x y S with
  | some b => .ok (.bl (!b)) S
  | none => .stuck
def dIsN (x y : D) (S : Store) : Res D := match x, y with
  | .non, .non => .ok (.bl true) S
  | _, .non => .ok (.bl false) S
  | _, _ => .stuck
def dNotN (x y : D) (S : Store) : Res D := match x, y with
  | .non, .non => .ok (.bl false) S
  | _, .non => .ok (.bl true) S
  | _, _ => .stuck

section
variable {g : G} {E : XK} {K : PySem.W.Frag} {X : Cx}
theorem rd_int {l : List Addr} {ρ : List Addr} {H : Hp} {v : V} {i : Int} (r : RD (g.hide l) ρ H v (.int i)) : v = .int i := by cases r; rfl
theorem sim_int0 {f : Int → Int → D} {h : Int → Int → V} (hr : ∀ i j l ρ H, RD (g.hide l) ρ H (h i j) (f i j)) : OpSim g E (rI0 h) (dInt fun i j => some (f i j)) := by
  intro l x y H Q ρ S dx dy rx ry rs p
  unfold dInt at p
  split at p
  · cases rx; cases ry
    exact ⟨_, _, rfl, rfl, p ρ H _ Ex.refl rs (hr _ _ _ _ _)⟩
  · exact p.elim
theorem sim_intC {C : Int → Int → Prop} [∀ i j, Decidable (C i j)] {f : Int → Int → D} {h : Int → Int → V} (hr : ∀ i j l ρ H, RD (g.hide l) ρ H (h i j) (f i j)) : OpSim g E (rI C h) (dInt fun i j => if C i j then some (f i j) else none) := by
  intro l x y H Q ρ S dx dy rx ry rs p
  unfold dInt at p
  split at p
  · rename_i i j
    cases rx; cases ry
    by_cases c : C i j
    · simp only [if_pos c] at p
      exact ⟨_, _, rfl, rfl, c, p ρ H _ Ex.refl rs (hr _ _ _ _ _)⟩
    · simp only [if_neg c] at p; exact p.elim
  · exact p.elim
theorem sim_sub : OpSim g E (rI0 fun i j => .int (i - j)) dSub := sim_int0 fun _ _ _ _ _ => .int _
theorem sim_mul : OpSim g E (rI CMulW fun i j => .int (i * j)) dMul := sim_intC fun _ _ _ _ _ => .int _
theorem sim_div : OpSim g E (rI CDivW fun i j => .int (i / j)) dDiv := sim_intC fun _ _ _ _ _ => .int _
theorem sim_mod : OpSim g E (rI (fun _ j => 0 < j) fun i j => .int (i % j)) dMod := sim_intC (C := fun _ j => 0 < j) fun _ _ _ _ _ => .int _
theorem sim_pow : OpSim g E (rI CPow fun i j => .int (i ^ j.toNat)) dPow := sim_intC fun _ _ _ _ _ => .int _
theorem sim_lt : OpSim g E (rI0 fun i j => .bl (decide (i < j))) dLt := sim_int0 fun _ _ _ _ _ => .bl _
theorem sim_le : OpSim g E (rI0 fun i j => .bl (decide (i ≤ j))) dLe := sim_int0 fun _ _ _ _ _ => .bl _
theorem sim_gt : OpSim g E (rI0 fun i j => .bl (decide (j < i))) dGt := sim_int0 fun _ _ _ _ _ => .bl _
theorem sim_ge : OpSim g E (rI0 fun i j => .bl (decide (j ≤ i))) dGe := sim_int0 fun _ _ _ _ _ => .bl _
theorem sim_neg : UnSim g E (rU fun i => .int (-i)) dNeg := by
  intro l x H Q ρ S dx rx rs p
  cases rx with
  | int i => exact ⟨i, rfl, p ρ H _ Ex.refl rs (.int _)⟩
  | _ => exact p.elim
/-- + of all kinds -/
def rAddA (K : PySem.W.Frag) : R2 := fun x y H Q => (∃ i j, x = .int i ∧ y = .int j ∧ Q (.int (i + j)) H) ∨ (∃ i j, x = .str i ∧ y = .str j ∧ i.length + j.length ≤ sizeLine ∧ Q (.str (i ++ j)) H) ∨ rCatA K x y H Q ∨ rCat x y H Q
theorem op_addA : OpR X (binaryOp .Add) (rAddA X.K) := op_add.or (op_add_str.or (op_catA.or op_cat))
theorem sim_add : OpSim g E (rAddA K) dAdd := by
  intro l x y H Q ρ S dx dy rx ry rs p
  unfold dAdd at p
  split at p
  · cases rx; cases ry
    exact .inl ⟨_, _, rfl, rfl, p ρ H _ Ex.refl rs (.int _)⟩
  · cases rx; cases ry
    split at p
    · rename_i hz; exact .inr (.inl ⟨_, _, rfl, rfl, hz, p ρ H _ Ex.refl rs (.str _)⟩)
    · exact p.elim
  · cases rx with
    | @tup a vs ds ha na ra =>
      cases ry with
      | @tup b ws es hb nb rb =>
        split at p
        · rename_i hz
          refine .inr (.inr (.inl ⟨a, b, vs, ws, rfl, rfl, SqT.of ha, SqT.of hb, by rw [ra.length, rb.length]; exact hz, fun e => ?_, fun e e' => ?_, fun e e' q hq => ?_⟩))
          · subst e
            cases ra
            exact p ρ H _ Ex.refl rs (.tup hb nb (by simpa using rb))
          · subst e'
            cases rb
            exact p ρ H _ Ex.refl rs (.tup ha na (by simpa using ra))
          · exact p ρ _ _ (Ex.new1 hq) (rs.aside hq) (.tup upd_same (rs.fresh hq) ((ra.append rb).mono (Ex.new1 hq)))
        · exact p.elim
  · split at p
    · rename_i a b ea eb
      obtain ⟨a1, vs, rfl, h1, r1⟩ := as_l rs rx ea
      obtain ⟨b1, ws, rfl, h2, r2⟩ := as_l rs ry eb
      split at p
      · rename_i hz
        refine .inr (.inr (.inr ⟨a1, b1, vs, ws, rfl, rfl, h1, h2, by rw [r1.length, r2.length]; exact hz, fun q hq => ?_⟩))
        exact p ρ _ _ (Ex.new1 hq) (rs.aside hq) (.lst upd_same (rs.fresh hq) ((r1.append r2).mono (Ex.new1 hq)))
      · exact p.elim
    · exact p.elim
theorem sim_eq : OpSim g E (rEqD K) dEq := by
  intro l x y H Q ρ S dx dy rx ry rs p
  unfold dEq dEqB at p
  split at p
  · rename_i b e
    split at e
    · rename_i p1 p2 e1 e2
      split at e
      · rename_i hs
        cases e
        exact ⟨p1, p2, py_of rs rx e1, py_of rs ry e2, hs.1, hs.2, p ρ H _ Ex.refl rs (.bl _)⟩
      · cases e
    · cases e
  · exact p.elim
theorem sim_ne : OpSim g E (rNeD K) dNe := by
  intro l x y H Q ρ S dx dy rx ry rs p
  unfold dNe dEqB at p
  split at p
  · rename_i b e
    split at e
    · rename_i p1 p2 e1 e2
      split at e
      · rename_i hs
        cases e
        exact ⟨p1, p2, py_of rs rx e1, py_of rs ry e2, hs.1, hs.2, p ρ H _ Ex.refl rs (.bl _)⟩
      · cases e
    · cases e
  · exact p.elim
theorem sim_isN : OpSim g E (fun x y H Q => y = .non ∧ Q (.bl (decide (x = .non))) H) dIsN := by
  intro l x y H Q ρ S dx dy rx ry rs p
  unfold dIsN at p
  split at p
  · cases rx; cases ry; exact ⟨rfl, p ρ H _ Ex.refl rs (.bl _)⟩
  · rename_i hne
    cases ry
    refine ⟨rfl, ?_⟩
    have : decide (x = .non) = false := by
      cases rx with
      | non => exact absurd rfl hne
      | _ => rfl
    rw [this]; exact p ρ H _ Ex.refl rs (.bl _)
  · exact p.elim
theorem sim_notN : OpSim g E (fun x y H Q => y = .non ∧ Q (.bl (!decide (x = .non))) H) dNotN := by
  intro l x y H Q ρ S dx dy rx ry rs p
  unfold dNotN at p
  split at p
  · cases rx; cases ry; exact ⟨rfl, p ρ H _ Ex.refl rs (.bl _)⟩
  · rename_i hne
    cases ry
    refine ⟨rfl, ?_⟩
    have : decide (x = .non) = false := by
      cases rx with
      | non => exact absurd rfl hne
      | _ => rfl
    rw [this]; exact p ρ H _ Ex.refl rs (.bl _)
  · exact p.elim
end

/-! ### items, slices -/
def strAt (z : PySem.Str) (i : Int) : Option D := (atI z.cps.toList i).map fun c => .str ⟨#[c]⟩
def dIx (x y : D) (S : Store) : Res D := match x, y with
  | .tup ds, .int i => match atI ds i with
    | some d => .ok d S
    | none => .stuck
  | .str z, .int i => if z.length ≤ sizeLine then match strAt z i with
    | some d => .ok d S
    | none => .stuck
    else .stuck
  | x, .int i => match asL x S with
    | some ds => match atI ds i with
      | some d => .ok d S
      | none => .stuck
    | none => .stuck
  | _, _ => .stuck
theorem atI_rel {g : G} {ρ : List Addr} {H : Hp} {vs : List V} {ds : List D} {i : Int} {d : D} (r : RDs g ρ H vs ds) (h : atI ds i = some d) : ∃ v, atI vs i = some v ∧ RD g ρ H v d := by
  unfold atI at h ⊢
  rw [r.length]
  cases e : ixN ds.length i with
  | none => rw [e] at h; cases h
  | some j =>
    rw [e] at h
    exact r.get h
def rIxA (K : PySem.W.Frag) : R2 := rIx K
section
variable {g : G} {E : XK} {K : PySem.W.Frag}
theorem sim_ix : OpSim g E (rIx K) dIx := by
  intro l x y H Q ρ S dx dy rx ry rs p
  unfold dIx at p
  split at p
  · rename_i ds i
    cases ry
    cases rx with
    | @tup a vs ds ha na ra =>
      split at p
      · rename_i d e
        obtain ⟨v, h1, h2⟩ := atI_rel ra e
        exact .inr (.inl ⟨a, vs, i, v, rfl, rfl, SqT.of ha, h1, p ρ H _ Ex.refl rs h2⟩)
      · exact p.elim
  · rename_i z i
    cases ry; cases rx
    split at p
    · rename_i hz
      split at p
      · rename_i d e
        unfold strAt at e
        simp only [Option.map_eq_some_iff] at e
        obtain ⟨c, e1, rfl⟩ := e
        exact .inr (.inr ⟨z, i, c, rfl, rfl, hz, e1, p ρ H _ Ex.refl rs (.str _)⟩)
      · exact p.elim
    · exact p.elim
  · rename_i i _ _
    cases ry
    split at p
    · rename_i ds e
      obtain ⟨a, vs, rfl, h1, r1⟩ := as_l rs rx e
      split at p
      · rename_i d e2
        obtain ⟨v, h2, h3⟩ := atI_rel r1 e2
        exact .inl ⟨a, vs, i, v, rfl, rfl, SqL.of h1, h2, p ρ H _ Ex.refl rs h3⟩
      · exact p.elim
    · exact p.elim
  · exact p.elim
/-- o[i] = v of a list of the store -/
def dSet (o i v : D) (S : Store) : Option Store := match o, i with
  | .loc n, .int k => match S[n]? with
    | some (.lst ds) => match ixN ds.length k with
      | some j => some (S.set n (.lst (ds.set j v)))
      | none => none
    | _ => none
  | _, _ => none
theorem sim_set : SetSim g rSetL dSet := by
  intro l o i v H Q ρ S d1 d2 d3 S' r1 r2 r3 rs h q
  unfold dSet at h
  split at h
  · rename_i n k
    cases r2
    cases r1 with
    | @loc n a hn =>
      split at h
      · rename_i ds e
        split at h
        · rename_i j ej
          cases h
          obtain ⟨vs, h1, h2⟩ := rs.ob n a _ hn e
          obtain ⟨e3, rs3⟩ := rs.put (o := .lst (vs.set j v)) (ob := .lst (ds.set j d3)) hn fun H' e' q' => ⟨_, q', (h2.mono e').set (r3.mono e') j⟩
          exact ⟨a, vs, k, j, rfl, rfl, h1, by rw [h2.length]; exact ej, q ρ _ e3 rs3⟩
        · cases h
      · cases h
  · cases h
end

/-! ### built-ins -/
def cLen (ds : List D) (S : Store) : Res D := match ds with
  | [.str z] => if z.length ≤ sizeLine then .ok (.int z.length) S else .stuck
  | [.tup xs] => .ok (.int xs.length) S
  | [.scr ns] => .ok (.int ns.length) S
  | [x] => match asL x S with
    | some xs => .ok (.int xs.length) S
    | none => .stuck
  | _ => .stuck
def cAbs (ds : List D) (S : Store) : Res D := match ds with
  | [.int i] => .ok (.int (if i < 0 then -i else i)) S
  | _ => .stuck
def cMax2 (ds : List D) (S : Store) : Res D := match ds with
  | [.int i, .int j] => .ok (.int (if j > i then j else i)) S
  | _ => .stuck
def cMin2 (ds : List D) (S : Store) : Res D := match ds with
  | [.int i, .int j] => .ok (.int (if j < i then j else i)) S
  | _ => .stuck
/-- the items of a list, a tuple, the script -/
def asSeq (d : D) (S : Store) : Option (List D) := match d with
  | .tup ds => some ds
  | .scr ns => some (ns.map .int)
  | d => asL d S
/-- list(x), a list nobody changes | one of the store -/
def cList (ds : List D) (S : Store) : Res D := match ds with
  | [x] => match asSeq x S with
    | some xs => .ok (.lst xs) S
    | none => .stuck
  | _ => .stuck
def cListL (ds : List D) (S : Store) : Res D := match ds with
  | [x] => match asSeq x S with
    | some xs => .ok (.loc S.length) (S ++ [.lst xs])
    | none => .stuck
  | _ => .stuck
def cTuple (ds : List D) (S : Store) : Res D := match ds with
  | [.tup xs] => .ok (.tup xs) S
  | [x] => match asL x S with
    | some xs => .ok (.tup xs) S
    | none => .stuck
  | _ => .stuck
def bls : List D → Option (List Bool)
  | [] => some []
  | .bl b :: ds => (bls ds).map (b :: ·)
  | _ => none
def cAll (ds : List D) (S : Store) : Res D := match ds with
  | [x] => match asL x S with
    | some xs => match bls xs with
      | some bs => .ok (.bl (bs.all id)) S
      | none => .stuck
    | none => .stuck
  | _ => .stuck
def cAny (ds : List D) (S : Store) : Res D := match ds with
  | [x] => match asL x S with
    | some xs => match bls xs with
      | some bs => .ok (.bl (bs.any id)) S
      | none => .stuck
    | none => .stuck
  | _ => .stuck
section
variable {g : G} {E : XK} {K : PySem.W.Frag}
theorem RDs.one {g : G} {ρ : List Addr} {H : Hp} {vs : List V} {d : D} (r : RDs g ρ H vs [d]) : ∃ v, vs = [v] ∧ RD g ρ H v d := by
  cases r with
  | cons h t => cases t; exact ⟨_, rfl, h⟩
theorem RDs.two {g : G} {ρ : List Addr} {H : Hp} {vs : List V} {d e : D} (r : RDs g ρ H vs [d, e]) : ∃ v w, vs = [v, w] ∧ RD g ρ H v d ∧ RD g ρ H w e := by
  cases r with
  | cons h t => obtain ⟨w, rfl, q⟩ := t.one; exact ⟨_, w, rfl, h, q⟩
theorem rds_ints {g : G} {ρ : List Addr} {H : Hp} : ∀ ns : List Int, RDs g ρ H (ns.map V.int) (ns.map D.int)
  | [] => .nil
  | n :: ns => .cons (.int n) (rds_ints ns)
theorem scr_l {l : List Addr} {ρ : List Addr} {H : Hp} {v : V} {ns : List Int} (r : RD (g.hide l) ρ H v (.scr ns)) : ∃ a, v = .ref a ∧ SqL g.K H a (ns.map V.int) := by
  cases r with
  | @scr a ns n =>
    rcases n with ⟨o, h, _⟩ | n
    · exact ⟨a, rfl, .inl (.inr ⟨o, h⟩)⟩
    · exact ⟨a, rfl, n H⟩
theorem sim_len : CallSim g E (fun xs H Q => ∃ x n, xs = [x] ∧ LenV g.K x H n ∧ Q (.int n) H) cLen := by
  intro l xs H Q ρ S ds rx rs p
  unfold cLen at p
  split at p
  · obtain ⟨v, rfl, r⟩ := rx.one
    cases r
    split at p
    · rename_i hz; exact ⟨_, _, rfl, ⟨hz, rfl⟩, p ρ H _ Ex.refl rs (.int _)⟩
    · exact p.elim
  · obtain ⟨v, rfl, r⟩ := rx.one
    cases r with
    | @tup a vs ds ha na ra => exact ⟨_, _, rfl, .inr ⟨vs, SqT.of ha, rfl⟩, by rw [ra.length]; exact p ρ H _ Ex.refl rs (.int _)⟩
  · rename_i ns
    obtain ⟨v, rfl, r⟩ := rx.one
    obtain ⟨a, rfl, h⟩ := scr_l r
    exact ⟨_, ns.length, rfl, .inl ⟨_, h, by simp⟩, p ρ H _ Ex.refl rs (.int _)⟩
  · obtain ⟨v, rfl, r⟩ := rx.one
    split at p
    · rename_i xs' e
      obtain ⟨a, vs, rfl, h1, r1⟩ := as_l rs r e
      exact ⟨_, _, rfl, .inl ⟨vs, SqL.of h1, rfl⟩, by rw [r1.length]; exact p ρ H _ Ex.refl rs (.int _)⟩
    · exact p.elim
  · exact p.elim
theorem sim_abs : CallSim g E (fun xs H Q => ∃ i, xs = [.int i] ∧ Q (.int (if i < 0 then -i else i)) H) cAbs := by
  intro l xs H Q ρ S ds rx rs p
  unfold cAbs at p
  split at p
  · obtain ⟨v, rfl, r⟩ := rx.one
    cases r
    exact ⟨_, rfl, p ρ H _ Ex.refl rs (.int _)⟩
  · exact p.elim
theorem sim_max2 : CallSim g E (fun xs H Q => ∃ i j, xs = [.int i, .int j] ∧ Q (.int (if j > i then j else i)) H) cMax2 := by
  intro l xs H Q ρ S ds rx rs p
  unfold cMax2 at p
  split at p
  · obtain ⟨v, w, rfl, r1, r2⟩ := rx.two
    cases r1; cases r2
    exact ⟨_, _, rfl, p ρ H _ Ex.refl rs (.int _)⟩
  · exact p.elim
theorem sim_min2 : CallSim g E (fun xs H Q => ∃ i j, xs = [.int i, .int j] ∧ Q (.int (if j < i then j else i)) H) cMin2 := by
  intro l xs H Q ρ S ds rx rs p
  unfold cMin2 at p
  split at p
  · obtain ⟨v, w, rfl, r1, r2⟩ := rx.two
    cases r1; cases r2
    exact ⟨_, _, rfl, p ρ H _ Ex.refl rs (.int _)⟩
  · exact p.elim
theorem seq_of {l : List Addr} {ρ : List Addr} {H : Hp} {S : Store} {v : V} {d : D} {ds : List D} (rs : RS (g.hide l) ρ S H) (r : RD (g.hide l) ρ H v d) (h : asSeq d S = some ds) : ∃ a vs, v = .ref a ∧ (SqL g.K H a vs ∨ SqT g.K H a vs) ∧ RDs (g.hide l) ρ H vs ds := by
  cases r with
  | @tup a vs ds' ha na ra => cases h; exact ⟨a, vs, rfl, .inr (SqT.of ha), ra⟩
  | @scr a ns n =>
    cases h
    obtain ⟨a', e, h1⟩ := scr_l (g := g) (l := l) (RD.scr n)
    cases e
    exact ⟨a, _, rfl, .inl h1, rds_ints ns⟩
  | lst h1 n1 r1 => obtain ⟨a, vs, e, h2, r2⟩ := as_l rs (.lst h1 n1 r1) h; exact ⟨a, vs, e, .inl (SqL.of h2), r2⟩
  | loc h1 => obtain ⟨a, vs, e, h2, r2⟩ := as_l rs (.loc h1) h; exact ⟨a, vs, e, .inl (SqL.of h2), r2⟩
  | _ => cases h
abbrev rListA (K : PySem.W.Frag) : List V → Hp → VK → Prop := fun xs H Q => ∃ p ys, xs = [.ref p] ∧ (SqL K H p ys ∨ SqT K H p ys) ∧ ∀ l, H l = none → Q (.ref l) (upd H l (.lst ys))
theorem sim_list : CallSim g E (rListA g.K) cList := by
  intro l xs H Q ρ S ds rx rs p
  unfold cList at p
  split at p
  · obtain ⟨v, rfl, r⟩ := rx.one
    split at p
    · rename_i xs' e
      obtain ⟨a, vs, rfl, h1, r1⟩ := seq_of rs r e
      exact ⟨a, vs, rfl, h1, fun q hq => p ρ _ _ (Ex.new1 hq) (rs.aside hq) (.lst upd_same (rs.fresh hq) (r1.mono (Ex.new1 hq)))⟩
    · exact p.elim
  · exact p.elim
theorem sim_listL : CallSim g E (rListA g.K) cListL := by
  intro l xs H Q ρ S ds rx rs p
  unfold cListL at p
  split at p
  · obtain ⟨v, rfl, r⟩ := rx.one
    split at p
    · rename_i xs' e
      obtain ⟨a, vs, rfl, h1, r1⟩ := seq_of rs r e
      refine ⟨a, vs, rfl, h1, fun q hq => ?_⟩
      obtain ⟨e3, rs3⟩ := rs.push (o := .lst vs) (ob := .lst xs') hq fun ρ' H' e' q' => ⟨vs, q', r1.mono e'⟩
      exact p _ _ _ e3 rs3 (.loc (by rw [← rs.len]; simp))
    · exact p.elim
  · exact p.elim
abbrev rTupleA (K : PySem.W.Frag) : List V → Hp → VK → Prop := fun xs H Q => ∃ p ys, xs = [.ref p] ∧ ((SqL K H p ys ∧ ∀ l, H l = none → Q (.ref l) (upd H l (.tup ys))) ∨ (SqT K H p ys ∧ Q (.ref p) H))
theorem sim_tuple : CallSim g E (rTupleA K) cTuple := by
  intro l xs H Q ρ S ds rx rs p
  unfold cTuple at p
  split at p
  · obtain ⟨v, rfl, r⟩ := rx.one
    cases r with
    | @tup a vs ds ha na ra => exact ⟨a, vs, rfl, .inr ⟨SqT.of ha, p ρ H _ Ex.refl rs (.tup ha na ra)⟩⟩
  · obtain ⟨v, rfl, r⟩ := rx.one
    split at p
    · rename_i xs' e
      obtain ⟨a, vs, rfl, h1, r1⟩ := as_l rs r e
      exact ⟨a, vs, rfl, .inl ⟨SqL.of h1, fun q hq => p ρ _ _ (Ex.new1 hq) (rs.aside hq) (.tup upd_same (rs.fresh hq) (r1.mono (Ex.new1 hq)))⟩⟩
    · exact p.elim
  · exact p.elim
theorem bls_rel {ρ : List Addr} {H : Hp} : ∀ {ds : List D} {vs : List V} {bs : List Bool}, RDs g ρ H vs ds → bls ds = some bs → vs = bs.map V.bl
  | [], _, _, .nil, e => by simp [bls] at e; subst e; rfl
  | .bl b :: ds, _, bs, .cons h t, e => by
    simp only [bls, Option.map_eq_some_iff] at e
    obtain ⟨bs', e1, rfl⟩ := e
    cases h
    rw [bls_rel t e1]; rfl
theorem sim_all : CallSim g E (rAll K) cAll := by
  intro l xs H Q ρ S ds rx rs p
  unfold cAll at p
  split at p
  · obtain ⟨v, rfl, r⟩ := rx.one
    split at p
    · rename_i xs' e
      obtain ⟨a, vs, rfl, h1, r1⟩ := as_l rs r e
      split at p
      · rename_i bs eb
        have := bls_rel r1 eb
        subst this
        exact ⟨a, bs, rfl, SqL.of h1, p ρ H _ Ex.refl rs (.bl _)⟩
      · exact p.elim
    · exact p.elim
  · exact p.elim
theorem sim_any : CallSim g E (rAny K) cAny := by
  intro l xs H Q ρ S ds rx rs p
  unfold cAny at p
  split at p
  · obtain ⟨v, rfl, r⟩ := rx.one
    split at p
    · rename_i xs' e
      obtain ⟨a, vs, rfl, h1, r1⟩ := as_l rs r e
      split at p
      · rename_i bs eb
        have := bls_rel r1 eb
        subst this
        exact ⟨a, bs, rfl, SqL.of h1, p ρ H _ Ex.refl rs (.bl _)⟩
      · exact p.elim
    · exact p.elim
  · exact p.elim
end

/-! ### methods of lists -/
def mBM (f : D → List D → Store → Res D) (o : EM) (as : AM) : EM := fun env S => (o env S).bind fun d S1 => (as env S1).bind fun ds S2 => f d ds S2
def tyD (T : String) (d : D) (S : Store) : Bool := match d with
  | .str _ => T == "str"
  | .lst _ => T == "list"
  | .loc n => match S[n]? with
    | some (.lst _) => T == "list"
    | some (.dK _) => T == "dict"
    | some (.dT _) => T == "dict"
    | _ => false
  | _ => false
def qAppend (d : D) (ds : List D) (S : Store) : Res D := match d, ds with
  | .loc n, [x] => match S[n]? with
    | some (.lst xs) => if xs.length < sizeLine then .ok .non (S.set n (.lst (xs ++ [x]))) else .stuck
    | _ => .stuck
  | _, _ => .stuck
def qPopAt (d : D) (ds : List D) (S : Store) : Res D := match d, ds with
  | .loc n, [.int i] => match S[n]? with
    | some (.lst xs) => if -(2 ^ 63) ≤ i ∧ i < 2 ^ 63 then match seqIndex? i xs.length with
      | some k => match xs[k]? with
        | some x => .ok x (S.set n (.lst (xs.eraseIdx k)))
        | none => .stuck
      | none => .stuck
      else .stuck
    | _ => .stuck
  | _, _ => .stuck
def MtSim (g₀ : G) (E : XK) (r : V → List V → Hp → VK → Prop) (f : D → List D → Store → Res D) : Prop := ∀ l x xs H Q ρ S d ds, RD (g₀.hide l) ρ H x d → RDs (g₀.hide l) ρ H xs ds → RS (g₀.hide l) ρ S H → PostE (g₀.hide l) E ρ H Q (f d ds S) → r x xs H Q
section
variable {g : G} {E : XK} {K : PySem.W.Frag}
theorem sim_append : MtSim g E rAppend qAppend := by
  intro l x xs H Q ρ S d ds rx rxs rs p
  unfold qAppend at p
  split at p
  · rename_i n y
    obtain ⟨v, rfl, r⟩ := rxs.one
    cases rx with
    | @loc n a hn =>
      split at p
      · rename_i zs e
        obtain ⟨vs, h1, h2⟩ := rs.ob n a _ hn e
        split at p
        · rename_i hz
          obtain ⟨e3, rs3⟩ := rs.put (o := .lst (vs ++ [v])) (ob := .lst (zs ++ [y])) hn fun H' e' q' => ⟨_, q', (h2.mono e').snoc (r.mono e')⟩
          exact ⟨a, vs, v, rfl, rfl, h1, by rw [h2.length]; exact hz, p ρ _ _ e3 rs3 .non⟩
        · exact p.elim
      · exact p.elim
  · exact p.elim
theorem sim_popAt : MtSim g E rPopAt qPopAt := by
  intro l x xs H Q ρ S d ds rx rxs rs p
  unfold qPopAt at p
  split at p
  · rename_i n i
    obtain ⟨v, rfl, r⟩ := rxs.one
    cases r
    cases rx with
    | @loc n a hn =>
      split at p
      · rename_i zs e
        obtain ⟨vs, h1, h2⟩ := rs.ob n a _ hn e
        split at p
        · rename_i hz
          split at p
          · rename_i k ek
            split at p
            · rename_i y ey
              obtain ⟨v, h3, h4⟩ := h2.get ey
              obtain ⟨e3, rs3⟩ := rs.put (o := .lst (vs.eraseIdx k)) (ob := .lst (zs.eraseIdx k)) hn fun H' e' q' => ⟨_, q', (h2.mono e').eraseIdx k⟩
              exact ⟨a, vs, i, k, v, rfl, rfl, h1, hz.1, hz.2, by rw [h2.length]; exact ek, h3, p ρ _ _ e3 rs3 (h4.mono e3)⟩
            · exact p.elim
          · exact p.elim
        · exact p.elim
      · exact p.elim
  · exact p.elim
/-- what the receiver is -/
theorem ty_of {l : List Addr} {ρ : List Addr} {H : Hp} {S : Store} {v : V} {d : D} {T : String} (rs : RS (g.hide l) ρ S H) (r : RD (g.hide l) ρ H v d) (h : tyD T d S = true) : tyV K T v H := by
  cases r with
  | str s => exact beq_iff_eq.mp h |> fun e => by subst e; rfl
  | @lst a vs ds ha na ra => exact beq_iff_eq.mp h |> fun e => by subst e; exact .inl ⟨rfl, _, SqL.of ha⟩
  | @loc n a hn =>
    simp only [tyD] at h
    split at h
    · rename_i zs e
      obtain ⟨vs, h1, h2⟩ := rs.ob n a _ hn e
      exact beq_iff_eq.mp h |> fun e => by subst e; exact .inl ⟨rfl, _, SqL.of h1⟩
    · rename_i kvs e
      obtain ⟨kv, h1, h2⟩ := rs.ob n a _ hn e
      exact beq_iff_eq.mp h |> fun e => by subst e; exact .inr (.inr (.inl ⟨rfl, .inl ⟨_, h1⟩⟩))
    · rename_i kvs e
      obtain ⟨kv, h1, h2⟩ := rs.ob n a _ hn e
      exact beq_iff_eq.mp h |> fun e => by subst e; exact .inr (.inr (.inl ⟨rfl, .inr ⟨_, h1⟩⟩))
    · cases h
  | _ => cases h
def mBMt (T : String) (f : D → List D → Store → Res D) (o : EM) (as : AM) : EM := fun env S => (o env S).bind fun d S1 => if tyD T d S1 = true then (as env S1).bind fun ds S2 => f d ds S2 else .stuck
theorem sim_bm {T : String} {r : V → List V → Hp → VK → Prop} {f : D → List D → Store → Res D} {to : TE} {ta : TA} {o : EM} {a : AM} (h : MtSim g E r f) (ho : SimE g E to o) (ha : SimA g E ta a) : SimE g E (tBM K T r to ta) (mBMt T f o a) := by
  intro l σ H Q ρ S env re rs p
  refine ho.bind re rs p fun d S1 ρ1 H1 v e1 rs1 rx re1 p1 => ?_
  by_cases ht : tyD T d S1 = true
  · rw [if_pos ht] at p1
    refine ⟨ty_of rs1 rx ht, ?_⟩
    exact ha.bind re1 rs1 p1 fun ds S2 ρ2 H2 vs e2 rs2 ry re2 p2 => h l v vs H2 Q ρ2 S2 d ds (rx.mono e2) ry rs2 p2
  · rw [if_neg ht] at p1; exact p1.elim
theorem sim_bm0 {T : String} {r : V → List V → Hp → VK → Prop} {f : D → List D → Store → Res D} {to : TE} {o : EM} (h : MtSim g E r f) (ho : SimE g E to o) : SimE g E (tBM0 K T r to) (mBMt T f o mNil) := by
  intro l σ H Q ρ S env re rs p
  refine ho.bind re rs p fun d S1 ρ1 H1 v e1 rs1 rx re1 p1 => ?_
  by_cases ht : tyD T d S1 = true
  · rw [if_pos ht] at p1
    exact ⟨ty_of rs1 rx ht, h l v [] H1 Q ρ1 S1 d [] rx .nil rs1 p1⟩
  · rw [if_neg ht] at p1; exact p1.elim
end

/-! ### slices -/
abbrev OM := En → Store → Res (Option Int)
def oNone : OM := fun _ S => .ok none S
def oSome (a : EM) : OM := fun env S => (a env S).bind fun d S1 => match d with
  | .int i => .ok (some i) S1
  | _ => .stuck
def SimO (g : G) (E : XK) (t : TO) (m : OM) : Prop := ∀ l σ H (Q : Option Int → Hp → Prop) ρ S env, RE (g.hide l) ρ H σ env → RS (g.hide l) ρ S H →
  (match m env S with
   | .ok o S' => ∀ ρ' H', Ex ρ H ρ' H' → RS (g.hide l) ρ' S' H' → Q o H'
   | .err x S' => PX (g.hide l) E ρ H x S'
   | .stuck => False) → t σ H Q
def cutD (xs : List D) (lo hi : Option Int) : List D := (xs.drop (HT.sIx xs.length 0 lo)).take (HT.sIx xs.length xs.length hi - HT.sIx xs.length 0 lo)
def dSl (x : D) (lo hi : Option Int) (S : Store) : Res D := match x with
  | .tup ds => .ok (.tup (cutD ds lo hi)) S
  | .str z => if z.length ≤ sizeLine then .ok (.str (cutS z lo hi)) S else .stuck
  | .scr ns => .ok (.lst (cutD (ns.map D.int) lo hi)) S
  | x => match asL x S with
    | some ds => .ok (.lst (cutD ds lo hi)) S
    | none => .stuck
def mSl (a : EM) (lo hi : OM) : EM := fun env S => (a env S).bind fun x S1 => (lo env S1).bind fun i S2 => (hi env S2).bind fun j S3 => dSl x i j S3
section
variable {g : G} {E : XK} {K : PySem.W.Frag}
theorem simo_none : SimO g E tNoPart oNone := fun l σ H Q ρ S env re rs p => p ρ H Ex.refl rs
theorem simo_some {te : TE} {a : EM} (ha : SimE g E te a) : SimO g E (tPart te) (oSome a) := by
  intro l σ H Q ρ S env re rs p
  refine ha l σ H _ ρ S env re rs ?_
  unfold oSome at p
  cases e : a env S with
  | ok d S1 =>
    rw [e] at p
    intro ρ1 H1 v e1 rs1 rx
    simp only [Res.bind] at p
    cases rx with
    | int i => exact ⟨i, rfl, p ρ1 H1 e1 rs1⟩
    | _ => exact p.elim
  | err x S1 => rw [e] at p; exact p
  | stuck => rw [e] at p; exact p
abbrev rSlAll (K : PySem.W.Frag) : V → Option Int → Option Int → Hp → VK → Prop := fun x lo hi H Q => rSlA K x lo hi H Q ∨ rSlS x lo hi H Q ∨ rSlL K x lo hi H Q
theorem sl_all {X : Cx} : SlR X (rSlAll X.K) := sl_tupA.or (sl_str.or sl_list)
theorem cut_rel {ρ : List Addr} {H : Hp} {vs : List V} {ds : List D} {lo hi : Option Int} (r : RDs g ρ H vs ds) : RDs g ρ H (cutV vs lo hi) (cutD ds lo hi) := by
  unfold cutV cutD
  rw [r.length]
  exact (r.drop _).take _
theorem sim_slice {te : TE} {tl th : TO} {a : EM} {lo hi : OM} (ha : SimE g E te a) (hl : SimO g E tl lo) (hh : SimO g E th hi) : SimE g E (tSl (rSlAll g.K) te tl th) (mSl a lo hi) := by
  intro l σ H Q ρ S env re rs p
  refine ha.bind re rs p fun d S1 ρ1 H1 v e1 rs1 rx re1 p1 => ?_
  refine hl l σ H1 _ ρ1 S1 env re1 rs1 ?_
  cases e : lo env S1 with
  | err x S2 => rw [e] at p1; exact p1
  | stuck => rw [e] at p1; exact p1
  | ok i S2 =>
    rw [e] at p1
    intro ρ2 H2 e2 rs2
    have p2 := PostE.ex p1 e2
    simp only [Res.bind] at p2
    refine hh l σ H2 _ ρ2 S2 env (re1.mono e2) rs2 ?_
    cases e' : hi env S2 with
    | err x S3 => rw [e'] at p2; exact p2
    | stuck => rw [e'] at p2; exact p2
    | ok j S3 =>
      rw [e'] at p2
      intro ρ3 H3 e3 rs3
      have p3 : PostE (g.hide l) E ρ3 H3 Q (dSl d i j S3) := PostE.ex p2 e3
      have rx3 := rx.mono (e2.trans e3)
      unfold dSl at p3
      split at p3
      · cases rx3 with
        | @tup ad vs ds ha' na ra =>
          refine .inl ⟨ad, vs, rfl, SqT.of ha', fun hw => ?_, fun hw q hq => ?_⟩
          · refine p3 ρ3 H3 _ Ex.refl rs3 (.tup ha' na ?_)
            rename_i ds0
            have : cutD _ i j = _ := show cutD ds0 i j = ds0 by
              unfold cutD
              rw [← ra.length, hw.1, hw.2]
              simp [ra.length]
            rw [this]; exact ra
          · exact p3 ρ3 _ _ (Ex.new1 hq) (rs3.aside hq) (.tup upd_same (rs3.fresh hq) ((cut_rel ra).mono (Ex.new1 hq)))
      · cases rx3
        split at p3
        · rename_i hz; exact .inr (.inl ⟨_, rfl, hz, p3 ρ3 H3 _ Ex.refl rs3 (.str _)⟩)
        · exact p3.elim
      · obtain ⟨ad, rfl, hq⟩ := scr_l rx3
        exact .inr (.inr ⟨ad, _, rfl, hq, fun q hq' => p3 ρ3 _ _ (Ex.new1 hq') (rs3.aside hq') (.lst upd_same (rs3.fresh hq') ((cut_rel (rds_ints _)).mono (Ex.new1 hq')))⟩)
      · split at p3
        · rename_i ds e4
          obtain ⟨ad, vs, rfl, h1, r1⟩ := as_l rs3 rx3 e4
          exact .inr (.inr ⟨ad, vs, rfl, SqL.of h1, fun q hq => p3 ρ3 _ _ (Ex.new1 hq) (rs3.aside hq) (.lst upd_same (rs3.fresh hq) ((cut_rel r1).mono (Ex.new1 hq)))⟩)
        · exact p3.elim
end

/-! ### iterators -/
def itSeq (a : EM) : IM := fun env S => (a env S).bind fun d S1 => match d with
  | .lst ds => .ok ds S1
  | .tup ds => .ok ds S1
  | _ => .stuck
def itList (a : EM) : IM := fun env S => (a env S).bind fun d S1 => match d with
  | .lst ds => .ok ds S1
  | _ => .stuck
def itTup (a : EM) : IM := fun env S => (a env S).bind fun d S1 => match d with
  | .tup ds => .ok ds S1
  | _ => .stuck
def itRange1 (a : AM) : IM := fun env S => (a env S).bind fun ds S1 => match ds with
  | [.int j] => if -(2 ^ 62) ≤ j ∧ j < 2 ^ 62 then .ok ((List.range j.toNat).map fun i : Nat => D.int (0 + (i : Int))) S1 else .stuck
  | _ => .stuck
def itStr (a : EM) : IM := fun env S => (a env S).bind fun d S1 => match d with
  | .str z => .ok (z.cps.toList.map fun c => D.str ⟨#[c]⟩) S1
  | _ => .stuck
section
variable {g : G} {E : XK} {K : PySem.W.Frag}
theorem walkd_at {l : List Addr} {ρ : List Addr} {H : Hp} {J : It} {vs : List V} {ds : List D} {G' : Hp → Prop} (w : Walk J vs.length G' (YAt vs)) (hG : ∀ ρ' H', Ex ρ H ρ' H' → G' H') (r : RDs (g.hide l) ρ H vs ds) : WalkD (g.hide l) ρ H J ds := by
  refine ⟨G', YAt vs, by rw [← r.length]; exact w, hG, fun i ρ' H' x H'' S hi e rs y => ?_⟩
  obtain ⟨rfl, hx⟩ := y
  have hd : ds[i]? = some ds[i] := List.getElem?_eq_getElem hi
  obtain ⟨v, h1, h2⟩ := r.get hd
  rw [hx] at h1; cases h1
  exact ⟨ds[i], hd, Ex.refl, rs, h2.mono e, fun _ _ h => h⟩
theorem rds_hide {l l' : List Addr} {ρ : List Addr} {H : Hp} {vs : List V} {ds : List D} (hl : ∀ a, a ∈ l' → a ∈ l ∨ H a = none) (r : RDs (g.hide l) ρ H vs ds) : RDs (g.hide l') ρ H vs ds :=
  RDs.tr (g := g.hide l) (g' := g.hide l') rfl (fun _ _ h => h) (fun a o n h => ⟨⟨n.1, fun m => (hl a m).elim n.2 fun z => by rw [z] at h; cases h⟩, h⟩) r
abbrev iSeq (K : PySem.W.Frag) (te : TE) : TI := fun σ H R => te σ H fun x H1 => (∃ a, x = .ref a ∧ (∃ xs, SqL K H1 a xs) ∧ R (Itl K a) H1) ∨ (∃ a, x = .ref a ∧ (∃ xs, SqT K H1 a xs) ∧ R (Itt K a) H1)
theorem simi_list {te : TE} {a : EM} (ha : SimE g E te a) : SimI g E (iList K te) (itList a) := by
  intro l σ H R ρ S env re rs p
  unfold itList at p
  refine ha l σ H _ ρ S env re rs ?_
  cases e : a env S with
  | err x S2 => rw [e] at p; exact p
  | stuck => rw [e] at p; exact p
  | ok d S1 =>
    rw [e] at p
    simp only [Res.bind] at p
    intro ρ1 H1 v e1 rs1 rx
    cases rx with
    | @lst ad vs ds h n r =>
      exact ⟨ad, rfl, ⟨vs, SqL.of h⟩, p ρ1 H1 _ e1 rs1 fun l' hl => walkd_at walk_list (fun ρ' H' ex => SqL.of (ex.keep _ _ n.1 h)) (rds_hide hl r)⟩
    | _ => exact p.elim
theorem simi_tup {te : TE} {a : EM} (ha : SimE g E te a) : SimI g E (iTup K te) (itTup a) := by
  intro l σ H R ρ S env re rs p
  unfold itTup at p
  refine ha l σ H _ ρ S env re rs ?_
  cases e : a env S with
  | err x S2 => rw [e] at p; exact p
  | stuck => rw [e] at p; exact p
  | ok d S1 =>
    rw [e] at p
    simp only [Res.bind] at p
    intro ρ1 H1 v e1 rs1 rx
    cases rx with
    | @tup ad vs ds h n r =>
      exact ⟨ad, rfl, ⟨vs, SqT.of h⟩, p ρ1 H1 _ e1 rs1 fun l' hl => walkd_at walk_tup (fun ρ' H' ex => SqT.of (ex.keep _ _ n.1 h)) (rds_hide hl r)⟩
    | _ => exact p.elim
theorem simi_range1 {ta : TA} {a : AM} (ha : SimA g E ta a) : SimI g E (iRng1 ta) (itRange1 a) := by
  intro l σ H R ρ S env re rs p
  refine ha l σ H _ ρ S env re rs ?_
  unfold itRange1 at p
  cases e : a env S with
  | err x S2 => rw [e] at p; exact p
  | stuck => rw [e] at p; exact p
  | ok ds S1 =>
    rw [e] at p
    simp only [Res.bind] at p
    intro ρ1 H1 vs e1 rs1 rx
    split at p
    · rename_i q hq
      split at hq
      · rename_i j
        split at hq
        · rename_i hj
          cases hq
          obtain ⟨v, rfl, r⟩ := rx.one
          cases r
          refine ⟨j, rfl, hj.1, hj.2, p ρ1 H1 _ e1 rs1 fun l' hl => ?_⟩
          refine ⟨fun _ => True, YFn fun i => .int (0 + i), by rw [show (List.map (fun i : Nat => D.int (0 + (i : Int))) (List.range j.toNat)).length = j.toNat by simp]; exact walk_range, fun _ _ _ => trivial, fun i ρ' H' x H'' S' hi e2 rs2 y => ?_⟩
          obtain ⟨rfl, rfl⟩ := y
          have hi' : i < j.toNat := by simpa using hi
          exact ⟨.int (0 + i), by simp [hi'], Ex.refl, rs2, .int _, fun _ _ h => h⟩
        · cases hq
      · cases hq
    · rename_i hq
      split at hq
      · split at hq <;> cases hq
      · cases hq
    · exact p.elim
theorem simi_str {te : TE} {a : EM} (ha : SimE g E te a) : SimI g E (iStr te) (itStr a) := by
  intro l σ H R ρ S env re rs p
  refine ha l σ H _ ρ S env re rs ?_
  unfold itStr at p
  cases e : a env S with
  | err x S2 => rw [e] at p; exact p
  | stuck => rw [e] at p; exact p
  | ok d S1 =>
    rw [e] at p
    simp only [Res.bind] at p
    intro ρ1 H1 v e1 rs1 rx
    cases rx with
    | str z =>
      refine ⟨z, rfl, p ρ1 H1 _ e1 rs1 fun l' hl => ?_⟩
      refine ⟨fun _ => True, _, by simpa using walk_str (z := z), fun _ _ _ => trivial, fun i ρ' H' x H'' S' hi e2 rs2 y => ?_⟩
      obtain ⟨rfl, c, hc, rfl⟩ := y
      exact ⟨.str ⟨#[c]⟩, by simp [hc], Ex.refl, rs2, .str _, fun _ _ h => h⟩
    | _ => exact p.elim
end
end Lg

namespace L2
open PySem PySem.Spec PyProof.Rows
section
variable {X : Cx} {tg : Expr}
/-- over a list or a tuple -/
theorem pi_seq {l : Expr} {tl : TE} (hl : PE X l tl) : PI X tg l (Lg.iSeq X.K tl) := by
  refine ⟨fun pins s σ H R I h => ?_⟩
  refine thn (hl.run pins s σ H _ I h) fun v s1 ⟨x, H1, I1, r1, q1⟩ => ?_
  rcases q1 with ⟨a, e, ⟨xs, hq⟩, q⟩ | ⟨a, e, ⟨xs, hq⟩, q⟩
  · subst e
    cases r1
    obtain ⟨its, rv, p, hz⟩ := I1.list hq
    refine wpAny_pyIter_list p.isList ?_
    refine ⟨s1.heap.objs.size, [s1.heap.objs.size], _, _, H1, rfl, I1.kept (t' := s1.toks) fun b o e => Heap.get?_push_of_some _ e, turn_list a _, ⟨_, Heap.get?_push_size _ rfl, rfl, rfl⟩, fun b hb => ?_, q⟩
    have e : b = s1.heap.objs.size := by simpa using hb
    subst e
    exact I1.fpOk (Nat.le_refl _) (I1.hok.fresh (Nat.le_refl _))
  · subst e
    cases r1
    obtain ⟨its, rv, p, hz⟩ := I1.tuple hq
    refine wpAny_pyIter_tuple (show s1.heap.IsTuple a its.toArray from p) ?_
    refine ⟨s1.heap.objs.size, [s1.heap.objs.size], _, _, H1, rfl, I1.kept (t' := s1.toks) fun b o e => Heap.get?_push_of_some _ e, turn_tuple a _, ⟨_, Heap.get?_push_size _ rfl, rfl, rfl⟩, fun b hb => ?_, q⟩
    have e : b = s1.heap.objs.size := by simpa using hb
    subst e
    exact I1.fpOk (Nat.le_refl _) (I1.hok.fresh (Nat.le_refl _))
/-- x in a tuple of data -/
def rInT (K : PySem.W.Frag) : R2 := fun x y H Q => ∃ d ds, Dp K H x d ∧ Dp K H y (.tuple ds) ∧ SeqAt.shaped d = true ∧ SeqAt.shaped (.tuple ds) = true ∧ Q (.bl (ds.any fun z => PyData.eqv z d)) H
def rNotInT (K : PySem.W.Frag) : R2 := fun x y H Q => ∃ d ds, Dp K H x d ∧ Dp K H y (.tuple ds) ∧ SeqAt.shaped d = true ∧ SeqAt.shaped (.tuple ds) = true ∧ Q (.bl (!ds.any fun z => PyData.eqv z d)) H
theorem op_inT (hu : X.A.units + 65 < cLine) : OpR X (compareOp .In) (rInT X.K) := by
  intro pins s σ H x y v u Q I rx ry h
  obtain ⟨d, ds, hd, he, sd, se, q⟩ := h
  obtain ⟨as, r1⟩ := Dp.reads I d x v hd rx
  obtain ⟨bs, r2⟩ := Dp.reads I (.tuple ds) y u he ry
  exact SeqAt.in_tuple_reads r2 r1 (SeqAt.canLay_of_shaped se) (SeqAt.canLay_of_shaped sd) (room_in_shaped sd hu) ⟨.bl _, H, I, rfl, q⟩
theorem op_notInT (hu : X.A.units + 65 < cLine) : OpR X (compareOp .NotIn) (rNotInT X.K) := by
  intro pins s σ H x y v u Q I rx ry h
  obtain ⟨d, ds, hd, he, sd, se, q⟩ := h
  obtain ⟨as, r1⟩ := Dp.reads I d x v hd rx
  obtain ⟨bs, r2⟩ := Dp.reads I (.tuple ds) y u he ry
  exact SeqAt.notIn_tuple_reads r2 r1 (SeqAt.canLay_of_shaped se) (SeqAt.canLay_of_shaped sd) (room_in_shaped sd hu) ⟨.bl _, H, I, rfl, q⟩
end
end L2

namespace Lg
open PySem L2
section
variable {g : G} {E : XK} {K : PySem.W.Frag}
theorem simi_seq {te : TE} {a : EM} (ha : SimE g E te a) : SimI g E (iSeq K te) (itSeq a) := by
  intro l σ H R ρ S env re rs p
  refine ha l σ H _ ρ S env re rs ?_
  unfold itSeq at p
  cases e : a env S with
  | err x S2 => rw [e] at p; exact p
  | stuck => rw [e] at p; exact p
  | ok d S1 =>
    rw [e] at p
    simp only [Res.bind] at p
    intro ρ1 H1 v e1 rs1 rx
    cases rx with
    | @tup ad vs ds h n r =>
      exact .inr ⟨ad, rfl, ⟨vs, SqT.of h⟩, p ρ1 H1 _ e1 rs1 fun l' hl => walkd_at walk_tup (fun ρ' H' ex => SqT.of (ex.keep _ _ n.1 h)) (rds_hide hl r)⟩
    | @lst ad vs ds h n r =>
      exact .inl ⟨ad, rfl, ⟨vs, SqL.of h⟩, p ρ1 H1 _ e1 rs1 fun l' hl => walkd_at walk_list (fun ρ' H' ex => SqL.of (ex.keep _ _ n.1 h)) (rds_hide hl r)⟩
    | _ => exact p.elim
/-- a, b = x, y -/
def sPar (i j : Nat) (a : AM) : SM := fun env S => (a env S).bindS fun ds S1 => match ds with
  | [x, y] => .next ((env.set i (some x)).set j (some y)) S1
  | _ => .stuck
theorem SimA.bindS {t : TA} {m : AM} (h : SimA g E t m) {l : List Addr} {σ : L2.St} {H : Hp} {Q : List V → Hp → Prop} {D' : Ends} {ρ : List Addr} {S : Store} {env : En} {f : List D → Store → FRes} (re : RE (g.hide l) ρ H σ env) (rs : RS (g.hide l) ρ S H) (p : PostS (g.hide l) E ρ H D' ((m env S).bindS f))
    (k : ∀ d S' ρ' H' v, Ex ρ H ρ' H' → RS (g.hide l) ρ' S' H' → RDs (g.hide l) ρ' H' v d → RE (g.hide l) ρ' H' σ env → PostS (g.hide l) E ρ' H' D' (f d S') → Q v H') : t σ H Q := by
  refine h l σ H Q ρ S env re rs ?_
  cases e : m env S with
  | ok d S' => rw [e] at p; exact fun ρ' H' v a b c => k d S' ρ' H' v a b c (re.mono a) (PostS.ex p a)
  | err x S' => rw [e] at p; exact p
  | stuck => rw [e] at p; exact p
theorem sims_par {i j : Nat} {ta : TA} {a : AM} (ha : SimA g E ta a) : SimS g E (tPar i j ta) (sPar i j a) := by
  intro l D' σ H ρ S env re rs p
  refine ha.bindS re rs p fun ds S1 ρ1 H1 vs e1 rs1 rx re1 p1 => ?_
  split at p1
  · obtain ⟨v, w, rfl, r1, r2⟩ := rx.two
    exact ⟨v, w, rfl, p1 ρ1 H1 _ Ex.refl rs1 ((re1.set r1 i).set r2 j)⟩
  · exact p1.elim
/-! ### x in xs -/
def pyL (ps : List PyData) (p : PyData) : Bool := ps.any fun z => PyData.eqv z p
def dInB (x y : D) (S : Store) : Option Bool := match pyOf x S, pyOf y S with
  | some p, some (.list qs) => if SeqAt.shaped p = true ∧ SeqAt.shaped (.list qs) = true then some (pyL qs p) else none
  | some p, some (.tuple qs) => if SeqAt.shaped p = true ∧ SeqAt.shaped (.tuple qs) = true then some (pyL qs p) else none
  | some (.str a), some (.str b) => match a.cps.toList with
    | [c] => some (decide (c ∈ b.cps.toList))
    | _ => none
  | _, _ => none
def dIn (x y : D) (S : Store) : Res D := match dInB x y S with
  | some b => .ok (.bl b) S
  | none => .stuck
def dNotIn (x y : D) (S : Store) : Res D := match dInB x y S with
  | some b => .ok (.bl (!b)) S
  | none => .stuck
abbrev rInA (K : PySem.W.Frag) : R2 := fun x y H Q => rInD K x y H Q ∨ rInT K x y H Q ∨ ∃ (c : Nat) (z : PySem.Str), x = .str ⟨#[c]⟩ ∧ y = .str z ∧ Q (.bl (decide (c ∈ z.cps.toList))) H
abbrev rNotInA (K : PySem.W.Frag) : R2 := fun x y H Q => rNotInD K x y H Q ∨ rNotInT K x y H Q ∨ ∃ (c : Nat) (z : PySem.Str), x = .str ⟨#[c]⟩ ∧ y = .str z ∧ Q (.bl (!decide (c ∈ z.cps.toList))) H
theorem op_inA {X : Cx} (hu : X.A.units + 65 < cLine) : OpR X (compareOp .In) (rInA X.K) := (op_inD hu).or ((op_inT hu).or op_in_sign)
theorem op_notInA {X : Cx} (hu : X.A.units + 65 < cLine) : OpR X (compareOp .NotIn) (rNotInA X.K) := (op_notInD hu).or ((op_notInT hu).or op_notIn_sign)
theorem str_of_py {ρ : List Addr} {H : Hp} {S : Store} {v : V} {d : D} {a : PySem.Str} (rs : RS g ρ S H) (r : RD g ρ H v d) (h : pyOf d S = some (.str a)) : v = .str a := by
  have := py_of (K := ([] : PySem.W.Frag)) rs r h
  cases this; rfl
theorem str_one {a : PySem.Str} {c : Nat} (h : a.cps.toList = [c]) : a = ⟨#[c]⟩ := by
  obtain ⟨cps⟩ := a
  simp only at h
  congr 1
  rw [← Array.toArray_toList (xs := cps), h]
theorem sim_in : OpSim g E (rInA K) dIn := by
  intro l x y H Q ρ S dx dy rx ry rs p
  unfold dIn dInB at p
  split at p
  · rename_i b e
    split at e
    · rename_i p1 qs e1 e2
      split at e
      · rename_i hs; cases e
        exact .inl ⟨p1, qs, py_of rs rx e1, py_of rs ry e2, hs.1, hs.2, p ρ H _ Ex.refl rs (.bl _)⟩
      · cases e
    · rename_i p1 qs e1 e2
      split at e
      · rename_i hs; cases e
        exact .inr (.inl ⟨p1, qs, py_of rs rx e1, py_of rs ry e2, hs.1, hs.2, p ρ H _ Ex.refl rs (.bl _)⟩)
      · cases e
    · rename_i a b' e1 e2
      split at e
      · rename_i c ec
        cases e
        refine .inr (.inr ⟨c, b', ?_, str_of_py rs ry e2, p ρ H _ Ex.refl rs (.bl _)⟩)
        rw [str_of_py rs rx e1, str_one ec]
      · cases e
    · cases e
  · exact p.elim
theorem sim_notIn : OpSim g E (rNotInA K) dNotIn := by
  intro l x y H Q ρ S dx dy rx ry rs p
  unfold dNotIn dInB at p
  split at p
  · rename_i b e
    split at e
    · rename_i p1 qs e1 e2
      split at e
      · rename_i hs; cases e
        exact .inl ⟨p1, qs, py_of rs rx e1, py_of rs ry e2, hs.1, hs.2, p ρ H _ Ex.refl rs (.bl _)⟩
      · cases e
    · rename_i p1 qs e1 e2
      split at e
      · rename_i hs; cases e
        exact .inr (.inl ⟨p1, qs, py_of rs rx e1, py_of rs ry e2, hs.1, hs.2, p ρ H _ Ex.refl rs (.bl _)⟩)
      · cases e
    · rename_i a b' e1 e2
      split at e
      · rename_i c ec
        cases e
        refine .inr (.inr ⟨c, b', ?_, str_of_py rs ry e2, p ρ H _ Ex.refl rs (.bl _)⟩)
        rw [str_of_py rs rx e1, str_one ec]
      · cases e
    · cases e
  · exact p.elim
/-! ### what kind a thing is of: a built-in type by its name -/
def kindD (d : D) (S : Store) : Option String := match d with
  | .non => some "NoneType"
  | .bl _ => some "bool"
  | .int _ => some "int"
  | .str _ => some "str"
  | .tup _ => some "tuple"
  | .lst _ => some "list"
  | .emp _ => some "dict"
  | .loc n => match S[n]? with
    | some (.lst _) => some "list"
    | some (.dK _) => some "dict"
    | some (.dT _) => some "dict"
    | _ => none
  | _ => none
def mIsi (T : String) (a : EM) : EM := fun env S => (a env S).bind fun d S1 => match kindD d S1 with
  | some k => match kitB k T with
    | some b => .ok (.bl b) S1
    | none => .stuck
  | none => .stuck
theorem kind_ty {l : List Addr} {ρ : List Addr} {H : Hp} {S : Store} {v : V} {d : D} {k : String} (rs : RS (g.hide l) ρ S H) (r : RD (g.hide l) ρ H v d) (h : kindD d S = some k) : TyX K H v (.type k) := by
  cases r with
  | non => cases h; exact .base .non
  | bl b => cases h; exact .base (.bl b)
  | int i => cases h; exact .base (.int i)
  | str s => cases h; exact .base (.str s)
  | tup h1 n r => cases h; exact .base (.tup h1)
  | lst h1 n r => cases h; exact .base (.lst h1)
  | scr n => cases h
  | empF h1 n => cases h; exact .fDict h1
  | empU h1 n => cases h; exact .base (.dK h1)
  | @loc n a hn =>
    simp only [kindD] at h
    split at h
    · rename_i zs e
      obtain ⟨vs, h1, h2⟩ := rs.ob n a _ hn e
      cases h; exact .base (.lst h1)
    · rename_i zs e
      obtain ⟨vs, h1, h2⟩ := rs.ob n a _ hn e
      cases h; exact .base (.dK h1)
    · rename_i zs e
      obtain ⟨vs, h1, h2⟩ := rs.ob n a _ hn e
      cases h; exact .base (.dT h1)
    · cases h
theorem sim_isi {T : String} {ta : TE} {a : EM} (ha : SimE g E ta a) : SimE g E (tCB (rIsi K) (tCons ta (tCons (tC (.ty T)) tNil))) (mIsi T a) := by
  intro l σ H Q ρ S env re rs p
  refine ha.bind re rs p fun d S1 ρ1 H1 v e1 rs1 rx re1 p1 => ?_
  split at p1
  · rename_i k ek
    split at p1
    · rename_i b eb
      exact ⟨v, .ty T, .type k, .type T, b, rfl, .ty T, kind_ty rs1 rx ek, kit_ty eb, p1 ρ1 H1 _ Ex.refl rs1 (.bl _)⟩
    · exact p1.elim
  · exact p1.elim
end
end Lg

namespace Lg
open PySem PySem.Spec L2
abbrev sEnv (qual : PySem.Str) (scope : Scope) (s : Shared) (f cda cc : Addr) : Env := PySem.W.ksEnv qual scope s.heap.objs.size f (.ref cda) cc
def cxS (P : Program) (w : World) (K : PySem.W.Frag) (mg : PySem.Str → Option Value) (base : Heap) (N : List PySem.Str) (qual : PySem.Str) (scope : Scope) (f cda cc : Addr) (A : Around) (outer : List Env) (s : Shared) (H : Hp) (E : XK) : Cx where
  prog := P
  w := w
  K := K
  mg := mg
  base := base
  A := A.deeper (sEnv qual scope s f cda cc)
  N := N
  s_0 := s
  H_0 := H
  env := sEnv qual scope s f cda cc
  outer := outer
  stack := sEnv qual scope s f cda cc :: outer
  ex := []
  calm := true
  fn := fun _ => false
  pn := []
  xe := fun e s' => wpAny (model P w) (A.deeper (sEnv qual scope s f cda cc)) (leaving (sEnv qual scope s f cda cc) e) (fun _ s'' => L2.CX P w outer H s E e s'') (fun e' s'' => L2.CX P w outer H s E e' s'') s'
structure ScS (N ps : List PySem.Str) (sc : Scope) : Prop where
  kind : sc.kind = .function
  co : sc.isCoroutine = false
  gen : sc.isGenerator = false
  nd : N.Nodup
  pre : N.take ps.length = ps
  par : ∀ x ∈ ps, sc.names.lookup x = some .local
  nocell : ∀ y ∈ sc.names, y.2 ≠ .cell
  free : ∀ y ∈ sc.names, y.2 = .free → y.1 = "__class__"
  su : sc.names.lookup ("super" : PySem.Str) = some .globalImplicit
  cl : sc.names.lookup ("__class__" : PySem.Str) = some .free
theorem zip_out {x : PySem.Str} : ∀ {ps : List PySem.Str} {us : List Value}, x ∉ ps → (ps.zip us).reverse.lookup x = none := by
  intro ps us h
  have : ∀ l : List (PySem.Str × Value), (∀ p ∈ l, p.1 ≠ x) → l.lookup x = none := by
    intro l
    induction l with
    | nil => intro _; rfl
    | cons p l ih =>
      intro q
      obtain ⟨k, v⟩ := p
      have q1 : k ≠ x := q (k, v) List.mem_cons_self
      rw [List.lookup_cons, show (x == k) = false by simpa using Ne.symm q1]
      exact ih fun p hp => q p (List.mem_cons_of_mem _ hp)
  refine this _ fun p hp e => h ?_
  have hp := List.mem_reverse.mp hp
  obtain ⟨k, v⟩ := p
  have e : k = x := e
  subst e
  exact (List.of_mem_zip hp).1
theorem zip_get {x : PySem.Str} {u : Value} : ∀ {ps : List PySem.Str} {us : List Value} {i : Nat}, ps.Nodup → ps[i]? = some x → us[i]? = some u → (ps.zip us).reverse.lookup x = some u
  | [], _, _, _, h, _ => by simp at h
  | _ :: _, [], _, _, _, h => by simp at h
  | p :: ps, v :: us, 0, nd, h1, h2 => by
    simp at h1 h2; subst h1; subst h2
    rw [List.zip_cons_cons, List.reverse_cons, List.lookup_append, zip_out (List.nodup_cons.mp nd).1]
    simp
  | p :: ps, v :: us, i + 1, nd, h1, h2 => by
    rw [List.zip_cons_cons, List.reverse_cons, List.lookup_append, zip_get (i := i) (List.nodup_cons.mp nd).2 (by simpa using h1) (by simpa using h2)]
    rfl
section
variable {P : Program} {w : World} {K : PySem.W.Frag} {mg : PySem.Str → Option Value} {base : Heap} {N ps : List PySem.Str} {qual : PySem.Str} {scope : Scope} {f cda cc : Addr} {A : Around} {outer : List Env} {s : Shared} {H : Hp} {E : XK} {us : List Value} {vs : List V}
theorem kind_sup {cl : List (PySem.Str × Addr)} (S : ScS N ps scope) {x : PySem.Str} (h : scope.names.lookup x = some .cell ∨ scope.names.lookup x = some .free) : x = "__class__" := by
  rcases h with h | h
  · exact absurd rfl (S.nocell _ (PySem.mem_of_lookup h))
  · exact S.free _ (PySem.mem_of_lookup h) rfl
theorem look1 {cc c : Addr} {x : PySem.Str} (h : ([("__class__", cc)] : List (PySem.Str × Addr)).lookup x = some c) : x = "__class__" ∧ c = cc := by
  rw [List.lookup_cons] at h
  by_cases e : x = "__class__"
  · subst e
    simp at h
    exact ⟨rfl, h.symm⟩
  · rw [show (x == ("__class__" : PySem.Str)) = false by simpa using e] at h
    cases h
theorem inv_startS (S : ScS N ps scope) {cl : Value} {cld : Option Addr} {csl : Array (Option Value)} {D : Addr} (hcell : K.lookup cc = some ⟨cl, cld, .cell (some (.ref D)), csl⟩) (hd : A.handled = none) (e0 : Env0 P w K mg base A outer s H) (hl : vs.length = ps.length) (r : Vals vs us)
    {h0 : Heap} {t : Nat} (hns : h0.Ns s.heap.objs.size (fun x => (ps.zip us).reverse.lookup x)) (hk : ∀ b o, s.heap.get? b = some o → h0.get? b = some o) :
    Inv (cxS P w K mg base N qual scope f cda cc A outer s H E) [] (L2.start N vs) H { s with heap := h0, toks := t } := by
  have hpl : ps.length ≤ N.length := by have := congrArg List.length S.pre; rw [List.length_take] at this; omega
  have noA : ∀ b : Addr, b ∉ (cxS P w K mg base N qual scope f cda cc A outer s H E).ex := fun b z => absurd (show b ∈ ([] : List Addr) from z) (by simp)
  have hB := e0.mod.kin _ _ hcell
  refine ⟨⟨e0.mod, S.kind, rfl, rfl, Nat.le_refl _, fun y z c h1 h2 => ?_, fun y hy => ?_, fun y c q h => ?_, fun _ => hd, Around.frames_deeper e0.frames, .inr ⟨rfl, rfl⟩, fun b z => absurd z (noA b), e0.bs, e0.bsz, fun b _ _ => noA b, fun b z => absurd z (noA b), e0.funs, e0.frf⟩,
    rfl, e0.bare, Un.kept hk, ⟨_, hns, fun i y v h1 h2 h3 => ?_⟩, fun y c h => ?_, e0.hok.fresh (Nat.le_refl _), fun y c h => ?_, fun p hp => absurd (show p ∈ ([] : List (Addr × Obj)) from hp) (by simp), e0.hok.kept hk, ?_⟩
  · rw [(look1 h1).1, (look1 h2).1]
  · rw [kind_sup (cl := []) S hy]
    exact ⟨cc, List.lookup_cons_self (k := PySem.Str.ofString "__class__")⟩
  · exact absurd (show false = true from q) (by decide)
  · have hi : i < vs.length := by
      unfold L2.start at h2
      by_cases hi : i < vs.length
      · exact hi
      · rw [List.getElem?_append_right (by simpa using hi)] at h2
        rw [List.getElem?_replicate] at h2
        split at h2 <;> cases h2
    have ha : vs[i]? = some v := by
      unfold L2.start at h2
      rw [List.getElem?_append_left (by simpa using hi), List.getElem?_map] at h2
      cases e : vs[i]? with
      | none => rw [e] at h2; cases h2
      | some a => rw [e] at h2; cases h2; rfl
    obtain ⟨u, hu, rv⟩ := r.get ha
    have hp : ps[i]? = some y := by
      rw [← S.pre, List.getElem?_take_of_lt (by omega)]; exact h1
    have ndP : ps.Nodup := by rw [← S.pre]; exact S.nd.sublist (List.take_sublist _ _)
    exact ⟨u, rv, .inl ⟨S.par y (List.mem_of_getElem? hp), zip_get ndP hp hu⟩⟩
  · obtain ⟨_, rfl⟩ := look1 h
    exact ⟨some (.ref D), _, hk _ _ (e0.bs _ _ hB).1, rfl⟩
  · obtain ⟨_, rfl⟩ := look1 h
    exact (e0.bs _ _ hB).2
  · unfold L2.start
    show _ = N.length
    rw [List.length_append, List.length_map, List.length_replicate]
    omega
end

/-- what the written part says, for super().__init__ in the own __init__ of the exception class at C -/
structure SupC (K : PySem.W.Frag) (prog : Program) (C cda cc : Addr) : Prop where
  T : OexC K C
  hm : PySem.W.ks_superIn K C C "__init__" = some (some (.builtin "ValueError.__init__"))
  hB : PySem.W.subIn K (.ref C) (.type "ValueError") = some true
  hsub : PySem.W.mroIn K C (.ref C) = some true
  ho : PySem.W.nsIn K cStatics "thirdparty.any" = some none
  code : ∃ ccl cdd vs ccs file tf, K.lookup cda = some ⟨ccl, cdd, .fields vs, ccs⟩ ∧ vs[2]? = some (.str file tf) ∧ ((prog.main.file : PySem.Str) == file) = true
  cell : ∃ cl cld csl, K.lookup cc = some ⟨cl, cld, .cell (some (.ref C)), csl⟩
  top : (prog.main.scope.names.lookup ("super" : PySem.Str)).isSome = false
theorem boot_super : bootBuiltins "super" = some (.type "super") := PyProof.Rows.Boot.super
section
variable {A : Around} {E : Value → Shared → Prop} {s : Shared}
/-- the wrapper called -/
theorem wrap_call {X : Cx} {pins : List (Addr × Obj)} {σ : L2.St} {H : Hp} {C a u : Addr} {rest : List Value} {Q : Value → Shared → Prop} (T : OexC X.K C) (I : Inv X pins σ H s) (e : H a = some (exo a C none)) (hu : s.heap.get? u = some (PySem.W.kxs_mw "ValueError.__init__" a)) (hz : rest.length ≤ sizeLine)
    (h : ∀ s', Inv X pins σ H s' → Q .none s') : wpAny (model X.prog X.w) A (call (.ref u) rest) Q E s := by
  obtain ⟨nm, q, N, bs, bm, sn, sub, ab, col, dd, k0, k1, k2, k3, k5, hC, hbm⟩ := T.cls
  obtain ⟨t1, ho⟩ := exo_at I.hok e
  have hC' := I.kIn _ _ hC
  obtain ⟨hh, g, d, tk, os⟩ := s
  refine wpAny_call (codeAny_of_tree ?_)
  show wpAny _ A.in1 (callAny (.ref u) ⟨rest, []⟩) _ _ _
  simp only [callAny]
  refine wpAny_bind (wpAny_load hu ?_)
  simp only [PySem.W.kxs_mw, show (Value.type "method-wrapper" == Value.type "method" || Value.type "method-wrapper" == Value.type "builtin_function_or_method" || Value.type "method-wrapper" == Value.type "method-wrapper") = true by decide, if_true]
  refine PySem.W.KFB.if_so (by decide) ?_
  refine wpAny_bind (PySem.W.check_bound_init F.excBase_ValueError.toExcCallFacts hC' ho rfl ?_)
  refine wpAny_bind (wpAny_pure (wpAny_pure ?_))
  refine ⟨plainId_quiet F.excBase_ValueError.init.plain _, codeAny_builtin F.excBase_ValueError.initEntry ?_⟩
  refine PySem.W.exc_init_tree (cls := .ref C) (t0 := t1) (dv := none) (c2 := .none) (c3 := .none) (b4 := .bool false) ho hz fun h' k hx _ => ?_
  have J := I.write (t' := tk) (x := a) (e := a) (o := exo a C none) (by rw [e]; exact True.intro) (.inl rfl) k ⟨_, hx⟩ (exo_ok hx)
  have eu : upd H a (exo a C none) = H := by
    funext b
    by_cases hb : b = a
    · rw [hb, upd_same, e]
    · rw [upd_ne hb]
  rw [eu] at J
  exact h _ J
end

section
variable {P : Program} {w : World} {K : PySem.W.Frag} {mg : PySem.Str → Option Value} {base : Heap}
theorem fn_super {N ps : List PySem.Str} {k : Nat} {sp : Sp} {f C cda cc : Addr} {name qual z : PySem.Str} {params : Arguments} {rest : List Stmt} {scope : Scope} {dV kV doc pm ct oc : Value} {an od : Option Addr} {osl : Array (Option Value)} {p0 p1 p2 p3 p4 p5 : Pos} {j : Nat} {ar : Arg}
    (lk : K.lookup f = some ⟨oc, od, .func (PySem.W.ksFn name qual params (.Expr (.Call (.Attribute (.Call (.Name "super" p0) [] [] p1) "__init__" p2) [.Constant (.str z) j p3] [] p4) p5 :: rest) scope dV kV doc pm an (.ref cda) ct cc), osl⟩)
    (hcd : PySem.W.codeIn K (.ref cda) qual = true) (S : ScS N ps scope) (U : SupC K P C cda cc) (hsu : mg "super" = none) (hp : (params.posonlyargs ++ params.args).head? = some ar) {pl : Shared → Sem Bool}
    (hev : ∀ s : Shared, eval (.Call (.Attribute (.Call (.Name "super" p0) [] [] p1) "__init__" p2) [.Constant (.str z) j p3] [] p4) (sEnv qual scope s f cda cc) = (do
      let ov ← attributeBase (.Call (.Name "super" p0) [] [] p1) "__init__" (sEnv qual scope s f cda cc) (eval (.Call (.Name "super" p0) [] [] p1) (sEnv qual scope s f cda cc))
      standAt p2.atName
      let (g, first) ← holding [ov] (getMethod ov "__init__" (pl s))
      callWith p4 g first (backTo p4 (starEach [.Constant (.str z) j p3] (sEnv qual scope s f cda cc))) []))
    (hps : ps.head? = some ar.arg)
    (len : ∀ vs H Q E, sp vs H Q E → vs.length = ps.length) (hself : ∀ vs H Q E, sp vs H Q E → ∃ a ws, vs = .ref a :: ws ∧ H a = some (exo a C none))
    (hbody : ∀ (A : Around) (outer : List Env) (s : Shared) (H : Hp) (vs : List V) (Q : VK) (E : XK), Room k (A.deeper (sEnv qual scope s f cda cc)) → sp vs H Q E →
      ∃ t, PSs (cxS P w K mg base N qual scope f cda cc A outer s H E) rest t ∧ t { nx := fun _ H' => Q .non H', rt := Q } (L2.start N vs) H) :
    FnOk P w K mg base (L2.CX P w) (k + 1) f (PySem.W.ksFn name qual params (.Expr (.Call (.Attribute (.Call (.Name "super" p0) [] [] p1) "__init__" p2) [.Constant (.str z) j p3] [] p4) p5 :: rest) scope dV kV doc pm an (.ref cda) ct cc) ps sp := by
  refine ⟨len, fun A outer s H args us vs Q E hr e0 hb r hsp => ?_⟩
  obtain ⟨a, ws, rfl, ha⟩ := hself _ _ _ _ hsp
  have hl := len _ _ _ _ hsp
  have KX : K.In s.heap := e0.mod.kin.keeps fun b o e => (e0.bs b o e).1
  have lim : s.heap.NoLimit := e0.mod.nolimit.keeps fun b o e => (e0.bs b o e).1
  obtain ⟨cl, cld, csl, hcell⟩ := U.cell
  obtain ⟨ccl, cdd, fvs, ccs, file, tf, hcode, hvs, hfile⟩ := U.code
  refine PySem.ks_codeAny_call_defAt (binds := ps.zip us) hr.depth (KX _ _ lk) rfl lim (PySem.W.codeRec_of KX hcd) rfl hb S.nocell (fun y hy => S.par _ (List.of_mem_zip (a := y.1) (b := y.2) hy).1) (fun h0 hns hk => ?_) S.co S.gen S.kind
  have I : Inv (cxS P w K mg base N qual scope f cda cc A outer s H E) [] (L2.start N (.ref a :: ws)) H ⟨h0, s.gens, s.drawn, s.toks + (ps.zip us).length, s.os⟩ := inv_startS S hcell hr.hd e0 hl r hns hk
  show _root_.PySem.wpAt (model P w) (A.deeper (sEnv qual scope s f cda cc)) (.func _ (sEnv qual scope s f cda cc)) (execs _ (sEnv qual scope s f cda cc)) _ _ _
  refine PySem.ks_wpAt_execs_cons ?_
  refine PySem.ks_wpAt_Expr_any ?_ (by unfold interactive; rw [show (sEnv qual scope s f cda cc).scope.kind = .function from S.kind]; rfl)
  refine PySem.ks_wpAt_MethodCall ?_ (hev s)
  obtain ⟨pr, rfl⟩ : ∃ pr, ps = ar.arg :: pr := by
    cases ps with
    | nil => cases hps
    | cons p pr => cases hps; exact ⟨pr, rfl⟩
  obtain ⟨ur, rfl⟩ : ∃ ur, us = .ref a :: ur := by
    cases r with
    | @cons _ u0 _ ur ra rr => obtain rfl : u0 = Value.ref a := ra; exact ⟨ur, rfl⟩
  have hv0 : ((ar.arg :: pr).zip (Value.ref a :: ur)).reverse.lookup ar.arg = some (.ref a) := zip_get (i := 0) (by rw [← S.pre]; exact S.nd.sublist (List.take_sublist _ _)) rfl rfl
  obtain ⟨nm, q, NN, bs, bm, sn, sub, ab, col, dd, k0, k1, k2, k3, k5, hC, hbm⟩ := U.T.cls
  have hcl : PySem.W.clsIn K C = some { name := nm, bases := bs, mro := .ref C :: bm, ns := NN, qualname := q, hasDict := true, slotNames := sn, subclasses := sub, abstract := ab, collection := col, hasDel := false } := by unfold PySem.W.clsIn; rw [hC] <;> rfl
  have hC1 := I.kIn _ _ hC
  obtain ⟨t1, hob⟩ := exo_at I.hok ha
  refine PySem.ks_wpAt_super_base (env := sEnv qual scope s f cda cc) S.su S.cl (by decide) rfl (I.kIn _ _ lk) rfl hp rfl (I.kIn _ _ hcode) rfl hvs hfile U.top ?_
  obtain ⟨mb, hb1, hb2⟩ := I.mod.blt
  refine PySem.W.ks_loadName_global S.kind S.su (Calls.loadGlobal_builtin (env := sEnv qual scope s f cda cc) (I.mod.glob.keeps I.bk) hsu (hb1.keeps I.bk) ((hb2 _ (by decide)).trans boot_super) ⟨rfl, ?_⟩)
  refine wpAny_loadName_free S.kind S.cl rfl ⟨_, I.kIn _ _ hcell, rfl⟩ ?_
  refine wpAny_loadName_local S.kind (S.par _ List.mem_cons_self) hns hv0 ?_
  refine ks_wpAny_isType_cls hC1 rfl ⟨rfl, ?_⟩
  refine ks_wpAny_call_super hC1 rfl hob rfl (fun c e => by cases e) (PySem.W.looks_mroIn I.kIn U.hsub) (fun h1 e1 k1 => ?_)
  have I1 : Inv (cxS P w K mg base N qual scope f cda cc A outer s H E) [] (L2.start N (.ref a :: ws)) H ⟨h1, s.gens, s.drawn, s.toks + ((ar.arg :: pr).zip (Value.ref a :: ur)).length, s.os⟩ := I.kept k1
  have hob1 := k1 _ _ hob
  have IA : PySem.W.InstAt h1 a { cls := .ref C, dict := none, data := .fields #[.ref t1, .none, .none, .none, .bool false, .none] } C none := ⟨hob1, rfl, rfl, trivial⟩
  have hm := U.hm
  unfold PySem.W.ks_superIn at hm
  rw [hcl] at hm
  refine PySem.W.kxs_getMethod PySem.W.kxs_ValueError e1 (PySem.W.looks_opaque I1.kIn U.ho) (l₀ := .ref C :: bm) (fun A Q E s k q => wpAny_bind ((PySem.W.looks_clsIn I1.kIn hcl) A _ E s k (wpAny_pure q))) rfl I1.kIn hm (IA.type.andThen (PySem.W.looks_subIn I1.kIn U.hB)) (PySem.W.ks_ne I1.kIn IA hcl) (by decide) ?_
  have I2 : Inv (cxS P w K mg base N qual scope f cda cc A outer s H E) [] (L2.start N (.ref a :: ws)) H ⟨h1.push (PySem.W.kxs_mw "ValueError.__init__" a), s.gens, s.drawn, s.toks + ((ar.arg :: pr).zip (Value.ref a :: ur)).length + 1, s.os⟩ := I1.kept fun b o e => Heap.get?_push_of_some _ e
  have hu2 : (h1.push (PySem.W.kxs_mw "ValueError.__init__" a)).get? h1.objs.size = some (PySem.W.kxs_mw "ValueError.__init__" a) := Heap.get?_push_at rfl rfl
  have I3 : Inv (cxS P w K mg base N qual scope f cda cc A outer s H E) [(h1.objs.size, PySem.W.kxs_mw "ValueError.__init__" a)] (L2.start N (.ref a :: ws)) H ⟨h1.push (PySem.W.kxs_mw "ValueError.__init__" a), s.gens, s.drawn, s.toks + ((ar.arg :: pr).zip (Value.ref a :: ur)).length + 1, s.os⟩ := by
    refine I2.pins_of fun p hp => ?_
    rw [List.mem_singleton.mp hp]
    exact ⟨hu2, I1.hok.fresh (Nat.le_refl _), Nat.ne_of_gt I1.lt, I1.nofs (Nat.le_refl _), fun v z => by cases z⟩
  refine PySem.W.kxs_callWith (i := "ValueError.__init__") (x := a) rfl ?_
  refine Calls.evalArgs_plain ?_
  refine wpAny_mono ((pa_cons (X := cxS P w K mg base N qual scope f cda cc A outer s H E) pe_str pa_nil).run p4 _ _ _ H (fun vs H' => H' = H ∧ vs = [.str z]) I3 ⟨rfl, rfl⟩) (fun us1 s3 hs3 => ?_) fun _ _ x => x
  obtain ⟨vs3, H3, I4, r3, e3, rfl⟩ := hs3
  rw [e3] at I4
  have hu4 := (I4.pin _ (List.mem_append_right _ (List.mem_singleton.mpr rfl))).1
  refine ⟨hu4, ?_⟩
  have hl3 : us1.length ≤ sizeLine := by
    rw [← Paired.length r3, sizeLine_eq]
    show 1 ≤ _
    omega
  refine wrap_call (X := cxS P w K mg base N qual scope f cda cc A outer s H E) U.T I4 ha hu4 hl3 fun s5 I5 => ?_
  refine wpAt_of_wpAny ?_
  obtain ⟨t, ht, hq⟩ := hbody A outer s H (.ref a :: ws) Q E (hr.deeper _) hsp
  have I6 : Inv (cxS P w K mg base N qual scope f cda cc A outer s H E) [] (L2.start N (.ref a :: ws)) H s5 := I5.pins_of fun p hp => absurd hp (by simp)
  refine wpAny_mono (ht.run [] s5 _ _ _ I6 hq) (fun fl s' hs => ?_) fun e s' hs => hs
  have fin : ∀ {σ' : L2.St} {H' : Hp} {v : V} {u : Value}, Inv (cxS P w K mg base N qual scope f cda cc A outer s H E) [] σ' H' s' → RelV v u → Q v H' → CE outer P w H s Q u s' :=
    fun {σ' H' v u} J rv q => ⟨v, H', J.os, J.bare, J.base, J.hok, rv, q⟩
  cases fl with
  | ret u =>
    obtain ⟨v, σ', H', J, rv, q⟩ := hs
    exact fin J rv q
  | next =>
    obtain ⟨σ', H', J, q⟩ := hs
    exact fin (v := V.non) (u := Value.none) J rfl q
  | brk =>
    obtain ⟨_, _, _, q⟩ := hs
    exact False.elim q
  | cont =>
    obtain ⟨_, _, _, q⟩ := hs
    exact False.elim q
end
end Lg

namespace Lg
open PySem PySem.Spec L2

/-! ### self.f = v within an own exception's __init__ -/
def putX (f : PySem.Str) (y : D) (n c : Nat) (S : Store) : Option Store := match S[n]? with
  | some (.exc c' none) => if c' = c then some ((S ++ [Ob.xd [(f, y)]]).set n (Ob.exc c (some S.length))) else none
  | some (.exc c' (some m)) => if c' = c then match S[m]? with
    | some (.xd fs) => if fs.length ≤ 900 then some (S.set m (.xd ((f, y) :: fs))) else none
    | _ => none
    else none
  | _ => none
def sFldX (c : Nat) (f : PySem.Str) (o a : EM) : SM := fun env S => (a env S).bindS fun y S1 => (o env S1).bindS fun d S2 => match d with
  | .loc n => match putX f y n c S2 with
    | some S3 => .next env S3
    | none => .stuck
  | _ => .stuck
theorem kv1 {g : G} {ρ : List Addr} {H : Hp} {f : PySem.Str} {v : V} {d : D} {fv : List (PySem.Str × V)} {fs : List (PySem.Str × D)} (r : RD g ρ H v d) (t : RKV g ρ H fv fs) : RKV g ρ H ((f, v) :: fv) ((f, d) :: fs) := .cons ⟨rfl, r⟩ t
section
variable {g : G} {E : XK} {K : PySem.W.Frag}
theorem sims_fldX {c : Nat} {f : PySem.Str} {to te : TE} {o a : EM} (T : OexC K (g.cls c)) (na : PySem.W.findIn K (.ref (g.cls c)) f = some none) (ho : SimE g E to o) (ha : SimE g E te a) : SimS g E (tOst K f to te) (sFldX c f o a) := by
  intro l D' σ H ρ S env re rs p
  refine ha.bindS re rs p fun y S1 ρ1 H1 v e1 rs1 ry re1 p1 => ?_
  refine ho.bindS re1 rs1 p1 fun d S2 ρ2 H2 u e2 rs2 rd re2 p2 => ?_
  cases rd with
  | @loc n ad hn =>
    dsimp only at p2
    unfold putX at p2
    cases e : S2[n]? with
    | none => rw [e] at p2; exact p2.elim
    | some ob =>
      rw [e] at p2
      have ob2 := rs2.ob n ad _ hn e
      refine ⟨ad, g.cls c, rfl, T, ?_⟩
      cases ob with
      | exc c' dd =>
        cases dd with
        | none =>
          by_cases q : c' = c
          · subst q
            simp only [if_true] at p2
            refine ⟨na, .inl ⟨ob2, fun dx hdx ne => ?_⟩⟩
            obtain ⟨e3, rs3⟩ := rs2.push (o := exd dx [(f, v)]) (ob := .xd [(f, y)]) hdx fun ρ' H' e' q' => ⟨[(f, v)], q', kv1 ((ry.mono e2).mono e') .nil⟩
            obtain ⟨e4, rs4⟩ := rs3.put (o := exo ad (g.cls c') (some dx)) (ob := .exc c' (some S2.length)) (e3.at hn) fun H' e' q' => ⟨dx, by rw [← rs2.len]; simp, q'⟩
            exact p2 _ _ σ (e3.trans e4) rs4 ((re2.mono e3).mono e4)
          · simp only [if_neg q] at p2; exact p2.elim
        | some m =>
          by_cases q : c' = c
          · subst q
            simp only [if_true] at p2
            obtain ⟨dx, hm, hx⟩ := ob2
            cases e5 : S2[m]? with
            | none => rw [e5] at p2; exact p2.elim
            | some ob5 =>
              rw [e5] at p2
              cases ob5 with
              | xd fs =>
                dsimp only at p2
                by_cases hz : fs.length ≤ 900
                · rw [if_pos hz] at p2
                  obtain ⟨fv, h1, h2⟩ := rs2.ob m dx _ hm e5
                  obtain ⟨e4, rs4⟩ := rs2.put (o := exd dx ((f, v) :: fv)) (ob := .xd ((f, y) :: fs)) hm fun H' e' q' => ⟨_, q', kv1 ((ry.mono e2).mono e') (h2.mono e')⟩
                  exact ⟨na, .inr ⟨dx, fv, hx, h1, by rw [h2.length]; exact hz, p2 _ _ σ e4 rs4 (re2.mono e4)⟩⟩
                · rw [if_neg hz] at p2; exact p2.elim
              | _ => exact p2.elim
          · simp only [if_neg q] at p2; exact p2.elim
      | _ => exact p2.elim
  | _ => exact p2.elim
end

/-! ### C(e, ..) as a value -/
def tMkV (C : Addr) (sp : Sp) (dvs : List V) (ta : TA) : TE := fun σ H Q => ta σ H fun vs H1 => vs.length ≤ 1000 ∧ ∀ a, H1 a = none → sp (.ref a :: (vs ++ dvs)) (upd H1 a (exo a C none)) (fun v H2 => v = .non ∧ Q (.ref a) H2) E0
def mMkX (c : Nat) (f : List D → Store → Res D) (dd : List D) (as : AM) : EM := fun env S => (as env S).bind fun ds S1 => if ds.length ≤ 1000 then match f (.loc S1.length :: (ds ++ dd)) (S1 ++ [.exc c none]) with
  | .ok .non S2 => .ok (.loc S1.length) S2
  | _ => .stuck
  else .stuck
section
variable {g : G} {E : XK} {K : PySem.W.Frag}
theorem sim_mkX {n c : Nat} {f : List D → Store → Res D} {tas : TA} {as : AM} {dvs : List V} {dd : List D} (hf : Ar n f) (hd : ∀ l ρ H, RDs (g.hide l) ρ H dvs dd) (has : SimA g E tas as) : SimE g E (tMkV (g.cls c) (spOf g n f) dvs tas) (mMkX c f dd as) := by
  intro l σ H Q ρ S env re rs p
  refine has.bind re rs p fun ds S1 ρ1 H1 vs e1 rs1 rx re1 p1 => ?_
  by_cases hz : ds.length ≤ 1000
  · rw [if_pos hz] at p1
    refine ⟨by rw [rx.length]; exact hz, fun a ha => ?_⟩
    obtain ⟨e3, rs3⟩ := rs1.push (o := exo a (g.cls c) none) (ob := .exc c none) ha fun ρ' H' e' q => q
    have rself : RD (g.hide l) (ρ1 ++ [a]) (upd H1 a (exo a (g.cls c) none)) (.ref a) (.loc S1.length) := .loc (by rw [← rs1.len]; simp)
    refine sp_go hf (.cons rself ((rx.mono e3).append (hd l _ _))) rs3 ?_
    have p2 := PostE.ex p1 e3
    split at p2
    · rename_i S2 e
      rw [e]
      intro ρ' H' u e4 rs4 ru
      cases ru with
      | non => exact ⟨rfl, p2 ρ' H' _ e4 rs4 (.loc (e4.at (by rw [← rs1.len]; simp)))⟩
    · exact p2.elim
  · rw [if_neg hz] at p1; exact p1.elim
end
section
variable {X : Cx} {x : PySem.Str} {e : Expr} {es : List Expr} {ta : TA} {p pos : Pos}
/-- the rule: positional -/
theorem pe_mkV {k : Nat} {C fI : Addr} {fd : FuncData} {ps : List PySem.Str} {sp : Sp} {ds : List Value} {dvs : List V} (T : OexC X.K C) (iC : PySem.W.findIn X.K (.ref C) "__init__" = some (some (.ref fI))) (tI : PySem.W.typeIn X.K (.ref fI) = some (.type "function"))
    (F1 : FnOk X.prog X.w X.K X.mg X.base (L2.CX X.prog X.w) k fI fd ps sp) (hr : Room (k + 1) X.A) (hb : Binds X.K fd ps ds) (hd : Vals dvs ds) (hg : Gl X x) (hm : X.mg x = some (.ref C)) (ha : PA X (e :: es) ta)
    (hdb : (x == ("__debug__" : PySem.Str)) = false := by decide) (he : starEach (e :: es) X.env = (false, eval e X.env) :: starEach es X.env := by rfl) (hpl : (backTo pos (starEach es X.env)).any (·.1) = false := by rfl) :
    PE X (.Call (.Name x p) (e :: es) [] pos) (tMkV C sp dvs ta) := by
  refine ⟨fun pins s σ H Q I h => ?_⟩
  obtain ⟨nm, q, N, bs, bm, sn, sub, ab, col, dd, k0, k1, k2, k3, k5, hC, hbm⟩ := T.cls
  refine wpAny_Call_Name_kw (ld_glob I hg hm ?_ hdb)
  refine PySem.W.callWith_K (h₀ := X.base) I.ok.mod.kin T.kC (thn (ha.run pos pins s σ H _ I h) fun us s1 ⟨vs, H1, I1, r1, hz, q1⟩ => ⟨I1.kIn, ?_⟩) he hpl
  show wpAny _ _ (call (.ref C) us) _ _ _
  obtain ⟨hp, gg, dr, tk, os⟩ := s1
  have hsz : hp.objs.size ≤ hp.objs.size + 1 := Nat.le_succ _
  have hq := q1 (hp.objs.size + 1) (I1.hok.fresh hsz)
  have kk : ∀ b o, hp.get? b = some o → ((hp.push (PySem.W.kdv_tup us)).push (PySem.HandSPX.excO C hp.objs.size)).get? b = some o := fun b o e => Heap.get?_push_of_some _ (Heap.get?_push_of_some _ e)
  have I2 : Inv X pins σ (upd H1 (hp.objs.size + 1) (exo (hp.objs.size + 1) C none)) ⟨(hp.push (PySem.W.kdv_tup us)).push (PySem.HandSPX.excO C hp.objs.size), gg, dr, tk, os⟩ :=
    I1.laid (t' := tk) kk hsz (exo_ok (t1 := hp.objs.size) (by heap_get))
  have r2 : Vals (V.ref (hp.objs.size + 1) :: (vs ++ dvs)) (Value.ref (hp.objs.size + 1) :: (us ++ ds)) := .cons rfl (r1.append hd)
  have hl : (Value.ref (hp.objs.size + 1) :: us ++ ds).length = ps.length := r2.length.symm.trans (F1.len _ _ _ _ hq)
  have hus : us.length ≤ sizeLine := by
    rw [← Paired.length r1, sizeLine_eq]
    omega
  refine wpAny_call (PySem.HandSPX.call_own F.excBase_ValueError (fun Y => PySem.HandSPX.refsVE_contains Y bm hbm) (I1.kIn _ _ hC) (PySem.W.looks_findIn I1.kIn iC) (fun self => PySem.W.bind_fn I1.kIn self tI) hus ?_)
  refine codeAny_mono (F1.run _ X.stack _ _ ⟨Value.ref (hp.objs.size + 1) :: us, []⟩ (Value.ref (hp.objs.size + 1) :: (us ++ ds)) _ _ E0 (hr.make C us []) (I2.env0.make C us []) (hb _ (Value.ref (hp.objs.size + 1) :: us) I2.kIn hl) r2 hq) fun r s' hq' => ?_
  cases r with
  | error er => exact passL pins σ _ _ er s' I2 hq'
  | ok fl =>
    cases fl with
    | ret u =>
      obtain ⟨v, H', I3, rv, ev, q3⟩ := I2.after hq'
      subst ev
      exact ⟨rv, ⟨V.ref (hp.objs.size + 1), H', I3, rfl, q3⟩⟩
    | next => exact False.elim hq'
    | brk => exact False.elim hq'
    | cont => exact False.elim hq'
end

/-! ### C(k = e, ..) -/
section
variable {prog : Program} {w : World} {A : Around} {E : Value → Shared → Prop} {M : Model} {R : Result → Shared → Prop} {h : Heap} {g : Array GenState} {d : Drawn} {t : Nat} {os : OsState}
variable {nm q : PySem.Str} {C N : Addr} {bs bm bmB : List Value} {hdct : Bool} {sn : List PySem.Str} {sub : List Value} {ab : Bool} {col : Option Bool} {dd : Option Addr} {k0 k1 k2 k3 k5 : Option Value} {B newId initId : String}
theorem newK_check (F : ExcBaseFacts B newId initId bmB) (hT : ∀ X : String, bm.contains (.type X) = bmB.contains (.type X)) {rest : List Value} {kw : List (PySem.Str × Value)} {Q : Unit → Shared → Prop}
    (hC : h.get? C = some (excClassObj nm q C N bs bm hdct sn sub ab col dd k0 k1 k2 k3 k5 newId)) (hq : Q () ⟨h, g, d, t, os⟩) : wpAny M A (checkBuiltinCall newId ⟨.ref C :: rest, kw⟩) Q E ⟨h, g, d, t, os⟩ := by
  have i1 : (Value.ref C :: bm).contains (.type B) = true := by rw [List.contains_cons, hT, F.hasB, Bool.or_true]
  have i2 := F.noStar
  simp only [checkBuiltinCall, F.newKind, F.newSplit, F.newRow]
  repeat (first
    | refine wpAny_loadPart_at hC ?_
    | (refine wpAny_isSubtype_exc hC ?_; rw [i1])
    | refine wpAny_staticBase_exc hC ?_
    | refine wpAny_madeBy_exc hC ?_
    | simp only [bne_self_eq_false, Bool.false_eq_true, if_false]
    | wp_step)
  all_goals exact hq
end
section
variable {prog : Program} {w : World} {A : Around} {E : Value → Shared → Prop} {R : Result → Shared → Prop} {h : Heap} {g : Array GenState} {d : Drawn} {t : Nat} {os : OsState}
variable {nm q : PySem.Str} {C N : Addr} {bs bm bmB : List Value} {hdct : Bool} {sn : List PySem.Str} {sub : List Value} {ab : Bool} {col : Option Bool} {dd : Option Addr} {k0 k1 k2 k3 k5 : Option Value} {B newId initId : String}
theorem newK_run (F : ExcBaseFacts B newId initId bmB) (hT : ∀ X : String, bm.contains (.type X) = bmB.contains (.type X)) {rest : List Value} {kw : List (PySem.Str × Value)}
    (hC : h.get? C = some (excClassObj nm q C N bs bm hdct sn sub ab col dd k0 k1 k2 k3 k5 newId)) (hz : rest.length ≤ sizeLine)
    (hq : R (.ok (.ret (.ref (h.objs.size + 1)))) ⟨(h.push (PySem.W.kdv_tup rest)).push (PySem.HandSPX.excO C h.objs.size), g, d, t, os⟩) :
    codeAny (model prog w) A (.builtin newId ⟨.ref C :: rest, kw⟩) R ⟨h, g, d, t, os⟩ := by
  have i0 := F.ends
  have i1 : (Value.ref C :: bm).contains (.type B) = true := by rw [List.contains_cons, hT, F.hasB, Bool.or_true]
  have i2 : (Value.ref C :: bm).contains (.type "AttributeError") = false := by rw [List.contains_cons, hT, F.noAttr] <;> rfl
  have i3 : (Value.ref C :: bm).contains (.type "NameError") = false := by rw [List.contains_cons, hT, F.noName] <;> rfl
  refine codeAny_builtinAt F.entry ?_
  unfold Builtin.«BaseException.__new__»
  refine wpAt_bind ?_
  show wpAt _ _ _ (stack >>= _) _ _ _
  refine wpAt_bind (wpAt_stack fun p below => wpAt_of_wpAny ?_)
  wp_walk
  refine wpAt_of_wpAny ?_
  rw [F.owner]
  repeat (first
    | with_reducible refine wpAny_madeHere_exc F.canon hC ?_
    | with_reducible refine wpAny_loadPart_at hC ?_
    | (with_reducible refine wpAny_isSubtype_exc hC ?_; first | rw [i1] | rw [i2] | rw [i3])
    | wp_step)
  show R _ _
  rw [Heap.size_push]
  exact hq
theorem tcK (F : ExcBaseFacts B newId initId bmB) (hT : ∀ X : String, bm.contains (.type X) = bmB.contains (.type X)) {rest : List Value} {kw : List (PySem.Str × Value)} {fI : Addr} {Q : Fin → Shared → Prop}
    (hC : h.get? C = some (excClassObj nm q C N bs bm hdct sn sub ab col dd k0 k1 k2 k3 k5 newId)) (hi : PySem.W.Looks (model prog w) h (typeLookup (.ref C) "__init__") (some (.ref fI)))
    (hb : ∀ self, PySem.W.Looks (model prog w) h (bindSpecial (.ref fI) self) (.ref fI, [self])) (hz : rest.length ≤ sizeLine)
    (hq : codeAny (model prog w) A (.call (.ref fI) ⟨.ref (h.objs.size + 1) :: rest, kw⟩)
      (fun r s' => match r with | .ok (.ret v) => v = .none ∧ Q (.done (.ret (.ref (h.objs.size + 1)))) s' | .ok _ => False | .error e => E e s')
      ⟨(h.push (PySem.W.kdv_tup rest)).push (PySem.HandSPX.excO C h.objs.size), g, d, t, os⟩) : wpAny (model prog w) A (Builtin.«type.__call__» ⟨.ref C :: rest, kw⟩) Q E ⟨h, g, d, t, os⟩ := by
  repeat (first
    | with_reducible refine wpAny_loadPart_at hC ?_
    | with_reducible refine wpAny_madeBy_exc hC ?_
    | wp_step)
  refine codeAny_call_builtin_code (Code.quiet_builtin _ F.quiet) (newK_check F hT hC ?_)
  refine newK_run F hT hC hz ?_
  show wpAny _ _ _ _ _ _
  have k : ∀ b o, h.get? b = some o → ((h.push (PySem.W.kdv_tup rest)).push (PySem.HandSPX.excO C h.objs.size)).get? b = some o := fun b o e => Heap.get?_push_of_some _ (Heap.get?_push_of_some _ e)
  have kC := k _ _ hC
  have kN : ((h.push (PySem.W.kdv_tup rest)).push (PySem.HandSPX.excO C h.objs.size)).get? (h.objs.size + 1) = some (PySem.HandSPX.excO C h.objs.size) := by heap_get
  have cC : (Value.ref C :: bm).contains (.ref C) = true := by simp
  unfold isInstance
  repeat (first
    | with_reducible refine wpAny_loadPart_at kN ?_
    | (with_reducible refine wpAny_isSubtype_exc kC ?_; rw [cC])
    | wp_step)
  show wpAny _ _ (typeLookup (.ref C) _) _ _ _
  refine (hi.keeps k).at ?_
  refine wpAny_holding (wpAny_bind (((hb (.ref (h.objs.size + 1))).keeps k).at ?_))
  refine wpAny_bind (wpAny_call (codeAny_mono hq fun r s' z => ?_))
  rcases r with e | (v | _ | _ | _) <;> first | exact z | exact z.elim | skip
  obtain ⟨rfl, z⟩ := z
  first
    | exact wpAny_pure (wpAny_pure z)
    | (wp_walk; exact z)
theorem tcK_check {M : Model} {rest : List Value} {kw : List (PySem.Str × Value)} {Q : Unit → Shared → Prop} (hC : h.get? C = some (excClassObj nm q C N bs bm hdct sn sub ab col dd k0 k1 k2 k3 k5 newId)) (hq : Q () ⟨h, g, d, t, os⟩) :
    wpAny M A (checkBuiltinCall "type.__call__" ⟨.ref C :: rest, kw⟩) Q E ⟨h, g, d, t, os⟩ := by
  have i1 := tc_sub
  have i2 : (⟨h, g, d, t, os⟩ : Shared).TypeIs (.ref C) "type" := ⟨_, hC, rfl⟩
  simp only [checkBuiltinCall, tc_kind, tc_split]
  repeat (any_goals (first
    | assumption
    | with_reducible refine wpAny_loadPart_at hC ?_
    | with_reducible refine wpAny_onRaise ?_
    | with_reducible refine wpAny_map ?_
    | wp_step))
theorem callK (F : ExcBaseFacts B newId initId bmB) (hT : ∀ X : String, bm.contains (.type X) = bmB.contains (.type X)) {rest : List Value} {kw : List (PySem.Str × Value)} {fI : Addr}
    (hC : h.get? C = some (excClassObj nm q C N bs bm hdct sn sub ab col dd k0 k1 k2 k3 k5 newId)) (hi : PySem.W.Looks (model prog w) h (typeLookup (.ref C) "__init__") (some (.ref fI)))
    (hb : ∀ self, PySem.W.Looks (model prog w) h (bindSpecial (.ref fI) self) (.ref fI, [self])) (hz : rest.length ≤ sizeLine)
    (hq : codeAny (model prog w) (A.under (.builtin "type.__call__" ⟨.ref C :: rest, kw⟩)) (.call (.ref fI) ⟨.ref (h.objs.size + 1) :: rest, kw⟩) (PySem.W.InitBack (h.objs.size + 1) R)
      ⟨(h.push (PySem.W.kdv_tup rest)).push (PySem.HandSPX.excO C h.objs.size), g, d, t, os⟩) : codeAny (model prog w) A (.call (.ref C) ⟨rest, kw⟩) R ⟨h, g, d, t, os⟩ := by
  have f1 := tc_lookup
  have f2 := tc_bind (.ref C)
  have hTy : (⟨h, g, d, t, os⟩ : Shared).TypeIs (.ref C) "type" := ⟨_, hC, rfl⟩
  refine codeAny_of_tree ?_
  show wpAny _ _ (callAny (.ref C) _) _ _ _
  repeat (any_goals (first | assumption | with_reducible refine wpAny_loadPart_at hC ?_ | wp_step))
  refine ⟨rfl, ?_⟩
  refine codeAny_call_builtin_at (Code.quiet_builtin _ (by decide +kernel)) entry_typeCall (tcK_check hC (tcK F hT hC hi hb hz ?_))
  refine codeAny_mono hq fun r s' z => ?_
  rcases r with e | (v | _ | _ | _) <;> exact z
end

def tMkVk (C : Addr) (m : Nat) (sp : Sp) (gV : List V → List V → List V) (tk : TA) : TE := fun σ H Q => tk σ H fun zs H1 => zs.length = m ∧ ∀ a, H1 a = none → sp (gV [.ref a] zs) (upd H1 a (exo a C none)) (fun v H2 => v = .non ∧ Q (.ref a) H2) E0
section
variable {X : Cx} {x : PySem.Str} {kws : List Keyword} {tk : TA} {p pos : Pos}
theorem pe_mkVk {k : Nat} {C fI : Addr} {fd : FuncData} {ps ks : List PySem.Str} {sp : Sp} {gg : List Value → List Value → List Value} {gV : List V → List V → List V} (T : OexC X.K C) (iC : PySem.W.findIn X.K (.ref C) "__init__" = some (some (.ref fI))) (tI : PySem.W.typeIn X.K (.ref fI) = some (.type "function"))
    (F1 : FnOk X.prog X.w X.K X.mg X.base (L2.CX X.prog X.w) k fI fd ps sp) (hr : Room (k + 1) X.A) (hb : KBn X.K fd ps 1 ks gg gV) (hg : Gl X x) (hm : X.mg x = some (.ref C)) (hkw : PK X kws tk)
    (hall : (backToKw pos (keywordEach kws X.env)).all (·.1.isSome) = true := by rfl) (hks : (backToKw pos (keywordEach kws X.env)).filterMap (·.1) = ks := by rfl)
    (hdb : (x == ("__debug__" : PySem.Str)) = false := by decide) (hpl : ((backTo pos (starEach [] X.env)).any (·.1) || (backToKw pos (keywordEach kws X.env)).any (·.1.isNone)) = false := by rfl) :
    PE X (.Call (.Name x p) [] kws pos) (tMkVk C ks.length sp gV tk) := by
  refine ⟨fun pins s σ H Q I h => ?_⟩
  obtain ⟨nm, q, N, bs, bm, sn, sub, ab, col, dd, k0, k1, k2, k3, k5, hC, hbm⟩ := T.cls
  refine wpAny_Call_Name_kw (ld_glob I hg hm ?_ hdb)
  refine PySem.W.callWith_KW0 (h₀ := X.base) I.ok.mod.kin T.kC hall (thn (hkw.run pos pins s σ H _ I h) fun ws s1 ⟨zs, H1, I1, r1, hz, q1⟩ => ⟨I1.kIn, ?_⟩) hpl
  rw [hks]
  show wpAny _ _ (call (.ref C) [] (ks.zip ws)) _ _ _
  obtain ⟨hp, gs, dr, tk, os⟩ := s1
  have hsz : hp.objs.size ≤ hp.objs.size + 1 := Nat.le_succ _
  have hq := q1 (hp.objs.size + 1) (I1.hok.fresh hsz)
  have kk : ∀ b o, hp.get? b = some o → ((hp.push (PySem.W.kdv_tup [])).push (PySem.HandSPX.excO C hp.objs.size)).get? b = some o := fun b o e => Heap.get?_push_of_some _ (Heap.get?_push_of_some _ e)
  have I2 : Inv X pins σ (upd H1 (hp.objs.size + 1) (exo (hp.objs.size + 1) C none)) ⟨(hp.push (PySem.W.kdv_tup [])).push (PySem.HandSPX.excO C hp.objs.size), gs, dr, tk, os⟩ :=
    I1.laid (t' := tk) kk hsz (exo_ok (t1 := hp.objs.size) (by heap_get))
  have rs : Vals [V.ref (hp.objs.size + 1)] [Value.ref (hp.objs.size + 1)] := .cons rfl .nil
  refine wpAny_call (callK F.excBase_ValueError (fun Y => PySem.HandSPX.refsVE_contains Y bm hbm) (I1.kIn _ _ hC) (PySem.W.looks_findIn I1.kIn iC) (fun self => PySem.W.bind_fn I1.kIn self tI) (Nat.zero_le _) ?_)
  refine codeAny_mono (F1.run _ X.stack _ _ ⟨[Value.ref (hp.objs.size + 1)], ks.zip ws⟩ (gg [Value.ref (hp.objs.size + 1)] ws) _ _ E0 (hr.make C [] (ks.zip ws)) (I2.env0.make C [] (ks.zip ws)) (hb.to _ [Value.ref (hp.objs.size + 1)] ws I2.kIn rfl (r1.length.symm.trans hz)) (hb.rel rs r1) hq) fun r s' hq' => ?_
  cases r with
  | error er => exact passL pins σ _ _ er s' I2 hq'
  | ok fl =>
    cases fl with
    | ret u =>
      obtain ⟨v, H', I3, rv, ev, q3⟩ := I2.after hq'
      subst ev
      exact ⟨rv, ⟨V.ref (hp.objs.size + 1), H', I3, rfl, q3⟩⟩
    | next => exact False.elim hq'
    | brk => exact False.elim hq'
    | cont => exact False.elim hq'
end
def mMkXk (c m : Nat) (f : List D → Store → Res D) (gD : List D → List D → List D) (as : AM) : EM := fun env S => (as env S).bind fun ds S1 => if ds.length = m then match f (gD [.loc S1.length] ds) (S1 ++ [.exc c none]) with
  | .ok .non S2 => .ok (.loc S1.length) S2
  | _ => .stuck
  else .stuck
theorem sim_mkXk {g : G} {E : XK} {n c m : Nat} {f : List D → Store → Res D} {tas : TA} {as : AM} {gV : List V → List V → List V} {gD : List D → List D → List D} (hf : Ar n f) (hrel : ∀ {l : List Addr} {ρ : List Addr} {H : Hp} {vs zs : List V} {ds es : List D}, RDs (g.hide l) ρ H vs ds → RDs (g.hide l) ρ H zs es → RDs (g.hide l) ρ H (gV vs zs) (gD ds es)) (has : SimA g E tas as) :
    SimE g E (tMkVk (g.cls c) m (spOf g n f) gV tas) (mMkXk c m f gD as) := by
  intro l σ H Q ρ S env re rs p
  refine has.bind re rs p fun ds S1 ρ1 H1 vs e1 rs1 rx re1 p1 => ?_
  by_cases hz : ds.length = m
  · rw [if_pos hz] at p1
    refine ⟨by rw [rx.length]; exact hz, fun a ha => ?_⟩
    obtain ⟨e3, rs3⟩ := rs1.push (o := exo a (g.cls c) none) (ob := .exc c none) ha fun ρ' H' e' q => q
    have rself : RD (g.hide l) (ρ1 ++ [a]) (upd H1 a (exo a (g.cls c) none)) (.ref a) (.loc S1.length) := .loc (by rw [← rs1.len]; simp)
    refine sp_go hf (hrel (.cons rself .nil) (rx.mono e3)) rs3 ?_
    have p2 := PostE.ex p1 e3
    split at p2
    · rename_i S2 e
      rw [e]
      intro ρ' H' u e4 rs4 ru
      cases ru with
      | non => exact ⟨rfl, p2 ρ' H' _ e4 rs4 (.loc (e4.at (by rw [← rs1.len]; simp)))⟩
    · exact p2.elim
  · rw [if_neg hz] at p1; exact p1.elim

/-! ### an exception class without an own __init__ -/
def mEx0 (c : Nat) (as : EM) : EM := fun env S => (as env S).bind fun _ S1 => .ok (.loc S1.length) (S1 ++ [.ex0 c])
theorem sim_ex0 {g : G} {E : XK} {c : Nat} {ta : TE} {a : EM} (ha : SimE g E ta a) : SimE g E (fun σ H Q => ta σ H fun _ H1 => ∀ a, H1 a = none → Q (.ref a) (upd H1 a (ExO (.ref (g.cls c)) a))) (mEx0 c a) := by
  intro l σ H Q ρ S env re rs p
  refine ha.bind re rs p fun d S1 ρ1 H1 v e1 rs1 rx re1 p1 => ?_
  intro a hn
  obtain ⟨e3, rs3⟩ := rs1.push (o := ExO (.ref (g.cls c)) a) (ob := .ex0 c) hn fun ρ' H' e' q => q
  exact p1 _ _ _ e3 rs3 (.loc (by rw [← rs1.len]; simp))

/-! ### e.f of an exception -/
def tXg (K : PySem.W.Frag) (f : PySem.Str) (te : TE) : TE := fun σ H Q => te σ H fun x H1 => ∃ (a C dx : Addr) (fs : List (PySem.Str × V)) (v : V), x = .ref a ∧ H1 a = some (exo a C (some dx)) ∧ H1 dx = some (exd dx fs) ∧ fs.lookup f = some v ∧ XfC K C ∧ PySem.W.findIn K (.ref C) f = some none ∧ Q v H1
theorem pe_xg {X : Cx} {e : Expr} {te : TE} {pos : Pos} {n : PySem.Str} (he : PE X e te) (hb : attributeBase e n X.env (eval e X.env) = eval e X.env := by rfl) : PE X (.Attribute e n pos) (tXg X.K n te) := by
  refine ⟨fun pins s σ H Q I h => ?_⟩
  refine attr_of hb (thn (he.run pins s σ H _ I h) fun u s1 hh => ?_)
  obtain ⟨x, H1, I1, rx, a, C, dx, fs, v, ex, ea, ed, l, T, hno, q⟩ := hh
  subst ex
  obtain rfl : u = Value.ref a := rx
  obtain ⟨t1, ho⟩ := exo_at I1.hok ea
  obtain ⟨mA, hns, hr⟩ := exd_at I1.hok ed
  obtain ⟨od, hod, hl⟩ := lookIn_ns hns
  obtain ⟨u, hu, ru⟩ := RelO.some_of (v := v) (o := mA n) (by rw [← l]; exact hr n)
  have J : PySem.W.InstAt s1.heap a { cls := .ref C, dict := some dx, data := .fields #[.ref t1, .none, .none, .none, .bool false, .none] } C (some od) := ⟨ho, rfl, rfl, hod⟩
  exact PySem.HandSPX.exc_get I1.kIn J T.ga T.gg T.exC (PySem.W.findObj_own T.hdC hno rfl (by rw [hl, hu])) (handed_of ru) ⟨v, H1, I1.tok _, ru, q⟩
def fldX (ok : Nat → Bool) (f : PySem.Str) (d : D) (S : Store) : Option D := match d with
  | .loc n => match S[n]? with
    | some (.exc c' (some m)) => if ok c' = true then match S[m]? with
      | some (.xd fs) => fs.lookup f
      | _ => none
      else none
    | _ => none
  | _ => none
def mXg (ok : Nat → Bool) (f : PySem.Str) (a : EM) : EM := fun env S => (a env S).bind fun d S1 => match fldX ok f d S1 with
  | some x => .ok x S1
  | none => .stuck
theorem sim_xg {g : G} {E : XK} {K : PySem.W.Frag} {ok : Nat → Bool} {f : PySem.Str} {te : TE} {a : EM} (T : ∀ c, ok c = true → XfC K (g.cls c) ∧ PySem.W.findIn K (.ref (g.cls c)) f = some none) (ha : SimE g E te a) : SimE g E (tXg K f te) (mXg ok f a) := by
  intro l σ H Q ρ S env re rs p
  refine ha.bind re rs p fun d S1 ρ1 H1 v e1 rs1 rx re1 p1 => ?_
  cases hF : fldX ok f d S1 with
  | none => rw [hF] at p1; exact p1.elim
  | some x =>
    rw [hF] at p1
    cases rx with
    | @loc n ad hn =>
      simp only [fldX] at hF
      split at hF
      · rename_i c' m e
        split at hF
        · rename_i q
          split at hF
          · rename_i fs e5
            obtain ⟨dx, hm, hx⟩ := rs1.ob n ad _ hn e
            obtain ⟨fv, h1, h2⟩ := rs1.ob m dx _ hm e5
            obtain ⟨y, h3, h4⟩ := (h2.lookup (f := f)).1 x hF
            exact ⟨ad, _, dx, fv, y, rfl, hx, h1, h3, (T _ q).1, (T _ q).2, p1 ρ1 H1 y Ex.refl rs1 h4⟩
          · cases hF
        · cases hF
      · cases hF
    | _ => cases hF

/-! ### isinstance of an exception -/
open PySem.W in
theorem getO {prog : Program} {w : World} {A : Around} {E : Value → Shared → Prop} {s : Shared} {K : Frag} {x D : Addr} {ox : Obj} {od : Option Obj} {Q : Option Value → Shared → Prop} (C : ExcC K D) (X : K.In s.heap) (I : InstAt s.heap x ox D od) (h : Q (some (.ref D)) { s with toks := s.toks + 1 }) :
    wpAny (model prog w) A (getAttr? (.ref x) "__class__") Q E s := by
  have hf : findObj K D od "__class__" = some (.bind (.builtin "getset_descriptor.__get__") (.builtin "object.__class__")) := by
    obtain ⟨cd, hc, _⟩ := any_some C.hd
    unfold findObj
    rw [hc, Option.bind_some, C.ha, Option.bind_some]
    simp [C.hn, C.ht]
  obtain ⟨hp, g, d, t, os⟩ := s
  have a0 := I.type (M := model prog w)
  have a3 := looks_find (M := model prog w) X I hf
  have b2 : (Value.builtin "BaseException.__getattribute__" == Value.builtin "object.__getattribute__") = false := by decide +kernel
  have b1 : (onTheHeap (Value.ref D) && Value.builtin "BaseException.__getattribute__" == Value.builtin "object.__getattribute__") = false := by rw [b2] <;> rfl
  unfold getAttr? getAttrBy? getAttrBy
  refine wpAny_bind (wpAny_mkText (wpAny_bind (wpAny_attempt (wpAny_holding (wpAny_bind (a0.at (wpAny_bind ((looks_findIn X C.hg).at ?_))))))))
  show wpAny _ _ (if (onTheHeap (Value.ref D) && Value.builtin "BaseException.__getattribute__" == Value.builtin "object.__getattribute__") = true then _ else _) _ _ _
  rw [b1, if_neg Bool.false_ne_true]
  unfold getAttrByItsOwn hookBefore
  refine wpAny_bind ?_
  rw [if_pos (show onTheHeap (Value.ref D) = true from rfl)]
  refine (looks_findIn X C.hk).at ?_
  refine wpAny_bind (wpAny_attempt (wpAny_holding ?_))
  unfold callGetattribute
  rw [show (false && onTheHeap (Value.builtin "BaseException.__getattribute__")) = false from rfl, if_neg Bool.false_ne_true]
  unfold boundAndCalled
  rw [PySem.F.excAttr_ValueError.ga.bind (.ref x)]
  refine wpAny_bind (wpAny_pure ?_)
  show wpAny _ _ (call (.builtin "BaseException.__getattribute__") [.ref x, .str "__class__" t]) _ _ _
  refine wpAny_call (codeAny_call_builtin PySem.F.excAttr_ValueError.ga.plain PySem.F.entry_bexc_ga ?_)
  refine @check_slot (model prog w) _ _ ⟨hp, g, d, t + 1, os⟩ "BaseException.__getattribute__" "BaseException" "__getattribute__" (.ref x) [.str "__class__" t] [] _ (by decide +kernel) (by decide +kernel) (a0.andThen (looks_subIn X C.hs)) (PySem.F.args_bexc_ga (.ref x) (.str "__class__" t)) ?_
  unfold Builtin.«object.__getattribute__»
  refine wpAny_bind (wpAny_of_eq (a := ((Value.ref x : Value), [Value.str "__class__" t])) (by first | rfl | (simp only [slotArgs]; rfl)) ?_)
  refine wpAny_bind (wpAny_pure (wpAny_bind (a0.at (wpAny_bind (a3.at ?_)))))
  show wpAny _ _ (holding [Value.builtin "object.__class__"] (call (.builtin "getset_descriptor.__get__") [.builtin "object.__class__", .ref x, .ref D]) >>= ret) _ _ _
  refine wpAny_bind (wpAny_holding (wpAny_call (class_get (s := ⟨hp, g, d, t + 1, os⟩) (ox := ox) (od := od) X I C.hm ?_)))
  refine wpAny_pure ?_
  show wpAny _ _ (handedOut (.ref D)) _ _ _
  rw [handedOut_of (v := .ref D) rfl]
  first
    | exact wpAny_pure (wpAny_pure h)
    | exact wpAny_pure h
    | exact wpAny_pure (wpAny_bind (wpAny_pure (wpAny_pure h)))
open PySem.W in
theorem kitO {K : Frag} {x D : Addr} (C : ExcC K D) : KitX K (.ref x) (.ref D) (fun h => ∃ ox od, InstAt h x ox D od) where
  ty := fun _ _ _ ⟨_, _, I⟩ => I.type
  it := fun _ _ X _ => by
    obtain ⟨cd, hc, _⟩ := any_some C.hd
    unfold clsIn at hc
    split at hc
    · rename_i ho
      exact fun A' Q' E' s' k q => wpAny_bind (wpAny_loadPart (k _ _ (X _ _ ho)) (wpAny_pure q))
    · cases hc
  ne := fun h tp dd its n sl X htp => by
    obtain ⟨cd, hc, _⟩ := any_some C.hd
    refine Bool.eq_false_iff.mpr fun q => ?_
    have e : D = tp := Value.ref.inj (beq_iff_eq.mp q)
    subst e
    unfold clsIn at hc
    split at hc
    · rename_i ho
      cases (X _ _ ho).symm.trans htp
    · cases hc
  ca := fun X ⟨_, _, I⟩ k => getO C X I k
/-- isinstance(e, c), e an exception of the store -/
def rIsX (K : PySem.W.Frag) : List V → Hp → VK → Prop := fun xs H Q => ∃ (a D : Addr) (c : V) (cv : Value) (b : Bool), xs = [.ref a, c] ∧ ((∃ d, H a = some (exo a D d) ∧ ∀ dx, d = some dx → ∃ fs, H dx = some (exd dx fs)) ∨ H a = some (ExO (.ref D) a)) ∧
  (∀ u, RelV c u → u = cv) ∧ ExcC K D ∧ PySem.W.kitOne K (.ref D) cv = some b ∧ Q (.bl b) H
theorem call_isX {X : Cx} : CallR X (.builtin "isinstance") (rIsX X.K) := by
  intro pins s σ H xs us Q I r h
  obtain ⟨a, D, c, cv, b, rfl, ha, hcv, C, e, q⟩ := h
  obtain ⟨u1, u2, rfl, r1, r2⟩ := vals2 r
  have e2 := hcv _ r2
  subst e2
  obtain rfl : u1 = Value.ref a := r1
  have J : ∃ ox od, PySem.W.InstAt s.heap a ox D od := by
    rcases ha with ⟨d, ha, hd⟩ | ha
    · obtain ⟨t1, ho⟩ := exo_at I.hok ha
      cases d with
      | none => exact ⟨_, none, ho, rfl, rfl, trivial⟩
      | some dx =>
        obtain ⟨fs, hx⟩ := hd dx rfl
        obtain ⟨mA, ⟨o, es, ep, hoo, _⟩, _⟩ := exd_at I.hok hx
        exact ⟨_, some o, ho, rfl, rfl, hoo⟩
    · obtain ⟨⟨oe, vs, ho, hz, hd, _⟩, _, _⟩ := I.hok a _ ha
      obtain ⟨oc, od, oda, osl⟩ := oe
      obtain ⟨h1, h2⟩ := hz
      dsimp only at h1 h2 hd
      subst h1 h2 hd
      exact ⟨_, none, ho, rfl, rfl, trivial⟩
  exact PySem.W.kia_one (kitO C) I.kIn J e (fun z => nomatch z) fun tk => ⟨.bl b, H, I.tok tk, rfl, q⟩
def excCls (d : D) (S : Store) : Option Nat := match d with
  | .loc n => match S[n]? with
    | some (.exc c none) => some c
    | some (.exc c (some m)) => match S[m]? with
      | some (.xd _) => some c
      | _ => none
    | some (.ex0 c) => some c
    | _ => none
  | _ => none
/-- isi: what isinstance says of the class c -/
def mIsX (isi : Nat → Option Bool) (a : EM) : EM := fun env S => (a env S).bind fun d S1 => match excCls d S1 with
  | some c => match isi c with
    | some b => .ok (.bl b) S1
    | none => .stuck
  | none => .stuck
theorem sim_isX {g : G} {E : XK} {K : PySem.W.Frag} {isi : Nat → Option Bool} {cv : V} {u0 : Value} {ta : TE} {a : EM} (hu : ∀ u, RelV cv u → u = u0) (hi : ∀ c b, isi c = some b → ExcC K (g.cls c) ∧ PySem.W.kitOne K (.ref (g.cls c)) u0 = some b) (ha : SimE g E ta a) :
    SimE g E (tCB (rIsX K) (tCons ta (tCons (tC cv) tNil))) (mIsX isi a) := by
  intro l σ H Q ρ S env re rs p
  refine ha.bind re rs p fun d S1 ρ1 H1 v e1 rs1 rx re1 p1 => ?_
  cases hc : excCls d S1 with
  | none => rw [hc] at p1; exact p1.elim
  | some c =>
    rw [hc] at p1
    dsimp only at p1
    cases hb : isi c with
    | none => rw [hb] at p1; exact p1.elim
    | some b =>
      rw [hb] at p1
      obtain ⟨i1, i2⟩ := hi c b hb
      cases rx with
      | @loc n ad hn =>
        simp only [excCls] at hc
        split at hc
        · rename_i c' e
          cases hc
          exact ⟨ad, _, cv, u0, b, rfl, .inl ⟨none, rs1.ob n ad _ hn e, fun dx z => by cases z⟩, hu, i1, i2, p1 ρ1 H1 _ Ex.refl rs1 (.bl _)⟩
        · rename_i c' m e
          split at hc
          · rename_i fs e5
            cases hc
            obtain ⟨dx, hm, hx⟩ := rs1.ob n ad _ hn e
            obtain ⟨fv, h1, h2⟩ := rs1.ob m dx _ hm e5
            exact ⟨ad, _, cv, u0, b, rfl, .inl ⟨some dx, hx, fun dx' z => by cases z; exact ⟨fv, h1⟩⟩, hu, i1, i2, p1 ρ1 H1 _ Ex.refl rs1 (.bl _)⟩
          · cases hc
        · rename_i c' e
          cases hc
          exact ⟨ad, _, cv, u0, b, rfl, .inr (rs1.ob n ad _ hn e), hu, i1, i2, p1 ρ1 H1 _ Ex.refl rs1 (.bl _)⟩
        · cases hc
      | _ => cases hc
end Lg

namespace Lg
open PySem PySem.Spec L2
section
variable {X : Cx} {pins : List (Addr × Obj)} {σ : L2.St} {H : Hp} {s : Shared}
theorem unsuiteP {a : Addr} {q : Addr × Obj} {pn' : List (Addr × Obj)} (I : Inv (X.suite a (q :: (X.pn ++ pins))) pn' σ H s) (ok : X.Ok) : Inv X (q :: pins) σ H s :=
  ⟨ok, I.os, I.bare, I.base, I.loc, I.cell, I.free, I.freeC, fun p hp => I.pin p (List.mem_append_left _ (by
    rcases List.mem_append.mp hp with m | m
    · exact List.mem_cons_of_mem _ (List.mem_append_left _ m)
    · rcases List.mem_cons.mp m with rfl | m
      · exact List.mem_cons_self
      · exact List.mem_cons_of_mem _ (List.mem_append_right _ m))), I.hok, I.len⟩
/-- the clause catches; its suite goes on with Nx -/
def wKeep (K : PySem.W.Frag) (c : Value) (i : Nat) (ts : Addr → Value → Option Addr → TS) (Nx : Addr → Value → Option Addr → L2.St → Hp → Prop) : WX := fun cls d σ H =>
  PySem.W.exmOne K cls c = some true ∧ ∀ a, H a = none → ts a cls d { nx := fun σ' H' => Nx a cls d (σ'.set i none) H', rt := fun _ _ => False, bk := fun _ _ => False, ct := fun _ _ => False } (σ.set i (some (.ref a))) H
def Kept (X : Cx) (pins : List (Addr × Obj)) (Nx : Addr → Value → Option Addr → L2.St → Hp → Prop) (f : Flow) (s' : Shared) : Prop :=
  f = .next ∧ ∃ a oe cls d σ H, Zc cls d oe ∧ (∃ vs, oe.data = .fields vs) ∧ Inv X ((a, oe) :: pins) σ H s' ∧ Nx a cls d σ H
theorem try_keep {x n : PySem.Str} {c : Value} {i : Nat} {body suite : List Stmt} {b₀ : Stmt} {np pos pos' : Pos} {tb : WX → TS} {ts : Addr → Value → Option Addr → TS} {Nx : Addr → Value → Option Addr → L2.St → Hp → Prop}
    (hs : X.stack = X.env :: X.outer) (hf : X.env.frame = some X.env.locals) (hN : X.N.Nodup) (hi : X.N[i]? = some n) (hln : X.env.kindOf n = some .local) (hc : Names X x c)
    (hb : ∀ (W : WX) (pn : List (Addr × Obj)) (xe : Value → Shared → Prop), Takes (X.tr pn xe) W → PassesOwn (model X.prog X.w) X.A X.env xe → PSs (X.tr pn xe) body (tb W))
    (hsu : ∀ (a : Addr) (oe : Obj) (cls : Value) (d : Option Addr) (pn : List (Addr × Obj)), Zc cls d oe → (∃ vs, oe.data = .fields vs) → PSs (X.suite a ((a, oe) :: pn)) (b₀ :: suite) (ts a cls d))
    (I : Inv X pins σ H s) (h : tb (wKeep X.K c i ts Nx) { nx := fun _ _ => False, rt := fun _ _ => False } σ H) :
    wpAny (model X.prog X.w) X.A (exec (.Try body [.ExceptHandler (some (.Name x np)) (some n) (b₀ :: suite) pos'] [] [] pos) X.env) (Kept X pins Nx) X.xe s := by
  have ok := I.ok
  have hfr : X.A.frames = some (X.env :: X.outer) := by rw [ok.frames, hs]
  refine wpAny_Try_except ?_
  refine wpAny_mono ((hb (wKeep X.K c i ts Nx) (X.pn ++ pins) (fun e s₁ => wpAny (model X.prog X.w) X.A (noteFrame e X.env) (fun _ s₂ => wpAny (model X.prog X.w) X.A (setFlight e none) (fun _ s₃ =>
    wpAny (model X.prog X.w) X.A (handleBy e X.env [.ExceptHandler (some (.Name x np)) (some n) (b₀ :: suite) pos']) (Kept X pins Nx) X.xe s₃) X.xe s₂) X.xe s₁) (fun u s' xx => ?_) PassesOwn.looking).run [] s σ H _ (I.toTry _) h) (fun f s1 hsp => ?_) (fun e s1 he => he)
  · obtain ⟨a, B, sI, pins', σ', H', cls, d, rfl, J', nb, up, sky, na, os, ag, hyes, go⟩ := xx
    have J : Inv X pins σ' H' sI := J'.ofTry ok
    have sky' : Sky B (X.env :: X.outer) a (Zc cls d) X.env.locals s'.heap := by rw [← hs]; exact sky
    show wpAny (model X.prog X.w) X.A (noteFrame (.ref a) X.env) _ _ _
    refine Sky.land Zc.steady hfr hf sky' fun h3 fl3 up3 => ?_
    have J3 : Inv X pins σ' H' { s' with heap := h3 } := J.landed nb fl3.1 (up.trans up3) os ag
    obtain ⟨oe3, vs3, he3, hz3, hd3⟩ := fl3.there
    have nfr : a ∉ frs (X.env :: X.outer) := fun hm => by
      obtain ⟨_, o', e', hnf⟩ := fl3.2.2.1.mem hm
      rw [he3] at e'; cases e'
      exact hnf _ hd3
    have nL : a ≠ X.env.locals := fun z => nfr (List.mem_filterMap.mpr ⟨X.env, List.mem_cons_self, by rw [hf, z]⟩)
    have nF : a ∉ X.fs := fun hm => by
      obtain ⟨e, he, q⟩ := List.mem_filterMap.mp hm
      exact nfr (List.mem_filterMap.mpr ⟨e, List.mem_cons_of_mem _ he, q⟩)
    have S3 := J3.suite he3 hd3 na nL nF
    refine wpAny_handleBy_cons (codeAny_handlers_test ?_) (by intro q; cases q)
    have LT : PySem.W.Looks (model X.prog X.w) h3 (typeOf (.ref a)) cls := fun A Q E s k q => wpAny_typeOf_ref (k _ _ he3) (by rw [hz3.1]; exact q)
    have LM := PySem.W.exm_one (M := model X.prog X.w) (J3.kIn) LT hyes
    have test : ∀ {Q : Value → Shared → Prop} {E : Value → Shared → Prop}, Q c { s' with heap := h3 } → wpAny (model X.prog X.w) (X.A.mark (some (.ref a))) (eval (.Name x np) X.env) Q E { s' with heap := h3 } := fun {Q E} q => by
      obtain ⟨hg, hdbg, hm | ⟨hm, hv, hnn⟩⟩ := hc
      · exact ld_glob (X := X.suite a ((a, oe3) :: (X.pn ++ pins))) S3 hg hm q hdbg
      · exact ld_blt (X := X.suite a ((a, oe3) :: (X.pn ++ pins))) S3 hg hm hv q hnn hdbg
    refine test (LM.here ?_)
    refine codeAny_handlers_suite_as ?_
    refine HandSPX.lands_againZ fl3 fun h4 fl4 up4 => ?_
    have J4 : Inv X pins σ' H' { s' with heap := h4 } := J.landed nb fl4.1 ((up.trans up3).trans up4) os ag
    obtain ⟨oe4, vs4, he4, hz4, hd4⟩ := fl4.there
    have S4 := J4.suite he4 hd4 na nL nF
    refine store_ok (X := X.suite a ((a, oe4) :: (X.pn ++ pins))) (v := .ref a) S4 hN hi (.inl hln) rfl (fun s5 S5 => ?_) (.inr hln)
    refine wpAny_mono ((hsu a oe4 cls d (X.pn ++ pins) hz4 ⟨_, hd4⟩).run [] s5 _ H' _ S5 (go a na)) (fun f s6 hsp => ?_) (fun _ _ z => False.elim z)
    cases f with
    | next =>
      obtain ⟨σ6, H6, S6, q6⟩ := hsp
      exact gone_ok (unsuiteP S6 ok) hN hi hln fun s7 J7 => ⟨rfl, a, oe4, cls, d, _, _, hz4, ⟨_, hd4⟩, J7, q6⟩
    | brk =>
      obtain ⟨_, _, _, q6⟩ := hsp
      exact False.elim q6
    | cont =>
      obtain ⟨_, _, _, q6⟩ := hsp
      exact False.elim q6
    | ret u =>
      obtain ⟨_, _, _, _, _, q6⟩ := hsp
      exact False.elim q6
  · cases f with
    | next =>
      obtain ⟨_, _, _, q⟩ := hsp
      exact False.elim q
    | brk =>
      obtain ⟨_, _, _, q⟩ := hsp
      exact False.elim q
    | cont =>
      obtain ⟨_, _, _, q⟩ := hsp
      exact False.elim q
    | ret u =>
      obtain ⟨_, _, _, _, _, q⟩ := hsp
      exact False.elim q
end

/-- behind the try the kept exception's field is given back -/
def NxF (C : Addr) (j : Nat) (f : PySem.Str) (D : Ends) : Addr → Value → Option Addr → L2.St → Hp → Prop := fun a cls d σ' H' => cls = .ref C ∧ σ'[j]? = some (some (.ref a)) ∧ ∃ (dd : Addr) (fs : List (PySem.Str × V)) (v : V), d = some dd ∧ H' dd = some (.xd fs) ∧ fs.lookup f = some v ∧ D.rt v H'
def tKeepF (K : PySem.W.Frag) (c : Value) (i j : Nat) (C : Addr) (f : PySem.Str) (tmk : L2.St → Hp → XK → Prop) : TS := fun D σ H => tmk σ H fun cls d H' => wKeep K c i (fun _ _ _ => tAsg (tVar i) (gName j)) (NxF C j f D) cls d σ H'
section
variable {X : Cx} {i j : Nat} {x n y f : PySem.Str} {c : Value} {C : Addr} {e : Expr} {b₀ : Stmt} {suite : List Stmt} {np p1 p2 p3 p4 pos pos' : Pos} {tmk : L2.St → Hp → XK → Prop}
theorem pss_keepF (hs : X.stack = X.env :: X.outer) (hf : X.env.frame = some X.env.locals) (hcalm : X.calm = true) (hN : X.N.Nodup) (hi : X.N[i]? = some n) (hln : X.env.kindOf n = some .local) (hj : X.N[j]? = some y) (hlj : X.env.kindOf y = some .local) (hc : Names X x c)
    (T : XfC X.K C) (hno : PySem.W.findIn X.K (.ref C) f = some none) (hmk : ∀ (pn : List (Addr × Obj)) (xe : Value → Shared → Prop), PMk (X.tr pn xe) e tmk) (hsu : ∀ (a : Addr) (oe : Obj) (pn : List (Addr × Obj)), PSs (X.suite a ((a, oe) :: pn)) (b₀ :: suite) (tAsg (tVar i) (gName j)))
    (hb : attributeBase (.Name y p3) f X.env (eval (.Name y p3) X.env) = eval (.Name y p3) X.env := by rfl) (hd1 : (y == ("__debug__" : PySem.Str)) = false := by decide) (hd2 : (y == ("__classdict__" : PySem.Str)) = false := by decide) :
    PSs X [.Try [.Raise (some e) none p1] [.ExceptHandler (some (.Name x np)) (some n) (b₀ :: suite) pos'] [] [] pos, .Return (some (.Attribute (.Name y p3) f p2)) p4] (tKeepF X.K c i j C f tmk) := by
  refine ⟨fun pins s σ H D I h => ?_⟩
  have W := try_keep (X := X) (body := [.Raise (some e) none p1]) (np := np) (pos := pos) (pos' := pos') (tb := fun W _ σ H => tmk σ H fun cls d H' => W cls d σ H') (ts := fun _ _ _ => tAsg (tVar i) (gName j)) (Nx := NxF C j f D) hs hf hN hi hln hc (fun W pn xe tk _ => pss_one (ps_raise hcalm tk (hmk pn xe))) (fun a oe cls d pn _ _ => hsu a oe pn) I h
  refine wpAny_execs_cons (wpAny_mono W (fun fl s1 hk => ?_) fun _ _ z => z)
  obtain ⟨rfl, a, oe, cls, d, σ1, H1, hz, ⟨vs, hd⟩, I1, rfl, hσ, dd, fs, v, rfl, ha, hl, q⟩ := hk
  refine wpAny_execs_cons (wpAny_Return_some (attr_of hb (thn ((pe_var (X := X) hj (.inl hlj) hd1 hd2).run _ s1 σ1 H1 (fun x H2 => x = .ref a ∧ H2 = H1) I1 ⟨.ref a, hσ, rfl, rfl⟩) fun u s2 hh => ?_)))
  obtain ⟨x2, H2, I2, rx, rfl, rfl⟩ := hh
  obtain rfl : u = Value.ref a := rx
  have hget := (I2.pin (a, oe) (List.mem_append_right _ List.mem_cons_self)).1
  have hx : ObjOk X.prog X.w H2 s2.heap dd (.xd fs) := I2.hok dd _ ha
  obtain ⟨mA, hns, hr⟩ := hx
  obtain ⟨od, ho, hlk⟩ := lookIn_ns hns
  obtain ⟨w, hw, rw'⟩ := RelO.some_of (v := v) (o := mA f) (by rw [← hl]; exact hr f)
  have J : PySem.W.InstAt s2.heap a oe C (some od) := ⟨hget, hz.1, by unfold PySem.W.notCls; rw [hd] <;> rfl, by rw [hz.2]; exact ho⟩
  refine PySem.HandSPX.exc_get I2.kIn J T.ga T.gg T.exC (PySem.W.findObj_own T.hdC hno rfl (by rw [hlk, hw])) (handed_of rw') ?_
  have I3 : Inv X pins σ1 H2 { s2 with toks := s2.toks + 1 } := (I2.tok _).pins_of (fun p hp => I2.pin p (List.mem_append_right _ (List.mem_cons_of_mem _ hp)))
  exact ⟨v, σ1, H2, I3, rw', q⟩
end

/-! ### letting the last objects of the store go -/
mutual
def D.und (n : Nat) : D → Bool
  | .loc m => decide (m < n)
  | .tup ds => unds n ds
  | .lst ds => unds n ds
  | _ => true
def unds (n : Nat) : List D → Bool
  | [] => true
  | d :: ds => d.und n && unds n ds
end
def undkv {κ : Type} (n : Nat) (l : List (κ × D)) : Bool := l.all fun p => p.2.und n
def Ob.und (n : Nat) : Ob → Bool
  | .lst ds => unds n ds
  | .dK kvs => undkv n kvs
  | .dT kvs => undkv n kvs
  | .ins _ fs => undkv n fs
  | .exc _ none => true
  | .exc _ (some m) => decide (m < n)
  | .xd fs => undkv n fs
  | .ex0 _ => true
section
variable {g : G} {ρ x : List Addr} {H H' : Hp}
theorem RD.cut (k : ∀ a, a ∉ x → H' a = H a) {v : V} {d : D} (r : RD g (ρ ++ x) H v d) : d.und ρ.length = true → RD g ρ H' v d := by
  have out : ∀ {a o}, H a = some o → Out g (ρ ++ x) a → H' a = some o ∧ Out g ρ a := fun {a o} h n => ⟨by rw [k a fun m => n.1 (List.mem_append_right _ m)]; exact h, fun m => n.1 (List.mem_append_left _ m), n.2⟩
  refine RD.rec (motive_1 := fun v d _ => d.und ρ.length = true → RD g ρ H' v d) (motive_2 := fun vs ds _ => unds ρ.length ds = true → RDs g ρ H' vs ds) (fun _ => .non) (fun b _ => .bl b) (fun i _ => .int i) (fun s _ => .str s) ?_ ?_ ?_ ?_ ?_ ?_ (fun _ => .nil) ?_ r
  · intro a vs ds h n _ ih u; exact .tup (out h n).1 (out h n).2 (ih (by simpa [D.und] using u))
  · intro a vs ds h n _ ih u; exact .lst (out h n).1 (out h n).2 (ih (by simpa [D.und] using u))
  · intro a ns n u
    refine .scr ?_
    rcases n with ⟨o, h, n⟩ | n
    · exact .inl ⟨o, (out h n).1, (out h n).2⟩
    · exact .inr n
  · intro n a h u
    have u : n < ρ.length := by simpa [D.und] using u
    exact .loc (by rw [List.getElem?_append_left u] at h; exact h)
  · intro a o h n u; exact .empF (out h n).1 (out h n).2
  · intro a h n u; exact .empU (out h n).1 (out h n).2
  · intro v d vs ds _ _ h t u
    simp only [unds, Bool.and_eq_true] at u
    exact .cons (h u.1) (t u.2)
theorem RDs.cut (k : ∀ a, a ∉ x → H' a = H a) : ∀ {vs : List V} {ds : List D}, RDs g (ρ ++ x) H vs ds → unds ρ.length ds = true → RDs g ρ H' vs ds
  | _, _, .nil, _ => .nil
  | _, _, .cons h t, u => by
    simp only [unds, Bool.and_eq_true] at u
    exact .cons (h.cut k u.1) (RDs.cut k t u.2)
theorem RKV.cut {κ : Type} (k : ∀ a, a ∉ x → H' a = H a) : ∀ {xs : List (κ × V)} {ys : List (κ × D)}, RKV g (ρ ++ x) H xs ys → undkv ρ.length ys = true → RKV g ρ H' xs ys
  | _, _, .nil, _ => .nil
  | _, _, .cons h t, u => by
    simp only [undkv, List.all_cons, Bool.and_eq_true] at u
    exact .cons ⟨h.1, h.2.cut k u.1⟩ (RKV.cut k t u.2)
theorem RO.cut (k : ∀ a, a ∉ x → H' a = H a) {a : Addr} (ha : H' a = H a) {ob : Ob} (r : RO g (ρ ++ x) H a ob) (u : ob.und ρ.length = true) : RO g ρ H' a ob := by
  cases ob with
  | lst ds => obtain ⟨vs, q1, q2⟩ := r; exact ⟨vs, ha ▸ q1, q2.cut k u⟩
  | dK ds => obtain ⟨vs, q1, q2⟩ := r; exact ⟨vs, ha ▸ q1, q2.cut k u⟩
  | dT ds => obtain ⟨vs, q1, q2⟩ := r; exact ⟨vs, ha ▸ q1, q2.cut k u⟩
  | ins c fs => obtain ⟨dx, fv, q1, q2⟩ := r; exact ⟨dx, fv, ha ▸ q1, q2.cut k u⟩
  | exc c d => cases d with
    | none => exact (ha ▸ r : H' a = some (exo a (g.cls c) none))
    | some n =>
      obtain ⟨dx, q1, q2⟩ := r
      have u : n < ρ.length := by simpa [Ob.und] using u
      exact ⟨dx, by rw [List.getElem?_append_left u] at q1; exact q1, ha ▸ q2⟩
  | xd fs => obtain ⟨fv, q1, q2⟩ := r; exact ⟨fv, ha ▸ q1, q2.cut k u⟩
  | ex0 c => exact (ha ▸ r : H' a = some (ExO (.ref (g.cls c)) a))
theorem RS.cut (k : ∀ a, a ∉ x → H' a = H a) {S : Store} (rs : RS g (ρ ++ x) S H) (u : (S.take ρ.length).all (Ob.und ρ.length) = true) : RS g ρ (S.take ρ.length) H' := by
  have hle : ρ.length ≤ S.length := by rw [← rs.len, List.length_append]; exact Nat.le_add_right _ _
  have nd := List.nodup_append.mp rs.nd
  refine ⟨by rw [List.length_take]; omega, nd.1, fun n a ob h1 h2 => ?_, fun a m => ?_⟩
  · have hn : n < ρ.length := (List.getElem?_eq_some_iff.mp h1).1
    rw [List.getElem?_take_of_lt hn] at h2
    have hx : a ∉ x := fun m => nd.2.2 a (List.mem_of_getElem? h1) a m rfl
    refine (rs.ob n a ob (by rw [List.getElem?_append_left hn]; exact h1) h2).cut k (k a hx) ?_
    exact List.all_eq_true.mp u ob (List.mem_of_getElem? (by rw [List.getElem?_take_of_lt hn]; exact h2))
  · obtain ⟨⟨o, h⟩, n⟩ := rs.hd a m
    exact ⟨⟨o, by rw [k a fun m => n (List.mem_append_right _ m)]; exact h⟩, fun m => n (List.mem_append_left _ m)⟩
end
def sKeepF (c i j : Nat) (fld : PySem.Str) (f : List D → Store → Res D) (as : AM) : SM := fun env S => (as env S).bindS fun ds S1 => match f (.loc S1.length :: ds) (S1 ++ [.exc c none]) with
  | .ok .non S2 => match S2[S1.length]?, S2[S1.length + 1]? with
    | some (.exc c' (some m)), some (.xd fs) => if ds.length ≤ 1000 ∧ S2.length = S1.length + 2 ∧ c' = c ∧ m = S1.length + 1 ∧ (S2.take S1.length).all (Ob.und S1.length) = true ∧ i < env.length ∧ j < env.length ∧ i ≠ j then match fs.lookup fld with
      | some d => if d.und S1.length = true then .ret d (S2.take S1.length) else .stuck
      | none => .stuck
      else .stuck
    | _, _ => .stuck
  | _ => .stuck
theorem sims_keepF {g : G} {E : XK} {K : PySem.W.Frag} {c n i j : Nat} {fld : PySem.Str} {f : List D → Store → Res D} {cv : Value} {tas : TA} {as : AM} (hf : Ar n f) (hex : PySem.W.exmOne K (.ref (g.cls c)) cv = some true) (has : SimA g E tas as) :
    SimS g E (tKeepF K cv i j (g.cls c) fld (tMkO (g.cls c) (spOf g n f) [] tas)) (sKeepF c i j fld f as) := by
  intro l D' σ H ρ S env re rs p
  refine has.bindS re rs p fun ds S1 ρ1 H1 vs e1 rs1 rx re1 p1 => ?_
  have lσ : σ.length = env.length := Paired.length re1
  cases ef : f (.loc S1.length :: ds) (S1 ++ [.exc c none]) with
  | err x S2 => rw [ef] at p1; exact p1.elim
  | stuck => rw [ef] at p1; exact p1.elim
  | ok v0 S2 =>
    rw [ef] at p1
    cases v0 with
    | non =>
      dsimp only at p1
      split at p1
      · rename_i c' m fs en en1
        split at p1
        · rename_i hc
          obtain ⟨hz, hl2, rfl, rfl, hu, hi, hj, hij⟩ := hc
          split at p1
          · rename_i d hfd
            split at p1
            · rename_i hdu
              refine ⟨by rw [rx.length]; exact hz, fun a ha => ?_⟩
              obtain ⟨e3, rs3⟩ := rs1.push (o := exo a (g.cls c') none) (ob := .exc c' none) ha fun ρ' H' e' q => q
              have rself : RD (g.hide l) (ρ1 ++ [a]) (upd H1 a (exo a (g.cls c') none)) (.ref a) (.loc S1.length) := .loc (by rw [← rs1.len]; simp)
              rw [List.append_nil]
              refine sp_go hf (.cons rself (rx.mono e3)) rs3 ?_
              rw [ef]
              intro ρ2 H2 u e4 rs4 ru
              cases ru
              refine ⟨rfl, ?_⟩
              obtain ⟨l2, rfl, hl⟩ := e4.new
              have ll : l2.length = 1 := by
                have := rs4.len
                rw [hl2, List.length_append, List.length_append, rs1.len] at this
                simp at this
                omega
              obtain ⟨dx, rfl⟩ := List.length_eq_one_iff.mp ll
              have an : (ρ1 ++ [a] ++ [dx])[S1.length]? = some a := by rw [← rs1.len]; simp
              have dn : (ρ1 ++ [a] ++ [dx])[S1.length + 1]? = some dx := by rw [← rs1.len]; simp
              obtain ⟨dx', q1, q2⟩ := rs4.ob _ a _ an en
              rw [dn] at q1; cases q1
              obtain ⟨fv, q3, q4⟩ := rs4.ob _ dx _ dn en1
              have hdx := (hl dx List.mem_cons_self).1
              have dxa : dx ≠ a := fun z => by rw [z, upd_same] at hdx; cases hdx
              have hdx1 : H1 dx = none := by rw [upd_ne dxa] at hdx; exact hdx
              refine ⟨dx, fv, q2, q3, hdx1, hex, fun a' _ => ?_⟩
              have kk : ∀ b, b ∉ [a, dx] → upd (del H2 a) dx (HO.xd fv) b = H2 b := fun b hb => by
                rw [upd_ne (fun z => hb (by simp [z])), del_ne (fun z => hb (by simp [z]))]
              have rs5 : RS (g.hide l) ρ1 (S2.take S1.length) (upd (del H2 a) dx (.xd fv)) := by
                have r := RS.cut (g := g.hide l) (ρ := ρ1) (x := [a, dx]) kk (S := S2) (by simpa using rs4) (by rw [rs1.len]; exact hu)
                rw [rs1.len] at r; exact r
              have e5 : Ex ρ1 H1 ρ1 (upd (del H2 a) dx (.xd fv)) := ⟨⟨[], by simp, by simp⟩, fun b o nb hb => by
                have ba : b ≠ a := ne_of_none hb ha
                have bd : b ≠ dx := ne_of_none hb hdx1
                rw [kk b (by simp [ba, bd])]
                exact e4.keep b o (by simp [nb, ba]) (by rw [upd_ne ba]; exact hb)⟩
              obtain ⟨y, h3, h4⟩ := (q4.lookup (f := fld)).1 d hfd
              have h5 : RD (g.hide l) ρ1 (upd (del H2 a) dx (.xd fv)) y d := RD.cut (x := [a, dx]) kk (by simpa using h4) (by rw [rs1.len]; exact hdu)
              refine ⟨.ref a', by rw [List.getElem?_set_self (by rw [lσ]; exact hi)], ?_⟩
              refine ⟨rfl, ?_, dx, fv, y, rfl, upd_same, h3, p1 ρ1 _ y e5 rs5 h5⟩
              rw [List.getElem?_set_ne hij, List.getElem?_set_self (by simp [lσ]; exact hj)]
            · exact p1.elim
          · exact p1.elim
        · exact p1.elim
      · exact p1.elim
    | _ => exact p1.elim
end Lg

namespace Lg
open PySem PySem.Spec L2

mutual
def D.pd : D → Option PyData
  | .non => some .none
  | .bl b => some (.bool b)
  | .int i => some (.int i)
  | .str s => some (.str s)
  | .tup ds => (pds ds).map .tuple
  | .lst ds => (pds ds).map .list
  | .emp _ => some (.dict [])
  | _ => none
def pds : List D → Option (List PyData)
  | [] => some []
  | d :: ds => match d.pd, pds ds with
    | some p, some ps => some (p :: ps)
    | _, _ => none
end
section
variable {X : Cx} {pins : List (Addr × Obj)} {σ : L2.St} {H : Hp} {s : Shared} {g : G} {ρ : List Addr}
def Trk (H : Hp) (as : List Addr) : Prop := ∀ b ∈ as, ∃ o, H b = some o
theorem empty_dict (I : Inv X pins σ H s) {a : Addr} {u : HO} (hk : ObjOk X.prog X.w H s.heap a (.dK [])) : Reads s.heap (.ref a) (.dict []) [a] := by
  obtain ⟨_, _, vs, kv, o, es, ep, ho, hx, hd, r⟩ := hk
  cases kv
  have he : es = #[] := by
    have l1 := r.2.1.length
    have : es.toList = [] := by simpa using l1
    exact Array.toList_eq_nil_iff.mp this
  subst he
  exact .dict (as := []) (bs := []) ho hx.1 hd .nil .nil
theorem reads_all (I : Inv X pins σ H s) {v : V} {d : D} (r : RD g ρ H v d) : ∀ p u, d.pd = some p → RelV v u → ∃ as, Reads s.heap u p as ∧ Trk H as := by
  refine RD.rec (motive_1 := fun v d _ => ∀ p u, d.pd = some p → RelV v u → ∃ as, Reads s.heap u p as ∧ Trk H as) (motive_2 := fun vs ds _ => ∀ ps us, pds ds = some ps → Vals vs us → ∃ as, ReadsAll s.heap us ps as ∧ Trk H as) ?_ ?_ ?_ ?_ ?_ ?_ ?_ ?_ ?_ ?_ ?_ ?_ r
  · intro p u e ru; cases e; cases (show u = Value.none from ru); exact ⟨[], .none, fun _ h => nomatch h⟩
  · intro b p u e ru; cases e; cases (show u = Value.bool b from ru); exact ⟨[], .bool b, fun _ h => nomatch h⟩
  · intro i p u e ru; cases e; obtain ⟨t, q⟩ := (show ∃ t, u = Value.int i t from ru); cases q; exact ⟨[], .int i t, fun _ h => nomatch h⟩
  · intro x p u e ru; cases e; obtain ⟨t, q⟩ := (show ∃ t, u = Value.str x t from ru); cases q; exact ⟨[], .str x t, fun _ h => nomatch h⟩
  · intro a vs ds h n _ ih p u e ru
    simp only [D.pd, Option.map_eq_some_iff] at e
    obtain ⟨ps, e1, rfl⟩ := e
    cases (show u = Value.ref a from ru)
    obtain ⟨_, its, rv, o, h1, h2, m, h3⟩ := (show ObjOk X.prog X.w H s.heap a (.tup vs) from I.hok a _ h)
    obtain ⟨as, q1, q2⟩ := ih ps its e1 rv
    exact ⟨as, .tuple h1 h2 h3 (by simpa using q1), q2⟩
  · intro a vs ds h n _ ih p u e ru
    simp only [D.pd, Option.map_eq_some_iff] at e
    obtain ⟨ps, e1, rfl⟩ := e
    cases (show u = Value.ref a from ru)
    obtain ⟨_, its, m, rv, h1⟩ := (show ObjOk X.prog X.w H s.heap a (.lst vs) from I.hok a _ h)
    obtain ⟨as, q1, q2⟩ := ih ps its e1 rv
    exact ⟨a :: as, .list h1 rfl rfl (by simpa using q1), fun b hb => (List.mem_cons.mp hb).elim (fun z => ⟨_, z ▸ h⟩) (q2 b)⟩
  · intro a ns n p u e ru; simp [D.pd] at e
  · intro n a h p u e ru; simp [D.pd] at e
  · intro a o h n p u e ru
    cases e
    cases (show u = Value.ref a from ru)
    exact ⟨[a], empty_dict (u := .dK []) I (show ObjOk X.prog X.w H s.heap a (.frz o (.dK [])) from I.hok a _ h).2, fun b hb => ⟨_, (List.mem_singleton.mp hb) ▸ h⟩⟩
  · intro a h n p u e ru
    cases e
    cases (show u = Value.ref a from ru)
    exact ⟨[a], empty_dict (u := .dK []) I (I.hok a _ h), fun b hb => ⟨_, (List.mem_singleton.mp hb) ▸ h⟩⟩
  · intro ps us e ru; simp [pds] at e; subst e; cases ru; exact ⟨[], .nil, fun _ h => nomatch h⟩
  · intro v d vs ds _ _ ih1 ih2 ps us e ru
    simp only [pds] at e
    split at e
    · rename_i p ps' e1 e2
      cases e
      cases ru with
      | cons r1 r2 =>
        obtain ⟨as, q1, q2⟩ := ih1 p _ e1 r1
        obtain ⟨bs, q3, q4⟩ := ih2 ps' _ e2 r2
        exact ⟨as ++ bs, .cons q1 q3, fun b hb => (List.mem_append.mp hb).elim (q2 b) (q4 b)⟩
    · cases e
end
/-- what the context must know for repr -/
structure Rg (X : Cx) : Prop where
  g : X.A.guards = some []
  sm : ∃ o, X.base.get? sysModules = some o
  u : X.A.units + 64 < cLine
/-- repr(x) -/
def rRepr : List V → Hp → VK → Prop := fun xs H Q => ∃ (v : V) (g : G) (ρ : List Addr) (d : D) (p : PyData), xs = [v] ∧ RD g ρ H v d ∧ d.pd = some p ∧ p.showable = true ∧ p.shown.length ≤ sizeLine ∧ p.depth ≤ 40 ∧ Q (.str p.shown) H
theorem call_repr {X : Cx} (R : Rg X) : CallR X (.builtin "repr") rRepr := by
  intro pins s σ H xs us Q I r h
  obtain ⟨v, g, ρ, d, p, rfl, rd, e, hs, hz, hd, q⟩ := h
  obtain ⟨u, rfl, ru⟩ := vals1 r
  obtain ⟨as, rr, tr⟩ := reads_all I rd p u e ru
  obtain ⟨o1, h1⟩ := R.sm
  have ns : sysModules ∉ as := fun m => by
    obtain ⟨o, ho⟩ := tr _ m
    rw [(I.bs _ _ h1).2] at ho
    cases ho
  cases u with
  | ref a =>
    exact repr_of_reads' rr hs (fun _ => ns) R.g (by have := R.u; omega) (fun _ _ e => e) (fun h' u tk hk => ⟨.str _, H, I.kept (t' := tk) hk, ⟨_, rfl⟩, q⟩) hz
  | none => cases rr; exact PySem.P.repr_of_none ⟨.str _, H, I.tok _, ⟨_, rfl⟩, q⟩
  | bool b => cases rr; exact PySem.P.repr_of_bool ⟨.str _, H, I.tok _, ⟨_, rfl⟩, q⟩
  | int i t => cases rr; exact PySem.P.repr_of_int (of_decide_eq_true hs) ⟨.str _, H, I.tok _, ⟨_, rfl⟩, q⟩
  | str x t => cases rr; exact PySem.P.repr_of_str ⟨.str _, H, I.tok _, ⟨_, rfl⟩, q⟩ hz
  | _ => cases rr
def cRepr (ds : List D) (S : Store) : Res D := match ds with
  | [d] => match d.pd with
    | some p => if p.showable = true ∧ p.shown.length ≤ sizeLine ∧ p.depth ≤ 40 then .ok (.str p.shown) S else .stuck
    | none => .stuck
  | _ => .stuck
theorem sim_repr {g : G} {E : XK} : CallSim g E rRepr cRepr := by
  intro l xs H Q ρ S ds rx rs p
  unfold cRepr at p
  split at p
  · rename_i d
    split at p
    · rename_i pp e
      split at p
      · rename_i h
        obtain ⟨v, rfl, r⟩ := rx.one
        exact ⟨v, _, ρ, d, pp, rfl, r, e, h.1, h.2.1, h.2.2, p ρ H _ Ex.refl rs (.str _)⟩
      · exact p.elim
    · exact p.elim
  · exact p.elim

/-! ### defs that are called with nothing guarded -/
structure FnG (P : Program) (w : World) (K : PySem.W.Frag) (mg : PySem.Str → Option Value) (base : Heap) (k : Nat) (f : Addr) (fd : FuncData) (ps : List PySem.Str) (sp : Sp) : Prop where
  len : ∀ vs H Q E, sp vs H Q E → vs.length = ps.length
  run : ∀ (A : Around) (outer : List Env) (s : Shared) (H : Hp) (args : Args) (us : List Value) (vs : List V) (Q : VK) (E : XK), Room k A → A.guards = some [] → Env0 P w K mg base A outer s H → BindsTo s fd args (ps.zip us) → Vals vs us → sp vs H Q E →
    codeAny (model P w) A (.call (.ref f) args) (CR (L2.CX P w) outer P w H s Q E) s
section
variable {X : Cx} {k : Nat} {f : Addr} {fd : FuncData} {ps : List PySem.Str} {sp : Sp} {dvs : List V} {ds : List Value} {E : XK} {x : PySem.Str} {p pos : Pos} {e : Expr} {es : List Expr} {t : TA}
theorem pe_callG (F : FnG X.prog X.w X.K X.mg X.base k f fd ps sp) (gg : X.A.guards = some []) (hr : Room k X.A) (hg : Gl X x) (hm : X.mg x = some (.ref f)) (hk : PySem.W.keepIn X.K (.ref f) = true) (hb : Binds X.K fd ps ds) (hd : Vals dvs ds) (hx : Passes (L2.CX X.prog X.w) X E)
    (ha : PA X (e :: es) t) (hdb : (x == ("__debug__" : PySem.Str)) = false := by decide) (he : starEach (e :: es) X.env = (false, eval e X.env) :: starEach es X.env := by rfl) (hpl : (backTo pos (starEach es X.env)).any (·.1) = false := by rfl) :
    PE X (.Call (.Name x p) (e :: es) [] pos) (tCall sp dvs E t) := by
  refine ⟨fun pins s σ H Q I h => ?_⟩
  refine wpAny_Call_Name_kw (ld_glob I hg hm ?_ hdb)
  refine PySem.W.callWith_K (h₀ := X.base) I.ok.mod.kin hk (thn (ha.run pos pins s σ H _ I h) fun us s1 ⟨vs, H1, I1, r, q⟩ => ⟨I1.kIn, ?_⟩) he hpl
  have r2 : Vals (vs ++ dvs) (us ++ ds) := r.append hd
  refine wpAny_call (codeAny_mono (F.run X.A X.stack s1 H1 ⟨us, []⟩ (us ++ ds) (vs ++ dvs) Q E hr gg I1.env0 (hb s1 us I1.kIn (r2.length.symm.trans (F.len _ _ _ _ q))) r2 q) fun r s' hq => ?_)
  cases r with
  | error e => exact hx pins σ H1 s1 e s' I1 hq
  | ok fl =>
    cases fl with
    | ret u => exact I1.after hq
    | next => exact False.elim hq
    | brk => exact False.elim hq
    | cont => exact False.elim hq
end
section
variable {P : Program} {w : World} {K : PySem.W.Frag} {mg : PySem.Str → Option Value} {base : Heap} {g : G}
theorem fn_simG {x qual : PySem.Str} {st : Stmt} {f : Addr} {fd : FuncData} {N ps : List PySem.Str} {k : Nat} {m : SM} (F : Fun K x qual st f fd) (S : FnScope N ps (defScope st)) (sm : ∃ o, base.get? sysModules = some o)
    (hb : ∀ (cdv : Value) (A : Around) (outer : List Env) (s : Shared) (H : Hp) (E : XK), Room k (A.deeper (PyProof.Rows.envOfC qual (defScope st) s.heap.objs.size f cdv)) → Rg (cxOf (L2.CX P w) P w K mg base N qual (defScope st) f cdv A outer s H E) →
      ∃ t, PSs (cxOf (L2.CX P w) P w K mg base N qual (defScope st) f cdv A outer s H E) (defBody st) t ∧ SimS g E t m) :
    FnG P w K mg base (k + 1) f fd ps (spOf g ps.length (mDef N.length ps.length m)) := by
  obtain ⟨oc, od, kV, doc, pm, an, cdv, ct, osl, rfl, lk, hcd⟩ := F.ex
  refine ⟨fun vs H Q E h => by obtain ⟨l, ρ, S, ds, hl, _⟩ := h; exact hl, fun A outer s H args us vs Q E hr gg e0 hbd r hsp => ?_⟩
  obtain ⟨l, ρ, S0, ds, hl, rd, rs, p⟩ := hsp
  have KX : K.In s.heap := e0.mod.kin.keeps fun b o e => (e0.bs b o e).1
  have lim : s.heap.NoLimit := e0.mod.nolimit.keeps fun b o e => (e0.bs b o e).1
  refine codeAny_call_function hr.depth (KX _ _ lk) rfl S.co S.gen rfl (PySem.W.codeRec_of KX hcd) (hbd _ _ _ _ ?_)
  refine wpAny_newFunctionEnv_cells S.kind (fun ⟨n, v⟩ hy => ?_) fun env he s1 xx => ?_
  · rcases S.par n (List.of_mem_zip hy).1 with q | q
    · exact .inl q
    · exact .inr ⟨q, PySem.W.cellsFrom_some _ _ _ (.inl q)⟩
  subst he
  refine ⟨lim.keeps xx.toInCall.keep, codeAny_func ?_⟩
  have hr2 := hr.deeper (PyProof.Rows.envOfC qual (defScope st) s.heap.objs.size f cdv)
  obtain ⟨t, ht, hs⟩ := hb cdv A outer s H E hr2 ⟨gg, sm, hr2.units⟩
  have hq : t { nx := fun _ H' => Q .non H', rt := Q } (L2.start N vs) H := by
    refine hs l _ _ H ρ S0 (startE N.length ds) (re_start rd) rs ?_
    unfold mDef at p
    rw [if_pos (by rw [← rd.length]; exact hl)] at p
    cases e : m (startE N.length ds) S0 with
    | ret d S' => rw [e] at p; exact p
    | next env' S' => rw [e] at p; exact fun ρ' H' σ' e1 rs1 re1 => p ρ' H' .non e1 rs1 .non
    | err x S' => rw [e] at p; exact p
    | brk env' S' => rw [e] at p; exact p.elim
    | cont env' S' => rw [e] at p; exact p.elim
    | stuck => rw [e] at p; exact p.elim
  have I : Inv (cxOf (L2.CX P w) P w K mg base N qual (defScope st) f cdv A outer s H E) [] (L2.start N vs) H s1 := inv_start S hr.hd e0 hl r xx
  refine wpAny_mono (ht.run [] s1 (L2.start N vs) H _ I hq) (fun fl s' hs => ?_) fun e s' hs => hs
  cases fl with
  | ret u =>
    obtain ⟨v, σ', H', J, rv, q⟩ := hs
    exact ⟨v, H', J.os, J.bare, J.base, J.hok, rv, q⟩
  | next =>
    obtain ⟨σ', H', J, q⟩ := hs
    exact ⟨.non, H', J.os, J.bare, J.base, J.hok, rfl, q⟩
  | brk =>
    obtain ⟨_, _, _, q⟩ := hs
    exact False.elim q
  | cont =>
    obtain ⟨_, _, _, q⟩ := hs
    exact False.elim q
end
end Lg

namespace Lg
open PySem PySem.Spec L2
def tDNewF : TE := fun _ H Q => ∀ p o, H p = none → Q (.ref p) (upd H p (.frz o (.dK [])))
theorem pe_dnewF {X : Cx} {pos : Pos} : PE X (.Dict [] [] pos) tDNewF := ⟨fun pins s σ H Q I h =>
  wpAny_Dict_empty ⟨.ref s.heap.objs.size, _, I.laid (a := s.heap.objs.size) (o := .frz { cls := .type "dict", data := .dict #[] } (.dK [])) (t' := s.toks) (fun _ _ q => Heap.get?_push_of_some _ q) (Nat.le_refl _) ⟨Heap.get?_push_size _ rfl, dk_empty s.heap I.big⟩, rfl, h _ _ (I.hok.fresh (Nat.le_refl _))⟩⟩
def mEmp : EM := fun _ S => .ok (.emp true) S
theorem sim_emp {g : G} {E : XK} : SimE g E tDNewF mEmp := by
  intro l σ H Q ρ S env re rs p q o hq
  exact p ρ _ _ (Ex.new1 hq) (rs.aside hq) (.empF upd_same (rs.fresh hq))
/-- {k: v for .. in d.items()}, d the empty dict -/
def mDc0 (a : EM) : EM := fun env S => (a env S).bind fun d S1 => match d with
  | .emp true => .ok (.emp false) S1
  | _ => .stuck
theorem sim_dc0 {g : G} {E : XK} {te : TE} {a : EM} {gt : TG} {tt : TT} {tk tv : TE} {vs : List Nat} (ha : SimE g E te a) : SimE g E (tDc (iItems te) gt tt tk tv vs) (mDc0 a) := by
  intro l σ H Q ρ S env re rs p
  refine ha.bind re rs p fun d S1 ρ1 H1 v e1 rs1 rx re1 p1 => ?_
  cases rx with
  | @empF ad o h n =>
    refine ⟨ad, o, [], rfl, h, fun D hD => ?_⟩
    refine ⟨fun i _ H' => i = 0 ∧ H' = upd H1 D (.dK []), ⟨0, rfl, rfl⟩, ?_⟩
    rintro i m H' ⟨rfl, rfl⟩
    exact .inl ⟨⟨by rw [upd_ne (ne_of_none h hD)]; exact h, Nat.le_refl _⟩, p1 ρ1 _ _ (Ex.new1 hD) (rs1.aside hD) (.empU upd_same (rs1.fresh hD))⟩
  | _ => exact p1.elim

/-! ### signs repeated -/
instance (x : PySem.Str) (n : Int) : Decidable (MulOk x n) := by unfold MulOk; infer_instance
def rMulS : R2 := fun x y H Q => ∃ (a : PySem.Str) (n : Int), x = .str a ∧ y = .int n ∧ MulOk a n ∧ Q (.str (Txt.mul a n)) H
theorem op_mulS {X : Cx} : OpR X (binaryOp .Mult) rMulS := by
  intro pins s σ H x y v u Q I rx ry h
  obtain ⟨a, n, rfl, rfl, ok, q⟩ := h
  obtain ⟨t, e⟩ := (show ∃ t, v = Value.str a t from rx)
  obtain ⟨t', e'⟩ := (show ∃ t, u = Value.int n t from ry)
  cases e; cases e'
  exact SB.mul ok fun t'' k => ⟨.str _, H, I.tok k, ⟨_, rfl⟩, q⟩
def dMulS (x y : D) (S : Store) : Res D := match x, y with
  | .str a, .int n => if MulOk a n then .ok (.str (Txt.mul a n)) S else .stuck
  | _, _ => .stuck
theorem sim_mulS {g : G} {E : XK} : OpSim g E rMulS dMulS := by
  intro l x y H Q ρ S dx dy rx ry rs p
  unfold dMulS at p
  split at p
  · cases rx; cases ry
    split at p
    · rename_i h
      exact ⟨_, _, rfl, rfl, h, p ρ H _ Ex.refl rs (.str _)⟩
    · exact p.elim
  · exact p.elim

/-! ### == with texts of any signs -/
def rEqA (K : PySem.W.Frag) : R2 := fun x y H Q => rEqD K x y H Q ∨ ∃ a b : PySem.Str, x = .str a ∧ y = .str b ∧ Q (.bl (decide (a = b))) H
def rNeA (K : PySem.W.Frag) : R2 := fun x y H Q => rNeD K x y H Q ∨ ∃ a b : PySem.Str, x = .str a ∧ y = .str b ∧ Q (.bl (!decide (a = b))) H
theorem op_eqT {X : Cx} : OpR X (compareOp .Eq) (fun x y H Q => ∃ a b : PySem.Str, x = .str a ∧ y = .str b ∧ Q (.bl (decide (a = b))) H) := by
  intro pins s σ H x y v u Q I rx ry h
  obtain ⟨a, b, rfl, rfl, q⟩ := h
  refine op_eq pins s σ H _ _ v u Q I rx ry ⟨rfl, ?_⟩
  rw [show decide (V.str a = V.str b) = decide (a = b) by simp]
  exact q
theorem op_neT {X : Cx} : OpR X (compareOp .NotEq) (fun x y H Q => ∃ a b : PySem.Str, x = .str a ∧ y = .str b ∧ Q (.bl (!decide (a = b))) H) := by
  intro pins s σ H x y v u Q I rx ry h
  obtain ⟨a, b, rfl, rfl, q⟩ := h
  refine op_ne pins s σ H _ _ v u Q I rx ry ⟨rfl, ?_⟩
  rw [show decide (V.str a = V.str b) = decide (a = b) by simp]
  exact q
theorem op_eqA {X : Cx} (hu : X.A.units + 64 < cLine) : OpR X (compareOp .Eq) (rEqA X.K) := (op_eqD hu).or op_eqT
theorem op_neA {X : Cx} (hu : X.A.units + 64 < cLine) : OpR X (compareOp .NotEq) (rNeA X.K) := (op_neD hu).or op_neT
def dEqA (x y : D) (S : Store) : Res D := match x, y with
  | .str a, .str b => .ok (.bl (decide (a = b))) S
  | x, y => dEq x y S
def dNeA (x y : D) (S : Store) : Res D := match x, y with
  | .str a, .str b => .ok (.bl (!decide (a = b))) S
  | x, y => dNe x y S
theorem sim_eqA {g : G} {E : XK} {K : PySem.W.Frag} : OpSim g E (rEqA K) dEqA := by
  intro l x y H Q ρ S dx dy rx ry rs p
  unfold dEqA at p
  split at p
  · cases rx; cases ry
    exact .inr ⟨_, _, rfl, rfl, p ρ H _ Ex.refl rs (.bl _)⟩
  · exact .inl (sim_eq l x y H Q ρ S dx dy rx ry rs p)
theorem sim_neA {g : G} {E : XK} {K : PySem.W.Frag} : OpSim g E (rNeA K) dNeA := by
  intro l x y H Q ρ S dx dy rx ry rs p
  unfold dNeA at p
  split at p
  · cases rx; cases ry
    exact .inr ⟨_, _, rfl, rfl, p ρ H _ Ex.refl rs (.bl _)⟩
  · exact .inl (sim_ne l x y H Q ρ S dx dy rx ry rs p)
end Lg

namespace Lg
open PySem PySem.Spec L2
def mInit (c n np : Nat) (m : SM) (ds : List D) (S : Store) : Res D := match ds with
  | .loc i :: _ => match S[i]? with
    | some (.exc c' none) => if c' = c then mDef n np m ds S else .stuck
    | _ => .stuck
  | _ => .stuck
theorem ar_init {c n np : Nat} {m : SM} : Ar np (mInit c n np m) := fun ds S h => by
  unfold mInit
  split
  · split
    · split
      · exact mDef_len h
      · rfl
    · rfl
  · rfl
section
variable {P : Program} {w : World} {K : PySem.W.Frag} {mg : PySem.Str → Option Value} {base : Heap} {N : List PySem.Str} {qual : PySem.Str} {scope : Scope} {f cda cc : Addr} {A : Around} {outer : List Env} {s : Shared} {H : Hp} {E : XK}
theorem pS : Passes (L2.CX P w) (cxS P w K mg base N qual scope f cda cc A outer s H E) E := passes_call (takes_of rfl rfl rfl rfl) (fun _ _ _ _ h => h)
end
/-- an own exception class with its own __init__, as it stands behind the top; st: the def's statement -/
structure XI (K : PySem.W.Frag) (prog : Program) (mg : PySem.Str → Option Value) (n qual : PySem.Str) (st : Stmt) (C fI cda cc : Addr) (fd : FuncData) : Prop where
  ex : ∃ (oc : Value) (od : Option Addr) (kV doc pm : Value) (an : Option Addr) (ct : Value) (osl : Array (Option Value)), fd = PySem.W.ksFn "__init__" qual (defArgs st) (defBody st) (defScope st) .none kV doc pm an (.ref cda) ct cc ∧ K.lookup fI = some ⟨oc, od, .func fd, osl⟩
  cd : PySem.W.codeIn K (.ref cda) qual = true
  U : SupC K prog C cda cc
  m : mg n = some (.ref C)
  su : mg "super" = none
  iC : PySem.W.findIn K (.ref C) "__init__" = some (some (.ref fI))
  tI : PySem.W.typeIn K (.ref fI) = some (.type "function")
section
variable {P : Program} {w : World} {K : PySem.W.Frag} {mg : PySem.Str → Option Value} {base : Heap} {g : G}
theorem fn_init {n qual z : PySem.Str} {st : Stmt} {C fI cda cc : Addr} {fd : FuncData} {N ps : List PySem.Str} {k c j : Nat} {m : SM} {p0 p1 p2 p3 p4 p5 : Pos} {rest : List Stmt} {ar : Arg} {pl : Shared → Sem Bool}
    (F : XI K P mg n qual st C fI cda cc fd) (hc : g.cls c = C) (hst : defBody st = .Expr (.Call (.Attribute (.Call (.Name "super" p0) [] [] p1) "__init__" p2) [.Constant (.str z) j p3] [] p4) p5 :: rest) (S : ScS N ps (defScope st)) (hp : ((defArgs st).posonlyargs ++ (defArgs st).args).head? = some ar) (hps : ps.head? = some ar.arg)
    (hev : ∀ s : Shared, eval (.Call (.Attribute (.Call (.Name "super" p0) [] [] p1) "__init__" p2) [.Constant (.str z) j p3] [] p4) (sEnv qual (defScope st) s fI cda cc) = (do
      let ov ← attributeBase (.Call (.Name "super" p0) [] [] p1) "__init__" (sEnv qual (defScope st) s fI cda cc) (eval (.Call (.Name "super" p0) [] [] p1) (sEnv qual (defScope st) s fI cda cc))
      standAt p2.atName
      let (g, first) ← holding [ov] (getMethod ov "__init__" (pl s))
      callWith p4 g first (backTo p4 (starEach [.Constant (.str z) j p3] (sEnv qual (defScope st) s fI cda cc))) []))
    (hb : ∀ (A : Around) (outer : List Env) (s : Shared) (H : Hp) (E : XK), Room k (A.deeper (sEnv qual (defScope st) s fI cda cc)) → ∃ t, PSs (cxS P w K mg base N qual (defScope st) fI cda cc A outer s H E) rest t ∧ SimS g E t m) :
    FnOk P w K mg base (L2.CX P w) (k + 1) fI fd ps (spOf g ps.length (mInit c N.length ps.length m)) := by
  obtain ⟨oc, od, kV, doc, pm, an, ct, osl, rfl, lk⟩ := F.ex
  rw [hst] at lk ⊢
  subst hc
  refine fn_super (C := g.cls c) (pl := pl) lk F.cd S F.U F.su hp hev hps (fun vs H Q E h => ?_) (fun vs H Q E h => ?_) fun A outer s H vs Q E hr h => ?_
  · obtain ⟨l, ρ, S, ds, hl, _⟩ := h
    exact hl
  · obtain ⟨l, ρ, S, ds, hl, rd, rs, p⟩ := h
    unfold mInit at p
    split at p
    · rename_i i ds'
      split at p
      · rename_i c' e
        split at p
        · rename_i q
          subst q
          cases rd with
          | cons r t =>
            cases r with
            | loc hn => exact ⟨_, _, rfl, rs.ob i _ _ hn e⟩
        · exact p.elim
      · exact p.elim
    · exact p.elim
  · obtain ⟨l, ρ, S, ds, hl, rd, rs, p⟩ := h
    obtain ⟨t, ht, hs⟩ := hb A outer s H E hr
    refine ⟨t, ht, hs l _ _ H ρ S (startE N.length ds) (re_start rd) rs ?_⟩
    unfold mInit at p
    split at p
    · split at p
      · split at p
        · unfold mDef at p
          rw [if_pos (by rw [← rd.length]; exact hl)] at p
          split at p
          · rename_i d S' e; rw [e]; exact p
          · rename_i env' S' e; rw [e]; exact fun ρ' H' σ' e1 rs1 re1 => p ρ' H' .non e1 rs1 .non
          · rename_i x S' e; rw [e]; exact p
          · exact p.elim
        · exact p.elim
      · exact p.elim
    · exact p.elim
end
theorem RDs.reverse {g : G} {ρ : List Addr} {H : Hp} : ∀ {vs : List V} {ds : List D}, RDs g ρ H vs ds → RDs g ρ H vs.reverse ds.reverse
  | _, _, .nil => .nil
  | _, _, .cons h t => by rw [List.reverse_cons, List.reverse_cons]; exact (RDs.reverse t).append (.cons h .nil)
end Lg

namespace Lg
open PySem PySem.Spec L2 PyProof.Rows
section
variable {P : Program} {w : World} {K : PySem.W.Frag} {mg mb : PySem.Str → Option Value} {k : Nat} {fa a : Addr} {fd : FuncData} {x : PySem.Str} {f : List D → Store → Res D} {g : G} {s₁ : Shared} {vs : List Value} {ns : List Int}
theorem law_callG (KX : K.In s₁.heap) (hns : s₁.heap.Ns mainGlobals mg) (hb : s₁.heap.Ns builtinsNs mb) (hbb : ∀ x : PySem.Str, x ≠ "__name__" → mb x = bootBuiltins x) (hlim : s₁.heap.NoLimit) (hsm : ∃ mm, s₁.heap.Ns sysModules mm) (hg : s₁.gens = #[])
    (ha : s₁.heap.get? a = some { cls := .type "list", data := .seq vs.toArray }) (hi : IntsAre vs ns) (hl : ns.length ≤ sizeLine) (hr : Room k callerA) (gK : g.K = K)
    (F : ∀ base : Heap, K.In base → base.Ns mainGlobals mg → (∃ o, base.get? sysModules = some o) → FnG P w K mg base k fa fd [x] (spOf g 1 f)) (hbind : ∀ (s : Shared) (u : Value), BindsTo s fd ⟨[u], []⟩ [(x, u)]) {S' : Store} (hf : f [.scr ns] [] = .ok (.bl true) S') :
    codeAny (model P w) callerA (.call (.ref fa) ⟨[.ref a], []⟩) (fun r s' => r = .ok (.ret (.bool true)) ∧ OldK s₁.heap s'.heap ∧ s'.os = s₁.os ∧ AllBare s'.gens) s₁ := by
  have rv := vals_ints hi
  have lenV := hi.length
  obtain ⟨mm, osm, esm, epm, hsm1, hsm2, _⟩ := hsm
  have core : ∀ H : Hp, (∀ b u, H b = some u → b = a ∧ K.lookup a = none ∧ ∃ o, u = .frz o (.lst (ns.map V.int))) → ((∃ o, H a = some (.frz o (.lst (ns.map V.int)))) ∨ ∀ H', SqL K H' a (ns.map V.int)) → HOk P w H s₁.heap →
      codeAny (model P w) callerA (.call (.ref fa) ⟨[.ref a], []⟩) (fun r s' => r = .ok (.ret (.bool true)) ∧ OldK s₁.heap s'.heap ∧ s'.os = s₁.os ∧ AllBare s'.gens) s₁ := by
    intro H hA hS hok
    have keep : ∀ {b : Addr} {o : Obj}, s₁.heap.get? b = some o → H b = none → (hidT s₁.heap H).get? b = some o := fun e n => hidT_get e n
    have dictFree : ∀ {b : Addr} {o : Obj} {es : Array DictEntry} {ep : Nat}, s₁.heap.get? b = some o → o.data = .dict es ep → H b = none := fun {b o es ep} e d => by
      cases q : H b with
      | none => rfl
      | some u =>
        rw [(hA b u q).1, ha] at e
        cases e
        cases (show Data.seq vs.toArray _ = Data.dict es ep from d)
    have nsK : ∀ {b : Addr} {m : PySem.Str → Option Value}, s₁.heap.Ns b m → (hidT s₁.heap H).Ns b m := fun {b m} ⟨o, es, ep, e, d, r⟩ => ⟨o, es, ep, keep e (dictFree e d), d, r⟩
    have inK : K.In (hidT s₁.heap H) := fun b o e => keep (KX b o e) (by
      cases q : H b with
      | none => rfl
      | some u =>
        obtain ⟨rfl, z, _⟩ := hA b u q
        rw [z] at e; cases e)
    have hM : Mod K mg (hidT s₁.heap H) := ⟨inK, nsK hns, ⟨mb, nsK hb, hbb⟩, let ⟨mc, h1, h2⟩ := hlim; ⟨mc, nsK h1, h2⟩⟩
    have e0 : Env0 P w K mg (hidT s₁.heap H) callerA [] s₁ H := ⟨rfl, hM, fun b o e => of_hidT e, Nat.le_of_eq (hidT_size _ _), trivial, fun b hb => absurd (show b ∈ ([] : List Addr) from hb) (by simp), hok, .of_eq hg⟩
    have FF := F _ inK (nsK hns) ⟨osm, keep hsm1 (dictFree hsm1 hsm2)⟩
    have rs : RS (g.hide []) [] [] H := ⟨rfl, List.nodup_nil, fun n a o h => by simp at h, fun b m => absurd (show b ∈ ([] : List Addr) from m) (by simp)⟩
    have rd : RD (g.hide []) [] H (.ref a) (.scr ns) := .scr (by
      rcases hS with ⟨o, h⟩ | h
      · exact .inl ⟨o, h, by simp, fun m => absurd (show a ∈ ([] : List Addr) from m) (by simp)⟩
      · exact .inr fun H' => by
          have : (g.hide []).K = K := gK
          rw [this]; exact h H')
    refine codeAny_mono (FF.run callerA [] s₁ H ⟨[.ref a], []⟩ [.ref a] [.ref a] (fun v _ => v = .bl true) (fun _ _ _ => False) hr rfl e0 (hbind s₁ (.ref a)) (.cons rfl .nil) ⟨[], [], [], [.scr ns], rfl, .cons rd .nil, rs, ?_⟩) fun r s' h => ?_
    · rw [hf]
      intro ρ' H' v _ _ rv'
      cases rv'
      rfl
    cases r with
    | error e =>
      obtain ⟨_, _, _, _, _, _, _, _, _, _, _, _, z⟩ := h
      exact z.elim
    | ok fl =>
      cases fl with
      | next => exact False.elim h
      | brk => exact False.elim h
      | cont => exact False.elim h
      | ret u =>
        obtain ⟨v, H', os, bare, un, hok', r', q⟩ := h
        obtain rfl : v = .bl true := q
        obtain rfl : u = Value.bool true := r'
        refine ⟨rfl, OldK.of_keep fun b o e => ?_, os, bare⟩
        cases q : H b with
        | none => exact un.keep b o e q (by intro z; exact absurd (show b ∈ ([] : List Addr) from z) (by simp)) (by simp)
        | some u =>
          obtain ⟨_, _, ob, rfl⟩ := hA b u q
          obtain ⟨e1, _⟩ := hok b _ q
          obtain ⟨e2, _⟩ := hok' b _ (un.frzs b ob _ q)
          rw [e] at e1; cases e1
          exact e2
  cases hk : K.lookup a with
  | some o =>
    have e := KX a o hk
    rw [ha] at e
    cases e
    exact core (fun _ => none) (fun b u z => nomatch z) (.inr fun H' => .inr ⟨_, vs.toArray, _, hk, rfl, rfl, rfl, by rw [List.size_toArray, lenV]; exact hl, by simpa using rv⟩) (fun b u z => nomatch z)
  | none =>
    refine core (fun b => if b = a then some (.frz { cls := .type "list", data := .seq vs.toArray } (.lst (ns.map V.int))) else none) (fun b u z => ?_) (.inl ⟨_, if_pos rfl⟩) (fun b u z => ?_)
    · by_cases hb : b = a
      · have z' := (if_pos hb).symm.trans z
        cases z'
        exact ⟨hb, hk, _, rfl⟩
      · cases (if_neg hb).symm.trans z
    · by_cases hb : b = a
      · have z' := (if_pos hb).symm.trans z
        cases z'
        subst hb
        exact ⟨ha, by rw [List.length_map]; exact hl, vs, _, rv, ha⟩
      · cases (if_neg hb).symm.trans z
end

theorem walkG {l : PySem.W.OpenLaw} {n k : Nat} {q : Program} {loose : List PySem.Str} {XP : (PySem.Str → Option Value) → Heap → Prop} {YP : World → Heap → Prop} {d : DefRec} {K : Params → PySem.W.Frag} {x : PySem.Str} {f : List D → Store → Res D}
    (hn : l.most = some n) (hn2 : n ≤ sizeLine) (hdf : d.params.defaults = []) (hr : Room k callerA) (hin : importsNone q = true) (hY : ∀ (w : World) (h : Heap), YP w h → (K w.params).In h)
    (F : ∀ (w : World) (mg : PySem.Str → Option Value) (fa : Addr) (h : Heap), (K w.params).In h → h.Ns mainGlobals mg → mg d.name = some (.ref fa) →
      ∃ (fd : FuncData) (g : G), g.K = K w.params ∧ (∀ (s : Shared) (u : Value), BindsTo s fd ⟨[u], []⟩ [(x, u)]) ∧
        ∀ base : Heap, (K w.params).In base → base.Ns mainGlobals mg → (∃ o, base.get? sysModules = some o) → FnG l.prog w (K w.params) mg base k fa fd [x] (spOf g 1 f))
    (hf : ∀ ns : List Int, ns.length ≤ n → (∀ z ∈ ns, Builtin.Int.intBits z ≤ 1048576) → ∃ S', f [.scr ns] [] = .ok (.bl true) S') :
    PySem.W.WalkO q loose XP YP l.row.toRowW d [] (fun f vs => PySem.call f vs) := by
  refine Att.attach_callB hn hdf fun w s₀ s₁ mg mb fa o pm cd doc a vs ns G Y ho hd hcd hmg hobj hints hlen hbits hg => ?_
  have KX := hY w _ Y
  obtain ⟨fd, g, gK, hb, hF⟩ := F w mg fa _ KX G.T.g hmg
  obtain ⟨S', e⟩ := hf ns hlen hbits
  obtain ⟨mm, hm, _⟩ := (G.T.seer hin).mods
  exact law_callG KX G.T.g G.T.b G.T.builtins G.T.nolimit ⟨mm, hm⟩ hg hobj hints (Nat.le_trans hlen hn2) hr gK hF hb e
end Lg

namespace Lg
open PySem PySem.Spec L2
section
variable {K : PySem.W.Frag} {P : Program} {C fI cda cc : Addr}
def ecB (K : PySem.W.Frag) (C : Addr) : Bool := match K.lookup C with
  | some ⟨.type t, _, .cls cd, sl⟩ => (match cd.mro, sl.toList with
    | .ref C' :: bm, [_, _, _, _, some (.builtin n), _] => decide (t = "type") && decide (C' = C) && decide (n = "ValueError.__new__") && !cd.hasDel && cd.hasDict && PySem.HandSPX.refsVE bm
    | _, _ => false)
  | _ => false
theorem ec_of (h : ecB K C = true) : ∃ nm q N bs bm sn sub ab col dd k0 k1 k2 k3 k5, K.lookup C = some (excClassObj nm q C N bs bm true sn sub ab col dd k0 k1 k2 k3 k5 "ValueError.__new__") ∧ PySem.HandSPX.refsVE bm = true := by
  unfold ecB at h
  split at h
  · rename_i t dd cd sl ho
    split at h
    · rename_i C' bm k0 k1 k2 k3 n k5 hm hs
      simp only [Bool.and_eq_true, decide_eq_true_eq, Bool.not_eq_true'] at h
      obtain ⟨⟨⟨⟨⟨rfl, rfl⟩, rfl⟩, hdel⟩, hh⟩, ht⟩ := h
      obtain ⟨nm, bs, mro, ns, qn, hd, sn, sub, ab, col, del⟩ := cd
      dsimp only at hm hdel hh
      subst hm hdel hh
      have hsl : sl = #[k0, k1, k2, k3, some (.builtin "ValueError.__new__"), k5] := by
        obtain ⟨l⟩ := sl
        simp only at hs
        rw [hs]
      subst hsl
      exact ⟨nm, qn, ns, bs, bm, sn, sub, ab, col, dd, k0, k1, k2, k3, k5, ho, ht⟩
    · cases h
  · cases h
def oexB (K : PySem.W.Frag) (C : Addr) : Bool := ecB K C && decide (PySem.W.findIn K (.ref C) "__setattr__" = some (some (.builtin "object.__setattr__"))) && decide (PySem.W.subIn K (.ref C) (.type "BaseException") = some true) && decide (PySem.W.typeIn K (.ref C) = some (.type "type")) && PySem.W.keepIn K (.ref C)
theorem oex_of (h : oexB K C = true) : OexC K C := by
  unfold oexB at h
  simp only [Bool.and_eq_true, decide_eq_true_eq] at h
  obtain ⟨⟨⟨⟨h1, h2⟩, h3⟩, h4⟩, h5⟩ := h
  exact ⟨ec_of h1, h2, h3, h4, h5⟩
def codeB (K : PySem.W.Frag) (P : Program) (cda : Addr) : Bool := match K.lookup cda with
  | some ⟨_, _, .fields vs, _⟩ => (match (vs : Array Value)[2]? with
    | some (Value.str file _) => (P.main.file : PySem.Str) == file
    | _ => false)
  | _ => false
def cellB (K : PySem.W.Frag) (C cc : Addr) : Bool := match K.lookup cc with
  | some ⟨_, _, .cell (some (.ref D)), _⟩ => decide (D = C)
  | _ => false
def supB (K : PySem.W.Frag) (P : Program) (C cda cc : Addr) : Bool := oexB K C && decide (PySem.W.ks_superIn K C C "__init__" = some (some (.builtin "ValueError.__init__"))) && decide (PySem.W.subIn K (.ref C) (.type "ValueError") = some true) && decide (PySem.W.mroIn K C (.ref C) = some true) &&
  decide (PySem.W.nsIn K cStatics "thirdparty.any" = some none) && codeB K P cda && cellB K C cc && !(P.main.scope.names.lookup ("super" : PySem.Str)).isSome
theorem sup_of (h : supB K P C cda cc = true) : SupC K P C cda cc := by
  unfold supB at h
  simp only [Bool.and_eq_true, decide_eq_true_eq, Bool.not_eq_true'] at h
  obtain ⟨⟨⟨⟨⟨⟨⟨h1, h2⟩, h3⟩, h4⟩, h5⟩, h6⟩, h7⟩, h8⟩ := h
  refine ⟨oex_of h1, h2, h3, h4, h5, ?_, ?_, h8⟩
  · unfold codeB at h6
    split at h6
    · rename_i a b vs c ho
      split at h6
      · rename_i file tk hv
        exact ⟨a, b, vs, c, file, tk, ho, hv, h6⟩
      · cases h6
    · cases h6
  · unfold cellB at h7
    split at h7
    · rename_i a b D c ho
      have e := of_decide_eq_true h7
      subst e
      exact ⟨a, b, c, ho⟩
    · cases h7
def excCB (K : PySem.W.Frag) (D : Addr) : Bool := decide (PySem.W.findIn K (.ref D) "__getattribute__" = some (some (.builtin "BaseException.__getattribute__"))) && decide (PySem.W.findIn K (.ref D) "__getattr__" = some none) && decide (PySem.W.subIn K (.ref D) (.type "BaseException") = some true) && PySem.W.hasDictIn K D &&
  decide (PySem.W.findIn K (.ref D) "__class__" = some (some (.builtin "object.__class__"))) && decide (PySem.W.specialIn K (.builtin "object.__class__") "__get__" = some (some (.builtin "getset_descriptor.__get__"))) && decide (PySem.W.takesIn K (.builtin "object.__class__") = some true) && decide (PySem.W.mroIn K D (.type "object") = some true)
theorem excC_of (h : excCB K C = true) : ExcC K C := by
  unfold excCB at h
  simp only [Bool.and_eq_true, decide_eq_true_eq] at h
  obtain ⟨⟨⟨⟨⟨⟨⟨h1, h2⟩, h3⟩, h4⟩, h5⟩, h6⟩, h7⟩, h8⟩ := h
  exact ⟨h1, h2, h3, h4, h5, h6, h7, h8⟩
/-- what isinstance says of the classes 0 .. n - 1 -/
def isiB (K : PySem.W.Frag) (Cs : List Addr) (n : Nat) (u : Value) (t : Nat → Option Bool) : Bool := (List.range n).all fun c => decide (PySem.W.kitOne K (.ref (Cs.getD c 0)) u = t c)
theorem isi_of {Cs : List Addr} {n : Nat} {u : Value} {t : Nat → Option Bool} (hx : ((List.range n).all fun c => excCB K (Cs.getD c 0)) = true) (h : isiB K Cs n u t = true) (ht : ∀ c b, t c = some b → c < n) : ∀ c b, t c = some b → ExcC K (Cs.getD c 0) ∧ PySem.W.kitOne K (.ref (Cs.getD c 0)) u = some b := by
  intro c b e
  have hc := List.mem_range.mpr (ht c b e)
  refine ⟨excC_of (List.all_eq_true.mp hx c hc), ?_⟩
  rw [← e]
  exact of_decide_eq_true (List.all_eq_true.mp h c hc)
def flB (K : PySem.W.Frag) (Cs : List Addr) (cs : List Nat) (f : PySem.Str) : Bool := cs.all fun c => xfB K (Cs.getD c 0) && decide (PySem.W.findIn K (.ref (Cs.getD c 0)) f = some none)
theorem fl_of {Cs : List Addr} {cs : List Nat} {f : PySem.Str} (h : flB K Cs cs f = true) : ∀ c, cs.contains c = true → XfC K (Cs.getD c 0) ∧ PySem.W.findIn K (.ref (Cs.getD c 0)) f = some none := by
  intro c hc
  have := List.all_eq_true.mp h c (by simpa using hc)
  simp only [Bool.and_eq_true, decide_eq_true_eq] at this
  exact ⟨xfB_ok this.1, this.2⟩
theorem xi_of {mg : PySem.Str → Option Value} {n qual : PySem.Str} {st : Stmt} {oc kV doc pm ct : Value} {od an : Option Addr} {osl : Array (Option Value)} (lk : K.lookup fI = some ⟨oc, od, .func (PySem.W.ksFn "__init__" qual (defArgs st) (defBody st) (defScope st) .none kV doc pm an (.ref cda) ct cc), osl⟩)
    (cd : PySem.W.codeIn K (.ref cda) qual = true) (U : supB K P C cda cc = true) (m : mg n = some (.ref C)) (su : mg "super" = none) (iC : PySem.W.findIn K (.ref C) "__init__" = some (some (.ref fI))) (tI : PySem.W.typeIn K (.ref fI) = some (.type "function")) :
    XI K P mg n qual st C fI cda cc (PySem.W.ksFn "__init__" qual (defArgs st) (defBody st) (defScope st) .none kV doc pm an (.ref cda) ct cc) :=
  ⟨⟨oc, od, kV, doc, pm, an, ct, osl, rfl, lk⟩, cd, sup_of U, m, su, iC, tI⟩
theorem kbn_of {fd : FuncData} {p : PySem.Str} {ps ks : List PySem.Str} {g : List Value → List Value → List Value} {gV : List V → List V → List V} (hrel : ∀ {vs : List V} {us : List Value} {zs : List V} {ws : List Value}, Vals vs us → Vals zs ws → Vals (gV vs zs) (g us ws))
    (h : ∀ (a : Value) (ws : List Value), ws.length = ks.length → bindArgs fd ⟨[a], ks.zip ws⟩ = pure ((p :: ps).zip (g [a] ws))) : KBn K fd (p :: ps) 1 ks g gV :=
  ⟨fun s us ws X l1 l2 => by
    obtain ⟨a, rfl⟩ := List.length_eq_one_iff.mp l1
    exact .of_eq (h a ws l2), hrel⟩
theorem vals_rev : ∀ {zs : List V} {ws : List Value}, Vals zs ws → Vals zs.reverse ws.reverse
  | _, _, .nil => .nil
  | _, _, .cons h t => by rw [List.reverse_cons, List.reverse_cons]; exact (vals_rev t).append (.cons h .nil)
end
end Lg

namespace Lg
open PySem PySem.Spec L2
def sRaiseX (c : Nat) (f : List D → Store → Res D) (as : AM) : SM := fun env S => (as env S).bindS fun ds S1 => match f (.loc S1.length :: ds) (S1 ++ [.exc c none]) with
  | .ok .non S2 => match S2[S1.length]?, S2[S1.length + 1]? with
    | some (.exc c' (some m)), some (.xd fs) => if ds.length ≤ 1000 ∧ S2.length = S1.length + 2 ∧ c' = c ∧ m = S1.length + 1 ∧ (S2.take S1.length).all (Ob.und S1.length) = true ∧ undkv S1.length fs = true then .err ⟨c, some fs⟩ (S2.take S1.length) else .stuck
    | _, _ => .stuck
  | _ => .stuck
theorem sims_raiseX {g : G} {E : XK} {c n : Nat} {f : List D → Store → Res D} {tas : TA} {as : AM} (hf : Ar n f) (has : SimA g E tas as) :
    SimS g E (fun _ σ H => tMkO (g.cls c) (spOf g n f) [] tas σ H fun cls d H' => E cls d H') (sRaiseX c f as) := by
  intro l D' σ H ρ S env re rs p
  refine has.bindS re rs p fun ds S1 ρ1 H1 vs e1 rs1 rx re1 p1 => ?_
  cases ef : f (.loc S1.length :: ds) (S1 ++ [.exc c none]) with
  | err x S2 => rw [ef] at p1; exact p1.elim
  | stuck => rw [ef] at p1; exact p1.elim
  | ok v0 S2 =>
    rw [ef] at p1
    cases v0 with
    | non =>
      dsimp only at p1
      split at p1
      · rename_i c' m fs en en1
        split at p1
        · rename_i hc
          obtain ⟨hz, hl2, rfl, rfl, hu, hfu⟩ := hc
          refine ⟨by rw [rx.length]; exact hz, fun a ha => ?_⟩
          obtain ⟨e3, rs3⟩ := rs1.push (o := exo a (g.cls c') none) (ob := .exc c' none) ha fun ρ' H' e' q => q
          have rself : RD (g.hide l) (ρ1 ++ [a]) (upd H1 a (exo a (g.cls c') none)) (.ref a) (.loc S1.length) := .loc (by rw [← rs1.len]; simp)
          rw [List.append_nil]
          refine sp_go hf (.cons rself (rx.mono e3)) rs3 ?_
          rw [ef]
          intro ρ2 H2 u e4 rs4 ru
          cases ru
          refine ⟨rfl, ?_⟩
          obtain ⟨l2, rfl, hl⟩ := e4.new
          have ll : l2.length = 1 := by
            have := rs4.len
            rw [hl2, List.length_append, List.length_append, rs1.len] at this
            simp at this
            omega
          obtain ⟨dx, rfl⟩ := List.length_eq_one_iff.mp ll
          have an : (ρ1 ++ [a] ++ [dx])[S1.length]? = some a := by rw [← rs1.len]; simp
          have dn : (ρ1 ++ [a] ++ [dx])[S1.length + 1]? = some dx := by rw [← rs1.len]; simp
          obtain ⟨dx', q1, q2⟩ := rs4.ob _ a _ an en
          rw [dn] at q1; cases q1
          obtain ⟨fv, q3, q4⟩ := rs4.ob _ dx _ dn en1
          have hdx := (hl dx List.mem_cons_self).1
          have dxa : dx ≠ a := fun z => by rw [z, upd_same] at hdx; cases hdx
          have hdx1 : H1 dx = none := by rw [upd_ne dxa] at hdx; exact hdx
          refine ⟨dx, fv, q2, q3, hdx1, ?_⟩
          have kk : ∀ b, b ∉ [a, dx] → upd (del H2 a) dx (HO.xd fv) b = H2 b := fun b hb => by
            rw [upd_ne (fun z => hb (by simp [z])), del_ne (fun z => hb (by simp [z]))]
          have rs5 : RS (g.hide l) ρ1 (S2.take S1.length) (upd (del H2 a) dx (.xd fv)) := by
            have r := RS.cut (g := g.hide l) (ρ := ρ1) (x := [a, dx]) kk (S := S2) (by simpa using rs4) (by rw [rs1.len]; exact hu)
            rw [rs1.len] at r; exact r
          have e5 : Ex ρ1 H1 ρ1 (upd (del H2 a) dx (.xd fv)) := ⟨⟨[], by simp, by simp⟩, fun b o nb hb => by
            have ba : b ≠ a := ne_of_none hb ha
            have bd : b ≠ dx := ne_of_none hb hdx1
            rw [kk b (by simp [ba, bd])]
            exact e4.keep b o (by simp [nb, ba]) (by rw [upd_ne ba]; exact hb)⟩
          have h5 : RKV (g.hide l) ρ1 (upd (del H2 a) dx (.xd fv)) fv fs := RKV.cut (x := [a, dx]) kk (by simpa using q4) (by rw [rs1.len]; exact hfu)
          exact p1 ρ1 _ _ _ e5 rs5 ⟨rfl, dx, fv, rfl, (rs1.fresh hdx1).1, upd_same, h5⟩
        · exact p1.elim
      · exact p1.elim
    | _ => exact p1.elim
/-- the rule's form in a def's body -/
theorem ps_raiseX {P : Program} {w : World} {K : PySem.W.Frag} {mg : PySem.Str → Option Value} {base : Heap} {N : List PySem.Str} {qual : PySem.Str} {scope : Scope} {f : Addr} {cd : Value} {A : Around} {outer : List Env} {s : Shared} {H : Hp} {E : XK} {e : Expr} {t : L2.St → Hp → XK → Prop} {pos : Pos}
    (he : PMk (cxOf (L2.CX P w) P w K mg base N qual scope f cd A outer s H E) e t) : PS (cxOf (L2.CX P w) P w K mg base N qual scope f cd A outer s H E) (.Raise (some e) none pos) (fun _ σ H' => t σ H' fun cls d H'' => E cls d H'') := ps_raise rfl (takes_of rfl rfl rfl rfl) he
end Lg

namespace Lg
open PySem PySem.Spec L2
theorem each_of {R : Value → (V × PyData) → Prop} (h : ∀ v b, RelV b.1 v → R v b) : ∀ {bs : List (V × PyData)} {us : List Value}, Vals (bs.map (·.1)) us → PySem.W.EachIs R us bs
  | [], _, r => by cases r; exact .nil
  | b :: bs, _, r => by
    cases r with
    | cons r1 r2 => exact .cons (h _ _ r1) (each_of h r2)
theorem each_back : ∀ {bs : List (V × PyData)} {us : List Value}, PySem.W.EachIs (fun v (b : V × PyData) => RelV b.1 v) us bs → Vals (bs.map (·.1)) us
  | [], _, .nil => .nil
  | _ :: _, _, .cons r t => .cons r (each_back t)
/-- sorted(xs): the items' data tell the order -/
def rSortD (K : PySem.W.Frag) : List V → Hp → VK → Prop := fun vs H Q => ∃ (a : Addr) (bs : List (V × PyData)), vs = [.ref a] ∧ SqL K H a (bs.map (·.1)) ∧ (∀ b ∈ bs, Dp K H b.1 b.2) ∧ PySem.W.AllAlike (bs.map (·.2)) ∧ PySem.W.Sortable (bs.map (·.2)) ∧ (∀ b ∈ bs, b.2.depth ≤ 40) ∧
  ∀ p, H p = none → Q (.ref p) (upd H p (.lst ((bs.mergeSort (PySem.W.dataLe false (·.2))).map (·.1))))
theorem call_sortD {X : Cx} (hu : X.A.units + 64 < cLine) : CallR X (.builtin "sorted") (rSortD X.K) := by
  intro pins s σ H xs us Q I r h
  obtain ⟨a, bs, rfl, hs, hd, hal, hk, hdep, q⟩ := h
  obtain ⟨its, rv, hl, hz⟩ := I.list hs
  rw [Vals.ref1 r]
  have hlen : bs.length = its.length := by have := rv.length; rwa [List.length_map] at this
  have rd : ∀ {v : Value} {b : V × PyData}, b ∈ bs → RelV b.1 v → ∃ as, Reads s.heap v b.2 as := fun {v b} hb rv => Dp.reads I b.2 b.1 v (hd b hb) rv
  have e1 : PySem.W.EachIs (fun v (b : V × PyData) => RelV b.1 v) its bs := each_of (fun _ _ h => h) rv
  have e2 : PySem.W.EachIs (fun v (b : V × PyData) => ∃ as, Reads s.heap v b.2 as) its bs := by
    have key : ∀ {cs : List (V × PyData)} {us : List Value}, (∀ b ∈ cs, b ∈ bs) → Vals (cs.map (·.1)) us → PySem.W.EachIs (fun v (b : V × PyData) => ∃ as, Reads s.heap v b.2 as) us cs := by
      intro cs
      induction cs with
      | nil => intro us _ r; cases r; exact .nil
      | cons c cs ih =>
        intro us hm r
        cases r with
        | cons r1 r2 => exact .cons (rd (hm c List.mem_cons_self) r1) (ih (fun b hb => hm b (List.mem_cons_of_mem _ hb)) r2)
    exact key (fun _ h => h) rv
  have hz' : bs.length ≤ sizeLine := by simpa using hz
  refine PySem.W.sorted_data (enc := fun b : V × PyData => b.2) hl.isList e1 e2 hal hk hz' (fun b hb => by have := hdep b hb; omega) fun out ho eo => ?_
  obtain ⟨ep, he'⟩ := PyProof.Rows.sortedAll_at s.heap its out.toArray
  have hlen2 : ((bs.mergeSort (PySem.W.dataLe false (·.2))).map (·.1)).length ≤ sizeLine := by rw [List.length_map, List.length_mergeSort]; exact hz'
  exact ⟨.ref _, upd H (s.heap.objs.size + 1) (.lst ((bs.mergeSort (PySem.W.dataLe false (·.2))).map (·.1))), I.laid (t' := s.toks) (fun _ _ => PyProof.Rows.sortedAll_old) (Nat.le_succ _) ⟨hlen2, out, ep, each_back eo, he'⟩, rfl, q _ (I.hok.fresh (Nat.le_succ _))⟩
def alikeB (ps : List PyData) : Bool := ps.all fun d => ps.all fun d' => PySem.W.alike d d'
theorem alike_of {ps : List PyData} (h : alikeB ps = true) : PySem.W.AllAlike ps := fun d hd d' hd' => List.all_eq_true.mp (List.all_eq_true.mp h d hd) d' hd'
def tupB : PyData → Bool
  | .tuple (_ :: _) => true
  | _ => false
def othB : PyData → Bool
  | .none => false
  | .tuple _ => false
  | _ => true
def sortB (ps : List PyData) : Bool := ps.all tupB || ps.all othB
theorem sortable_of {ps : List PyData} (h : sortB ps = true) : PySem.W.Sortable ps := by
  unfold sortB at h
  rcases Bool.or_eq_true_iff.mp h with h | h
  · refine .inl fun d hd => ?_
    have := List.all_eq_true.mp h d hd
    unfold tupB at this
    split at this
    · exact ⟨_, _, rfl⟩
    · cases this
  · refine .inr fun d hd => ?_
    have := List.all_eq_true.mp h d hd
    unfold othB at this
    split at this
    · cases this
    · cases this
    · rename_i h1 h2
      exact ⟨h1, h2⟩
def withPy : List D → Option (List (D × PyData))
  | [] => some []
  | d :: ds => match d.py, withPy ds with
    | some p, some r => some ((d, p) :: r)
    | _, _ => none
def sortD (x : List (D × PyData)) : List D := (x.mergeSort (PySem.W.dataLe false (·.2))).map (·.1)
def cSort (ds : List D) (S : Store) : Res D := match ds with
  | [x] => match asL x S with
    | some xs => match withPy xs with
      | some bs => if alikeB (bs.map (·.2)) = true ∧ sortB (bs.map (·.2)) = true ∧ (bs.all fun b => decide (b.2.depth ≤ 40)) = true then .ok (.lst (sortD bs)) S else .stuck
      | none => .stuck
    | none => .stuck
  | _ => .stuck
theorem with_py {g : G} {ρ : List Addr} {H : Hp} : ∀ {vs : List V} {ds : List D} {bs : List (D × PyData)}, RDs g ρ H vs ds → withPy ds = some bs → ∃ ts : List (V × D × PyData), ts.map (·.1) = vs ∧ ts.map (fun t => (t.2.1, t.2.2)) = bs ∧ ∀ t ∈ ts, RD g ρ H t.1 t.2.1 ∧ t.2.1.py = some t.2.2
  | _, _, bs, .nil, e => by cases e; exact ⟨[], rfl, rfl, fun _ h => nomatch h⟩
  | _, _, bs, .cons (v := v) (d := d) h t, e => by
    simp only [withPy] at e
    split at e
    · rename_i p r e1 e2
      cases e
      obtain ⟨ts, q1, q2, q3⟩ := with_py t e2
      refine ⟨(v, d, p) :: ts, by simp [q1], by simp [q2], fun t ht => ?_⟩
      rcases List.mem_cons.mp ht with rfl | ht
      · exact ⟨h, e1⟩
      · exact q3 t ht
    · cases e
theorem rds_map {g : G} {ρ : List Addr} {H : Hp} : ∀ {ts : List (V × D × PyData)}, (∀ t ∈ ts, RD g ρ H t.1 t.2.1) → RDs g ρ H (ts.map (·.1)) (ts.map fun t => t.2.1)
  | [], _ => .nil
  | t :: ts, h => .cons (h t List.mem_cons_self) (rds_map fun x hx => h x (List.mem_cons_of_mem _ hx))
theorem sim_sort {g : G} {E : XK} {K : PySem.W.Frag} : CallSim g E (rSortD K) cSort := by
  intro l xs H Q ρ S ds rx rs p
  unfold cSort at p
  split at p
  · rename_i x
    split at p
    · rename_i ys e
      split at p
      · rename_i bs eb
        split at p
        · rename_i hc
          obtain ⟨v, rfl, r⟩ := rx.one
          obtain ⟨a, vs, rfl, h1, r1⟩ := as_l rs r e
          obtain ⟨ts, q1, q2, q3⟩ := with_py r1 eb
          have m2 : (ts.map fun t => (t.1, t.2.2)).map (·.2) = bs.map (·.2) := by rw [← q2]; simp [List.map_map, Function.comp_def]
          have m1 : (ts.map fun t => (t.1, t.2.2)).map (·.1) = vs := by rw [← q1]; simp [List.map_map, Function.comp_def]
          have s1 : (ts.map fun t => (t.1, t.2.2)).mergeSort (PySem.W.dataLe false (·.2)) = (ts.mergeSort fun a b => PySem.W.dataLe false (·.2) (a.1, a.2.2) (b.1, b.2.2)).map fun t => (t.1, t.2.2) := (List.map_mergeSort (f := fun t : V × D × PyData => (t.1, t.2.2)) (fun _ _ _ _ => rfl)).symm
          have s2 : bs.mergeSort (PySem.W.dataLe false (·.2)) = (ts.mergeSort fun a b => PySem.W.dataLe false (·.2) (a.1, a.2.2) (b.1, b.2.2)).map fun t => (t.2.1, t.2.2) := by
            rw [← q2]
            exact (List.map_mergeSort (f := fun t : V × D × PyData => (t.2.1, t.2.2)) (fun _ _ _ _ => rfl)).symm
          refine ⟨a, ts.map fun t => (t.1, t.2.2), rfl, by rw [m1]; exact SqL.of h1, fun b hb => ?_, by rw [m2]; exact alike_of hc.1, by rw [m2]; exact sortable_of hc.2.1, fun b hb => ?_, fun q hq => ?_⟩
          · obtain ⟨t, ht, rfl⟩ := List.mem_map.mp hb
            exact dp_both (q3 t ht).1 _ (q3 t ht).2
          · obtain ⟨t, ht, rfl⟩ := List.mem_map.mp hb
            have : (t.2.1, t.2.2) ∈ bs := by rw [← q2]; exact List.mem_map.mpr ⟨t, ht, rfl⟩
            exact of_decide_eq_true (List.all_eq_true.mp hc.2.2 _ this)
          · refine p ρ _ _ (Ex.new1 hq) (rs.aside hq) (.lst upd_same (rs.fresh hq) ?_)
            unfold sortD
            rw [s1, s2]
            simp only [List.map_map, Function.comp_def]
            have hm : ∀ t ∈ (ts.mergeSort fun a b => PySem.W.dataLe false (·.2) (a.1, a.2.2) (b.1, b.2.2)), RD (g.hide l) ρ H t.1 t.2.1 := fun t ht => (q3 t (List.mem_mergeSort.mp ht)).1
            exact (rds_map hm).mono (Ex.new1 hq)
        · exact p.elim
      · exact p.elim
    · exact p.elim
  · exact p.elim
end Lg

namespace Lg
open PySem PySem.Spec L2
theorem _root_.L2.Room.units2 {k : Nat} {A : Around} (h : Room k A) : A.units + 65 < cLine := by
  have := h.un
  omega
def mChain (f f' : D → D → Store → Res D) (a b c : EM) : EM := fun env S => (a env S).bind fun x S1 => (b env S1).bind fun y S2 => (f x y S2).bind fun z S3 => match z with
  | .bl k => if k = true then (c env S3).bind fun w S4 => f' y w S4 else .ok (.bl false) S3
  | _ => .stuck
theorem OpSim.bind {g : G} {E : XK} {r : R2} {f : D → D → Store → Res D} (h : OpSim g E r f) {l : List Addr} {x y : V} {H : Hp} {Q Q' : VK} {ρ : List Addr} {S : Store} {dx dy : D} {k : D → Store → Res D} (rx : RD (g.hide l) ρ H x dx) (ry : RD (g.hide l) ρ H y dy) (rs : RS (g.hide l) ρ S H) (p : PostE (g.hide l) E ρ H Q' ((f dx dy S).bind k))
    (c : ∀ d S' ρ' H' v, Ex ρ H ρ' H' → RS (g.hide l) ρ' S' H' → RD (g.hide l) ρ' H' v d → PostE (g.hide l) E ρ' H' Q' (k d S') → Q v H') : r x y H Q := by
  refine h l x y H Q ρ S dx dy rx ry rs ?_
  cases e : f dx dy S with
  | ok d S' => rw [e] at p; exact fun ρ' H' v a b q => c d S' ρ' H' v a b q (PostE.ex p a)
  | err x S' => rw [e] at p; exact p
  | stuck => rw [e] at p; exact p
theorem sim_chain {g : G} {E : XK} {r r' : R2} {f f' : D → D → Store → Res D} {ta tb tc : TE} {a b c : EM} (h : OpSim g E r f) (h' : OpSim g E r' f') (ha : SimE g E ta a) (hb : SimE g E tb b) (hc : SimE g E tc c) : SimE g E (tChain r r' ta tb tc) (mChain f f' a b c) := by
  intro l σ H Q ρ S env re rs p
  refine ha.bind re rs p fun x S1 ρ1 H1 v e1 rs1 rx re1 p1 => ?_
  refine hb.bind re1 rs1 p1 fun y S2 ρ2 H2 u e2 rs2 ry re2 p2 => ?_
  refine h.bind (rx.mono e2) ry rs2 p2 fun z S3 ρ3 H3 t e3 rs3 rz p3 => ?_
  cases rz with
  | bl k =>
    refine ⟨k, rfl, ?_⟩
    cases k with
    | true =>
      simp only [if_true] at p3 ⊢
      exact hc.bind (re2.mono e3) rs3 p3 fun w S4 ρ4 H4 w' e4 rs4 rw' re4 p4 => h' l u w' H4 Q ρ4 S4 y w ((ry.mono e3).mono e4) rw' rs4 p4
    | false => exact p3 ρ3 H3 _ Ex.refl rs3 (.bl false)
  | _ => exact p3.elim

/-! ### join -/
def txs : List D → Option (List PySem.Str)
  | [] => some []
  | .str s :: ds => (txs ds).map (s :: ·)
  | _ => none
theorem txs_of {g : G} {ρ : List Addr} {H : Hp} : ∀ {vs : List V} {ds : List D} {ys : List PySem.Str}, RDs g ρ H vs ds → txs ds = some ys → vs = ys.map V.str
  | _, _, _, .nil, e => by cases e; rfl
  | _, _, ys, .cons (d := d) h t, e => by
    cases h with
    | str s =>
      simp only [txs, Option.map_eq_some_iff] at e
      obtain ⟨zs, e1, rfl⟩ := e
      rw [txs_of t e1]
      rfl
    | _ => simp [txs] at e
def asLT (d : D) (S : Store) : Option (List D) := match d with
  | .tup ds => some ds
  | d => asL d S
def qJoin (d : D) (ds : List D) (S : Store) : Res D := match d, ds with
  | .str a, [x] => match asLT x S with
    | some xs => match txs xs with
      | some ys => if (ys.map (·.length)).sum + ys.length * a.length ≤ 16777216 then .ok (.str (Txt.join a ys)) S else .stuck
      | none => .stuck
    | none => .stuck
  | _, _ => .stuck
theorem sim_join {g : G} {E : XK} {K : PySem.W.Frag} : MtSim g E (fun x xs H Q => ∃ a p, ∃ ys : List PySem.Str, x = .str a ∧ xs = [.ref p] ∧ (SqL K H p (ys.map V.str) ∨ SqT K H p (ys.map V.str)) ∧ (ys.map (·.length)).sum + ys.length * a.length ≤ 16777216 ∧ Q (.str (Txt.join a ys)) H) qJoin := by
  intro l x xs H Q ρ S d ds rx ry rs p
  unfold qJoin at p
  split at p
  · rename_i a y
    cases rx
    obtain ⟨v, rfl, r⟩ := ry.one
    split at p
    · rename_i zs e
      split at p
      · rename_i ys e2
        split at p
        · rename_i hz
          unfold asLT at e
          split at e
          · cases e
            cases r with
            | tup h n r => exact ⟨a, _, ys, rfl, rfl, .inr (by rw [← txs_of r e2]; exact SqT.of h), hz, p ρ H _ Ex.refl rs (.str _)⟩
          · obtain ⟨b, vs, rfl, h1, r1⟩ := as_l rs r e
            exact ⟨a, b, ys, rfl, rfl, .inl (by rw [← txs_of r1 e2]; exact SqL.of h1), hz, p ρ H _ Ex.refl rs (.str _)⟩
        · exact p.elim
      · exact p.elim
    · exact p.elim
  · exact p.elim
/-! ### f-strings -/
def mFmt (a : EM) : EM := fun env S => (a env S).bind fun d S1 => match d with
  | .str y => if y.length ≤ sizeLine then .ok (.str y) S1 else .stuck
  | .int i => if i.natAbs.log2 < 1920 then .ok (.str (toString i)) S1 else .stuck
  | _ => .stuck
theorem sim_fmt {g : G} {E : XK} {ta : TE} {a : EM} (ha : SimE g E ta a) : SimE g E (tFmt ta) (mFmt a) := by
  intro l σ H Q ρ S env re rs p
  refine ha.bind re rs p fun d S1 ρ1 H1 v e1 rs1 rx re1 p1 => ?_
  cases rx with
  | str y =>
    dsimp only at p1
    split at p1
    · rename_i h; exact .inl ⟨y, rfl, h, p1 ρ1 H1 _ Ex.refl rs1 (.str _)⟩
    · exact p1.elim
  | int i =>
    dsimp only at p1
    split at p1
    · rename_i h; exact .inr ⟨i, rfl, h, p1 ρ1 H1 _ Ex.refl rs1 (.str _)⟩
    · exact p1.elim
  | _ => exact p1.elim
def mJs : List EM → PySem.Str → EM
  | [], acc => fun _ S => .ok (.str acc) S
  | a :: r, acc => fun env S => (a env S).bind fun d S1 => match d with
    | .str y => if (acc ++ y).length ≤ sizeLine then mJs r (acc ++ y) env S1 else .stuck
    | _ => .stuck
inductive SimEs (g : G) (E : XK) : List TE → List EM → Prop
  | nil : SimEs g E [] []
  | cons {t : TE} {a : EM} {ts : List TE} {as : List EM} (h : SimE g E t a) (r : SimEs g E ts as) : SimEs g E (t :: ts) (a :: as)
theorem js_sim {g : G} {E : XK} {ts : List TE} {as : List EM} (h : SimEs g E ts as) : ∀ (acc : PySem.Str) (l : List Addr) (σ : L2.St) (H : Hp) (Q : VK) (ρ : List Addr) (S : Store) (env : En), RE (g.hide l) ρ H σ env → RS (g.hide l) ρ S H → PostE (g.hide l) E ρ H Q (mJs as acc env S) → tJs ts acc σ H fun out H1 => Q (.str out) H1 := by
  induction h with
  | nil => exact fun acc l σ H Q ρ S env re rs p => p ρ H _ Ex.refl rs (.str _)
  | cons h r ih =>
    intro acc l σ H Q ρ S env re rs p
    refine h.bind re rs p fun d S1 ρ1 H1 v e1 rs1 rx re1 p1 => ?_
    cases rx with
    | str y =>
      dsimp only at p1
      split at p1
      · rename_i hz; exact ⟨y, rfl, hz, ih _ l σ H1 Q ρ1 S1 env re1 rs1 p1⟩
      · exact p1.elim
    | _ => exact p1.elim
theorem sim_joined {g : G} {E : XK} {ts : List TE} {as : List EM} (h : SimEs g E ts as) : SimE g E (fun σ H Q => tJs ts PySem.Str.empty σ H fun out H1 => Q (.str out) H1) (mJs as PySem.Str.empty) := fun l σ H Q ρ S env re rs p => js_sim h PySem.Str.empty l σ H Q ρ S env re rs p
end Lg

namespace Lg
open PySem PySem.Spec L2
def keyD : D → Option Key
  | .int i => some (.inl i)
  | .str s => some (.inr s)
  | _ => none
def keysD : List D → Option (List Key)
  | [] => some []
  | d :: ds => match keyD d, keysD ds with
    | some k, some ks => some (k :: ks)
    | _, _ => none
theorem key_of_rd {g : G} {ρ : List Addr} {H : Hp} {v : V} {d : D} {k : Key} (r : RD g ρ H v d) (h : keyD d = some k) : v = kV k := by
  cases r with
  | int i => cases h; rfl
  | str s => cases h; rfl
  | _ => cases h
theorem keys_of_rds {g : G} {ρ : List Addr} {H : Hp} : ∀ {vs : List V} {ds : List D} {ks : List Key}, RDs g ρ H vs ds → keysD ds = some ks → vs = ks.map kV
  | _, _, _, .nil, e => by cases e; rfl
  | _, _, _, .cons h t, e => by
    simp only [keysD] at e
    split at e
    · rename_i k ks e1 e2
      cases e
      rw [key_of_rd h e1, keys_of_rds t e2]
      rfl
    · cases e
def putKD {κ : Type} [DecidableEq κ] (kvs : List (κ × D)) (k : κ) (v : D) : List (κ × D) := if (kvs.any fun kv => decide (kv.1 = k)) = true then kvs.map (fun kv => if kv.1 = k then (kv.1, v) else kv) else kvs ++ [(k, v)]
theorem rkv_any {κ : Type} [DecidableEq κ] {g : G} {ρ : List Addr} {H : Hp} {k : κ} : ∀ {xs : List (κ × V)} {ys : List (κ × D)}, RKV g ρ H xs ys → (xs.any fun kv => decide (kv.1 = k)) = ys.any fun kv => decide (kv.1 = k)
  | _, _, .nil => rfl
  | (a, v) :: xs, (b, d) :: ys, .cons h t => by
    have e : a = b := h.1
    subst e
    rw [List.any_cons, List.any_cons, rkv_any t]
theorem rkv_upd {κ : Type} [DecidableEq κ] {g : G} {ρ : List Addr} {H : Hp} {k : κ} {v : V} {d : D} (r : RD g ρ H v d) : ∀ {xs : List (κ × V)} {ys : List (κ × D)}, RKV g ρ H xs ys → RKV g ρ H (xs.map fun kv => if kv.1 = k then (kv.1, v) else kv) (ys.map fun kv => if kv.1 = k then (kv.1, d) else kv)
  | _, _, .nil => .nil
  | (a, w) :: xs, (b, e) :: ys, .cons h t => by
    have q : a = b := h.1
    subst q
    refine .cons (show (if a = k then (a, v) else (a, w)).1 = (if a = k then (a, d) else (a, e)).1 ∧ RD g ρ H (if a = k then (a, v) else (a, w)).2 (if a = k then (a, d) else (a, e)).2 from ?_) (rkv_upd r t)
    by_cases z : a = k
    · rw [if_pos z, if_pos z]; exact ⟨rfl, r⟩
    · rw [if_neg z, if_neg z]; exact ⟨rfl, h.2⟩
theorem rkv_snoc {κ : Type} {g : G} {ρ : List Addr} {H : Hp} {p : κ × V} {q : κ × D} (e : p.1 = q.1 ∧ RD g ρ H p.2 q.2) : ∀ {xs : List (κ × V)} {ys : List (κ × D)}, RKV g ρ H xs ys → RKV g ρ H (xs ++ [p]) (ys ++ [q])
  | _, _, .nil => .cons e .nil
  | _, _, .cons h t => .cons h (rkv_snoc e t)
theorem RKV.putK {κ : Type} [DecidableEq κ] {g : G} {ρ : List Addr} {H : Hp} {k : κ} {v : V} {d : D} {xs : List (κ × V)} {ys : List (κ × D)} (r : RD g ρ H v d) (t : RKV g ρ H xs ys) : RKV g ρ H (L2.putK xs k v) (putKD ys k d) := by
  unfold L2.putK putKD
  rw [rkv_any t]
  split
  · exact rkv_upd r t
  · exact rkv_snoc ⟨rfl, r⟩ t
/-- o[i] = v -/
def dSetK (o i v : D) (S : Store) : Option Store := match o with
  | .loc n => match S[n]? with
    | some (.dK kvs) => match keyD i with
      | some k => if kvs.length < sizeLine then some (S.set n (.dK (putKD kvs k v))) else none
      | none => none
    | some (.dT kvs) => match i with
      | .tup ds => match keysD ds with
        | some ks => if kvs.length < sizeLine then some (S.set n (.dT (putKD kvs ks v))) else none
        | none => none
      | _ => none
    | _ => none
  | _ => none
theorem sim_setK {g : G} : SetSim g rSetD dSetK := by
  intro l o i v H Q ρ S d1 d2 d3 S' r1 r2 r3 rs h q
  unfold dSetK at h
  split at h
  · rename_i n
    cases r1 with
    | @loc n a hn =>
      split at h
      · rename_i kvs e
        obtain ⟨xs, h1, h2⟩ := rs.ob n a _ hn e
        split at h
        · rename_i k ek
          split at h
          · rename_i hz
            cases h
            obtain ⟨e3, rs3⟩ := rs.put (o := .dK (L2.putK xs k v)) (ob := .dK (putKD kvs k d3)) hn fun H' e' q' => ⟨_, q', (h2.mono e').putK (r3.mono e')⟩
            exact ⟨a, _, rfl, .inl ⟨xs, k, h1, key_of_rd r2 ek, by rw [h2.length]; exact hz, rfl⟩, q ρ _ e3 rs3⟩
          · cases h
        · cases h
      · rename_i kvs e
        obtain ⟨xs, h1, h2⟩ := rs.ob n a _ hn e
        split at h
        · rename_i ds
          cases r2 with
          | @tup b vs ds hb nb rb =>
            split at h
            · rename_i ks ek
              split at h
              · rename_i hz
                cases h
                obtain ⟨e3, rs3⟩ := rs.put (o := .dT (L2.putK xs ks v)) (ob := .dT (putKD kvs ks d3)) hn fun H' e' q' => ⟨_, q', (h2.mono e').putK (r3.mono e')⟩
                exact ⟨a, _, rfl, .inr ⟨xs, ks, b, h1, rfl, by rw [← keys_of_rds rb ek]; exact hb, by rw [h2.length]; exact hz, rfl⟩, q ρ _ e3 rs3⟩
              · cases h
            · cases h
        · cases h
      · cases h
  · cases h
/-- {}, to be filled -/
def mNewK : EM := fun _ S => .ok (.loc S.length) (S ++ [.dK []])
def mNewT : EM := fun _ S => .ok (.loc S.length) (S ++ [.dT []])
theorem sim_newK {g : G} {E : XK} : SimE g E tDNewK mNewK := by
  intro l σ H Q ρ S env re rs p q hq
  obtain ⟨e3, rs3⟩ := rs.push (o := .dK []) (ob := .dK []) hq fun ρ' H' e' q' => ⟨[], q', .nil⟩
  exact p _ _ _ e3 rs3 (.loc (by rw [← rs.len]; simp))
theorem sim_newT {g : G} {E : XK} : SimE g E tDNewT mNewT := by
  intro l σ H Q ρ S env re rs p q hq
  obtain ⟨e3, rs3⟩ := rs.push (o := .dT []) (ob := .dT []) hq fun ρ' H' e' q' => ⟨[], q', .nil⟩
  exact p _ _ _ e3 rs3 (.loc (by rw [← rs.len]; simp))

/-! ### d[k], k in d -/
def valD {κ : Type} [DecidableEq κ] (kvs : List (κ × D)) (k : κ) : Option D := (kvs.find? fun kv => decide (kv.1 = k)).map (·.2)
theorem RKV.val {κ : Type} [DecidableEq κ] {g : G} {ρ : List Addr} {H : Hp} {k : κ} : ∀ {xs : List (κ × V)} {ys : List (κ × D)}, RKV g ρ H xs ys → (∀ d, valD ys k = some d → ∃ v, valV xs k = some v ∧ RD g ρ H v d) ∧ (valD ys k).isSome = (valV xs k).isSome
  | _, _, .nil => ⟨fun d h => (nomatch h), rfl⟩
  | (a, w) :: xs, (b, e) :: ys, .cons h t => by
    have q : a = b := h.1
    subst q
    have ih := RKV.val (k := k) t
    by_cases z : a = k
    · have e1 : valV ((a, w) :: xs) k = some w := valV_pos z
      have e2 : valD ((a, e) :: ys) k = some e := by simp [valD, List.find?_cons, z]
      rw [e1, e2]
      exact ⟨fun d hd => ⟨w, rfl, by cases hd; exact h.2⟩, rfl⟩
    · have e1 : valV ((a, w) :: xs) k = valV xs k := valV_neg z
      have e2 : valD ((a, e) :: ys) k = valD ys k := by simp [valD, List.find?_cons, z]
      rw [e1, e2]
      exact ih
/-- what stands under a key, where the thing is a dict and the key may be one -/
def getK (o i : D) (S : Store) : Option (Option D) := match o with
  | .loc n => match S[n]? with
    | some (.dK kvs) => (keyD i).map fun k => valD kvs k
    | some (.dT kvs) => match i with
      | .tup ds => (keysD ds).map fun ks => valD kvs ks
      | _ => none
    | _ => none
  | _ => none
theorem get_k {g : G} {l : List Addr} {ρ : List Addr} {S : Store} {H : Hp} {o i : V} {d1 d2 : D} {r : Option D} (rs : RS (g.hide l) ρ S H) (r1 : RD (g.hide l) ρ H o d1) (r2 : RD (g.hide l) ρ H i d2) (h : getK d1 d2 S = some r) :
    ∃ a z, o = .ref a ∧ DGet H a i z ∧ z.isSome = r.isSome ∧ ∀ d, r = some d → ∃ v, z = some v ∧ RD (g.hide l) ρ H v d := by
  unfold getK at h
  split at h
  · rename_i n
    cases r1 with
    | @loc n a hn =>
      split at h
      · rename_i kvs e
        obtain ⟨xs, h1, h2⟩ := rs.ob n a _ hn e
        simp only [Option.map_eq_some_iff] at h
        obtain ⟨k, ek, rfl⟩ := h
        have q := h2.val (k := k)
        exact ⟨a, _, rfl, by rw [key_of_rd r2 ek]; exact DGet.k h1, q.2.symm, q.1⟩
      · rename_i kvs e
        obtain ⟨xs, h1, h2⟩ := rs.ob n a _ hn e
        split at h
        · rename_i ds
          cases r2 with
          | @tup b vs ds hb nb rb =>
            simp only [Option.map_eq_some_iff] at h
            obtain ⟨ks, ek, rfl⟩ := h
            have q := h2.val (k := ks)
            exact ⟨a, _, rfl, DGet.t h1 (by rw [← keys_of_rds rb ek]; exact hb), q.2.symm, q.1⟩
        · cases h
      · cases h
  · cases h
def mDGet (a i : EM) : EM := fun env S => (a env S).bind fun x S1 => (i env S1).bind fun y S2 => match getK x y S2 with
  | some (some d) => .ok d S2
  | _ => .stuck
theorem sim_dget {g : G} {E : XK} {ta ti : TE} {a i : EM} (ha : SimE g E ta a) (hi : SimE g E ti i) : SimE g E (tDGet ta ti) (mDGet a i) := by
  intro l σ H Q ρ S env re rs p
  refine ha.bind re rs p fun x S1 ρ1 H1 v e1 rs1 rx re1 p1 => ?_
  refine hi.bind re1 rs1 p1 fun y S2 ρ2 H2 u e2 rs2 ry re2 p2 => ?_
  split at p2
  · rename_i d e
    obtain ⟨b, z, rfl, dg, _, hz⟩ := get_k rs2 (rx.mono e2) ry e
    obtain ⟨w, rfl, rw'⟩ := hz d rfl
    exact ⟨b, w, rfl, dg, p2 ρ2 H2 w Ex.refl rs2 rw'⟩
  · exact p2.elim
def mDIn (i a : EM) : EM := fun env S => (i env S).bind fun y S1 => (a env S1).bind fun x S2 => match getK x y S2 with
  | some r => .ok (.bl r.isSome) S2
  | _ => .stuck
theorem sim_din {g : G} {E : XK} {ta ti : TE} {a i : EM} (hi : SimE g E ti i) (ha : SimE g E ta a) : SimE g E (tDIn ti ta) (mDIn i a) := by
  intro l σ H Q ρ S env re rs p
  refine hi.bind re rs p fun y S1 ρ1 H1 u e1 rs1 ry re1 p1 => ?_
  refine ha.bind re1 rs1 p1 fun x S2 ρ2 H2 v e2 rs2 rx re2 p2 => ?_
  split at p2
  · rename_i r e
    obtain ⟨b, z, rfl, dg, hs, _⟩ := get_k rs2 rx (ry.mono e2) e
    exact ⟨b, z, rfl, dg, by rw [hs]; exact p2 ρ2 H2 _ Ex.refl rs2 (.bl _)⟩
  · exact p2.elim
/-! ### dict(pairs) -/
def pairsD : List D → Option (List (Key × D))
  | [] => some []
  | .tup [a, b] :: ds => match keyD a, pairsD ds with
    | some k, some r => some ((k, b) :: r)
    | _, _ => none
  | _ => none
def mergeD (l : List (Key × D)) : List (Key × D) := l.foldl (fun acc kv => putKD acc kv.1 kv.2) []
theorem merge_rkv {g : G} {ρ : List Addr} {H : Hp} : ∀ {xs : List (Key × V)} {ys : List (Key × D)} {ax : List (Key × V)} {ay : List (Key × D)}, RKV g ρ H xs ys → RKV g ρ H ax ay → RKV g ρ H (xs.foldl (fun acc kv => L2.putK acc kv.1 kv.2) ax) (ys.foldl (fun acc kv => putKD acc kv.1 kv.2) ay)
  | _, _, _, _, .nil, a => a
  | (k, v) :: xs, (k', d) :: ys, _, _, .cons h t, a => by
    have q : k = k' := h.1
    subst q
    exact merge_rkv (xs := xs) (ys := ys) t (a.putK h.2)
def asTL (d : D) (S : Store) : Option (List D) := match d with
  | .tup ds => some ds
  | d => asL d S
end Lg

namespace Lg
open PySem PySem.Spec L2 RZ
def zipD (xs ys : List D) : List D := List.zipWith (fun d e => .tup [d, e]) xs ys
def itZip (a : AM) : IM := fun env S => (a env S).bind fun ds S1 => match ds with
  | [.lst xs, .lst ys] => .ok (zipD xs ys) S1
  | [.tup xs, .tup ys] => .ok (zipD xs ys) S1
  | _ => .stuck
section
variable {g : G} {E : XK} {K : PySem.W.Frag}
theorem walkd_pair {l : List Addr} {ρ : List Addr} {H : Hp} {J : It} {vs ws : List V} {xs ys : List D} {G' : Hp → Prop} (w : Walk J (zipD xs ys).length G' (YPair (fun i => vs[i]?) (fun i => ws[i]?))) (hG : ∀ ρ' H', Ex ρ H ρ' H' → G' H') (r1 : RDs (g.hide l) ρ H vs xs) (r2 : RDs (g.hide l) ρ H ws ys) : WalkD (g.hide l) ρ H J (zipD xs ys) := by
  refine ⟨G', _, w, hG, fun i ρ' H' x H'' S hi e rs y => ?_⟩
  obtain ⟨T, v, u, rfl, hT, rfl, hv, hu⟩ := y
  have hl : i < xs.length ∧ i < ys.length := by
    have := hi
    simp only [zipD, List.length_zipWith] at this
    omega
  obtain ⟨v', h1, h2⟩ := r1.get (List.getElem?_eq_getElem hl.1)
  obtain ⟨u', h3, h4⟩ := r2.get (List.getElem?_eq_getElem hl.2)
  obtain rfl := Option.some.inj (hv.symm.trans h1)
  obtain rfl := Option.some.inj (hu.symm.trans h3)
  refine ⟨.tup [xs[i], ys[i]], by simp [zipD, List.getElem?_zipWith, List.getElem?_eq_getElem hl.1, List.getElem?_eq_getElem hl.2], Ex.new1 hT, rs.aside hT, .tup upd_same (rs.fresh hT) (.cons ((h2.mono e).mono (Ex.new1 hT)) (.cons ((h4.mono e).mono (Ex.new1 hT)) .nil)), fun p o q => by rw [upd_ne (ne_of_none q hT)]; exact q⟩
theorem walk_zipTT {a b : Addr} {vs ws : List V} {n : Nat} (hn : n = min vs.length ws.length) : Walk (ItzT K a b) n (fun H => SqT K H a vs ∧ SqT K H b ws) (YPair (fun i => vs[i]?) (fun i => ws[i]?)) := by
  subst hn
  refine ⟨fun i _ hi q => ⟨vs, ws, vs[i]'(by omega), ws[i]'(by omega), q.1, q.2, List.getElem?_eq_getElem _, List.getElem?_eq_getElem _⟩, fun _ q => ⟨vs, ws, q.1, q.2, by omega⟩, fun i H v H' _ q y => ?_⟩
  obtain ⟨T, x, z, h1, h2, h3, h4, h5⟩ := y
  exact ⟨T, x, z, h1, h2, h3, h4 vs q.1, h5 ws q.2⟩
theorem simi_zip {ta : TA} {a : AM} (ha : SimA g E ta a) : SimI g E (iZipA K ta) (itZip a) := by
  intro l σ H R ρ S env re rs p
  refine ha l σ H _ ρ S env re rs ?_
  unfold itZip at p
  cases e : a env S with
  | err x S2 => rw [e] at p; exact p
  | stuck => rw [e] at p; exact p
  | ok ds S1 =>
    rw [e] at p
    simp only [Res.bind] at p
    intro ρ1 H1 vs e1 rs1 rx
    have ln : ∀ {vs ws : List V} {xs ys : List D}, RDs (g.hide l) ρ1 H1 vs xs → RDs (g.hide l) ρ1 H1 ws ys → (zipD xs ys).length = min vs.length ws.length := fun r1 r2 => by simp [zipD, r1.length, r2.length]
    split at p
    · rename_i q hq
      split at hq
      · rename_i xs ys
        cases hq
        obtain ⟨v, w, rfl, r1, r2⟩ := rx.two
        cases r1 with
        | @lst b1 vs1 _ h1 n1 q1 =>
          cases r2 with
          | @lst b2 vs2 _ h2 n2 q2 =>
            refine ⟨b1, b2, vs1, vs2, rfl, .inl ⟨SqL.of h1, SqL.of h2, p ρ1 H1 _ e1 rs1 fun l' hl => ?_⟩⟩
            exact walkd_pair (walk_zip (ln q1 q2)) (fun ρ' H' ex => ⟨SqL.of (ex.keep _ _ n1.1 h1), SqL.of (ex.keep _ _ n2.1 h2)⟩) (rds_hide hl q1) (rds_hide hl q2)
      · rename_i xs ys
        cases hq
        obtain ⟨v, w, rfl, r1, r2⟩ := rx.two
        cases r1 with
        | @tup b1 vs1 _ h1 n1 q1 =>
          cases r2 with
          | @tup b2 vs2 _ h2 n2 q2 =>
            refine ⟨b1, b2, vs1, vs2, rfl, .inr ⟨SqT.of h1, SqT.of h2, p ρ1 H1 _ e1 rs1 fun l' hl => ?_⟩⟩
            exact walkd_pair (walk_zipTT (ln q1 q2)) (fun ρ' H' ex => ⟨SqT.of (ex.keep _ _ n1.1 h1), SqT.of (ex.keep _ _ n2.1 h2)⟩) (rds_hide hl q1) (rds_hide hl q2)
      · cases hq
    · rename_i hq
      split at hq <;> cases hq
    · exact p.elim
end
end Lg

namespace Lg
open PySem PySem.Spec L2
theorem notIn_of {X : Cx} {pins : List (Addr × Obj)} {s : Shared} {σ : St} {v u : Value} {Q : VK} {E} (h : wpAny (model X.prog X.w) X.A (compareOp .In v u) (EP X pins σ (fun z H => ∃ k, z = .bl k ∧ Q (.bl (!k)) H)) E s) : wpAny (model X.prog X.w) X.A (compareOp .NotIn v u) (EP X pins σ Q) E s := by
  intro Γ p hΓ
  have := h Γ p hΓ
  unfold compareOp at this ⊢
  change Sem.wp _ _ (Sem.bind _ _) _ _ _ _ at this
  change Sem.wp _ _ (Sem.bind _ _) _ _ _ _
  rw [Sem.wp_bind] at this ⊢
  refine Sem.wp_mono _ _ _ ?_ ?_ _ _ this
  · intro b p' s' hb
    obtain ⟨z, H', I, r, k, rfl, q⟩ := hb
    exact ⟨.bl (!k), H', I, by cases r; rfl, q⟩
  · exact fun _ _ _ h => h
def rInRng : R2 := fun x y H Q => ∃ i a lo hi, x = V.int i ∧ y = V.ref a ∧ H a = some (HO.rng lo hi) ∧ Q (V.bl (decide (lo ≤ i ∧ i < hi))) H
def rNotInRng : R2 := fun x y H Q => ∃ i a lo hi, x = V.int i ∧ y = V.ref a ∧ H a = some (HO.rng lo hi) ∧ Q (V.bl (!decide (lo ≤ i ∧ i < hi))) H
theorem op_inRng {X : Cx} : OpR X (compareOp .In) rInRng := op_in_rng
theorem op_notInRng {X : Cx} : OpR X (compareOp .NotIn) rNotInRng := by
  intro pins s σ H x y v u Q I rx ry h
  obtain ⟨i, a, lo, hi, e1, e2, e3, q⟩ := h
  exact notIn_of (op_in_rng pins s σ H x y v u _ I rx ry ⟨i, a, lo, hi, e1, e2, e3, _, rfl, q⟩)
def mRng (f : Bool → Bool) (a : EM) (b : AM) : EM := fun env S => (a env S).bind fun x S1 => (b env S1).bind fun ds S2 => match x, ds with
  | .int i, [.int lo, .int hi] => .ok (.bl (f (decide (lo ≤ i ∧ i < hi)))) S2
  | _, _ => .stuck
def cInt (ds : List D) (S : Store) : Res D := match ds with
  | [.int i] => .ok (.int i) S
  | [.bl k] => .ok (.int (if k = true then 1 else 0)) S
  | _ => .stuck
def mUpper (a : EM) : EM := fun env S => (a env S).bind fun x S1 => match x with
  | .str s => if s.length ≤ 5592405 then .ok (.str (Txt.upper s)) S1 else .stuck
  | _ => .stuck
def dIsBl (x y : D) (S : Store) : Res D := match x, y with
  | .bl a, .bl b => .ok (.bl (decide (a = b))) S
  | _, _ => .stuck
def dNotBl (x y : D) (S : Store) : Res D := match x, y with
  | .bl a, .bl b => .ok (.bl (!decide (a = b))) S
  | _, _ => .stuck
section
variable {g : G} {E : XK}
theorem sim_int : CallSim g E (fun xs H Q => (∃ i, xs = [.int i] ∧ Q (.int i) H) ∨ ∃ k, xs = [.bl k] ∧ Q (.int (if k = true then 1 else 0)) H) cInt := by
  intro l xs H Q ρ S ds rx rs p
  unfold cInt at p
  split at p
  · obtain ⟨v, rfl, r⟩ := rx.one
    cases r
    exact .inl ⟨_, rfl, p ρ H _ Ex.refl rs (.int _)⟩
  · obtain ⟨v, rfl, r⟩ := rx.one
    cases r
    exact .inr ⟨_, rfl, p ρ H _ Ex.refl rs (.int _)⟩
  · exact p.elim
theorem sim_upper {to : TE} {a : EM} (ha : SimE g E to a) : SimE g E (tM0 (fun x xs H Q => ∃ a, x = V.str a ∧ xs = [] ∧ a.length ≤ 5592405 ∧ Q (V.str (Txt.upper a)) H) to) (mUpper a) := by
  intro l σ H Q ρ S env re rs p
  refine ha.bind re rs p fun x S1 ρ1 H1 v e1 rs1 rx re1 p1 => ?_
  split at p1
  · cases rx
    split at p1
    · rename_i hz
      exact ⟨⟨_, rfl⟩, _, rfl, rfl, hz, p1 ρ1 H1 _ Ex.refl rs1 (.str _)⟩
    · exact p1.elim
  · exact p1.elim
theorem sim_rngWith {ta : TE} {tb : TA} {a : EM} {b : AM} {f : Bool → Bool} {r : R2} (hr : ∀ i p lo hi H Q, H p = some (HO.rng lo hi) → Q (V.bl (f (decide (lo ≤ i ∧ i < hi)))) H → r (.int i) (.ref p) H Q) (ha : SimE g E ta a) (hb : SimA g E tb b) : SimE g E (tOp r ta (tCB (fun vs H Q => ∃ i j, vs = [V.int i, V.int j] ∧ ∀ (p : Addr), H p = none → Q (V.ref p) (upd H p (HO.rng i j))) tb)) (mRng f a b) := by
  intro l σ H Q ρ S env re rs p
  refine ha.bind re rs p fun x S1 ρ1 H1 v e1 rs1 rx re1 p1 => ?_
  refine hb.bind re1 rs1 p1 fun ds S2 ρ2 H2 vs e2 rs2 ry re2 p2 => ?_
  split at p2
  · rename_i i lo hi
    obtain ⟨z, w, rfl, r1, r2⟩ := ry.two
    cases rx; cases r1; cases r2
    refine ⟨_, _, rfl, fun q hq => ?_⟩
    exact hr _ _ _ _ _ _ upd_same (p2 ρ2 _ _ (Ex.new1 hq) (rs2.aside hq) (.bl _))
  · exact p2.elim
theorem sim_inRng {ta : TE} {tb : TA} {a : EM} {b : AM} (ha : SimE g E ta a) (hb : SimA g E tb b) : SimE g E (tOp rInRng ta (tCB (fun vs H Q => ∃ i j, vs = [V.int i, V.int j] ∧ ∀ (p : Addr), H p = none → Q (V.ref p) (upd H p (HO.rng i j))) tb)) (mRng id a b) := sim_rngWith (fun i p lo hi H Q h q => ⟨i, p, lo, hi, rfl, rfl, h, q⟩) ha hb
theorem sim_notInRng {ta : TE} {tb : TA} {a : EM} {b : AM} (ha : SimE g E ta a) (hb : SimA g E tb b) : SimE g E (tOp rNotInRng ta (tCB (fun vs H Q => ∃ i j, vs = [V.int i, V.int j] ∧ ∀ (p : Addr), H p = none → Q (V.ref p) (upd H p (HO.rng i j))) tb)) (mRng (fun b => !b) a b) := sim_rngWith (fun i p lo hi H Q h q => ⟨i, p, lo, hi, rfl, rfl, h, q⟩) ha hb
theorem sim_isBl : OpSim g E rIsB dIsBl := by
  intro l x y H Q ρ S d1 d2 r1 r2 rs p
  unfold dIsBl at p
  split at p
  · cases r1; cases r2
    exact ⟨_, _, rfl, rfl, p ρ H _ Ex.refl rs (.bl _)⟩
  · exact p.elim
theorem sim_notBl : OpSim g E rNotB dNotBl := by
  intro l x y H Q ρ S d1 d2 r1 r2 rs p
  unfold dNotBl at p
  split at p
  · cases r1; cases r2
    exact ⟨_, _, rfl, rfl, p ρ H _ Ex.refl rs (.bl _)⟩
  · exact p.elim
end
end Lg

namespace Lg
open PySem PySem.Spec L2
def rLtD (K : PySem.W.Frag) : R2 := fun x y H Q => ∃ d e : PyData, Dp K H x d ∧ Dp K H y e ∧ PySem.W.alike d e = true ∧ d ≠ .none ∧ min d.depth e.depth ≤ 40 ∧ Q (.bl (PySem.W.dataLt d e)) H
theorem op_ltD {X : Cx} (hu : X.A.units + 64 < cLine) : OpR X (compareOp .Lt) (rLtD X.K) := by
  intro pins s σ H x y v u Q I rx ry h
  obtain ⟨d, e, hd, he, al, hn, dp, q⟩ := h
  obtain ⟨as, r1⟩ := Dp.reads I d x v hd rx
  obtain ⟨bs, r2⟩ := Dp.reads I e y u he ry
  exact PySem.W.rcLt_alike d e X.A s v u as bs r1 r2 al hn (by omega) _ _ _ _ ⟨.bl _, H, I, rfl, q⟩
abbrev rLtA (K : PySem.W.Frag) : R2 := fun x y H Q => (∃ i j, x = .int i ∧ y = .int j ∧ Q (.bl (decide (i < j))) H) ∨ rLtD K x y H Q
theorem op_ltA {X : Cx} (hu : X.A.units + 64 < cLine) : OpR X (compareOp .Lt) (rLtA X.K) := op_lt.or (op_ltD hu)
abbrev rLeA : R2 := fun x y H Q => (∃ i j, x = .int i ∧ y = .int j ∧ Q (.bl (decide (i ≤ j))) H) ∨ ∃ i j : PySem.Str, x = .str i ∧ y = .str j ∧ Q (.bl (!decide (j.cps.toList < i.cps.toList))) H
theorem op_leA {X : Cx} : OpR X (compareOp .LtE) rLeA := op_le.or op_le_str
def noneB : PyData → Bool
  | .none => true
  | _ => false
def dLtA (x y : D) (S : Store) : Res D := match x, y with
  | .int i, .int j => .ok (.bl (decide (i < j))) S
  | x, y => match pyOf x S, pyOf y S with
    | some p, some q => if PySem.W.alike p q = true ∧ noneB p = false ∧ min p.depth q.depth ≤ 40 then .ok (.bl (PySem.W.dataLt p q)) S else .stuck
    | _, _ => .stuck
def dLeA (x y : D) (S : Store) : Res D := match x, y with
  | .int i, .int j => .ok (.bl (decide (i ≤ j))) S
  | .str i, .str j => .ok (.bl (!decide (j.cps.toList < i.cps.toList))) S
  | _, _ => .stuck
section
variable {g : G} {E : XK} {K : PySem.W.Frag}
theorem sim_ltA : OpSim g E (rLtA K) dLtA := by
  intro l x y H Q ρ S d1 d2 r1 r2 rs p
  unfold dLtA at p
  split at p
  · cases r1; cases r2
    exact .inl ⟨_, _, rfl, rfl, p ρ H _ Ex.refl rs (.bl _)⟩
  · split at p
    · rename_i p' q' e1 e2
      split at p
      · rename_i hc
        exact .inr ⟨_, _, py_of rs r1 e1, py_of rs r2 e2, hc.1, (by intro e; have := hc.2.1; rw [e] at this; cases this), hc.2.2, p ρ H _ Ex.refl rs (.bl _)⟩
      · exact p.elim
    · exact p.elim
theorem sim_leA : OpSim g E rLeA dLeA := by
  intro l x y H Q ρ S d1 d2 r1 r2 rs p
  unfold dLeA at p
  split at p
  · cases r1; cases r2
    exact .inl ⟨_, _, rfl, rfl, p ρ H _ Ex.refl rs (.bl _)⟩
  · cases r1; cases r2
    exact .inr ⟨_, _, rfl, rfl, p ρ H _ Ex.refl rs (.bl _)⟩
  · exact p.elim
end
end Lg

namespace Lg
open PySem L2
/-! ### the machine -/
section
open PySem.W PyProof.Rows PySem.Calls
theorem bound_b {M : Model} {A : Around} {E : Value → Shared → Prop} {s : Shared} {K : Frag} {x C : Addr} {ox : Obj} {od : Option Obj} {nm : PySem.Str} {id : String} {rest : List Value} {R : Option Value → Shared → Prop}
    (X : K.In s.heap) (J : InstAt s.heap x ox C od) (hf : findIn K (.ref C) nm = some (some (.builtin id))) (hb : ∀ v, bindSpecial (.builtin id) v = pure (.builtin id, [v]))
    (q : wpAny M A (call (.builtin id) (.ref x :: rest)) (fun v => R (some v)) E s) : wpAny M A (callSpecialIfBound? (.ref x) nm rest) R E s := by
  simp only [callSpecialIfBound?, bindSpecialIfBound?]
  refine wpAny_holding (wpAny_bind (wpAny_bind (wpAny_bind (J.type.here ((looks_findIn X hf).here (wpAny_bind (wpAny_askSetting (wpAny_ite ?_))))))))
  have last : wpAny M A (call (.builtin id) ([.ref x] ++ rest) >>= fun v => pure (some v)) R E s := wpAny_bind (wpAny_mono q (fun _ _ z => wpAny_pure z) fun _ _ z => z)
  have bd := Looks.of_pure (M := M) (h := s.heap) (hb (.ref x))
  split <;> first | exact wpAny_bind (bd.here (wpAny_pure (by exact last))) | exact wpAny_tryCatch (wpAny_bind (bd.here (wpAny_pure (by exact last))))
theorem cmp_ne {prog : Program} {w : World} {A : Around} {E : Value → Shared → Prop} {s : Shared} {K : Frag} {x C f : Addr} {ox : Obj} {od : Option Obj} {b tb : Value} {Q : Value → Shared → Prop} (hu : A.units < cLine) (hu1 : A.in1.units < cLine)
    (X : K.In s.heap) (J : InstAt s.heap x ox C od) (hb : Looks (model prog w) s.heap (typeOf b) tb) (hn : notFirst K C tb = true)
    (h1 : findIn K (.ref C) "__ne__" = some (some (.builtin "object.__ne__"))) (h2 : findIn K (.ref C) "__eq__" = some (some (.ref f))) (hf : isFn K (.ref f) = true) (hm : mroIn K C (.type "object") = some true)
    (q : wpAny (model prog w) A.in1 (call (.ref f) [.ref x, b]) (fun v s' => ∃ r, v = .bool r ∧ Q (.bool !r) s') E s) : wpAny (model prog w) A (richCompare .NotEq (.ref x) b) Q E s := by
  have called : wpAny (model prog w) A (call (.builtin "object.__ne__") [.ref x, b]) (fun v s' => ∃ r, v = .bool r ∧ Q v s') E s := by
    refine wpAny_call (codeAny_call_builtin PySem.F.cmp_object.ne.plain PySem.F.cmpEntry_ne (check_slot PySem.F.cmpKind_ne PySem.F.cmpSplit_ne (J.type.andThen (looks_mroIn X hm)) (PySem.F.cmpArgs_ne _ _) ?_))
    unfold Builtin.«object.__ne__»
    refine wpAny_bind (m := slotArgs "__ne__" 1 _) (wpAny_pure ?_)
    refine wpAny_bind (m := cRoomFor _ _) (wpAny_cRoomFor hu1 ?_)
    refine wpAny_bind (m := callSpecialIfBound? (.ref x) (PySem.Str.ofString "__eq__") [b]) (ifBound_K X J h2 hf (wpAny_mono q (fun v s' z => ?_) fun _ _ z => z))
    obtain ⟨r, rfl, z⟩ := z
    refine wpAny_bind (m := truthy (.bool r)) (wpAny_truthy_bool ?_)
    exact wpAny_pure ⟨_, rfl, z⟩
  have one : wpAny (model prog w) A (tryCompare (.ref x) (cmpInfo .NotEq).2.1 b) (fun r s' => ∃ v, r = some v ∧ Q v s') E s := by
    unfold tryCompare
    refine wpAny_bind (bound_b X J h1 (fun _ => PySem.F.cmp_object.ne.bind _) (wpAny_mono called (fun v s' z => ?_) fun _ _ z => z))
    obtain ⟨r, rfl, z⟩ := z
    exact wpAny_pure ⟨_, rfl, z⟩
  unfold richCompare
  simp only [oneThing_ref]
  refine wpAny_holding (wpAny_bind (wpAny_cRoomFor hu (wpAny_bind (J.type.here (wpAny_bind (hb.here ?_))))))
  split
  · rename_i e0
    have e1 : subIn K tb (.ref C) = some false := by
      rcases Bool.or_eq_true_iff.mp hn with e | e
      · rw [beq_iff_eq.mp e] at e0; simp at e0
      · exact beq_iff_eq.mp e
    refine wpAny_bind ((looks_subIn X e1).here ?_)
    simp only [Bool.false_eq_true, if_false]
    refine wpAny_bind (wpAny_mono one (fun r s' z => ?_) fun _ _ z => z)
    obtain ⟨v, rfl, z⟩ := z
    exact wpAny_pure z
  · refine wpAny_bind (wpAny_pure ?_)
    simp only [Bool.false_eq_true, if_false]
    refine wpAny_bind (wpAny_mono one (fun r s' z => ?_) fun _ _ z => z)
    obtain ⟨v, rfl, z⟩ := z
    exact wpAny_pure z
end

/-! ### rules -/
/-- what isinstance asks of the class at C -/
structure ClsI (K : PySem.W.Frag) (C : Addr) : Prop where
  cl : Cls K C
  ha : PySem.W.findIn K (.ref C) "__class__" = some (some (.builtin "object.__class__"))
  hn : PySem.W.specialIn K (.builtin "object.__class__") "__get__" = some (some (.builtin "getset_descriptor.__get__"))
  ht : PySem.W.takesIn K (.builtin "object.__class__") = some true
  hm : PySem.W.mroIn K C (.type "object") = some true
/-- the def of the class at C under a name -/
structure Dun (K : PySem.W.Frag) (C : Addr) (nm : PySem.Str) (f : Addr) : Prop where
  at_ : PySem.W.findIn K (.ref C) nm = some (some (.ref f))
  fn : PySem.W.isFn K (.ref f) = true
section
variable {X : Cx} {CX : CXT} {C f : Addr} {fd : FuncData} {ps : List PySem.Str} {n : Nat} {sp : Sp} {E : XK} {pins : List (Addr × Obj)} {σ : L2.St} {H : Hp} {s : Shared}
theorem inst_of (I : Inv X pins σ H s) {a dx : Addr} {fs : List (PySem.Str × V)} (h : H a = some (.ins C dx fs)) : ∃ od, PySem.W.InstAt s.heap a (PySem.W.instObj C dx) C (some od) := by
  obtain ⟨mA, O, _⟩ := ins_get I.hok h
  obtain ⟨od, J, _⟩ := O.look
  exact ⟨od, J⟩
theorem call_below {A : Around} {Q : VK} {us : List Value} {ws : List V} (F : FnR X.prog X.w X.K X.mg X.base CX n f sp) (hr : Room n A) (e0 : Env0 X.prog X.w X.K X.mg X.base A X.stack s H) (hx : Passes CX X E) (I : Inv X pins σ H s) (r : Vals ws us) (h : sp ws H Q E) :
    wpAny (model X.prog X.w) A (call (.ref f) us) (EP X pins σ Q) X.xe s := by
  refine wpAny_call (codeAny_mono (SlX.run_at F hr e0 hx I r h) fun r s' z => ?_)
  cases r with
  | error e => exact z
  | ok fl => cases fl with
    | ret u => exact z
    | _ => exact z.elim
def rOE (K : PySem.W.Frag) (C : Addr) (sp : Sp) (E : XK) : R2 := fun x y H Q => ∃ a dx fs t, x = .ref a ∧ H a = some (.ins C dx fs) ∧ TyX K H y t ∧ PySem.W.notFirst K C t = true ∧ sp [x, y] H Q E
def rON (K : PySem.W.Frag) (C : Addr) (sp : Sp) (E : XK) : R2 := fun x y H Q => ∃ a dx fs t, x = .ref a ∧ H a = some (.ins C dx fs) ∧ TyX K H y t ∧ PySem.W.notFirst K C t = true ∧ sp [x, y] H (fun v H' => ∃ b, v = .bl b ∧ Q (.bl (!b)) H') E
/-- x == y, x of the class at C -/
theorem op_oe (F : FnR X.prog X.w X.K X.mg X.base CX n f sp) (d : Dun X.K C "__eq__" f) (hr : Room n X.A) (hx : Passes CX X E) : OpR X (compareOp .Eq) (rOE X.K C sp E) := by
  intro pins s σ H x y v u Q I rx ry h
  obtain ⟨a, dx, fs, t, rfl, ha, ty, hn, q⟩ := h
  cases (show v = Value.ref a from rx)
  obtain ⟨od, J⟩ := inst_of I ha
  obtain ⟨P, Z, p, _⟩ := kit_of I ry ty
  obtain ⟨m, hF⟩ := I.fr
  show wpAny _ _ (richCompare .Eq (.ref a) u) _ _ _
  refine PySem.W.cmp_K (op := .Eq) (tb := t) hr.units0 hF I.ok.mod.kin J (Z.ty _ _ I.kIn p) hn d.at_ d.fn ?_
  refine wpAny_mono (call_below (us := [.ref a, u]) (ws := [.ref a, y]) F hr I.env0 hx I (.cons rfl (.cons ry .nil)) q) (fun w s' z => ?_) fun _ _ z => z
  obtain ⟨z', H', I', rz, qz⟩ := z
  exact SlX.cmpback rz ⟨z', H', I', rz, qz⟩
/-- x != y -/
theorem op_on (F : FnR X.prog X.w X.K X.mg X.base CX n f sp) (d : Dun X.K C "__eq__" f) (hne : PySem.W.findIn X.K (.ref C) "__ne__" = some (some (.builtin "object.__ne__"))) (hm : PySem.W.mroIn X.K C (.type "object") = some true)
    (hr : Room (n + 1) X.A) (hx : Passes CX X E) : OpR X (compareOp .NotEq) (rON X.K C sp E) := by
  intro pins s σ H x y v u Q I rx ry h
  obtain ⟨a, dx, fs, t, rfl, ha, ty, hn, q⟩ := h
  cases (show v = Value.ref a from rx)
  obtain ⟨od, J⟩ := inst_of I ha
  obtain ⟨P, Z, p, _⟩ := kit_of I ry ty
  show wpAny _ _ (richCompare .NotEq (.ref a) u) _ _ _
  refine cmp_ne hr.units0 hr.in1.units0 I.kIn J (Z.ty _ _ I.kIn p) hn hne d.at_ d.fn hm ?_
  refine wpAny_mono (call_below (us := [.ref a, u]) (ws := [.ref a, y]) F hr.in1 I.env0.in1 hx I (.cons rfl (.cons ry .nil)) q) (fun w s' z => ?_) fun _ _ z => z
  obtain ⟨z', H', I', rz, b, rfl, qz⟩ := z
  cases (show w = Value.bool b from rz)
  exact ⟨b, rfl, .bl (!b), H', I', rfl, qz⟩
/-- f(x), x of the class at C, whose own def is asked; want: what it must say -/
def rO1 (C : Addr) (want : V → Prop) (sp : Sp) (E : XK) : List V → Hp → VK → Prop := fun xs H Q => ∃ a dx fs, xs = [.ref a] ∧ H a = some (.ins C dx fs) ∧ sp [.ref a] H (fun z H' => want z ∧ Q z H') E
def wStr (z : V) : Prop := ∃ y, z = .str y
def wLen (z : V) : Prop := ∃ i : Int, z = .int i ∧ 0 ≤ i ∧ i < 2 ^ 63
theorem call_oRepr (F : FnR X.prog X.w X.K X.mg X.base CX n f sp) (d : Dun X.K C "__repr__" f) (hr : Room (n + 1) X.A) (hx : Passes CX X E) : CallR X (.builtin "repr") (rO1 C wStr sp E) := by
  intro pins s σ H xs us Q I r h
  obtain ⟨a, dx, fs, rfl, ha, q⟩ := h
  obtain ⟨u, rfl, ru⟩ := vals1 r
  cases (show u = Value.ref a from ru)
  obtain ⟨od, J⟩ := inst_of I ha
  obtain ⟨m, hF⟩ := I.fr
  refine PySem.W.repr_K hr.in1.units0 hF I.ok.mod.kin J d.at_ d.fn ?_
  refine wpAny_mono (call_below (us := [.ref a]) (ws := [.ref a]) F hr.in1 I.env0.in1 hx I (.cons rfl .nil) q) (fun w s' z => ?_) fun _ _ z => z
  obtain ⟨z', H', I', rz, ⟨y, rfl⟩, qz⟩ := z
  obtain ⟨t, e⟩ := (show ∃ t, w = Value.str y t from rz)
  subst e
  exact ⟨.str y, H', I', ⟨t, rfl⟩, qz⟩
theorem call_oStr (F : FnR X.prog X.w X.K X.mg X.base CX n f sp) (d : Dun X.K C "__str__" f) (hr : Room (n + 2) X.A) (hx : Passes CX X E) : CallR X (.type "str") (rO1 C wStr sp E) := by
  intro pins s σ H xs us Q I r h
  obtain ⟨a, dx, fs, rfl, ha, q⟩ := h
  obtain ⟨u, rfl, ru⟩ := vals1 r
  cases (show u = Value.ref a from ru)
  obtain ⟨od, J⟩ := inst_of I ha
  have hr2 : Room n X.A.in1.in1 := (show Room (n + 1) X.A.in1 from Room.in1 hr).in1
  refine PySem.W.kso_call hr2.units0 I.kIn J d.at_ d.fn ?_
  refine wpAny_mono (call_below (us := [.ref a]) (ws := [.ref a]) F hr2 I.env0.in1.in1 hx I (.cons rfl .nil) q) (fun w s' z => ?_) fun _ _ z => z
  obtain ⟨z', H', I', rz, ⟨y, rfl⟩, qz⟩ := z
  obtain ⟨t, e⟩ := (show ∃ t, w = Value.str y t from rz)
  subst e
  exact ⟨.str y, H', I', ⟨t, rfl⟩, qz⟩
theorem call_oLen (F : FnR X.prog X.w X.K X.mg X.base CX n f sp) (d : Dun X.K C "__len__" f) (hr : Room (n + 1) X.A) (hx : Passes CX X E) : CallR X (.builtin "len") (rO1 C wLen sp E) := by
  intro pins s σ H xs us Q I r h
  obtain ⟨a, dx, fs, rfl, ha, q⟩ := h
  obtain ⟨u, rfl, ru⟩ := vals1 r
  cases (show u = Value.ref a from ru)
  obtain ⟨od, J⟩ := inst_of I ha
  obtain ⟨m, hF⟩ := I.fr
  refine PySem.W.len_K hF I.ok.mod.kin J d.at_ d.fn ?_
  refine wpAny_mono (call_below (us := [.ref a]) (ws := [.ref a]) F hr.in1 I.env0.in1 hx I (.cons rfl .nil) q) (fun w s' z => ?_) fun _ _ z => z
  obtain ⟨z', H', I', rz, ⟨i, rfl, i0, i1⟩, qz⟩ := z
  obtain ⟨t, e⟩ := (show ∃ t, w = Value.int i t from rz)
  subst e
  exact ⟨⟨i0, i1⟩, .int i, H', I'.tok _, ⟨_, rfl⟩, qz⟩
end
/-! ### plain functions -/
def insC (d : D) (S : Store) : Option Nat := match d with
  | .loc n => match S[n]? with
    | some (.ins c _) => some c
    | _ => none
  | _ => none
def kinds : List String := ["NoneType", "bool", "int", "str", "tuple", "list", "dict"]
theorem kind_mem {d : D} {S : Store} {k : String} (h : kindD d S = some k) : k ∈ kinds := by
  unfold kindD at h
  repeat' (first | (cases h; decide) | (cases h; done) | split at h)
/-- a thing that == may be asked of: of a kind that is built in, or of a class that ok lets -/
def eqOk (ok : Nat → Bool) (y : D) (S : Store) : Bool := (kindD y S).isSome || match insC y S with
  | some c => ok c
  | none => false
def dOE (c : Nat) (ok : Nat → Bool) (f : List D → Store → Res D) (base : D → D → Store → Res D) (x y : D) (S : Store) : Res D :=
  if insC x S = some c then (if eqOk ok y S = true then f [x, y] S else .stuck) else base x y S
def dON (c : Nat) (ok : Nat → Bool) (f : List D → Store → Res D) (base : D → D → Store → Res D) (x y : D) (S : Store) : Res D :=
  if insC x S = some c then (if eqOk ok y S = true then (f [x, y] S).bind fun v S' => match v with
    | .bl b => .ok (.bl (!b)) S'
    | _ => .stuck else .stuck) else base x y S
def isStrD : D → Bool
  | .str _ => true
  | _ => false
def isLenD : D → Bool
  | .int i => decide (0 ≤ i ∧ i < 2 ^ 63)
  | _ => false
def cO1 (c : Nat) (want : D → Bool) (f : List D → Store → Res D) (base : List D → Store → Res D) (ds : List D) (S : Store) : Res D := match ds with
  | [d] => if insC d S = some c then (f [d] S).bind fun v S' => if want v = true then .ok v S' else .stuck else base ds S
  | _ => base ds S
def mIsO (isi : Nat → Option Bool) (a : EM) : EM := fun env S => (a env S).bind fun d S1 => if (kindD d S1).isSome then .ok (.bl false) S1 else match insC d S1 with
  | some c => match isi c with
    | some b => .ok (.bl b) S1
    | none => .stuck
  | none => .stuck
def mMakeK (c m : Nat) (f : List D → Store → Res D) (gD : List D → List D → List D) (as : AM) : EM := fun env S => (as env S).bind fun ds S1 => if ds.length = m then (f (gD [.loc S1.length] ds) (S1 ++ [.ins c []])).bind fun v S2 => match v with
  | .non => .ok (.loc S1.length) S2
  | _ => .stuck
  else .stuck
def cGcd (ds : List D) (S : Store) : Res D := match ds with
  | [.int a, .int b] => .ok (.int ((Nat.gcd a.natAbs b.natAbs : Nat) : Int)) S
  | _ => .stuck
def cStr (ds : List D) (S : Store) : Res D := match ds with
  | [.int i] => if i.natAbs.log2 < 1920 then .ok (.str (toString i)) S else .stuck
  | [.str y] => .ok (.str y) S
  | _ => .stuck
section
variable {g : G} {E : XK} {K : PySem.W.Frag}
theorem PostE.then {ρ : List Addr} {H : Hp} {r : Res D} {k : D → Store → Res D} {Q Q' : VK} (p : PostE g E ρ H Q (r.bind k))
    (hk : ∀ d S' ρ' H' v, Ex ρ H ρ' H' → RS g ρ' S' H' → RD g ρ' H' v d → PostE g E ρ' H' Q (k d S') → Q' v H') : PostE g E ρ H Q' r := by
  cases r with
  | ok d S' => exact fun ρ' H' v e rs r => hk d S' ρ' H' v e rs r (PostE.ex p e)
  | err x S' => exact p
  | stuck => exact p
theorem insc_at {l : List Addr} {ρ : List Addr} {S : Store} {H : Hp} {c : Nat} {v : V} {d : D} (rs : RS (g.hide l) ρ S H) (r : RD (g.hide l) ρ H v d) (h : insC d S = some c) : ∃ a dx fv, v = .ref a ∧ H a = some (.ins (g.cls c) dx fv) := by
  cases r with
  | @loc n a hn =>
    simp only [insC] at h
    split at h
    · rename_i c' fs e
      obtain ⟨dx, fv, h1, h2⟩ := rs.ob n a _ hn e
      cases h
      exact ⟨a, dx, fv, rfl, h1⟩
    · cases h
  | _ => cases h
theorem insc_ty {l : List Addr} {ρ : List Addr} {S : Store} {H : Hp} {c : Nat} {v : V} {d : D} (rs : RS (g.hide l) ρ S H) (r : RD (g.hide l) ρ H v d) (h : insC d S = some c) (T : ClsI K (g.cls c)) : TyX K H v (.ref (g.cls c)) := by
  obtain ⟨a, dx, fv, rfl, h1⟩ := insc_at rs r h
  exact .base (.ins h1 T.cl T.ha T.hn T.ht T.hm)
/-- what == asks of the class c: which things it may meet -/
structure EqF (g : G) (K : PySem.W.Frag) (c : Nat) (ok : Nat → Bool) : Prop where
  ki : ∀ k ∈ kinds, PySem.W.notFirst K (g.cls c) (.type k) = true
  cl : ∀ c', ok c' = true → ClsI K (g.cls c') ∧ PySem.W.notFirst K (g.cls c) (.ref (g.cls c')) = true
theorem eqok_ty {l : List Addr} {ρ : List Addr} {S : Store} {H : Hp} {c : Nat} {ok : Nat → Bool} {v : V} {d : D} (T : EqF g K c ok) (rs : RS (g.hide l) ρ S H) (r : RD (g.hide l) ρ H v d) (h : eqOk ok d S = true) : ∃ t, TyX K H v t ∧ PySem.W.notFirst K (g.cls c) t = true := by
  unfold eqOk at h
  cases hk : kindD d S with
  | some k => exact ⟨_, kind_ty rs r hk, T.ki k (kind_mem hk)⟩
  | none =>
    rw [hk] at h
    cases hi : insC d S with
    | none => rw [hi] at h; cases h
    | some c' =>
      rw [hi] at h
      have h' : ok c' = true := by simpa using h
      exact ⟨_, insc_ty rs r hi (T.cl c' h').1, (T.cl c' h').2⟩
theorem sim_oe {c : Nat} {ok : Nat → Bool} {f : List D → Store → Res D} {base : D → D → Store → Res D} {r : R2} (hf : Ar 2 f) (T : EqF g K c ok) (hb : OpSim g E r base) :
    OpSim g E (fun x y H Q => rOE K (g.cls c) (fun vs H Q E => spOf g 2 f (vs ++ []) H Q E) E x y H Q ∨ r x y H Q) (dOE c ok f base) := by
  intro l x y H Q ρ S dx dy rx ry rs p
  unfold dOE at p
  by_cases hx : insC dx S = some c
  · rw [if_pos hx] at p
    by_cases hy : eqOk ok dy S = true
    · rw [if_pos hy] at p
      obtain ⟨a, d1, fv, rfl, h1⟩ := insc_at rs rx hx
      obtain ⟨t, ty, nf⟩ := eqok_ty T rs ry hy
      refine .inl ⟨a, d1, fv, t, rfl, h1, ty, nf, ?_⟩
      show spOf g 2 f ([V.ref a, y] ++ []) H Q E
      rw [List.append_nil]
      exact sp_go hf (.cons rx (.cons ry .nil)) rs p
    · rw [if_neg hy] at p; exact p.elim
  · rw [if_neg hx] at p
    exact .inr (hb l x y H Q ρ S dx dy rx ry rs p)
theorem sim_on {c : Nat} {ok : Nat → Bool} {f : List D → Store → Res D} {base : D → D → Store → Res D} {r : R2} (hf : Ar 2 f) (T : EqF g K c ok) (hb : OpSim g E r base) :
    OpSim g E (fun x y H Q => rON K (g.cls c) (fun vs H Q E => spOf g 2 f (vs ++ []) H Q E) E x y H Q ∨ r x y H Q) (dON c ok f base) := by
  intro l x y H Q ρ S dx dy rx ry rs p
  unfold dON at p
  by_cases hx : insC dx S = some c
  · rw [if_pos hx] at p
    by_cases hy : eqOk ok dy S = true
    · rw [if_pos hy] at p
      obtain ⟨a, d1, fv, rfl, h1⟩ := insc_at rs rx hx
      obtain ⟨t, ty, nf⟩ := eqok_ty T rs ry hy
      refine .inl ⟨a, d1, fv, t, rfl, h1, ty, nf, ?_⟩
      show spOf g 2 f ([V.ref a, y] ++ []) H _ E
      rw [List.append_nil]
      refine sp_go hf (.cons rx (.cons ry .nil)) rs (p.then fun d S' ρ' H' v e rs' rv z => ?_)
      cases rv with
      | bl b => exact ⟨b, rfl, z ρ' H' _ Ex.refl rs' (.bl _)⟩
      | _ => exact z.elim
    · rw [if_neg hy] at p; exact p.elim
  · rw [if_neg hx] at p
    exact .inr (hb l x y H Q ρ S dx dy rx ry rs p)
theorem sim_o1 {c : Nat} {want : D → Bool} {wv : V → Prop} {f : List D → Store → Res D} {base : List D → Store → Res D} {r : List V → Hp → VK → Prop} (hf : Ar 1 f) (hw : ∀ l ρ H v d, RD (g.hide l) ρ H v d → want d = true → wv v) (hb : CallSim g E r base) :
    CallSim g E (fun xs H Q => rO1 (g.cls c) wv (fun vs H Q E => spOf g 1 f (vs ++ []) H Q E) E xs H Q ∨ r xs H Q) (cO1 c want f base) := by
  intro l xs H Q ρ S ds rx rs p
  cases rx with
  | nil => exact .inr (hb l _ H Q ρ S _ .nil rs p)
  | @cons v d vs ds h t =>
    cases t with
    | cons h2 t2 => exact .inr (hb l _ H Q ρ S _ (.cons h (.cons h2 t2)) rs p)
    | nil =>
      simp only [cO1] at p
      by_cases hx : insC d S = some c
      · rw [if_pos hx] at p
        obtain ⟨a, d1, fv, rfl, h1⟩ := insc_at rs h hx
        refine .inl ⟨a, d1, fv, rfl, h1, ?_⟩
        show spOf g 1 f ([V.ref a] ++ []) H _ E
        rw [List.append_nil]
        refine sp_go hf (.cons h .nil) rs (p.then fun d S' ρ' H' v e rs' rv z => ?_)
        by_cases q : want d = true
        · rw [if_pos q] at z
          exact ⟨hw _ _ _ _ _ rv q, z ρ' H' _ Ex.refl rs' rv⟩
        · rw [if_neg q] at z; exact z.elim
      · rw [if_neg hx] at p
        exact .inr (hb l _ H Q ρ S _ (.cons h .nil) rs p)
theorem want_str (l : List Addr) (ρ : List Addr) (H : Hp) (v : V) (d : D) (r : RD (g.hide l) ρ H v d) (h : isStrD d = true) : wStr v := by
  cases r <;> first | exact ⟨_, rfl⟩ | cases h
theorem want_len (l : List Addr) (ρ : List Addr) (H : Hp) (v : V) (d : D) (r : RD (g.hide l) ρ H v d) (h : isLenD d = true) : wLen v := by
  cases r <;> first | exact ⟨_, rfl, of_decide_eq_true h⟩ | cases h
theorem sim_isO {C : Addr} {isi : Nat → Option Bool} {ta : TE} {a : EM} (hk : ∀ k ∈ kinds, PySem.W.kitOne K (.type k) (.ref C) = some false) (hi : ∀ c b, isi c = some b → ClsI K (g.cls c) ∧ PySem.W.kitOne K (.ref (g.cls c)) (.ref C) = some b) (ha : SimE g E ta a) :
    SimE g E (tCB (rIsi K) (tCons ta (tCons (tC (.ref C)) tNil))) (mIsO isi a) := by
  intro l σ H Q ρ S env re rs p
  refine ha.bind re rs p fun d S1 ρ1 H1 v e1 rs1 rx re1 p1 => ?_
  cases h : kindD d S1 with
  | some k =>
    rw [h] at p1
    exact ⟨v, .ref C, .type k, .ref C, false, rfl, .own C, kind_ty rs1 rx h, hk k (kind_mem h), p1 ρ1 H1 _ Ex.refl rs1 (.bl _)⟩
  | none =>
    rw [h] at p1
    cases hc : insC d S1 with
    | none => rw [hc] at p1; exact p1.elim
    | some c =>
      rw [hc] at p1
      cases hb : isi c with
      | none => simp only [hb] at p1; exact p1.elim
      | some b =>
        simp only [hb] at p1
        obtain ⟨i1, i2⟩ := hi c b hb
        exact ⟨v, .ref C, .ref (g.cls c), .ref C, b, rfl, .own C, insc_ty rs1 rx hc i1, i2, p1 ρ1 H1 _ Ex.refl rs1 (.bl _)⟩
theorem sim_makeK {n c m : Nat} {f : List D → Store → Res D} {tas : TA} {as : AM} {gV : List V → List V → List V} {gD : List D → List D → List D} (hf : Ar n f) (hrel : ∀ {l : List Addr} {ρ : List Addr} {H : Hp} {vs zs : List V} {ds es : List D}, RDs (g.hide l) ρ H vs ds → RDs (g.hide l) ρ H zs es → RDs (g.hide l) ρ H (gV vs zs) (gD ds es)) (has : SimA g E tas as) :
    SimE g E (tMakeK (g.cls c) 0 m (spOf g n f) gV E tNil tas) (mMakeK c m f gD as) := by
  intro l σ H Q ρ S env re rs p
  refine has.bind re rs p fun ds S1 ρ1 H1 vs e1 rs1 rx re1 p1 => ?_
  by_cases hz : ds.length = m
  · rw [if_pos hz] at p1
    refine ⟨rfl, by rw [rx.length]; exact hz, fun x dx hx hdx ne => ?_⟩
    have e2 : Ex ρ1 H1 ρ1 (upd H1 dx (.own x)) := Ex.new1 hdx
    have rs2 := rs1.aside (o := .own x) hdx
    have hx2 : upd H1 dx (.own x) x = none := by rw [upd_ne (Ne.symm ne)]; exact hx
    obtain ⟨e3, rs3⟩ := rs2.push (o := .ins (g.cls c) dx []) (ob := .ins c []) hx2 fun ρ' H' e' q => ⟨dx, [], q, RKV.mt⟩
    have e13 := e2.trans e3
    have rself : RD (g.hide l) (ρ1 ++ [x]) (upd (upd H1 dx (.own x)) x (.ins (g.cls c) dx [])) (.ref x) (.loc S1.length) := .loc (by rw [← rs1.len]; simp)
    refine sp_go hf (hrel (.cons rself .nil) (rx.mono e13)) rs3 ((PostE.ex p1 e13).then fun d S' ρ' H' v e rs' rv z => ?_)
    cases rv with
    | non => exact ⟨rfl, z ρ' H' _ Ex.refl rs' (.loc (e.at (by rw [← rs1.len]; simp)))⟩
    | _ => exact z.elim
  · rw [if_neg hz] at p1; exact p1.elim
theorem sim_gcd : CallSim g E rGcd cGcd := by
  intro l xs H Q ρ S ds rx rs p
  unfold cGcd at p
  split at p
  · rename_i a b
    cases rx with
    | cons h t => cases t with
      | cons h2 t2 =>
        cases t2
        cases h
        cases h2
        exact ⟨a, b, rfl, p ρ H _ Ex.refl rs (.int _)⟩
  · exact p.elim
abbrev rStr : List V → Hp → VK → Prop := fun xs H Q => (∃ i, xs = [.int i] ∧ i.natAbs.log2 < 1920 ∧ Q (.str (toString i)) H) ∨ ∃ a, xs = [.str a] ∧ Q (.str a) H
theorem call_str {X : Cx} : CallR X (.type "str") rStr := call_str_int.or SkE.call_str_str
theorem sim_str : CallSim g E rStr cStr := by
  intro l xs H Q ρ S ds rx rs p
  unfold cStr at p
  split at p
  · rename_i i
    cases rx with
    | cons h t =>
      cases t
      cases h
      split at p
      · rename_i hz; exact .inl ⟨i, rfl, hz, p ρ H _ Ex.refl rs (.str _)⟩
      · exact p.elim
  · rename_i y
    cases rx with
    | cons h t =>
      cases t
      cases h
      exact .inr ⟨y, rfl, p ρ H _ Ex.refl rs (.str _)⟩
  · exact p.elim
end
end Lg

namespace Lg
open PySem PySem.Spec L2 RZ
/-! ### enumerate -/
def enumD (xs : List D) : List D := List.zipWith (fun (i : Nat) d => .tup [.int (i : Nat), d]) (List.range xs.length) xs
def itEnum (a : AM) : IM := fun env S => (a env S).bind fun ds S1 => match ds with
  | [.lst xs] => .ok (enumD xs) S1
  | _ => .stuck
section
variable {g : G} {E : XK} {K : PySem.W.Frag}
theorem simi_enum {ta : TA} {a : AM} (ha : SimA g E ta a) : SimI g E (iEnum K ta) (itEnum a) := by
  intro l σ H R ρ S env re rs p
  refine ha l σ H _ ρ S env re rs ?_
  unfold itEnum at p
  cases e : a env S with
  | err x S2 => rw [e] at p; exact p
  | stuck => rw [e] at p; exact p
  | ok ds S1 =>
    rw [e] at p
    simp only [Res.bind] at p
    intro ρ1 H1 vs e1 rs1 rx
    split at p
    · rename_i q hq
      split at hq
      · rename_i xs
        cases hq
        cases rx with
        | cons r t =>
          cases t
          cases r with
          | @lst b vs1 _ h1 n1 q1 =>
            refine ⟨b, vs1, rfl, SqL.of h1, p ρ1 H1 _ e1 rs1 fun l' hl => ?_⟩
            have ln : vs1.length = (enumD xs).length := by simp [enumD, q1.length]
            have w := walk_enum (K := K) (a := b) (xs := vs1)
            rw [ln] at w
            refine ⟨_, _, w, fun ρ' H' ex => SqL.of (ex.keep _ _ n1.1 h1), fun i ρ' H' x H'' S hi e rs y => ?_⟩
            obtain ⟨T, v, u, rfl, hT, rfl, hv, hu⟩ := y
            have hi' : i < xs.length := by simpa [enumD] using hi
            obtain ⟨u', h3, h4⟩ := (rds_hide hl q1).get (List.getElem?_eq_getElem hi')
            obtain rfl := Option.some.inj hv
            obtain rfl := Option.some.inj (hu.symm.trans h3)
            refine ⟨.tup [.int (i : Nat), xs[i]], by simp [enumD, List.getElem?_zipWith, List.getElem?_eq_getElem hi', hi'], Ex.new1 hT, rs.aside hT, .tup upd_same (rs.fresh hT) (.cons (.int _) (.cons ((h4.mono e).mono (Ex.new1 hT)) .nil)), fun p o q => by rw [upd_ne (ne_of_none q hT)]; exact q⟩
      · cases hq
    · rename_i hq
      split at hq <;> cases hq
    · exact p.elim
end
/-! ### e.f of an object of one of some classes -/
def insF (ok : Nat → Bool) (d : D) (S : Store) : Option (List (PySem.Str × D)) := match d with
  | .loc n => match S[n]? with
    | some (.ins c fs) => if ok c = true then some fs else none
    | _ => none
  | _ => none
def mFldO (ok : Nat → Bool) (f : PySem.Str) (a : EM) : EM := fun env S => (a env S).bind fun d S1 => match insF ok d S1 with
  | some fs => match fs.lookup f with
    | some x => .ok x S1
    | none => .stuck
  | none => .stuck
section
variable {g : G} {E : XK} {K : PySem.W.Frag}
theorem insf_at {l : List Addr} {ρ : List Addr} {S : Store} {H : Hp} {ok : Nat → Bool} {v : V} {d : D} {fs : List (PySem.Str × D)} (rs : RS (g.hide l) ρ S H) (r : RD (g.hide l) ρ H v d) (h : insF ok d S = some fs) : ∃ c, ok c = true ∧ insAt c d S = some fs := by
  cases r with
  | @loc n a hn =>
    simp only [insF] at h
    split at h
    · rename_i c fs' e
      split at h
      · rename_i q
        cases h
        exact ⟨c, q, by simp [insAt, e]⟩
      · cases h
    · cases h
  | _ => cases h
theorem sim_fldO {ok : Nat → Bool} {f : PySem.Str} {ta : TE} {a : EM} (T : ∀ c, ok c = true → Cls K (g.cls c) ∧ NoAttr K (g.cls c) f) (ha : SimE g E ta a) : SimE g E (tFld K ta f) (mFldO ok f a) := by
  intro l σ H Q ρ S env re rs p
  refine ha.bind re rs p fun d S1 ρ1 H1 v e1 rs1 rx re1 p1 => ?_
  cases hI : insF ok d S1 with
  | none => rw [hI] at p1; exact p1.elim
  | some fs =>
    rw [hI] at p1
    dsimp only at p1
    obtain ⟨c, hc, hA⟩ := insf_at rs1 rx hI
    obtain ⟨n, ad, dx, fv, e2, hn, e3, hS, hH, rk⟩ := ins_at rs1 rx hA
    cases hF : fs.lookup f with
    | none => rw [hF] at p1; exact p1.elim
    | some x =>
      rw [hF] at p1
      obtain ⟨y, h1, h2⟩ := (rk.lookup (f := f)).1 x hF
      exact ⟨ad, _, dx, fv, y, e3, hH, (T c hc).1, (T c hc).2, h1, p1 ρ1 H1 y Ex.refl rs1 h2⟩
end
/-! ### repr of an int or a bool -/
def rReprS : List V → Hp → VK → Prop := fun xs H Q => (∃ i, xs = [.int i] ∧ i.natAbs.log2 < 1920 ∧ Q (.str (toString i)) H) ∨ ∃ b, xs = [.bl b] ∧ Q (.str (PyData.shown (.bool b))) H
theorem call_reprS {X : Cx} : CallR X (.builtin "repr") rReprS := by
  intro pins s σ H xs us Q I r h
  rcases h with h | ⟨b, rfl, q⟩
  · exact SkE.call_repr_int pins s σ H xs us Q I r h
  · obtain ⟨u, rfl, ru⟩ := vals1 r
    cases (show u = Value.bool b from ru)
    exact PySem.P.repr_of_bool ⟨.str _, H, I.tok _, ⟨_, rfl⟩, q⟩
def cReprS (ds : List D) (S : Store) : Res D := match ds with
  | [.int i] => if i.natAbs.log2 < 1920 then .ok (.str (toString i)) S else .stuck
  | [.bl b] => .ok (.str (PyData.shown (.bool b))) S
  | _ => .stuck
theorem sim_reprS {g : G} {E : XK} : CallSim g E rReprS cReprS := by
  intro l xs H Q ρ S ds rx rs p
  unfold cReprS at p
  split at p
  · rename_i i
    cases rx with
    | cons h t =>
      cases t
      cases h
      split at p
      · rename_i hz; exact .inl ⟨i, rfl, hz, p ρ H _ Ex.refl rs (.str _)⟩
      · exact p.elim
  · rename_i y
    cases rx with
    | cons h t =>
      cases t
      cases h
      exact .inr ⟨y, rfl, p ρ H _ Ex.refl rs (.str _)⟩
  · exact p.elim
theorem _root_.L2.FnOk.toG {P : Program} {w : World} {K : PySem.W.Frag} {mg : PySem.Str → Option Value} {base : Heap} {k : Nat} {f : Addr} {fd : FuncData} {ps : List PySem.Str} {sp : Sp} (F : FnOk P w K mg base (L2.CX P w) k f fd ps sp) : FnG P w K mg base k f fd ps sp :=
  ⟨F.len, fun A outer s H args us vs Q E hr gg e0 hb r h => F.run A outer s H args us vs Q E hr e0 hb r h⟩
/-! ### the written part -/
def clsB (K : PySem.W.Frag) (C : Addr) : Bool := PySem.W.plainGet K C Str.empty && PySem.W.hasDictIn K C && PySem.W.plainOver K C && decide (PySem.W.findIn K (.ref C) "__setattr__" = some (some (.builtin "object.__setattr__"))) && decide (PySem.W.findIn K (.ref C) "__class__" = some (some (.builtin "object.__class__"))) &&
  decide (PySem.W.specialIn K (.builtin "object.__class__") "__get__" = some (some (.builtin "getset_descriptor.__get__"))) && decide (PySem.W.takesIn K (.builtin "object.__class__") = some true) && decide (PySem.W.mroIn K C (.type "object") = some true)
theorem clsI_of {K : PySem.W.Frag} {C : Addr} (h : clsB K C = true) : ClsI K C := by
  unfold clsB at h
  simp only [Bool.and_eq_true, decide_eq_true_eq] at h
  obtain ⟨⟨⟨⟨⟨⟨⟨h1, h2⟩, h3⟩, h4⟩, h5⟩, h6⟩, h7⟩, h8⟩ := h
  exact ⟨⟨h1, h2, h3, h4⟩, h5, h6, h7, h8⟩
def nfB (K : PySem.W.Frag) (C : Addr) : Bool := kinds.all fun k => PySem.W.notFirst K C (.type k)
theorem nf_of {K : PySem.W.Frag} {C : Addr} (h : nfB K C = true) : ∀ k ∈ kinds, PySem.W.notFirst K C (.type k) = true := List.all_eq_true.mp h
def kfB (K : PySem.W.Frag) (C : Addr) : Bool := kinds.all fun k => decide (PySem.W.kitOne K (.type k) (.ref C) = some false)
theorem kf_of {K : PySem.W.Frag} {C : Addr} (h : kfB K C = true) : ∀ k ∈ kinds, PySem.W.kitOne K (.type k) (.ref C) = some false := fun k hk => of_decide_eq_true (List.all_eq_true.mp h k hk)
/-- of the classes told: no attribute f in them -/
def naB (K : PySem.W.Frag) (Cs : List Addr) (cs : List Nat) (f : PySem.Str) : Bool := cs.all fun c => clsB K (Cs.getD c 0) && decide (PySem.W.findIn K (.ref (Cs.getD c 0)) f = some none)
theorem na_of {K : PySem.W.Frag} {Cs : List Addr} {cs : List Nat} {f : PySem.Str} (h : naB K Cs cs f = true) : ∀ c, cs.contains c = true → Cls K (Cs.getD c 0) ∧ NoAttr K (Cs.getD c 0) f := by
  intro c hc
  have := List.all_eq_true.mp h c (by simpa using hc)
  simp only [Bool.and_eq_true, decide_eq_true_eq] at this
  exact ⟨(clsI_of this.1).cl, this.2⟩
def eqB (K : PySem.W.Frag) (Cs : List Addr) (cs : List Nat) (C : Addr) : Bool := nfB K C && cs.all fun c => clsB K (Cs.getD c 0) && PySem.W.notFirst K C (.ref (Cs.getD c 0))
theorem eqF_of {g : G} {K : PySem.W.Frag} {Cs : List Addr} {cs : List Nat} {c : Nat} (hg : g.cls = fun i => Cs.getD i 0) (h : eqB K Cs cs (Cs.getD c 0) = true) : EqF g K c (fun c' => cs.contains c') := by
  unfold eqB at h
  simp only [Bool.and_eq_true] at h
  refine ⟨by rw [hg]; exact nf_of h.1, fun c' hc => ?_⟩
  have := List.all_eq_true.mp h.2 c' (by simpa using hc)
  simp only [Bool.and_eq_true] at this
  rw [hg]
  exact ⟨clsI_of this.1, this.2⟩
def isoB (K : PySem.W.Frag) (Cs : List Addr) (cs : List Nat) (C : Addr) (t : Nat → Option Bool) : Bool := kfB K C && cs.all fun c => clsB K (Cs.getD c 0) && decide (PySem.W.kitOne K (.ref (Cs.getD c 0)) (.ref C) = t c)
theorem iso_of {K : PySem.W.Frag} {Cs : List Addr} {cs : List Nat} {C : Addr} {t : Nat → Option Bool} (h : isoB K Cs cs C t = true) (ht : ∀ c b, t c = some b → cs.contains c = true) : (∀ k ∈ kinds, PySem.W.kitOne K (.type k) (.ref C) = some false) ∧ ∀ c b, t c = some b → ClsI K (Cs.getD c 0) ∧ PySem.W.kitOne K (.ref (Cs.getD c 0)) (.ref C) = some b := by
  unfold isoB at h
  simp only [Bool.and_eq_true] at h
  refine ⟨kf_of h.1, fun c b e => ?_⟩
  have := List.all_eq_true.mp h.2 c (by simpa using ht c b e)
  simp only [Bool.and_eq_true, decide_eq_true_eq] at this
  exact ⟨clsI_of this.1, this.2.trans e⟩
end Lg

namespace Lw
open PySem L2 Lg RZ
def top (i : Nat) : Stmt := PySem.Challenge.pw_lotgivers_k26_exact_shares.main.body.getD i (.Pass ⟨0, 0, 0, 0⟩)
def clsSt (st : Stmt) (i : Nat) : Stmt := match st with
  | .ClassDef (body := b) .. => b.getD i (.Pass ⟨0, 0, 0, 0⟩)
  | _ => .Pass ⟨0, 0, 0, 0⟩
def ok_of_part (c : Nat) : Bool := [0].contains c
def ok_of_whole (c : Nat) : Bool := [0].contains c
def okE (c : Nat) : Bool := [0].contains c
def io_Share (c : Nat) : Option Bool := if [0].contains c = true then some (c == 0) else none
abbrev s_Share_init : Stmt := clsSt (top 2) 0
abbrev N_Share_init : List PySem.Str := ["self", "part", "whole", "common"]
theorem sc_Share_init : FnScope N_Share_init ["self", "part", "whole"] (defScope s_Share_init) := ⟨rfl, rfl, rfl, by decide +kernel, rfl, by decide +kernel, by decide +kernel⟩
def m_Share_init : List D → Store → Res D := mDef 4 3 (sSeq (sAsg (mCall cGcd (mCons (mVar 1) (mCons (mVar 2) mNil))) (gmName 3)) (sSeq (sFldM 0 "part" (mVar 0) (mOp dDiv (mVar 1) (mVar 3))) (sFldM 0 "whole" (mVar 0) (mOp dDiv (mVar 2) (mVar 3)))))
abbrev s_Share_eq : Stmt := clsSt (top 2) 1
abbrev N_Share_eq : List PySem.Str := ["self", "other"]
theorem sc_Share_eq : FnScope N_Share_eq ["self", "other"] (defScope s_Share_eq) := ⟨rfl, rfl, rfl, by decide +kernel, rfl, by decide +kernel, by decide +kernel⟩
def m_Share_eq : List D → Store → Res D := mDef 2 2 (sRet (mAndV (mIsO io_Share (mVar 1)) (mAndV (mOp dEqA (mFldO ok_of_part "part" (mVar 0)) (mFldO ok_of_part "part" (mVar 1))) (mOp dEqA (mFldO ok_of_whole "whole" (mVar 0)) (mFldO ok_of_whole "whole" (mVar 1))))))
abbrev s_Share_repr : Stmt := clsSt (top 2) 2
abbrev N_Share_repr : List PySem.Str := ["self"]
theorem sc_Share_repr : FnScope N_Share_repr ["self"] (defScope s_Share_repr) := ⟨rfl, rfl, rfl, by decide +kernel, rfl, by decide +kernel, by decide +kernel⟩
def m_Share_repr : List D → Store → Res D := mDef 1 1 (sRet (mJs [(mC (.str "Share(")), (mFmt (mFldO ok_of_part "part" (mVar 0))), (mC (.str ", ")), (mFmt (mFldO ok_of_whole "whole" (mVar 0))), (mC (.str ")"))] PySem.Str.empty))
abbrev s_Share_str : Stmt := clsSt (top 2) 3
abbrev N_Share_str : List PySem.Str := ["self"]
theorem sc_Share_str : FnScope N_Share_str ["self"] (defScope s_Share_str) := ⟨rfl, rfl, rfl, by decide +kernel, rfl, by decide +kernel, by decide +kernel⟩
def m_Share_str : List D → Store → Res D := mDef 1 1 (sRet (mJs [(mFmt (mFldO ok_of_part "part" (mVar 0))), (mC (.str "/")), (mFmt (mFldO ok_of_whole "whole" (mVar 0)))] PySem.Str.empty))
abbrev s_Share_more_than : Stmt := clsSt (top 2) 4
abbrev N_Share_more_than : List PySem.Str := ["self", "other"]
theorem sc_Share_more_than : FnScope N_Share_more_than ["self", "other"] (defScope s_Share_more_than) := ⟨rfl, rfl, rfl, by decide +kernel, rfl, by decide +kernel, by decide +kernel⟩
def m_Share_more_than : List D → Store → Res D := mDef 2 2 (sRet (mOp dGt (mOp dMul (mFldO ok_of_part "part" (mVar 0)) (mFldO ok_of_whole "whole" (mVar 1))) (mOp dMul (mFldO ok_of_part "part" (mVar 1)) (mFldO ok_of_whole "whole" (mVar 0)))))
abbrev s__law_begin : Stmt := top 4
abbrev N__law_begin : List PySem.Str := ["_law_script", "_law_seed", "_law_own", "_law_k", "_law_cell"]
theorem sc__law_begin : FnScope N__law_begin ["_law_script"] (defScope s__law_begin) := ⟨rfl, rfl, rfl, by decide +kernel, rfl, by decide +kernel, by decide +kernel⟩
def m__law_begin : List D → Store → Res D := mDef 5 1 (sSeq (sPar 1 2 (mCons (mOp dAdd (mCall cLen (mCons (mVar 0) mNil)) (mC (.int 7))) (mCons (mLstL mNil) mNil))) (sSeq (sForI (itEnum (mCons (mSl (mVar 0) oNone (oSome (mC (.int 63)))) mNil)) (gmTup 2 (gmCons (gmName 3) (gmCons (gmName 4) gmNil))) (sSeq (sAsg (mOp dMod (mOp dAdd (mOp dAdd (mOp dMul (mVar 1) (mC (.int 1000003))) (mOp dMod (mVar 4) (mOp dPow (mC (.int 10)) (mC (.int 30))))) (mOp dMul (mC (.int 31)) (mVar 3))) (mC (.int 2305843009213693951))) (gmName 1)) (sIf (bVal (mOp dGe (mCall cAbs (mCons (mVar 4) mNil)) (mOp dPow (mC (.int 10)) (mC (.int 18))))) (sDrop (mBMt "list" qAppend (mVar 2) (mCons (mOp dMod (mCall cAbs (mCons (mVar 4) mNil)) (mOp dMul (mOp dPow (mC (.int 10)) (mC (.int 60))) (mOp dPow (mC (.int 10)) (mC (.int 60))))) mNil))) sNext))) (sRet (mLstL (mCons (mVar 2) (mCons (mVar 1) (mCons (mC (.int 0)) mNil)))))))
abbrev s__law_take : Stmt := top 5
abbrev N__law_take : List PySem.Str := ["_law_pot", "_law_width", "_law_digit", "_law_mixed"]
theorem sc__law_take : FnScope N__law_take ["_law_pot", "_law_width"] (defScope s__law_take) := ⟨rfl, rfl, rfl, by decide +kernel, rfl, by decide +kernel, by decide +kernel⟩
def m__law_take : List D → Store → Res D := mDef 4 2 (sSeq (sWhile (bAnd (bVal (mOp dNeA (mOp dIx (mVar 0) (mC (.int 0))) (mLst mNil))) (bVal (mOp dEqA (mOp dIx (mOp dIx (mVar 0) (mC (.int 0))) (mC (.int 0))) (mC (.int 0))))) (sDrop (mBMt "list" qPopAt (mOp dIx (mVar 0) (mC (.int 0))) (mCons (mC (.int 0)) mNil))) 2000) (sSeq (sIf (bVal (mOp dNeA (mOp dIx (mVar 0) (mC (.int 0))) (mLst mNil))) (sSeq (sAsg (mOp dMod (mOp dIx (mOp dIx (mVar 0) (mC (.int 0))) (mC (.int 0))) (mVar 1)) (gmName 2)) (sSeq (sAsg (mOp dDiv (mOp dIx (mOp dIx (mVar 0) (mC (.int 0))) (mC (.int 0))) (mVar 1)) (gmSub (mOp dIx (mVar 0) (mC (.int 0))) (mC (.int 0)) dSet)) (sRet (mVar 2)))) sNext) (sSeq (sAsg (mOp dAdd (mOp dIx (mVar 0) (mC (.int 2))) (mC (.int 1))) (gmSub (mVar 0) (mC (.int 2)) dSet)) (sSeq (sAsg (mOp dMod (mOp dMul (mOp dAdd (mOp dAdd (mOp dIx (mVar 0) (mC (.int 1))) (mOp dMul (mOp dMul (mC (.int 65537)) (mOp dIx (mVar 0) (mC (.int 2)))) (mOp dIx (mVar 0) (mC (.int 2))))) (mC (.int 11))) (mC (.int 48271))) (mC (.int 2305843009213693921))) (gmName 3)) (sSeq (sAsg (mOp dMod (mOp dMul (mVar 3) (mOp dAdd (mOp dMod (mVar 3) (mC (.int 1000003))) (mOp dMul (mC (.int 99991)) (mOp dIx (mVar 0) (mC (.int 2)))))) (mC (.int 2305843009213693907))) (gmName 3)) (sRet (mOp dMod (mOp dAdd (mOp dDiv (mVar 3) (mC (.int 97))) (mOp dDiv (mVar 3) (mC (.int 1000033)))) (mVar 1))))))))
abbrev s__law_of : Stmt := top 6
abbrev N__law_of : List PySem.Str := ["_law_pot", "_law_some"]
theorem sc__law_of : FnScope N__law_of ["_law_pot", "_law_some"] (defScope s__law_of) := ⟨rfl, rfl, rfl, by decide +kernel, rfl, by decide +kernel, by decide +kernel⟩
def m__law_of : List D → Store → Res D := mDef 2 2 (sRet (mOp dIx (mVar 1) (mCall m__law_take (mCons (mVar 0) (mCons (mCall cLen (mCons (mVar 1) mNil)) mNil)))))
abbrev s__law_two : Stmt := top 7
abbrev N__law_two : List PySem.Str := ["_law_pot", "_law_by", "_law_around", "_law_few"]
theorem sc__law_two : FnScope N__law_two ["_law_pot"] (defScope s__law_two) := ⟨rfl, rfl, rfl, by decide +kernel, rfl, by decide +kernel, by decide +kernel⟩
def m__law_two : List D → Store → Res D := mDef 4 1 (sSeq (sAsg (mCall m__law_of (mCons (mVar 0) (mCons (mLst (mCons (mC (.int 1)) (mCons (mC (.int 2)) (mCons (mC (.int 6)) (mCons (mC (.int 97)) (mCons (mC (.int 360360)) (mCons (mOp dAdd (mOp dPow (mC (.int 10)) (mC (.int 29))) (mC (.int 1))) (mCons (mOp dAdd (mC (.int 1)) (mCall m__law_take (mCons (mVar 0) (mCons (mOp dPow (mC (.int 10)) (mC (.int 12))) mNil)))) mNil)))))))) mNil))) (gmName 1)) (sSeq (sAsg (mCall m__law_of (mCons (mVar 0) (mCons (mLst (mCons (mC (.int 1)) (mCons (mC (.int 2)) (mCons (mC (.int 3)) (mCons (mC (.int 4)) (mCons (mC (.int 12)) (mCons (mOp dSub (mOp dPow (mC (.int 10)) (mC (.int 30))) (mC (.int 1))) (mCons (mOp dAdd (mC (.int 1)) (mCall m__law_take (mCons (mVar 0) (mCons (mOp dPow (mC (.int 10)) (mC (.int 9))) mNil)))) mNil)))))))) mNil))) (gmName 2)) (sSeq (sAsg (mCall m__law_of (mCons (mVar 0) (mCons (mLst (mCons (mC (.int 0)) (mCons (mC (.int 1)) (mCons (mVar 2) (mCons (mOp dSub (mVar 2) (mC (.int 1))) (mCons (mOp dDiv (mVar 2) (mC (.int 2))) (mCons (mCall m__law_take (mCons (mVar 0) (mCons (mOp dAdd (mVar 2) (mC (.int 1))) mNil))) (mCons (mCall m__law_take (mCons (mVar 0) (mCons (mOp dAdd (mVar 2) (mC (.int 1))) mNil))) mNil)))))))) mNil))) (gmName 3)) (sRet (mTup (mCons (mOp dMul (mCall cMin2 (mCons (mVar 3) (mCons (mVar 2) mNil))) (mVar 1)) (mCons (mOp dMul (mVar 2) (mVar 1)) mNil)))))))
abbrev s__law_common : Stmt := top 8
abbrev N__law_common : List PySem.Str := ["_law_one", "_law_other"]
theorem sc__law_common : FnScope N__law_common ["_law_one", "_law_other"] (defScope s__law_common) := ⟨rfl, rfl, rfl, by decide +kernel, rfl, by decide +kernel, by decide +kernel⟩
def m__law_common : List D → Store → Res D := mDef 2 2 (sSeq (sWhile (bVal (mOp dNeA (mVar 1) (mC (.int 0)))) (sPar 0 1 (mCons (mVar 1) (mCons (mOp dMod (mVar 0) (mVar 1)) mNil))) 2000) (sRet (mVar 0)))
abbrev s__law_right : Stmt := top 9
abbrev N__law_right : List PySem.Str := ["_law_few", "_law_around", "_law_told"]
theorem sc__law_right : FnScope N__law_right ["_law_few", "_law_around"] (defScope s__law_right) := ⟨rfl, rfl, rfl, by decide +kernel, rfl, by decide +kernel, by decide +kernel⟩
def m__law_right : List D → Store → Res D := mDef 3 2 (sSeq (sAsg (mMake 0 m_Share_init [] (mCons (mVar 0) (mCons (mVar 1) mNil))) (gmName 2)) (sSeq (sIf (bOr (bVal (mOp dNeA (mOp dMul (mFldO ok_of_part "part" (mVar 2)) (mVar 1)) (mOp dMul (mVar 0) (mFldO ok_of_whole "whole" (mVar 2))))) (bOr (bVal (mOp dNeA (mCall m__law_common (mCons (mFldO ok_of_whole "whole" (mVar 2)) (mCons (mFldO ok_of_part "part" (mVar 2)) mNil))) (mC (.int 1)))) (bVal (mOp dLtA (mFldO ok_of_whole "whole" (mVar 2)) (mC (.int 1)))))) (sRet (mC (.bl false))) sNext) (sSeq (sIf (bAnd (bVal (mOp dEqA (mVar 0) (mC (.int 0)))) (bVal (mOp dNeA (mTup (mCons (mFldO ok_of_part "part" (mVar 2)) (mCons (mFldO ok_of_whole "whole" (mVar 2)) mNil))) (mTup (mCons (mC (.int 0)) (mCons (mC (.int 1)) mNil)))))) (sRet (mC (.bl false))) sNext) (sSeq (sIf (bOr (bVal (mIsi "bool" (mFldO ok_of_part "part" (mVar 2)))) (bVal (mIsi "bool" (mFldO ok_of_whole "whole" (mVar 2))))) (sRet (mC (.bl false))) sNext) (sSeq (sIf (bOr (bVal (mOp dNeA (mCall (cO1 0 isStrD m_Share_str cStr) (mCons (mVar 2) mNil)) (mOp dAdd (mOp dAdd (mCall cStr (mCons (mFldO ok_of_part "part" (mVar 2)) mNil)) (mC (.str "/"))) (mCall cStr (mCons (mFldO ok_of_whole "whole" (mVar 2)) mNil))))) (bOr (bVal (mOp (dOE 0 okE m_Share_eq dEqA) (mVar 2) (mTup (mCons (mFldO ok_of_part "part" (mVar 2)) (mCons (mFldO ok_of_whole "whole" (mVar 2)) mNil))))) (bVal (mOp (dOE 0 okE m_Share_eq dEqA) (mVar 2) (mCall (cO1 0 isStrD m_Share_str cStr) (mCons (mVar 2) mNil)))))) (sRet (mC (.bl false))) sNext) (sSeq (sIf (bVal (mOp dNeA (mCall (cO1 0 isStrD m_Share_repr cReprS) (mCons (mVar 2) mNil)) (mOp dAdd (mOp dAdd (mOp dAdd (mOp dAdd (mC (.str "Share(")) (mCall cStr (mCons (mFldO ok_of_part "part" (mVar 2)) mNil))) (mC (.str ", "))) (mCall cStr (mCons (mFldO ok_of_whole "whole" (mVar 2)) mNil))) (mC (.str ")"))))) (sRet (mC (.bl false))) sNext) (sRet (mOp (dOE 0 okE m_Share_eq dEqA) (mVar 2) (mMakeK 0 2 m_Share_init (fun ds es => ds ++ es.reverse) (mCons (mVar 1) (mCons (mVar 0) mNil)))))))))))
abbrev s__law_compared_right : Stmt := top 10
abbrev N__law_compared_right : List PySem.Str := ["_law_mine", "_law_yours", "_law_one", "_law_two_here", "_law_cross"]
theorem sc__law_compared_right : FnScope N__law_compared_right ["_law_mine", "_law_yours"] (defScope s__law_compared_right) := ⟨rfl, rfl, rfl, by decide +kernel, rfl, by decide +kernel, by decide +kernel⟩
def m__law_compared_right : List D → Store → Res D := mDef 5 2 (sSeq (sPar 2 3 (mCons (mMake 0 m_Share_init [] (mCons (mOp dIx (mVar 0) (mC (.int 0))) (mCons (mOp dIx (mVar 0) (mC (.int 1))) mNil))) (mCons (mMake 0 m_Share_init [] (mCons (mOp dIx (mVar 1) (mC (.int 0))) (mCons (mOp dIx (mVar 1) (mC (.int 1))) mNil))) mNil))) (sSeq (sAsg (mOp dSub (mOp dMul (mOp dIx (mVar 0) (mC (.int 0))) (mOp dIx (mVar 1) (mC (.int 1)))) (mOp dMul (mOp dIx (mVar 1) (mC (.int 0))) (mOp dIx (mVar 0) (mC (.int 1))))) (gmName 4)) (sSeq (sIf (bOr (bVal (mOp dNeA (mCall cReprS (mCons (mMeth 0 "more_than" m_Share_more_than [] (mVar 2) (mCons (mVar 3) mNil)) mNil)) (mCall cReprS (mCons (mOp dGt (mVar 4) (mC (.int 0))) mNil)))) (bVal (mOp dNeA (mCall cReprS (mCons (mOp (dOE 0 okE m_Share_eq dEqA) (mVar 2) (mVar 3)) mNil)) (mCall cReprS (mCons (mOp dEqA (mVar 4) (mC (.int 0))) mNil))))) (sRet (mC (.bl false))) sNext) (sRet (mAndV (mOp dEqA (mCall cReprS (mCons (mMeth 0 "more_than" m_Share_more_than [] (mVar 2) (mCons (mVar 3) mNil)) mNil)) (mCall cReprS (mCons (mOp dGt (mVar 4) (mC (.int 0))) mNil))) (mOp dEqA (mOp (dON 0 okE m_Share_eq dNeA) (mVar 2) (mVar 3)) (mOp dNeA (mVar 4) (mC (.int 0)))))))))
abbrev s_law : Stmt := top 11
abbrev N_law : List PySem.Str := ["_law_script", "_law_pot", "_law_turn", "_law_some", "_law_mine", "_law_k", "_law_few", "_law_around", "_law_yours"]
theorem sc_law : FnScope N_law ["_law_script"] (defScope s_law) := ⟨rfl, rfl, rfl, by decide +kernel, rfl, by decide +kernel, by decide +kernel⟩
def m_law : List D → Store → Res D := mDef 9 1 (sSeq (sAsg (mCall m__law_begin (mCons (mVar 0) mNil)) (gmName 1)) (sSeq (sForI (itRange1 (mCons (mOp dAdd (mC (.int 4)) (mCall cMin2 (mCons (mC (.int 20)) (mCons (mCall cLen (mCons (mVar 0) mNil)) mNil)))) mNil)) (gmName 2) (sSeq (sAsg (mLc (itRange1 (mCons (mC (.int 3)) mNil)) (gmName 5) bYes (mCall m__law_two (mCons (mVar 1) mNil)) [5]) (gmName 3)) (sSeq (sIf (bNot (bVal (mCall cAll (mCons (mLc (itSeq (mVar 3)) (gmTup 2 (gmCons (gmName 6) (gmCons (gmName 7) gmNil))) bYes (mCall m__law_right (mCons (mVar 6) (mCons (mVar 7) mNil))) [6, 7]) mNil)))) (sRet (mC (.bl false))) sNext) (sForI (itSeq (mVar 3)) (gmName 4) (sIf (bNot (bVal (mCall cAll (mCons (mLc (itSeq (mVar 3)) (gmName 8) bYes (mCall m__law_compared_right (mCons (mVar 4) (mCons (mVar 8) mNil))) [8]) mNil)))) (sRet (mC (.bl false))) sNext))))) (sRet (mC (.bl true)))))
abbrev vmro : List Value := [.type "ValueError", .type "Exception", .type "BaseException", .type "object"]
structure DefAt (K : PySem.W.Frag) (mg : PySem.Str → Option Value) (n : PySem.Str) (st : Stmt) (ps : List PySem.Str) (f : Addr) (fd : FuncData) : Prop where
  F : Fun K n n st f fd
  m : mg n = some (.ref f)
  b : Binds K fd ps []
structure DefM (K : PySem.W.Frag) (n q : PySem.Str) (st : Stmt) (ps : List PySem.Str) (f : Addr) (fd : FuncData) : Prop where
  F : Fun K n q st f fd
structure Tx (K : PySem.W.Frag) (P : Program) (mg : PySem.Str → Option Value) where
  Cs : List Addr
  a__law_begin : Addr
  fd__law_begin : FuncData
  d__law_begin : DefAt K mg "_law_begin" s__law_begin ["_law_script"] a__law_begin fd__law_begin
  a__law_take : Addr
  fd__law_take : FuncData
  d__law_take : DefAt K mg "_law_take" s__law_take ["_law_pot", "_law_width"] a__law_take fd__law_take
  a__law_of : Addr
  fd__law_of : FuncData
  d__law_of : DefAt K mg "_law_of" s__law_of ["_law_pot", "_law_some"] a__law_of fd__law_of
  a__law_two : Addr
  fd__law_two : FuncData
  d__law_two : DefAt K mg "_law_two" s__law_two ["_law_pot"] a__law_two fd__law_two
  a__law_common : Addr
  fd__law_common : FuncData
  d__law_common : DefAt K mg "_law_common" s__law_common ["_law_one", "_law_other"] a__law_common fd__law_common
  a__law_right : Addr
  fd__law_right : FuncData
  d__law_right : DefAt K mg "_law_right" s__law_right ["_law_few", "_law_around"] a__law_right fd__law_right
  a__law_compared_right : Addr
  fd__law_compared_right : FuncData
  d__law_compared_right : DefAt K mg "_law_compared_right" s__law_compared_right ["_law_mine", "_law_yours"] a__law_compared_right fd__law_compared_right
  a_law : Addr
  fd_law : FuncData
  d_law : DefAt K mg "law" s_law ["_law_script"] a_law fd_law
  cl_Share : ClsI K (Cs.getD 0 0)
  a_Share_init : Addr
  fd_Share_init : FuncData
  d_Share_init : DefM K "__init__" "Share.__init__" s_Share_init ["self", "part", "whole"] a_Share_init fd_Share_init
  b_Share_init : Binds K fd_Share_init ["self", "part", "whole"] []
  me_Share_init : Meth K (Cs.getD 0 0) "__init__" a_Share_init
  du_Share_init : Dun K (Cs.getD 0 0) "__init__" a_Share_init
  mk_Share : Mk K (Cs.getD 0 0) a_Share_init
  kb_Share : KBn K fd_Share_init ["self", "part", "whole"] 1 ["whole", "part"] (fun us ws => us ++ ws.reverse) (fun us ws => us ++ ws.reverse)
  a_Share_eq : Addr
  fd_Share_eq : FuncData
  d_Share_eq : DefM K "__eq__" "Share.__eq__" s_Share_eq ["self", "other"] a_Share_eq fd_Share_eq
  b_Share_eq : Binds K fd_Share_eq ["self", "other"] []
  me_Share_eq : Meth K (Cs.getD 0 0) "__eq__" a_Share_eq
  du_Share_eq : Dun K (Cs.getD 0 0) "__eq__" a_Share_eq
  a_Share_repr : Addr
  fd_Share_repr : FuncData
  d_Share_repr : DefM K "__repr__" "Share.__repr__" s_Share_repr ["self"] a_Share_repr fd_Share_repr
  b_Share_repr : Binds K fd_Share_repr ["self"] []
  me_Share_repr : Meth K (Cs.getD 0 0) "__repr__" a_Share_repr
  du_Share_repr : Dun K (Cs.getD 0 0) "__repr__" a_Share_repr
  a_Share_str : Addr
  fd_Share_str : FuncData
  d_Share_str : DefM K "__str__" "Share.__str__" s_Share_str ["self"] a_Share_str fd_Share_str
  b_Share_str : Binds K fd_Share_str ["self"] []
  me_Share_str : Meth K (Cs.getD 0 0) "__str__" a_Share_str
  du_Share_str : Dun K (Cs.getD 0 0) "__str__" a_Share_str
  a_Share_more_than : Addr
  fd_Share_more_than : FuncData
  d_Share_more_than : DefM K "more_than" "Share.more_than" s_Share_more_than ["self", "other"] a_Share_more_than fd_Share_more_than
  b_Share_more_than : Binds K fd_Share_more_than ["self", "other"] []
  me_Share_more_than : Meth K (Cs.getD 0 0) "more_than" a_Share_more_than
  du_Share_more_than : Dun K (Cs.getD 0 0) "more_than" a_Share_more_than
  ne_Share : PySem.W.findIn K (.ref (Cs.getD 0 0)) "__ne__" = some (some (.builtin "object.__ne__"))
  eq_Share : EqF ⟨K, fun i => Cs.getD i 0, []⟩ K 0 okE
  io_Share : (∀ k ∈ kinds, PySem.W.kitOne K (.type k) (.ref (Cs.getD 0 0)) = some false) ∧ ∀ c b, Lw.io_Share c = some b → ClsI K (Cs.getD c 0) ∧ PySem.W.kitOne K (.ref (Cs.getD c 0)) (.ref (Cs.getD 0 0)) = some b
  of_part : ∀ c, ok_of_part c = true → Cls K (Cs.getD c 0) ∧ NoAttr K (Cs.getD c 0) "part"
  of_whole : ∀ c, ok_of_whole c = true → Cls K (Cs.getD c 0) ∧ NoAttr K (Cs.getD c 0) "whole"
  bf_gcd : mg "gcd" = some (.builtin "math.gcd")
  c_Share : mg "Share" = some (.ref (Cs.getD 0 0))
  abs : mg "abs" = none
  all : mg "all" = none
  bool : mg "bool" = none
  enumerate : mg "enumerate" = none
  isinstance : mg "isinstance" = none
  len : mg "len" = none
  min : mg "min" = none
  range : mg "range" = none
  repr : mg "repr" = none
  str : mg "str" = none
def gOf {K : PySem.W.Frag} {P : Program} {mg : PySem.Str → Option Value} (T : Tx K P mg) : G := ⟨K, fun i => T.Cs.getD i 0, []⟩
section
variable {P : Program} {w : World} {K : PySem.W.Frag} {mg : PySem.Str → Option Value} {base : Heap}
theorem ok_Share_init (T : Tx K P mg) : FnOk P w K mg base (L2.CX P w) 1 T.a_Share_init T.fd_Share_init ["self", "part", "whole"] (spOf (gOf T) 3 m_Share_init) := by
  refine fn_sim (N := N_Share_init) T.d_Share_init.F sc_Share_init fun cdv A outer s H E hr => ?_
  have nd := sc_Share_init.nd
  refine ⟨_, (pss_cons (ps_set (i := 3) nd rfl (Or.inl rfl) (pe_callBfun cr_gcd (by rfl) T.bf_gcd (pa_cons (pv 1) (pa_cons (pv 2) pa_nil)))) (pss_cons (ps_fld (pv 0) (pe_op op_fdivW (pv 1) (pv 3)) rfl) (pss_one (ps_fld (pv 0) (pe_op op_fdivW (pv 2) (pv 3)) rfl)))), ?_⟩
  exact (sims_seq (sims_asg (sim_cb sim_gcd (sim_cons (sim_var 1) (sim_cons (sim_var 2) sim_nil))) (simg_name 3)) (sims_seq (sims_fld (c := 0) T.cl_Share.cl (T.of_part 0 rfl).2 (sim_var 0) (sim_op sim_div (sim_var 1) (sim_var 3))) (sims_fld (c := 0) T.cl_Share.cl (T.of_whole 0 rfl).2 (sim_var 0) (sim_op sim_div (sim_var 2) (sim_var 3)))))
theorem ok_Share_eq (T : Tx K P mg) : FnOk P w K mg base (L2.CX P w) 1 T.a_Share_eq T.fd_Share_eq ["self", "other"] (spOf (gOf T) 2 m_Share_eq) := by
  refine fn_sim (N := N_Share_eq) T.d_Share_eq.F sc_Share_eq fun cdv A outer s H E hr => ?_
  have nd := sc_Share_eq.nd
  refine ⟨_, (pss_one (ps_ret (pe_and (pe_callB call_isi (by rfl) T.isinstance (by decide +kernel) (pa_cons (pv 1) (pa_cons (pe_glob (v := .ref (T.Cs.getD 0 0)) (by rfl) T.c_Share rfl) pa_nil))) (pe_and (pe_cmpR (op_eqA hr.units) (pe_fld (pv 0) rfl) (pe_fld (pv 1) rfl) (nomark _)) (pe_one (pe_cmpR (op_eqA hr.units) (pe_fld (pv 0) rfl) (pe_fld (pv 1) rfl) (nomark _))))))), ?_⟩
  exact (sims_ret (sim_and (sim_isO T.io_Share.1 T.io_Share.2 (sim_var 1)) (sim_and (sim_op sim_eqA (sim_fldO T.of_part (sim_var 0)) (sim_fldO T.of_part (sim_var 1))) (sim_op sim_eqA (sim_fldO T.of_whole (sim_var 0)) (sim_fldO T.of_whole (sim_var 1))))))
theorem ok_Share_repr (T : Tx K P mg) : FnOk P w K mg base (L2.CX P w) 1 T.a_Share_repr T.fd_Share_repr ["self"] (spOf (gOf T) 1 m_Share_repr) := by
  refine fn_sim (N := N_Share_repr) T.d_Share_repr.F sc_Share_repr fun cdv A outer s H E hr => ?_
  have nd := sc_Share_repr.nd
  refine ⟨_, (pss_one (ps_ret (pe_joined (.cons pe_str (.cons (pe_fmt (pe_fld (pv 0) rfl)) (.cons pe_str (.cons (pe_fmt (pe_fld (pv 0) rfl)) (.cons pe_str .nil)))))))), ?_⟩
  exact (sims_ret (sim_joined (.cons (sim_c fun _ _ _ => .str _) (.cons (sim_fmt (sim_fldO T.of_part (sim_var 0))) (.cons (sim_c fun _ _ _ => .str _) (.cons (sim_fmt (sim_fldO T.of_whole (sim_var 0))) (.cons (sim_c fun _ _ _ => .str _) .nil)))))))
theorem ok_Share_str (T : Tx K P mg) : FnOk P w K mg base (L2.CX P w) 1 T.a_Share_str T.fd_Share_str ["self"] (spOf (gOf T) 1 m_Share_str) := by
  refine fn_sim (N := N_Share_str) T.d_Share_str.F sc_Share_str fun cdv A outer s H E hr => ?_
  have nd := sc_Share_str.nd
  refine ⟨_, (pss_one (ps_ret (pe_joined (.cons (pe_fmt (pe_fld (pv 0) rfl)) (.cons pe_str (.cons (pe_fmt (pe_fld (pv 0) rfl)) .nil)))))), ?_⟩
  exact (sims_ret (sim_joined (.cons (sim_fmt (sim_fldO T.of_part (sim_var 0))) (.cons (sim_c fun _ _ _ => .str _) (.cons (sim_fmt (sim_fldO T.of_whole (sim_var 0))) .nil)))))
theorem ok_Share_more_than (T : Tx K P mg) : FnOk P w K mg base (L2.CX P w) 1 T.a_Share_more_than T.fd_Share_more_than ["self", "other"] (spOf (gOf T) 2 m_Share_more_than) := by
  refine fn_sim (N := N_Share_more_than) T.d_Share_more_than.F sc_Share_more_than fun cdv A outer s H E hr => ?_
  have nd := sc_Share_more_than.nd
  refine ⟨_, (pss_one (ps_ret (pe_cmpR op_gt (pe_op op_mulW (pe_fld (pv 0) rfl) (pe_fld (pv 1) rfl)) (pe_op op_mulW (pe_fld (pv 1) rfl) (pe_fld (pv 0) rfl)) (nomark _)))), ?_⟩
  exact (sims_ret (sim_op sim_gt (sim_op sim_mul (sim_fldO T.of_part (sim_var 0)) (sim_fldO T.of_whole (sim_var 1))) (sim_op sim_mul (sim_fldO T.of_part (sim_var 1)) (sim_fldO T.of_whole (sim_var 0)))))
theorem ok__law_begin (T : Tx K P mg) : FnOk P w K mg base (L2.CX P w) 1 T.a__law_begin T.fd__law_begin ["_law_script"] (spOf (gOf T) 1 m__law_begin) := by
  refine fn_sim (N := N__law_begin) T.d__law_begin.F sc__law_begin fun cdv A outer s H E hr => ?_
  have nd := sc__law_begin.nd
  refine ⟨_, (pss_cons (ps_par (i := 1) (j := 2) rfl nd rfl rfl (by decide) rfl rfl (pa_cons (pe_op op_addA (pe_callB call_len (by rfl) T.len PySem.boot_len (pa_cons (pv 0) pa_nil)) pe_int) (pa_cons (pe_lst pa_nil) pa_nil)) rfl) (pss_cons (ps_for (passes_of rfl) rfl (pi_enum rfl T.enumerate (pa_cons (pe_slice sl_all (pv 0) po_none (po_some pe_int)) pa_nil)) (pg_tup rfl (pgs_cons (pg_name (i := 3) nd rfl (Or.inl rfl)) (pgs_cons (pg_name (i := 4) nd rfl (Or.inl rfl)) pgs_nil))) (pss_cons (ps_set (i := 1) nd rfl (Or.inl rfl) (pe_op op_mod (pe_op op_addA (pe_op op_addA (pe_op op_mulW (pv 1) pe_int) (pe_op op_mod (pv 4) (pe_op op_pow pe_int pe_int))) (pe_op op_mulW pe_int (pv 3))) pe_int)) (pss_one (ps_if (pt_cmpR op_ge (pe_callB call_abs (by rfl) T.abs (by decide +kernel) (pa_cons (pv 4) pa_nil)) (pe_op op_pow pe_int pe_int) (nomark _)) (pss_one (ps_expr (pe_bm PySem.F.plainAttrs_list PySem.F.slot_list_append PySem.F.type_list_append mt_append (pv 2) (pa_cons (pe_op op_mod (pe_callB call_abs (by rfl) T.abs (by decide +kernel) (pa_cons (pv 4) pa_nil)) (pe_op op_mulW (pe_op op_pow pe_int pe_int) (pe_op op_pow pe_int pe_int))) pa_nil)))) pss_nil)))) (pss_one (ps_ret (pe_lst (pa_cons (pv 2) (pa_cons (pv 1) (pa_cons pe_int pa_nil)))))))), ?_⟩
  exact (sims_seq (sims_par (sim_cons (sim_op sim_add (sim_cb sim_len (sim_cons (sim_var 0) sim_nil)) (sim_c fun _ _ _ => .int _)) (sim_cons (sim_lstL sim_nil) sim_nil))) (sims_seq (sims_for (simi_enum (sim_cons (sim_slice (sim_var 0) simo_none (simo_some (sim_c fun _ _ _ => .int _))) sim_nil)) (simg_tup (simg_cons (simg_name 3) (simg_cons (simg_name 4) simg_nil))) (sims_seq (sims_asg (sim_op sim_mod (sim_op sim_add (sim_op sim_add (sim_op sim_mul (sim_var 1) (sim_c fun _ _ _ => .int _)) (sim_op sim_mod (sim_var 4) (sim_op sim_pow (sim_c fun _ _ _ => .int _) (sim_c fun _ _ _ => .int _)))) (sim_op sim_mul (sim_c fun _ _ _ => .int _) (sim_var 3))) (sim_c fun _ _ _ => .int _)) (simg_name 1)) (sims_if (simt_test (sim_op sim_ge (sim_cb sim_abs (sim_cons (sim_var 4) sim_nil)) (sim_op sim_pow (sim_c fun _ _ _ => .int _) (sim_c fun _ _ _ => .int _)))) (sims_drop (sim_bm sim_append (sim_var 2) (sim_cons (sim_op sim_mod (sim_cb sim_abs (sim_cons (sim_var 4) sim_nil)) (sim_op sim_mul (sim_op sim_pow (sim_c fun _ _ _ => .int _) (sim_c fun _ _ _ => .int _)) (sim_op sim_pow (sim_c fun _ _ _ => .int _) (sim_c fun _ _ _ => .int _)))) sim_nil))) sims_next))) (sims_ret (sim_lstL (sim_cons (sim_var 2) (sim_cons (sim_var 1) (sim_cons (sim_c fun _ _ _ => .int _) sim_nil)))))))
theorem ok__law_take (T : Tx K P mg) : FnOk P w K mg base (L2.CX P w) 1 T.a__law_take T.fd__law_take ["_law_pot", "_law_width"] (spOf (gOf T) 2 m__law_take) := by
  refine fn_sim (N := N__law_take) T.d__law_take.F sc__law_take fun cdv A outer s H E hr => ?_
  have nd := sc__law_take.nd
  refine ⟨_, (pss_cons (ps_while (passes_of rfl) (PW.pt (pw_and (pt_cmpR (op_neA hr.units) (pe_ix ix_seq (pv 0) pe_int (fun _ _ => rfl)) (pe_lst pa_nil) (nomark _)) (pw_and1 (pt_cmpR (op_eqA hr.units) (pe_ix ix_seq (pe_ix ix_seq (pv 0) pe_int (fun _ _ => rfl)) pe_int (fun _ _ => rfl)) pe_int (nomark _))))) (pss_one (ps_expr (pe_bm PySem.F.plainAttrs_list PySem.F.slot_list_pop PySem.F.type_list_pop mt_popAt (pe_ix ix_seq (pv 0) pe_int (fun _ _ => rfl)) (pa_cons pe_int pa_nil))))) (pss_cons (ps_if (pt_cmpR (op_neA hr.units) (pe_ix ix_seq (pv 0) pe_int (fun _ _ => rfl)) (pe_lst pa_nil) (nomark _)) (pss_cons (ps_set (i := 2) nd rfl (Or.inl rfl) (pe_op op_mod (pe_ix ix_seq (pe_ix ix_seq (pv 0) pe_int (fun _ _ => rfl)) pe_int (fun _ _ => rfl)) (pv 1))) (pss_cons (ps_asg (pe_op op_fdivW (pe_ix ix_seq (pe_ix ix_seq (pv 0) pe_int (fun _ _ => rfl)) pe_int (fun _ _ => rfl)) (pv 1)) (pg_sub (pe_ix ix_seq (pv 0) pe_int (fun _ _ => rfl)) pe_int set_list)) (pss_one (ps_ret (pv 2))))) pss_nil) (pss_cons (ps_asg (pe_op op_addA (pe_ix ix_seq (pv 0) pe_int (fun _ _ => rfl)) pe_int) (pg_sub (pv 0) pe_int set_list)) (pss_cons (ps_set (i := 3) nd rfl (Or.inl rfl) (pe_op op_mod (pe_op op_mulW (pe_op op_addA (pe_op op_addA (pe_ix ix_seq (pv 0) pe_int (fun _ _ => rfl)) (pe_op op_mulW (pe_op op_mulW pe_int (pe_ix ix_seq (pv 0) pe_int (fun _ _ => rfl))) (pe_ix ix_seq (pv 0) pe_int (fun _ _ => rfl)))) pe_int) pe_int) pe_int)) (pss_cons (ps_set (i := 3) nd rfl (Or.inl rfl) (pe_op op_mod (pe_op op_mulW (pv 3) (pe_op op_addA (pe_op op_mod (pv 3) pe_int) (pe_op op_mulW pe_int (pe_ix ix_seq (pv 0) pe_int (fun _ _ => rfl))))) pe_int)) (pss_one (ps_ret (pe_op op_mod (pe_op op_addA (pe_op op_fdivW (pv 3) pe_int) (pe_op op_fdivW (pv 3) pe_int)) (pv 1))))))))), ?_⟩
  exact (sims_seq (sims_while 2000 (simt_and (simt_test (sim_op sim_neA (sim_op sim_ix (sim_var 0) (sim_c fun _ _ _ => .int _)) (sim_lst sim_nil))) (simt_test (sim_op sim_eqA (sim_op sim_ix (sim_op sim_ix (sim_var 0) (sim_c fun _ _ _ => .int _)) (sim_c fun _ _ _ => .int _)) (sim_c fun _ _ _ => .int _)))) (sims_drop (sim_bm sim_popAt (sim_op sim_ix (sim_var 0) (sim_c fun _ _ _ => .int _)) (sim_cons (sim_c fun _ _ _ => .int _) sim_nil)))) (sims_seq (sims_if (simt_test (sim_op sim_neA (sim_op sim_ix (sim_var 0) (sim_c fun _ _ _ => .int _)) (sim_lst sim_nil))) (sims_seq (sims_asg (sim_op sim_mod (sim_op sim_ix (sim_op sim_ix (sim_var 0) (sim_c fun _ _ _ => .int _)) (sim_c fun _ _ _ => .int _)) (sim_var 1)) (simg_name 2)) (sims_seq (sims_asg (sim_op sim_div (sim_op sim_ix (sim_op sim_ix (sim_var 0) (sim_c fun _ _ _ => .int _)) (sim_c fun _ _ _ => .int _)) (sim_var 1)) (simg_sub (sim_op sim_ix (sim_var 0) (sim_c fun _ _ _ => .int _)) (sim_c fun _ _ _ => .int _) sim_set)) (sims_ret (sim_var 2)))) sims_next) (sims_seq (sims_asg (sim_op sim_add (sim_op sim_ix (sim_var 0) (sim_c fun _ _ _ => .int _)) (sim_c fun _ _ _ => .int _)) (simg_sub (sim_var 0) (sim_c fun _ _ _ => .int _) sim_set)) (sims_seq (sims_asg (sim_op sim_mod (sim_op sim_mul (sim_op sim_add (sim_op sim_add (sim_op sim_ix (sim_var 0) (sim_c fun _ _ _ => .int _)) (sim_op sim_mul (sim_op sim_mul (sim_c fun _ _ _ => .int _) (sim_op sim_ix (sim_var 0) (sim_c fun _ _ _ => .int _))) (sim_op sim_ix (sim_var 0) (sim_c fun _ _ _ => .int _)))) (sim_c fun _ _ _ => .int _)) (sim_c fun _ _ _ => .int _)) (sim_c fun _ _ _ => .int _)) (simg_name 3)) (sims_seq (sims_asg (sim_op sim_mod (sim_op sim_mul (sim_var 3) (sim_op sim_add (sim_op sim_mod (sim_var 3) (sim_c fun _ _ _ => .int _)) (sim_op sim_mul (sim_c fun _ _ _ => .int _) (sim_op sim_ix (sim_var 0) (sim_c fun _ _ _ => .int _))))) (sim_c fun _ _ _ => .int _)) (simg_name 3)) (sims_ret (sim_op sim_mod (sim_op sim_add (sim_op sim_div (sim_var 3) (sim_c fun _ _ _ => .int _)) (sim_op sim_div (sim_var 3) (sim_c fun _ _ _ => .int _))) (sim_var 1))))))))
theorem ok__law_of (T : Tx K P mg) : FnOk P w K mg base (L2.CX P w) 2 T.a__law_of T.fd__law_of ["_law_pot", "_law_some"] (spOf (gOf T) 2 m__law_of) := by
  have G__law_take := ok__law_take (w := w) (base := base) T
  refine fn_sim (N := N__law_of) T.d__law_of.F sc__law_of fun cdv A outer s H E hr => ?_
  have nd := sc__law_of.nd
  refine ⟨_, (pss_one (ps_ret (pe_ix ix_seq (pv 1) (pe_call G__law_take (hr.mono (by decide)) rfl T.d__law_take.m T.d__law_take.F.kp T.d__law_take.b .nil pD (pa_cons (pv 0) (pa_cons (pe_callB call_len (by rfl) T.len PySem.boot_len (pa_cons (pv 1) pa_nil)) pa_nil))) (fun _ _ => rfl)))), ?_⟩
  exact (sims_ret (sim_op sim_ix (sim_var 1) (sim_call ar_def (sim_cons (sim_var 0) (sim_cons (sim_cb sim_len (sim_cons (sim_var 1) sim_nil)) sim_nil)))))
theorem ok__law_two (T : Tx K P mg) : FnOk P w K mg base (L2.CX P w) 3 T.a__law_two T.fd__law_two ["_law_pot"] (spOf (gOf T) 1 m__law_two) := by
  have G__law_of := ok__law_of (w := w) (base := base) T
  have G__law_take := ok__law_take (w := w) (base := base) T
  refine fn_sim (N := N__law_two) T.d__law_two.F sc__law_two fun cdv A outer s H E hr => ?_
  have nd := sc__law_two.nd
  refine ⟨_, (pss_cons (ps_set (i := 1) nd rfl (Or.inl rfl) (pe_call G__law_of (hr.mono (by decide)) rfl T.d__law_of.m T.d__law_of.F.kp T.d__law_of.b .nil pD (pa_cons (pv 0) (pa_cons (pe_lst (pa_cons pe_int (pa_cons pe_int (pa_cons pe_int (pa_cons pe_int (pa_cons pe_int (pa_cons (pe_op op_addA (pe_op op_pow pe_int pe_int) pe_int) (pa_cons (pe_op op_addA pe_int (pe_call G__law_take (hr.mono (by decide)) rfl T.d__law_take.m T.d__law_take.F.kp T.d__law_take.b .nil pD (pa_cons (pv 0) (pa_cons (pe_op op_pow pe_int pe_int) pa_nil)))) pa_nil)))))))) pa_nil)))) (pss_cons (ps_set (i := 2) nd rfl (Or.inl rfl) (pe_call G__law_of (hr.mono (by decide)) rfl T.d__law_of.m T.d__law_of.F.kp T.d__law_of.b .nil pD (pa_cons (pv 0) (pa_cons (pe_lst (pa_cons pe_int (pa_cons pe_int (pa_cons pe_int (pa_cons pe_int (pa_cons pe_int (pa_cons (pe_op op_sub (pe_op op_pow pe_int pe_int) pe_int) (pa_cons (pe_op op_addA pe_int (pe_call G__law_take (hr.mono (by decide)) rfl T.d__law_take.m T.d__law_take.F.kp T.d__law_take.b .nil pD (pa_cons (pv 0) (pa_cons (pe_op op_pow pe_int pe_int) pa_nil)))) pa_nil)))))))) pa_nil)))) (pss_cons (ps_set (i := 3) nd rfl (Or.inl rfl) (pe_call G__law_of (hr.mono (by decide)) rfl T.d__law_of.m T.d__law_of.F.kp T.d__law_of.b .nil pD (pa_cons (pv 0) (pa_cons (pe_lst (pa_cons pe_int (pa_cons pe_int (pa_cons (pv 2) (pa_cons (pe_op op_sub (pv 2) pe_int) (pa_cons (pe_op op_fdivW (pv 2) pe_int) (pa_cons (pe_call G__law_take (hr.mono (by decide)) rfl T.d__law_take.m T.d__law_take.F.kp T.d__law_take.b .nil pD (pa_cons (pv 0) (pa_cons (pe_op op_addA (pv 2) pe_int) pa_nil))) (pa_cons (pe_call G__law_take (hr.mono (by decide)) rfl T.d__law_take.m T.d__law_take.F.kp T.d__law_take.b .nil pD (pa_cons (pv 0) (pa_cons (pe_op op_addA (pv 2) pe_int) pa_nil))) pa_nil)))))))) pa_nil)))) (pss_one (ps_ret (pe_tup (pa_cons (pe_op op_mulW (pe_callB (call_min2 rfl) (by rfl) T.min (by decide +kernel) (pa_cons (pv 3) (pa_cons (pv 2) pa_nil))) (pv 1)) (pa_cons (pe_op op_mulW (pv 2) (pv 1)) pa_nil)))))))), ?_⟩
  exact (sims_seq (sims_asg (sim_call ar_def (sim_cons (sim_var 0) (sim_cons (sim_lst (sim_cons (sim_c fun _ _ _ => .int _) (sim_cons (sim_c fun _ _ _ => .int _) (sim_cons (sim_c fun _ _ _ => .int _) (sim_cons (sim_c fun _ _ _ => .int _) (sim_cons (sim_c fun _ _ _ => .int _) (sim_cons (sim_op sim_add (sim_op sim_pow (sim_c fun _ _ _ => .int _) (sim_c fun _ _ _ => .int _)) (sim_c fun _ _ _ => .int _)) (sim_cons (sim_op sim_add (sim_c fun _ _ _ => .int _) (sim_call ar_def (sim_cons (sim_var 0) (sim_cons (sim_op sim_pow (sim_c fun _ _ _ => .int _) (sim_c fun _ _ _ => .int _)) sim_nil)))) sim_nil)))))))) sim_nil))) (simg_name 1)) (sims_seq (sims_asg (sim_call ar_def (sim_cons (sim_var 0) (sim_cons (sim_lst (sim_cons (sim_c fun _ _ _ => .int _) (sim_cons (sim_c fun _ _ _ => .int _) (sim_cons (sim_c fun _ _ _ => .int _) (sim_cons (sim_c fun _ _ _ => .int _) (sim_cons (sim_c fun _ _ _ => .int _) (sim_cons (sim_op sim_sub (sim_op sim_pow (sim_c fun _ _ _ => .int _) (sim_c fun _ _ _ => .int _)) (sim_c fun _ _ _ => .int _)) (sim_cons (sim_op sim_add (sim_c fun _ _ _ => .int _) (sim_call ar_def (sim_cons (sim_var 0) (sim_cons (sim_op sim_pow (sim_c fun _ _ _ => .int _) (sim_c fun _ _ _ => .int _)) sim_nil)))) sim_nil)))))))) sim_nil))) (simg_name 2)) (sims_seq (sims_asg (sim_call ar_def (sim_cons (sim_var 0) (sim_cons (sim_lst (sim_cons (sim_c fun _ _ _ => .int _) (sim_cons (sim_c fun _ _ _ => .int _) (sim_cons (sim_var 2) (sim_cons (sim_op sim_sub (sim_var 2) (sim_c fun _ _ _ => .int _)) (sim_cons (sim_op sim_div (sim_var 2) (sim_c fun _ _ _ => .int _)) (sim_cons (sim_call ar_def (sim_cons (sim_var 0) (sim_cons (sim_op sim_add (sim_var 2) (sim_c fun _ _ _ => .int _)) sim_nil))) (sim_cons (sim_call ar_def (sim_cons (sim_var 0) (sim_cons (sim_op sim_add (sim_var 2) (sim_c fun _ _ _ => .int _)) sim_nil))) sim_nil)))))))) sim_nil))) (simg_name 3)) (sims_ret (sim_tup (sim_cons (sim_op sim_mul (sim_cb sim_min2 (sim_cons (sim_var 3) (sim_cons (sim_var 2) sim_nil))) (sim_var 1)) (sim_cons (sim_op sim_mul (sim_var 2) (sim_var 1)) sim_nil)))))))
theorem ok__law_common (T : Tx K P mg) : FnOk P w K mg base (L2.CX P w) 1 T.a__law_common T.fd__law_common ["_law_one", "_law_other"] (spOf (gOf T) 2 m__law_common) := by
  refine fn_sim (N := N__law_common) T.d__law_common.F sc__law_common fun cdv A outer s H E hr => ?_
  have nd := sc__law_common.nd
  refine ⟨_, (pss_cons (ps_while (passes_of rfl) (pt_cmpR (op_neA hr.units) (pv 1) pe_int (nomark _)) (pss_one (ps_par (i := 0) (j := 1) rfl nd rfl rfl (by decide) rfl rfl (pa_cons (pv 1) (pa_cons (pe_op op_mod (pv 0) (pv 1)) pa_nil)) rfl))) (pss_one (ps_ret (pv 0)))), ?_⟩
  exact (sims_seq (sims_while 2000 (simt_test (sim_op sim_neA (sim_var 1) (sim_c fun _ _ _ => .int _))) (sims_par (sim_cons (sim_var 1) (sim_cons (sim_op sim_mod (sim_var 0) (sim_var 1)) sim_nil)))) (sims_ret (sim_var 0)))
theorem ok__law_right (T : Tx K P mg) : FnOk P w K mg base (L2.CX P w) 4 T.a__law_right T.fd__law_right ["_law_few", "_law_around"] (spOf (gOf T) 2 m__law_right) := by
  have G_Share_init := ok_Share_init (w := w) (base := base) T
  have G__law_common := ok__law_common (w := w) (base := base) T
  have G_Share_str := ok_Share_str (w := w) (base := base) T
  have G_Share_eq := ok_Share_eq (w := w) (base := base) T
  have G_Share_repr := ok_Share_repr (w := w) (base := base) T
  refine fn_sim (N := N__law_right) T.d__law_right.F sc__law_right fun cdv A outer s H E hr => ?_
  have nd := sc__law_right.nd
  refine ⟨_, (pss_cons (ps_set (i := 2) nd rfl (Or.inl rfl) (pe_make T.mk_Share G_Share_init (hr.mono (by decide)) (by rfl) T.c_Share T.b_Share_init .nil pD (pa_cons (pv 0) (pa_cons (pv 1) pa_nil)))) (pss_cons (ps_if (PW.pt (pw_or (pt_cmpR (op_neA hr.units) (pe_op op_mulW (pe_fld (pv 2) rfl) (pv 1)) (pe_op op_mulW (pv 0) (pe_fld (pv 2) rfl)) (nomark _)) (pw_or (pt_cmpR (op_neA hr.units) (pe_call G__law_common (hr.mono (by decide)) rfl T.d__law_common.m T.d__law_common.F.kp T.d__law_common.b .nil pD (pa_cons (pe_fld (pv 2) rfl) (pa_cons (pe_fld (pv 2) rfl) pa_nil))) pe_int (nomark _)) (pw_or1 (pt_cmpR (op_ltA hr.units) (pe_fld (pv 2) rfl) pe_int (nomark _)))))) (pss_one (ps_ret pe_bl)) pss_nil) (pss_cons (ps_if (PW.pt (pw_and (pt_cmpR (op_eqA hr.units) (pv 0) pe_int (nomark _)) (pw_and1 (pt_cmpR (op_neA hr.units) (pe_tup (pa_cons (pe_fld (pv 2) rfl) (pa_cons (pe_fld (pv 2) rfl) pa_nil))) (pe_tup (pa_cons pe_int (pa_cons pe_int pa_nil))) (nomark _))))) (pss_one (ps_ret pe_bl)) pss_nil) (pss_cons (ps_if (PW.pt (pw_or (pt_val (pe_callB call_isi (by rfl) T.isinstance (by decide +kernel) (pa_cons (pe_fld (pv 2) rfl) (pa_cons (pe_bltn (v := .ty "bool") (by rfl) T.bool (by decide +kernel) rfl) pa_nil)))) (pw_or1 (pt_val (pe_callB call_isi (by rfl) T.isinstance (by decide +kernel) (pa_cons (pe_fld (pv 2) rfl) (pa_cons (pe_bltn (v := .ty "bool") (by rfl) T.bool (by decide +kernel) rfl) pa_nil))))))) (pss_one (ps_ret pe_bl)) pss_nil) (pss_cons (ps_if (PW.pt (pw_or (pt_cmpR (op_neA hr.units) (pe_callTy ((call_oStr (G_Share_str.raw T.b_Share_str .nil) T.du_Share_str (hr.mono (by decide)) pD).or call_str) (by rfl) T.str (by decide +kernel) (pa_cons (pv 2) pa_nil)) (pe_op op_addA (pe_op op_addA (pe_callTy call_str (by rfl) T.str (by decide +kernel) (pa_cons (pe_fld (pv 2) rfl) pa_nil)) pe_str) (pe_callTy call_str (by rfl) T.str (by decide +kernel) (pa_cons (pe_fld (pv 2) rfl) pa_nil))) (nomark _)) (pw_or (pt_cmpR ((op_oe (G_Share_eq.raw T.b_Share_eq .nil) T.du_Share_eq (hr.mono (by decide)) pD).or (op_eqA hr.units)) (pv 2) (pe_tup (pa_cons (pe_fld (pv 2) rfl) (pa_cons (pe_fld (pv 2) rfl) pa_nil))) (nomark _)) (pw_or1 (pt_cmpR ((op_oe (G_Share_eq.raw T.b_Share_eq .nil) T.du_Share_eq (hr.mono (by decide)) pD).or (op_eqA hr.units)) (pv 2) (pe_callTy ((call_oStr (G_Share_str.raw T.b_Share_str .nil) T.du_Share_str (hr.mono (by decide)) pD).or call_str) (by rfl) T.str (by decide +kernel) (pa_cons (pv 2) pa_nil)) (nomark _)))))) (pss_one (ps_ret pe_bl)) pss_nil) (pss_cons (ps_if (pt_cmpR (op_neA hr.units) (pe_callB ((call_oRepr (G_Share_repr.raw T.b_Share_repr .nil) T.du_Share_repr (hr.mono (by decide)) pD).or call_reprS) (by rfl) T.repr (by decide +kernel) (pa_cons (pv 2) pa_nil)) (pe_op op_addA (pe_op op_addA (pe_op op_addA (pe_op op_addA pe_str (pe_callTy call_str (by rfl) T.str (by decide +kernel) (pa_cons (pe_fld (pv 2) rfl) pa_nil))) pe_str) (pe_callTy call_str (by rfl) T.str (by decide +kernel) (pa_cons (pe_fld (pv 2) rfl) pa_nil))) pe_str) (nomark _)) (pss_one (ps_ret pe_bl)) pss_nil) (pss_one (ps_ret (pe_cmpR ((op_oe (G_Share_eq.raw T.b_Share_eq .nil) T.du_Share_eq (hr.mono (by decide)) pD).or (op_eqA hr.units)) (pv 2) (pe_makeK0 T.mk_Share G_Share_init (hr.mono (by decide)) (by rfl) T.c_Share T.kb_Share pD (pk_cons (pv 1) (pk_cons (pv 0) pk_nil))) (nomark _)))))))))), ?_⟩
  exact (sims_seq (sims_asg (sim_make (c := 0) ar_def (fun _ _ _ => .nil) (sim_cons (sim_var 0) (sim_cons (sim_var 1) sim_nil))) (simg_name 2)) (sims_seq (sims_if (simt_or (simt_test (sim_op sim_neA (sim_op sim_mul (sim_fldO T.of_part (sim_var 2)) (sim_var 1)) (sim_op sim_mul (sim_var 0) (sim_fldO T.of_whole (sim_var 2))))) (simt_or (simt_test (sim_op sim_neA (sim_call ar_def (sim_cons (sim_fldO T.of_whole (sim_var 2)) (sim_cons (sim_fldO T.of_part (sim_var 2)) sim_nil))) (sim_c fun _ _ _ => .int _))) (simt_test (sim_op sim_ltA (sim_fldO T.of_whole (sim_var 2)) (sim_c fun _ _ _ => .int _))))) (sims_ret (sim_c fun _ _ _ => .bl _)) sims_next) (sims_seq (sims_if (simt_and (simt_test (sim_op sim_eqA (sim_var 0) (sim_c fun _ _ _ => .int _))) (simt_test (sim_op sim_neA (sim_tup (sim_cons (sim_fldO T.of_part (sim_var 2)) (sim_cons (sim_fldO T.of_whole (sim_var 2)) sim_nil))) (sim_tup (sim_cons (sim_c fun _ _ _ => .int _) (sim_cons (sim_c fun _ _ _ => .int _) sim_nil)))))) (sims_ret (sim_c fun _ _ _ => .bl _)) sims_next) (sims_seq (sims_if (simt_or (simt_tB (sim_isi (sim_fldO T.of_part (sim_var 2)))) (simt_tB (sim_isi (sim_fldO T.of_whole (sim_var 2))))) (sims_ret (sim_c fun _ _ _ => .bl _)) sims_next) (sims_seq (sims_if (simt_or (simt_test (sim_op sim_neA (sim_cb (sim_o1 (c := 0) ar_def want_str sim_str) (sim_cons (sim_var 2) sim_nil)) (sim_op sim_add (sim_op sim_add (sim_cb sim_str (sim_cons (sim_fldO T.of_part (sim_var 2)) sim_nil)) (sim_c fun _ _ _ => .str _)) (sim_cb sim_str (sim_cons (sim_fldO T.of_whole (sim_var 2)) sim_nil))))) (simt_or (simt_test (sim_op (sim_oe (c := 0) ar_def T.eq_Share sim_eqA) (sim_var 2) (sim_tup (sim_cons (sim_fldO T.of_part (sim_var 2)) (sim_cons (sim_fldO T.of_whole (sim_var 2)) sim_nil))))) (simt_test (sim_op (sim_oe (c := 0) ar_def T.eq_Share sim_eqA) (sim_var 2) (sim_cb (sim_o1 (c := 0) ar_def want_str sim_str) (sim_cons (sim_var 2) sim_nil)))))) (sims_ret (sim_c fun _ _ _ => .bl _)) sims_next) (sims_seq (sims_if (simt_test (sim_op sim_neA (sim_cb (sim_o1 (c := 0) ar_def want_str sim_reprS) (sim_cons (sim_var 2) sim_nil)) (sim_op sim_add (sim_op sim_add (sim_op sim_add (sim_op sim_add (sim_c fun _ _ _ => .str _) (sim_cb sim_str (sim_cons (sim_fldO T.of_part (sim_var 2)) sim_nil))) (sim_c fun _ _ _ => .str _)) (sim_cb sim_str (sim_cons (sim_fldO T.of_whole (sim_var 2)) sim_nil))) (sim_c fun _ _ _ => .str _)))) (sims_ret (sim_c fun _ _ _ => .bl _)) sims_next) (sims_ret (sim_op (sim_oe (c := 0) ar_def T.eq_Share sim_eqA) (sim_var 2) (sim_makeK (c := 0) ar_def (fun a b => RDs.append a (RDs.reverse b)) (sim_cons (sim_var 1) (sim_cons (sim_var 0) sim_nil)))))))))))
theorem ok__law_compared_right (T : Tx K P mg) : FnOk P w K mg base (L2.CX P w) 3 T.a__law_compared_right T.fd__law_compared_right ["_law_mine", "_law_yours"] (spOf (gOf T) 2 m__law_compared_right) := by
  have G_Share_init := ok_Share_init (w := w) (base := base) T
  have G_Share_more_than := ok_Share_more_than (w := w) (base := base) T
  have G_Share_eq := ok_Share_eq (w := w) (base := base) T
  refine fn_sim (N := N__law_compared_right) T.d__law_compared_right.F sc__law_compared_right fun cdv A outer s H E hr => ?_
  have nd := sc__law_compared_right.nd
  refine ⟨_, (pss_cons (ps_par (i := 2) (j := 3) rfl nd rfl rfl (by decide) rfl rfl (pa_cons (pe_make T.mk_Share G_Share_init (hr.mono (by decide)) (by rfl) T.c_Share T.b_Share_init .nil pD (pa_cons (pe_ix ix_seq (pv 0) pe_int (fun _ _ => rfl)) (pa_cons (pe_ix ix_seq (pv 0) pe_int (fun _ _ => rfl)) pa_nil))) (pa_cons (pe_make T.mk_Share G_Share_init (hr.mono (by decide)) (by rfl) T.c_Share T.b_Share_init .nil pD (pa_cons (pe_ix ix_seq (pv 1) pe_int (fun _ _ => rfl)) (pa_cons (pe_ix ix_seq (pv 1) pe_int (fun _ _ => rfl)) pa_nil))) pa_nil)) rfl) (pss_cons (ps_set (i := 4) nd rfl (Or.inl rfl) (pe_op op_sub (pe_op op_mulW (pe_ix ix_seq (pv 0) pe_int (fun _ _ => rfl)) (pe_ix ix_seq (pv 1) pe_int (fun _ _ => rfl))) (pe_op op_mulW (pe_ix ix_seq (pv 1) pe_int (fun _ _ => rfl)) (pe_ix ix_seq (pv 0) pe_int (fun _ _ => rfl))))) (pss_cons (ps_if (PW.pt (pw_or (pt_cmpR (op_neA hr.units) (pe_callB call_reprS (by rfl) T.repr (by decide +kernel) (pa_cons (pe_meth (pv 2) T.cl_Share.cl T.me_Share_more_than G_Share_more_than (hr.mono (by decide)) T.b_Share_more_than .nil pD (pa_cons (pv 3) pa_nil)) pa_nil)) (pe_callB call_reprS (by rfl) T.repr (by decide +kernel) (pa_cons (pe_cmpR op_gt (pv 4) pe_int (nomark _)) pa_nil)) (nomark _)) (pw_or1 (pt_cmpR (op_neA hr.units) (pe_callB call_reprS (by rfl) T.repr (by decide +kernel) (pa_cons (pe_cmpR ((op_oe (G_Share_eq.raw T.b_Share_eq .nil) T.du_Share_eq (hr.mono (by decide)) pD).or (op_eqA hr.units)) (pv 2) (pv 3) (nomark _)) pa_nil)) (pe_callB call_reprS (by rfl) T.repr (by decide +kernel) (pa_cons (pe_cmpR (op_eqA hr.units) (pv 4) pe_int (nomark _)) pa_nil)) (nomark _))))) (pss_one (ps_ret pe_bl)) pss_nil) (pss_one (ps_ret (pe_and (pe_cmpR (op_eqA hr.units) (pe_callB call_reprS (by rfl) T.repr (by decide +kernel) (pa_cons (pe_meth (pv 2) T.cl_Share.cl T.me_Share_more_than G_Share_more_than (hr.mono (by decide)) T.b_Share_more_than .nil pD (pa_cons (pv 3) pa_nil)) pa_nil)) (pe_callB call_reprS (by rfl) T.repr (by decide +kernel) (pa_cons (pe_cmpR op_gt (pv 4) pe_int (nomark _)) pa_nil)) (nomark _)) (pe_one (pe_cmpR (op_eqA hr.units) (pe_cmpR ((op_on (G_Share_eq.raw T.b_Share_eq .nil) T.du_Share_eq T.ne_Share T.cl_Share.hm (hr.mono (by decide)) pD).or (op_neA hr.units)) (pv 2) (pv 3) (nomark _)) (pe_cmpR (op_neA hr.units) (pv 4) pe_int (nomark _)) (nomark _))))))))), ?_⟩
  exact (sims_seq (sims_par (sim_cons (sim_make (c := 0) ar_def (fun _ _ _ => .nil) (sim_cons (sim_op sim_ix (sim_var 0) (sim_c fun _ _ _ => .int _)) (sim_cons (sim_op sim_ix (sim_var 0) (sim_c fun _ _ _ => .int _)) sim_nil))) (sim_cons (sim_make (c := 0) ar_def (fun _ _ _ => .nil) (sim_cons (sim_op sim_ix (sim_var 1) (sim_c fun _ _ _ => .int _)) (sim_cons (sim_op sim_ix (sim_var 1) (sim_c fun _ _ _ => .int _)) sim_nil))) sim_nil))) (sims_seq (sims_asg (sim_op sim_sub (sim_op sim_mul (sim_op sim_ix (sim_var 0) (sim_c fun _ _ _ => .int _)) (sim_op sim_ix (sim_var 1) (sim_c fun _ _ _ => .int _))) (sim_op sim_mul (sim_op sim_ix (sim_var 1) (sim_c fun _ _ _ => .int _)) (sim_op sim_ix (sim_var 0) (sim_c fun _ _ _ => .int _)))) (simg_name 4)) (sims_seq (sims_if (simt_or (simt_test (sim_op sim_neA (sim_cb sim_reprS (sim_cons (sim_meth (c := 0) ar_def (fun _ _ _ => .nil) (sim_var 2) (sim_cons (sim_var 3) sim_nil)) sim_nil)) (sim_cb sim_reprS (sim_cons (sim_op sim_gt (sim_var 4) (sim_c fun _ _ _ => .int _)) sim_nil)))) (simt_test (sim_op sim_neA (sim_cb sim_reprS (sim_cons (sim_op (sim_oe (c := 0) ar_def T.eq_Share sim_eqA) (sim_var 2) (sim_var 3)) sim_nil)) (sim_cb sim_reprS (sim_cons (sim_op sim_eqA (sim_var 4) (sim_c fun _ _ _ => .int _)) sim_nil))))) (sims_ret (sim_c fun _ _ _ => .bl _)) sims_next) (sims_ret (sim_and (sim_op sim_eqA (sim_cb sim_reprS (sim_cons (sim_meth (c := 0) ar_def (fun _ _ _ => .nil) (sim_var 2) (sim_cons (sim_var 3) sim_nil)) sim_nil)) (sim_cb sim_reprS (sim_cons (sim_op sim_gt (sim_var 4) (sim_c fun _ _ _ => .int _)) sim_nil))) (sim_op sim_eqA (sim_op (sim_on (c := 0) ar_def T.eq_Share sim_neA) (sim_var 2) (sim_var 3)) (sim_op sim_neA (sim_var 4) (sim_c fun _ _ _ => .int _))))))))
theorem ok_law (T : Tx K P mg) : FnOk P w K mg base (L2.CX P w) 5 T.a_law T.fd_law ["_law_script"] (spOf (gOf T) 1 m_law) := by
  have G__law_begin := ok__law_begin (w := w) (base := base) T
  have G__law_two := ok__law_two (w := w) (base := base) T
  have G__law_right := ok__law_right (w := w) (base := base) T
  have G__law_compared_right := ok__law_compared_right (w := w) (base := base) T
  refine fn_sim (N := N_law) T.d_law.F sc_law fun cdv A outer s H E hr => ?_
  have nd := sc_law.nd
  refine ⟨_, (pss_cons (ps_set (i := 1) nd rfl (Or.inr rfl) (pe_call G__law_begin (hr.mono (by decide)) rfl T.d__law_begin.m T.d__law_begin.F.kp T.d__law_begin.b .nil pD (pa_cons (pv 0) pa_nil))) (pss_cons (ps_for (passes_of rfl) rfl (pi_range1 rfl T.range (pa_cons (pe_op op_addA pe_int (pe_callB (call_min2 rfl) (by rfl) T.min (by decide +kernel) (pa_cons pe_int (pa_cons (pe_callB call_len (by rfl) T.len PySem.boot_len (pa_cons (pv 0) pa_nil)) pa_nil)))) pa_nil)) (pg_name (i := 2) nd rfl (Or.inl rfl)) (pss_cons (ps_setLc (i := 3) (own := [("_law_k", 5)]) rfl nd rfl rfl (sw_true rfl rfl rfl (by decide +kernel)) (pi_range1 rfl T.range (pa_cons pe_int pa_nil)) (blkOk_by (N := N_law) (sc := defScope s_law) (by decide +kernel)) (fun _ _ _ _ _ => pg_name (i := 5) nd rfl (Or.inl rfl) (.inr rfl)) (fun _ _ _ _ _ => pts_nil) (fun _ _ _ _ _ => (pe_call G__law_two (hr.mono (by decide)) rfl T.d__law_two.m T.d__law_two.F.kp T.d__law_two.b .nil passL (pa_cons (pv 1) pa_nil)))) (pss_cons (ps_if (pt_not (pt_val (pe_callB (cr_all rfl) (by rfl) T.all (by decide +kernel) (pa_cons (pe_lc (own := [("_law_few", 6), ("_law_around", 7)]) rfl nd (pi_seq (pv 3)) (blkOk_by (N := N_law) (sc := defScope s_law) (by decide +kernel)) (fun _ _ _ _ _ => (show PG _ _ (gTup K 2 _) from pg_tup rfl (pgs_cons (pg_name (i := 6) nd rfl (Or.inl rfl) (.inr rfl)) (pgs_cons (pg_name (i := 7) nd rfl (Or.inl rfl) (.inr rfl)) pgs_nil)))) (fun _ _ _ _ _ => pts_nil) (fun _ _ _ _ _ => (pe_call G__law_right (hr.mono (by decide)) rfl T.d__law_right.m T.d__law_right.F.kp T.d__law_right.b .nil passL (pa_cons (pv 6) (pa_cons (pv 7) pa_nil))))) pa_nil)))) (pss_one (ps_ret pe_bl)) pss_nil) (pss_one (ps_for (passes_of rfl) rfl (pi_seq (pv 3)) (pg_name (i := 4) nd rfl (Or.inr rfl)) (pss_one (ps_if (pt_not (pt_val (pe_callB (cr_all rfl) (by rfl) T.all (by decide +kernel) (pa_cons (pe_lc (own := [("_law_yours", 8)]) rfl nd (pi_seq (pv 3)) (blkOk_by (N := N_law) (sc := defScope s_law) (by decide +kernel)) (fun _ _ _ _ _ => pg_name (i := 8) nd rfl (Or.inl rfl) (.inr rfl)) (fun _ _ _ _ _ => pts_nil) (fun _ _ _ _ _ => (pe_call G__law_compared_right (hr.mono (by decide)) rfl T.d__law_compared_right.m T.d__law_compared_right.F.kp T.d__law_compared_right.b .nil passL (pa_cons (pv 4) (pa_cons (pv 8) pa_nil))))) pa_nil)))) (pss_one (ps_ret pe_bl)) pss_nil))))))) (pss_one (ps_ret pe_bl)))), ?_⟩
  exact (sims_seq (sims_asg (sim_call ar_def (sim_cons (sim_var 0) sim_nil)) (simg_name 1)) (sims_seq (sims_for (simi_range1 (sim_cons (sim_op sim_add (sim_c fun _ _ _ => .int _) (sim_cb sim_min2 (sim_cons (sim_c fun _ _ _ => .int _) (sim_cons (sim_cb sim_len (sim_cons (sim_var 0) sim_nil)) sim_nil)))) sim_nil)) (simg_name 2) (sims_seq (sims_asg (sim_lc (simi_range1 (sim_cons (sim_c fun _ _ _ => .int _) sim_nil)) (simg_name 5) (own_name (by decide)) simt_yes (sim_call ar_def (sim_cons (sim_var 1) sim_nil))) (simg_name 3)) (sims_seq (sims_if (simt_not (simt_tB (sim_cb sim_all (sim_cons (sim_lc (simi_seq (sim_var 3)) (simg_tup (simg_cons (simg_name 6) (simg_cons (simg_name 7) simg_nil))) (own_tup (owns_cons (own_name (by decide)) mono_name (owns_cons (own_name (by decide)) mono_name owns_nil monos_nil) (monos_cons mono_name monos_nil))) simt_yes (sim_call ar_def (sim_cons (sim_var 6) (sim_cons (sim_var 7) sim_nil)))) sim_nil)))) (sims_ret (sim_c fun _ _ _ => .bl _)) sims_next) (sims_for (simi_seq (sim_var 3)) (simg_name 4) (sims_if (simt_not (simt_tB (sim_cb sim_all (sim_cons (sim_lc (simi_seq (sim_var 3)) (simg_name 8) (own_name (by decide)) simt_yes (sim_call ar_def (sim_cons (sim_var 4) (sim_cons (sim_var 8) sim_nil)))) sim_nil)))) (sims_ret (sim_c fun _ _ _ => .bl _)) sims_next))))) (sims_ret (sim_c fun _ _ _ => .bl _))))
end
theorem all_mk {P : Program} {w : World} {K : PySem.W.Frag} {h : Heap} {mg : PySem.Str → Option Value} {fa : Addr} (X : K.In h) (GG : h.Ns mainGlobals mg) (hfa : mg "law" = some (.ref fa))
    {C0 a_law_begin a_law_take a_law_of a_law_two a_law_common a_law_right a_law_compared_right alaw aShare_init aShare_eq aShare_repr aShare_str aShare_more_than : Addr} {od_law_begin an_law_begin od_law_take an_law_take od_law_of an_law_of od_law_two an_law_two od_law_common an_law_common od_law_right an_law_right od_law_compared_right an_law_compared_right odlaw anlaw odShare_init anShare_init odShare_eq anShare_eq odShare_repr anShare_repr odShare_str anShare_str odShare_more_than anShare_more_than : Option Addr} {sl_law_begin sl_law_take sl_law_of sl_law_two sl_law_common sl_law_right sl_law_compared_right sllaw slShare_init slShare_eq slShare_repr slShare_str slShare_more_than : Array (Option Value)} {oc_law_begin kV_law_begin dc_law_begin pm_law_begin cd_law_begin ct_law_begin oc_law_take kV_law_take dc_law_take pm_law_take cd_law_take ct_law_take oc_law_of kV_law_of dc_law_of pm_law_of cd_law_of ct_law_of oc_law_two kV_law_two dc_law_two pm_law_two cd_law_two ct_law_two oc_law_common kV_law_common dc_law_common pm_law_common cd_law_common ct_law_common oc_law_right kV_law_right dc_law_right pm_law_right cd_law_right ct_law_right oc_law_compared_right kV_law_compared_right dc_law_compared_right pm_law_compared_right cd_law_compared_right ct_law_compared_right oclaw kVlaw dclaw pmlaw cdlaw ctlaw ocShare_init kVShare_init dcShare_init pmShare_init cdShare_init ctShare_init ocShare_eq kVShare_eq dcShare_eq pmShare_eq cdShare_eq ctShare_eq ocShare_repr kVShare_repr dcShare_repr pmShare_repr cdShare_repr ctShare_repr ocShare_str kVShare_str dcShare_str pmShare_str cdShare_str ctShare_str ocShare_more_than kVShare_more_than dcShare_more_than pmShare_more_than cdShare_more_than ctShare_more_than : Value}
    (n_Share : PySem.W.nsIn K mainGlobals "Share" = some (some (.ref C0)))
    (n_law_begin : PySem.W.nsIn K mainGlobals "_law_begin" = some (some (.ref a_law_begin)))
    (l_law_begin : K.lookup a_law_begin = some ⟨oc_law_begin, od_law_begin, .func (PySem.W.fnOf "_law_begin" "_law_begin" (defArgs s__law_begin) (defBody s__law_begin) (defScope s__law_begin) .none kV_law_begin dc_law_begin pm_law_begin an_law_begin cd_law_begin ct_law_begin), sl_law_begin⟩)
    (c_law_begin : PySem.W.codeIn K cd_law_begin "_law_begin" = true)
    (k_law_begin : PySem.W.keepIn K (.ref a_law_begin) = true)
    (n_law_take : PySem.W.nsIn K mainGlobals "_law_take" = some (some (.ref a_law_take)))
    (l_law_take : K.lookup a_law_take = some ⟨oc_law_take, od_law_take, .func (PySem.W.fnOf "_law_take" "_law_take" (defArgs s__law_take) (defBody s__law_take) (defScope s__law_take) .none kV_law_take dc_law_take pm_law_take an_law_take cd_law_take ct_law_take), sl_law_take⟩)
    (c_law_take : PySem.W.codeIn K cd_law_take "_law_take" = true)
    (k_law_take : PySem.W.keepIn K (.ref a_law_take) = true)
    (n_law_of : PySem.W.nsIn K mainGlobals "_law_of" = some (some (.ref a_law_of)))
    (l_law_of : K.lookup a_law_of = some ⟨oc_law_of, od_law_of, .func (PySem.W.fnOf "_law_of" "_law_of" (defArgs s__law_of) (defBody s__law_of) (defScope s__law_of) .none kV_law_of dc_law_of pm_law_of an_law_of cd_law_of ct_law_of), sl_law_of⟩)
    (c_law_of : PySem.W.codeIn K cd_law_of "_law_of" = true)
    (k_law_of : PySem.W.keepIn K (.ref a_law_of) = true)
    (n_law_two : PySem.W.nsIn K mainGlobals "_law_two" = some (some (.ref a_law_two)))
    (l_law_two : K.lookup a_law_two = some ⟨oc_law_two, od_law_two, .func (PySem.W.fnOf "_law_two" "_law_two" (defArgs s__law_two) (defBody s__law_two) (defScope s__law_two) .none kV_law_two dc_law_two pm_law_two an_law_two cd_law_two ct_law_two), sl_law_two⟩)
    (c_law_two : PySem.W.codeIn K cd_law_two "_law_two" = true)
    (k_law_two : PySem.W.keepIn K (.ref a_law_two) = true)
    (n_law_common : PySem.W.nsIn K mainGlobals "_law_common" = some (some (.ref a_law_common)))
    (l_law_common : K.lookup a_law_common = some ⟨oc_law_common, od_law_common, .func (PySem.W.fnOf "_law_common" "_law_common" (defArgs s__law_common) (defBody s__law_common) (defScope s__law_common) .none kV_law_common dc_law_common pm_law_common an_law_common cd_law_common ct_law_common), sl_law_common⟩)
    (c_law_common : PySem.W.codeIn K cd_law_common "_law_common" = true)
    (k_law_common : PySem.W.keepIn K (.ref a_law_common) = true)
    (n_law_right : PySem.W.nsIn K mainGlobals "_law_right" = some (some (.ref a_law_right)))
    (l_law_right : K.lookup a_law_right = some ⟨oc_law_right, od_law_right, .func (PySem.W.fnOf "_law_right" "_law_right" (defArgs s__law_right) (defBody s__law_right) (defScope s__law_right) .none kV_law_right dc_law_right pm_law_right an_law_right cd_law_right ct_law_right), sl_law_right⟩)
    (c_law_right : PySem.W.codeIn K cd_law_right "_law_right" = true)
    (k_law_right : PySem.W.keepIn K (.ref a_law_right) = true)
    (n_law_compared_right : PySem.W.nsIn K mainGlobals "_law_compared_right" = some (some (.ref a_law_compared_right)))
    (l_law_compared_right : K.lookup a_law_compared_right = some ⟨oc_law_compared_right, od_law_compared_right, .func (PySem.W.fnOf "_law_compared_right" "_law_compared_right" (defArgs s__law_compared_right) (defBody s__law_compared_right) (defScope s__law_compared_right) .none kV_law_compared_right dc_law_compared_right pm_law_compared_right an_law_compared_right cd_law_compared_right ct_law_compared_right), sl_law_compared_right⟩)
    (c_law_compared_right : PySem.W.codeIn K cd_law_compared_right "_law_compared_right" = true)
    (k_law_compared_right : PySem.W.keepIn K (.ref a_law_compared_right) = true)
    (nlaw : PySem.W.nsIn K mainGlobals "law" = some (some (.ref alaw)))
    (llaw : K.lookup alaw = some ⟨oclaw, odlaw, .func (PySem.W.fnOf "law" "law" (defArgs s_law) (defBody s_law) (defScope s_law) .none kVlaw dclaw pmlaw anlaw cdlaw ctlaw), sllaw⟩)
    (claw : PySem.W.codeIn K cdlaw "law" = true)
    (klaw : PySem.W.keepIn K (.ref alaw) = true)
    (mShare_init : PySem.W.findIn K (.ref C0) "__init__" = some (some (.ref aShare_init)))
    (lShare_init : K.lookup aShare_init = some ⟨ocShare_init, odShare_init, .func (PySem.W.fnOf "__init__" "Share.__init__" (defArgs s_Share_init) (defBody s_Share_init) (defScope s_Share_init) .none kVShare_init dcShare_init pmShare_init anShare_init cdShare_init ctShare_init), slShare_init⟩)
    (cShare_init : PySem.W.codeIn K cdShare_init "Share.__init__" = true)
    (kShare_init : PySem.W.keepIn K (.ref aShare_init) = true)
    (fShare_init : PySem.W.isFn K (.ref aShare_init) = true)
    (mkShare : PySem.W.makesIn K C0 = true)
    (kcShare : PySem.W.keepIn K (.ref C0) = true)
    (mShare_eq : PySem.W.findIn K (.ref C0) "__eq__" = some (some (.ref aShare_eq)))
    (lShare_eq : K.lookup aShare_eq = some ⟨ocShare_eq, odShare_eq, .func (PySem.W.fnOf "__eq__" "Share.__eq__" (defArgs s_Share_eq) (defBody s_Share_eq) (defScope s_Share_eq) .none kVShare_eq dcShare_eq pmShare_eq anShare_eq cdShare_eq ctShare_eq), slShare_eq⟩)
    (cShare_eq : PySem.W.codeIn K cdShare_eq "Share.__eq__" = true)
    (kShare_eq : PySem.W.keepIn K (.ref aShare_eq) = true)
    (fShare_eq : PySem.W.isFn K (.ref aShare_eq) = true)
    (mShare_repr : PySem.W.findIn K (.ref C0) "__repr__" = some (some (.ref aShare_repr)))
    (lShare_repr : K.lookup aShare_repr = some ⟨ocShare_repr, odShare_repr, .func (PySem.W.fnOf "__repr__" "Share.__repr__" (defArgs s_Share_repr) (defBody s_Share_repr) (defScope s_Share_repr) .none kVShare_repr dcShare_repr pmShare_repr anShare_repr cdShare_repr ctShare_repr), slShare_repr⟩)
    (cShare_repr : PySem.W.codeIn K cdShare_repr "Share.__repr__" = true)
    (kShare_repr : PySem.W.keepIn K (.ref aShare_repr) = true)
    (fShare_repr : PySem.W.isFn K (.ref aShare_repr) = true)
    (mShare_str : PySem.W.findIn K (.ref C0) "__str__" = some (some (.ref aShare_str)))
    (lShare_str : K.lookup aShare_str = some ⟨ocShare_str, odShare_str, .func (PySem.W.fnOf "__str__" "Share.__str__" (defArgs s_Share_str) (defBody s_Share_str) (defScope s_Share_str) .none kVShare_str dcShare_str pmShare_str anShare_str cdShare_str ctShare_str), slShare_str⟩)
    (cShare_str : PySem.W.codeIn K cdShare_str "Share.__str__" = true)
    (kShare_str : PySem.W.keepIn K (.ref aShare_str) = true)
    (fShare_str : PySem.W.isFn K (.ref aShare_str) = true)
    (mShare_more_than : PySem.W.findIn K (.ref C0) "more_than" = some (some (.ref aShare_more_than)))
    (lShare_more_than : K.lookup aShare_more_than = some ⟨ocShare_more_than, odShare_more_than, .func (PySem.W.fnOf "more_than" "Share.more_than" (defArgs s_Share_more_than) (defBody s_Share_more_than) (defScope s_Share_more_than) .none kVShare_more_than dcShare_more_than pmShare_more_than anShare_more_than cdShare_more_than ctShare_more_than), slShare_more_than⟩)
    (cShare_more_than : PySem.W.codeIn K cdShare_more_than "Share.more_than" = true)
    (kShare_more_than : PySem.W.keepIn K (.ref aShare_more_than) = true)
    (fShare_more_than : PySem.W.isFn K (.ref aShare_more_than) = true)
    (clShare : clsB K C0 = true)
    (neShare : PySem.W.findIn K (.ref C0) "__ne__" = some (some (.builtin "object.__ne__")))
    (eqShare : eqB K [C0] [0] ([C0].getD 0 0) = true)
    (ioShare : isoB K [C0] [0] ([C0].getD 0 0) io_Share = true)
    (ofpart : naB K [C0] [0] "part" = true)
    (ofwhole : naB K [C0] [0] "whole" = true)
    (bfgcd : PySem.W.nsIn K mainGlobals "gcd" = some (some (.builtin "math.gcd")))
    (zabs : PySem.W.nsIn K mainGlobals "abs" = some none)
    (zall : PySem.W.nsIn K mainGlobals "all" = some none)
    (zbool : PySem.W.nsIn K mainGlobals "bool" = some none)
    (zenumerate : PySem.W.nsIn K mainGlobals "enumerate" = some none)
    (zisinstance : PySem.W.nsIn K mainGlobals "isinstance" = some none)
    (zlen : PySem.W.nsIn K mainGlobals "len" = some none)
    (zmin : PySem.W.nsIn K mainGlobals "min" = some none)
    (zrange : PySem.W.nsIn K mainGlobals "range" = some none)
    (zrepr : PySem.W.nsIn K mainGlobals "repr" = some none)
    (zstr : PySem.W.nsIn K mainGlobals "str" = some none) :
    ∃ (fd : FuncData) (g : G), g.K = K ∧ (∀ (s : Shared) (u : Value), BindsTo s fd ⟨[u], []⟩ [("_law_script", u)]) ∧ ∀ base : Heap, K.In base → base.Ns mainGlobals mg → (∃ o, base.get? sysModules = some o) → FnG P w K mg base 5 fa fd ["_law_script"] (spOf g 1 m_law) := by
  have e := hfa.symm.trans (PySem.W.mg_of X GG nlaw)
  cases e
  have F_law_begin := fun_mk (st := s__law_begin) l_law_begin c_law_begin k_law_begin
  have D_law_begin : DefAt K mg "_law_begin" s__law_begin ["_law_script"] _ _ := ⟨F_law_begin, PySem.W.mg_of X GG n_law_begin, F_law_begin.binds (ps := ["_law_script"]) fun _ _ _ _ _ _ us hl => match us, hl with | [_], _ => rfl⟩
  have F_law_take := fun_mk (st := s__law_take) l_law_take c_law_take k_law_take
  have D_law_take : DefAt K mg "_law_take" s__law_take ["_law_pot", "_law_width"] _ _ := ⟨F_law_take, PySem.W.mg_of X GG n_law_take, F_law_take.binds (ps := ["_law_pot", "_law_width"]) fun _ _ _ _ _ _ us hl => match us, hl with | [_, _], _ => rfl⟩
  have F_law_of := fun_mk (st := s__law_of) l_law_of c_law_of k_law_of
  have D_law_of : DefAt K mg "_law_of" s__law_of ["_law_pot", "_law_some"] _ _ := ⟨F_law_of, PySem.W.mg_of X GG n_law_of, F_law_of.binds (ps := ["_law_pot", "_law_some"]) fun _ _ _ _ _ _ us hl => match us, hl with | [_, _], _ => rfl⟩
  have F_law_two := fun_mk (st := s__law_two) l_law_two c_law_two k_law_two
  have D_law_two : DefAt K mg "_law_two" s__law_two ["_law_pot"] _ _ := ⟨F_law_two, PySem.W.mg_of X GG n_law_two, F_law_two.binds (ps := ["_law_pot"]) fun _ _ _ _ _ _ us hl => match us, hl with | [_], _ => rfl⟩
  have F_law_common := fun_mk (st := s__law_common) l_law_common c_law_common k_law_common
  have D_law_common : DefAt K mg "_law_common" s__law_common ["_law_one", "_law_other"] _ _ := ⟨F_law_common, PySem.W.mg_of X GG n_law_common, F_law_common.binds (ps := ["_law_one", "_law_other"]) fun _ _ _ _ _ _ us hl => match us, hl with | [_, _], _ => rfl⟩
  have F_law_right := fun_mk (st := s__law_right) l_law_right c_law_right k_law_right
  have D_law_right : DefAt K mg "_law_right" s__law_right ["_law_few", "_law_around"] _ _ := ⟨F_law_right, PySem.W.mg_of X GG n_law_right, F_law_right.binds (ps := ["_law_few", "_law_around"]) fun _ _ _ _ _ _ us hl => match us, hl with | [_, _], _ => rfl⟩
  have F_law_compared_right := fun_mk (st := s__law_compared_right) l_law_compared_right c_law_compared_right k_law_compared_right
  have D_law_compared_right : DefAt K mg "_law_compared_right" s__law_compared_right ["_law_mine", "_law_yours"] _ _ := ⟨F_law_compared_right, PySem.W.mg_of X GG n_law_compared_right, F_law_compared_right.binds (ps := ["_law_mine", "_law_yours"]) fun _ _ _ _ _ _ us hl => match us, hl with | [_, _], _ => rfl⟩
  have Flaw := fun_mk (st := s_law) llaw claw klaw
  have Dlaw : DefAt K mg "law" s_law ["_law_script"] _ _ := ⟨Flaw, PySem.W.mg_of X GG nlaw, Flaw.binds (ps := ["_law_script"]) fun _ _ _ _ _ _ us hl => match us, hl with | [_], _ => rfl⟩
  have FShare_init := fun_mk (st := s_Share_init) lShare_init cShare_init kShare_init
  have FShare_eq := fun_mk (st := s_Share_eq) lShare_eq cShare_eq kShare_eq
  have FShare_repr := fun_mk (st := s_Share_repr) lShare_repr cShare_repr kShare_repr
  have FShare_str := fun_mk (st := s_Share_str) lShare_str cShare_str kShare_str
  have FShare_more_than := fun_mk (st := s_Share_more_than) lShare_more_than cShare_more_than kShare_more_than
  let T : Tx K P mg := {
    Cs := [C0],
    a__law_begin := _, fd__law_begin := _, d__law_begin := D_law_begin,
    a__law_take := _, fd__law_take := _, d__law_take := D_law_take,
    a__law_of := _, fd__law_of := _, d__law_of := D_law_of,
    a__law_two := _, fd__law_two := _, d__law_two := D_law_two,
    a__law_common := _, fd__law_common := _, d__law_common := D_law_common,
    a__law_right := _, fd__law_right := _, d__law_right := D_law_right,
    a__law_compared_right := _, fd__law_compared_right := _, d__law_compared_right := D_law_compared_right,
    a_law := _, fd_law := _, d_law := Dlaw,
    cl_Share := clsI_of clShare,
    a_Share_init := _, fd_Share_init := _, d_Share_init := ⟨FShare_init⟩, b_Share_init := FShare_init.binds (ps := ["self", "part", "whole"]) fun _ _ _ _ _ _ us hl => match us, hl with | [_, _, _], _ => rfl, me_Share_init := ⟨mShare_init, fShare_init, kShare_init⟩, du_Share_init := ⟨mShare_init, fShare_init⟩, mk_Share := ⟨mkShare, mShare_init, fShare_init, kcShare⟩,
    kb_Share := kbn_of (fun a b => a.append (vals_rev b)) fun a ws hl => match ws, hl with | [_, _], _ => rfl,
    a_Share_eq := _, fd_Share_eq := _, d_Share_eq := ⟨FShare_eq⟩, b_Share_eq := FShare_eq.binds (ps := ["self", "other"]) fun _ _ _ _ _ _ us hl => match us, hl with | [_, _], _ => rfl, me_Share_eq := ⟨mShare_eq, fShare_eq, kShare_eq⟩, du_Share_eq := ⟨mShare_eq, fShare_eq⟩,
    a_Share_repr := _, fd_Share_repr := _, d_Share_repr := ⟨FShare_repr⟩, b_Share_repr := FShare_repr.binds (ps := ["self"]) fun _ _ _ _ _ _ us hl => match us, hl with | [_], _ => rfl, me_Share_repr := ⟨mShare_repr, fShare_repr, kShare_repr⟩, du_Share_repr := ⟨mShare_repr, fShare_repr⟩,
    a_Share_str := _, fd_Share_str := _, d_Share_str := ⟨FShare_str⟩, b_Share_str := FShare_str.binds (ps := ["self"]) fun _ _ _ _ _ _ us hl => match us, hl with | [_], _ => rfl, me_Share_str := ⟨mShare_str, fShare_str, kShare_str⟩, du_Share_str := ⟨mShare_str, fShare_str⟩,
    a_Share_more_than := _, fd_Share_more_than := _, d_Share_more_than := ⟨FShare_more_than⟩, b_Share_more_than := FShare_more_than.binds (ps := ["self", "other"]) fun _ _ _ _ _ _ us hl => match us, hl with | [_, _], _ => rfl, me_Share_more_than := ⟨mShare_more_than, fShare_more_than, kShare_more_than⟩, du_Share_more_than := ⟨mShare_more_than, fShare_more_than⟩,
    ne_Share := neShare, eq_Share := eqF_of (g := ⟨K, fun i => [C0].getD i 0, []⟩) rfl eqShare,
    io_Share := iso_of ioShare (fun c b h => by unfold io_Share at h; split at h <;> first | assumption | cases h),
    of_part := na_of ofpart,
    of_whole := na_of ofwhole,
    bf_gcd := PySem.W.mg_of X GG bfgcd,
    c_Share := PySem.W.mg_of X GG n_Share,
    abs := PySem.W.mg_none_of X GG zabs,
    all := PySem.W.mg_none_of X GG zall,
    bool := PySem.W.mg_none_of X GG zbool,
    enumerate := PySem.W.mg_none_of X GG zenumerate,
    isinstance := PySem.W.mg_none_of X GG zisinstance,
    len := PySem.W.mg_none_of X GG zlen,
    min := PySem.W.mg_none_of X GG zmin,
    range := PySem.W.mg_none_of X GG zrange,
    repr := PySem.W.mg_none_of X GG zrepr,
    str := PySem.W.mg_none_of X GG zstr }
  exact ⟨_, gOf T, rfl, fun s v => .of_eq rfl, fun base _ _ sm => (ok_law T).toG⟩
end Lw

set_option exponentiation.threshold 600
namespace Lw
open PySem L2 Lg
/-! ### evaluating -/
theorem op_ok {f : D → D → Store → Res D} {a b : EM} {env : En} {S S1 S2 : Store} {x y : D} (ha : a env S = .ok x S1) (hb : b env S1 = .ok y S2) : mOp f a b env S = f x y S2 := by
  show (a env S).bind (fun x S1 => (b env S1).bind fun y S2 => f x y S2) = _
  rw [ha]
  show (b env S1).bind _ = _
  rw [hb]
  rfl
theorem cons_ok {a : EM} {b : AM} {env : En} {S S1 S2 : Store} {x : D} {xs : List D} (ha : a env S = .ok x S1) (hb : b env S1 = .ok xs S2) : mCons a b env S = .ok (x :: xs) S2 := by
  show (a env S).bind (fun x S1 => (b env S1).bind fun y S2 => .ok (x :: y) S2) = _
  rw [ha]
  show (b env S1).bind _ = _
  rw [hb]
  rfl
theorem call_ok {f : List D → Store → Res D} {a : AM} {env : En} {S S1 : Store} {xs : List D} (ha : a env S = .ok xs S1) : mCall f a env S = f xs S1 := by
  show (a env S).bind f = _
  rw [ha]
  rfl
theorem val_ok {a : EM} {env : En} {S S1 : Store} {b : Bool} (ha : a env S = .ok (.bl b) S1) : bVal a env S = .ok b S1 := by
  unfold bVal
  rw [ha]
  rfl
theorem sq {a b : SM} {env env' : En} {S S' : Store} (h : a env S = .next env' S') : sSeq a b env S = b env' S' := by unfold sSeq; rw [h]; rfl
theorem sqr {a b : SM} {env : En} {S S' : Store} {d : D} (h : a env S = .ret d S') : sSeq a b env S = .ret d S' := by unfold sSeq; rw [h]; rfl
theorem asg_ok {a : EM} {i : Nat} {env : En} {S S' : Store} {d : D} (h : a env S = .ok d S') : sAsg a (gmName i) env S = .next (env.set i (some d)) S' := by unfold sAsg; rw [h]; rfl
theorem if_ok {c : BM} {a b : SM} {env : En} {S S' : Store} {k : Bool} (h : c env S = .ok k S') : sIf c a b env S = if k = true then a env S' else b env S' := by unfold sIf; rw [h]; rfl
theorem or_no {a b : BM} {env : En} {S S1 : Store} (h : a env S = .ok false S1) : bOr a b env S = b env S1 := by unfold bOr; rw [h]; rfl
theorem and_v {a b : BM} {env : En} {S S1 : Store} {k : Bool} (h : a env S = .ok k S1) : bAnd a b env S = if k = true then b env S1 else .ok false S1 := by unfold bAnd; rw [h]; rfl
theorem lst_ok {a : AM} {env : En} {S S' : Store} {ds : List D} (h : a env S = .ok ds S') (hl : ds.length ≤ sizeLine) : mLst a env S = .ok (.lst ds) S' := by
  unfold mLst; rw [h]; exact if_pos hl
theorem tup_ok {a : AM} {env : En} {S S' : Store} {ds : List D} (h : a env S = .ok ds S') (hl : ds.length ≤ sizeLine) : mTup a env S = .ok (.tup ds) S' := by
  unfold mTup; rw [h]; exact if_pos hl
theorem var_ok {i : Nat} {env : En} {S : Store} {d : D} (h : env[i]? = some (some d)) : mVar i env S = .ok d S := by unfold mVar; rw [h]
theorem ret_ok {a : EM} {env : En} {S S' : Store} {d : D} (h : a env S = .ok d S') : sRet a env S = .ret d S' := by unfold sRet; rw [h]; rfl
theorem eqI (i j : Int) (S : Store) : dEqA (.int i) (.int j) S = .ok (.bl (decide (i = j))) S := by
  show dEq (.int i) (.int j) S = _
  have h1 : SeqAt.shaped (.int i) = true := rfl
  have h2 : SeqAt.shaped (.int j) = true := rfl
  simp [dEq, dEqB, pyOf, D.py, h1, h2, PyData.eqv]
  by_cases q : i = j <;> simp [q]
/-- all of what a def says of the parts of a tuple -/
theorem neI (i j : Int) (S : Store) : dNeA (.int i) (.int j) S = .ok (.bl (!decide (i = j))) S := by
  show dNe (.int i) (.int j) S = _
  have h1 : SeqAt.shaped (.int i) = true := rfl
  have h2 : SeqAt.shaped (.int j) = true := rfl
  simp [dNe, dEqB, pyOf, D.py, h1, h2, PyData.eqv]
  by_cases q : i = j <;> simp [q]
theorem opv {f : D → D → Store → Res D} {a b : EM} {env : En} {S S1 S2 : Store} {x y : D} {r : Res D} (ha : a env S = .ok x S1) (hb : b env S1 = .ok y S2) (h : f x y S2 = r) : mOp f a b env S = r := (op_ok ha hb).trans h
theorem c_ok {d : D} {env : En} {S : Store} : mC d env S = .ok d S := rfl
theorem nil_ok {env : En} {S : Store} : mNil env S = .ok [] S := rfl
theorem add_i {i j : Int} {S : Store} : dAdd (.int i) (.int j) S = .ok (.int (i + j)) S := rfl
theorem sub_i {i j : Int} {S : Store} : dSub (.int i) (.int j) S = .ok (.int (i - j)) S := rfl
theorem mul_i {i j : Int} {S : Store} (c : CMulW i j) : dMul (.int i) (.int j) S = .ok (.int (i * j)) S := by simp [dInt, c]
theorem div_i {i j : Int} {S : Store} (c : CDivW i j) : dDiv (.int i) (.int j) S = .ok (.int (i / j)) S := by simp [dInt, c]
theorem mod_i {i j : Int} {S : Store} (c : 0 < j) : dMod (.int i) (.int j) S = .ok (.int (i % j)) S := by simp [dInt, c]
theorem pow_i {i j : Int} {S : Store} (c : CPow i j) : dPow (.int i) (.int j) S = .ok (.int (i ^ j.toNat)) S := by simp [dInt, c]
/-! ### numbers -/
theorem lg {x : Int} {k : Nat} (h0 : 0 ≤ x) (h : x < 2 ^ k) (hk : 0 < k) : x.natAbs.log2 < k := by
  have h1 : x.natAbs < 2 ^ k := by
    have : (x.natAbs : Int) = x := Int.natAbs_of_nonneg h0
    have h2 : ((x.natAbs : Nat) : Int) < ((2 ^ k : Nat) : Int) := by rw [this]; simpa using h
    exact_mod_cast h2
  by_cases z : x.natAbs = 0
  · rw [z]; simpa using hk
  · exact (Nat.log2_lt z).mpr h1
theorem cm {i j : Int} (hi0 : 0 ≤ i) (hi : i < 2 ^ 500) (hj0 : 0 ≤ j) (hj : j < 2 ^ 500) : CMulW i j := by
  have a := lg hi0 hi (by decide)
  have b := lg hj0 hj (by decide)
  unfold CMulW
  omega
theorem cd {i j : Int} (h0 : 0 < j) (h : j < 2 ^ 500) : CDivW i j := ⟨h0, Nat.lt_of_lt_of_le (lg (Int.le_of_lt h0) h (by decide)) (by decide)⟩
/-! ### the pot -/
def Pot (own : List Int) (seed k : Int) (R : Store) : Store := .lst (own.map D.int) :: .lst [.loc 0, .int seed, .int k] :: R
def Good (own : List Int) : Prop := (∀ x ∈ own, 0 ≤ x ∧ x < 2 ^ 400) ∧ own.length ≤ 63
theorem pys_ints : ∀ l : List Int, pys (l.map D.int) = some (l.map PyData.int)
  | [] => rfl
  | x :: l => by simp [pys, D.py, pys_ints l]
theorem lay_ints : ∀ l : List Int, PyData.canLayAll0 (l.map PyData.int) = true
  | [] => rfl
  | x :: l => by simp [PyData.canLayAll0, PyData.canLay0, lay_ints l]
theorem dep_ints : ∀ l : List Int, PyData.depthAll (l.map PyData.int) = 0
  | [] => rfl
  | x :: l => by simp [PyData.depthAll, PyData.depth, dep_ints l]
theorem ne0 (own : List Int) (seed k : Int) (R : Store) : dNeA (.loc 0) (.lst []) (Pot own seed k R) = .ok (.bl (!own.isEmpty)) (Pot own seed k R) := by
  show dNe _ _ _ = _
  have h1 : SeqAt.shaped (.list (own.map PyData.int)) = true := by
    unfold SeqAt.shaped
    simp [PyData.canLay0, PyData.depth, lay_ints, dep_ints]
  have h2 : SeqAt.shaped (.list []) = true := rfl
  have e1 : pyOf (.loc 0) (Pot own seed k R) = some (.list (own.map PyData.int)) := by simp [pyOf, Pot, pys_ints]
  have e2 : pyOf (.lst []) (Pot own seed k R) = some (.list []) := rfl
  unfold dNe dEqB
  rw [e1, e2]
  simp only [h1, h2, and_self, if_true]
  cases own <;> rfl
section
variable {own : List Int} {seed k width : Int} {R : Store} {env : En}
theorem p0 (e : env[0]? = some (some (.loc 1))) : mOp dIx (mVar 0) (mC (.int 0)) env (Pot own seed k R) = .ok (.loc 0) (Pot own seed k R) := by
  rw [op_ok (var_ok e) rfl]; simp [dIx, asL, atI, ixN, Pot]
theorem p1 (e : env[0]? = some (some (.loc 1))) : mOp dIx (mVar 0) (mC (.int 1)) env (Pot own seed k R) = .ok (.int seed) (Pot own seed k R) := by
  rw [op_ok (var_ok e) rfl]; simp [dIx, asL, atI, ixN, Pot]
theorem p2 (e : env[0]? = some (some (.loc 1))) : mOp dIx (mVar 0) (mC (.int 2)) env (Pot own seed k R) = .ok (.int k) (Pot own seed k R) := by
  rw [op_ok (var_ok e) rfl]; simp [dIx, asL, atI, ixN, Pot]
theorem p00 {x : Int} (e : env[0]? = some (some (.loc 1))) : mOp dIx (mOp dIx (mVar 0) (mC (.int 0))) (mC (.int 0)) env (Pot (x :: own) seed k R) = .ok (.int x) (Pot (x :: own) seed k R) := by
  rw [op_ok (p0 e) rfl]
  simp [dIx, asL, atI, ixN, Pot]
theorem pne (e : env[0]? = some (some (.loc 1))) : bVal (mOp dNeA (mOp dIx (mVar 0) (mC (.int 0))) (mLst mNil)) env (Pot own seed k R) = .ok (!own.isEmpty) (Pot own seed k R) := by
  refine val_ok ?_
  rw [op_ok (p0 e) (lst_ok rfl (by decide))]
  exact ne0 _ _ _ _
theorem wh (e : env[0]? = some (some (.loc 1))) : ∀ (own : List Int) (n : Nat), own.length < n → Good own → ∃ own', sWhile (bAnd (bVal (mOp dNeA (mOp dIx (mVar 0) (mC (.int 0))) (mLst mNil))) (bVal (mOp dEqA (mOp dIx (mOp dIx (mVar 0) (mC (.int 0))) (mC (.int 0))) (mC (.int 0))))) (sDrop (mBMt "list" qPopAt (mOp dIx (mVar 0) (mC (.int 0))) (mCons (mC (.int 0)) mNil))) n env (Pot own seed k R) = .next env (Pot own' seed k R) ∧ Good own' := by
  intro own
  induction own with
  | nil =>
    intro n hn g
    cases n with
    | zero => simp at hn
    | succ n => exact ⟨[], by simp only [sWhile, and_v (pne e)]; rfl, g⟩
  | cons x own ih =>
    intro n hn g
    cases n with
    | zero => simp at hn
    | succ n =>
      have c : bVal (mOp dEqA (mOp dIx (mOp dIx (mVar 0) (mC (.int 0))) (mC (.int 0))) (mC (.int 0))) env (Pot (x :: own) seed k R) = .ok (decide (x = 0)) (Pot (x :: own) seed k R) := val_ok ((op_ok (p00 e) rfl).trans (eqI _ _ _))
      by_cases hx : x = 0
      · obtain ⟨own', h1, h2⟩ := ih n (by simp at hn; omega) ⟨fun y hy => g.1 y (List.mem_cons_of_mem _ hy), by have := g.2; simp at this; omega⟩
        refine ⟨own', ?_, h2⟩
        have pop : sDrop (mBMt "list" qPopAt (mOp dIx (mVar 0) (mC (.int 0))) (mCons (mC (.int 0)) mNil)) env (Pot (x :: own) seed k R) = .next env (Pot own seed k R) := by
          have j := p0 (own := x :: own) (seed := seed) (k := k) (R := R) e
          simp only [sDrop, mBMt, j, Res.bind]
          simp [mCons, mNil, mC, Res.bind, Res.bindS, tyD, qPopAt, Pot, seqIndex?]
        subst hx
        simp only [sWhile, and_v (pne e), c, List.isEmpty_cons, Bool.not_false, if_true, decide_true, Res.bindS, pop]
        exact h1
      · refine ⟨x :: own, ?_, g⟩
        simp only [sWhile, and_v (pne e), c, hx]
        simp [Res.bindS]
theorem take (g : Good own) (hs0 : 0 ≤ seed) (hs : seed < 2 ^ 62) (hk0 : 0 ≤ k) (hk : k ≤ 10000) (hw0 : 0 < width) (hw : width < 2 ^ 400) :
    ∃ (r : Int) (own' : List Int) (k' : Int), m__law_take [.loc 1, .int width] (Pot own seed k R) = .ok (.int r) (Pot own' seed k' R) ∧ 0 ≤ r ∧ r < width ∧ Good own' ∧ k ≤ k' ∧ k' ≤ k + 1 := by
  obtain ⟨own', hwh, g'⟩ := wh (R := R) (k := k) (seed := seed) (env := [some (.loc 1), some (.int width), none, none]) rfl own 2000 (by have := g.2; omega) g
  have hw5 : width < 2 ^ 500 := Int.lt_trans hw (by decide)
  have dv : ∀ i, CDivW i width := fun i => cd hw0 hw5
  cases own' with
  | cons x own' =>
    have hx := g'.1 x List.mem_cons_self
    refine ⟨x % width, (x / width) :: own', k, ?_, Int.emod_nonneg _ (by omega), Int.emod_lt_of_pos _ hw0, ⟨fun y hy => ?_, g'.2⟩, by omega, by omega⟩
    · unfold m__law_take mDef
      rw [if_pos (by rfl)]
      show (match sSeq _ _ [some (.loc 1), some (.int width), none, none] (Pot own seed k R) with | .ret d S' => Res.ok d S' | .next _ S' => .ok .non S' | .err x S' => .err x S' | _ => .stuck) = _
      rw [sq hwh]
      have a1 : sAsg (mOp dMod (mOp dIx (mOp dIx (mVar 0) (mC (.int 0))) (mC (.int 0))) (mVar 1)) (gmName 2) [some (.loc 1), some (.int width), none, none] (Pot (x :: own') seed k R) = .next [some (.loc 1), some (.int width), some (.int (x % width)), none] (Pot (x :: own') seed k R) := by
        rw [asg_ok (opv (p00 rfl) (var_ok rfl) (mod_i hw0))]
        rfl
      have a2 : sAsg (mOp dDiv (mOp dIx (mOp dIx (mVar 0) (mC (.int 0))) (mC (.int 0))) (mVar 1)) (gmSub (mOp dIx (mVar 0) (mC (.int 0))) (mC (.int 0)) dSet) [some (.loc 1), some (.int width), some (.int (x % width)), none] (Pot (x :: own') seed k R) = .next [some (.loc 1), some (.int width), some (.int (x % width)), none] (Pot ((x / width) :: own') seed k R) := by
        have q : mOp dDiv (mOp dIx (mOp dIx (mVar 0) (mC (.int 0))) (mC (.int 0))) (mVar 1) [some (.loc 1), some (.int width), some (.int (x % width)), none] (Pot (x :: own') seed k R) = .ok (.int (x / width)) (Pot (x :: own') seed k R) :=
          opv (p00 rfl) (var_ok rfl) (div_i (dv _))
        have j : mOp dIx (mVar 0) (mC (.int 0)) [some (.loc 1), some (.int width), some (.int (x % width)), none] (Pot (x :: own') seed k R) = _ := p0 rfl
        simp only [sAsg, q, Res.bindS, gmSub, j, Res.bind]
        simp [mC, dSet, ixN, Pot, Res.bind, Res.bindS]
      have body : sIf (bVal (mOp dNeA (mOp dIx (mVar 0) (mC (.int 0))) (mLst mNil))) (sSeq (sAsg (mOp dMod (mOp dIx (mOp dIx (mVar 0) (mC (.int 0))) (mC (.int 0))) (mVar 1)) (gmName 2)) (sSeq (sAsg (mOp dDiv (mOp dIx (mOp dIx (mVar 0) (mC (.int 0))) (mC (.int 0))) (mVar 1)) (gmSub (mOp dIx (mVar 0) (mC (.int 0))) (mC (.int 0)) dSet)) (sRet (mVar 2)))) sNext [some (.loc 1), some (.int width), none, none] (Pot (x :: own') seed k R) = .ret (.int (x % width)) (Pot ((x / width) :: own') seed k R) := by
        rw [if_ok (pne rfl), if_pos (by rfl), sq a1, sq a2]
        exact ret_ok (var_ok rfl)
      rw [sqr body]
    · rcases List.mem_cons.mp hy with rfl | hy
      · exact ⟨Int.ediv_nonneg hx.1 (by omega), Int.lt_of_le_of_lt (Int.ediv_le_self _ hx.1) hx.2⟩
      · exact g'.1 y (List.mem_cons_of_mem _ hy)
  | nil =>
    have body : sIf (bVal (mOp dNeA (mOp dIx (mVar 0) (mC (.int 0))) (mLst mNil))) (sSeq (sAsg (mOp dMod (mOp dIx (mOp dIx (mVar 0) (mC (.int 0))) (mC (.int 0))) (mVar 1)) (gmName 2)) (sSeq (sAsg (mOp dDiv (mOp dIx (mOp dIx (mVar 0) (mC (.int 0))) (mC (.int 0))) (mVar 1)) (gmSub (mOp dIx (mVar 0) (mC (.int 0))) (mC (.int 0)) dSet)) (sRet (mVar 2)))) sNext [some (.loc 1), some (.int width), none, none] (Pot [] seed k R) = .next [some (.loc 1), some (.int width), none, none] (Pot [] seed k R) := by
      rw [if_ok (pne rfl)]; rfl
    have st : sAsg (mOp dAdd (mOp dIx (mVar 0) (mC (.int 2))) (mC (.int 1))) (gmSub (mVar 0) (mC (.int 2)) dSet) [some (.loc 1), some (.int width), none, none] (Pot [] seed k R) = .next [some (.loc 1), some (.int width), none, none] (Pot [] seed (k + 1) R) := by
      have q : mOp dAdd (mOp dIx (mVar 0) (mC (.int 2))) (mC (.int 1)) [some (.loc 1), some (.int width), none, none] (Pot [] seed k R) = .ok (.int (k + 1)) (Pot [] seed k R) := opv (p2 rfl) c_ok add_i
      simp only [sAsg, q, Res.bindS, gmSub]
      simp [mVar, mC, dSet, ixN, Pot, Res.bind, Res.bindS]
    have k2 : (k + 1) * (k + 1) ≤ 10001 * 10001 := Int.mul_le_mul (by omega) (by omega) (by omega) (by decide)
    have k20 : 0 ≤ (k + 1) * (k + 1) := Int.mul_nonneg (by omega) (by omega)
    have e1 : 65537 * (k + 1) * (k + 1) = 65537 * ((k + 1) * (k + 1)) := Int.mul_assoc _ _ _
    have b : (1000000000000000000000000000000000000000000000000 : Int) < 2 ^ 500 := by decide
    have b62 : (2 ^ 62 : Int) = 4611686018427387904 := by decide
    rw [b62] at hs
    have c1 : CMulW 65537 (k + 1) := cm (by decide) (by decide) (by omega) (by omega)
    have c2 : CMulW (65537 * (k + 1)) (k + 1) := cm (by omega) (by omega) (by omega) (by omega)
    generalize hm : seed + 65537 * (k + 1) * (k + 1) + 11 = m
    have m0 : 0 ≤ m ∧ m < 100000000000000000000 := by omega
    have c3 : CMulW m 48271 := cm m0.1 (by omega) (by decide) (by decide)
    generalize hn : m * 48271 % 2305843009213693921 = n
    have n0 : 0 ≤ n ∧ n < 2305843009213693921 := by rw [← hn]; exact ⟨Int.emod_nonneg _ (by decide), Int.emod_lt_of_pos _ (by decide)⟩
    have c4 : CMulW 99991 (k + 1) := cm (by decide) (by decide) (by omega) (by omega)
    have n1 := Int.emod_nonneg n (show (1000003 : Int) ≠ 0 by decide)
    have n2 := Int.emod_lt_of_pos n (show (0 : Int) < 1000003 by decide)
    have c5 : CMulW n (n % 1000003 + 99991 * (k + 1)) := cm n0.1 (by omega) (by omega) (by omega)
    generalize hz : n * (n % 1000003 + 99991 * (k + 1)) % 2305843009213693907 = z
    have d1 : CDivW z 97 := cd (by decide) (by decide)
    have d2 : CDivW z 1000033 := cd (by decide) (by decide)
    refine ⟨(z / 97 + z / 1000033) % width, [], k + 1, ?_, Int.emod_nonneg _ (by omega), Int.emod_lt_of_pos _ hw0, ⟨fun y hy => absurd hy (List.not_mem_nil), by decide⟩, by omega, by omega⟩
    unfold m__law_take mDef
    rw [if_pos (by rfl)]
    show (match sSeq _ _ [some (.loc 1), some (.int width), none, none] (Pot own seed k R) with | .ret d S' => Res.ok d S' | .next _ S' => .ok .non S' | .err x S' => .err x S' | _ => .stuck) = _
    rw [sq hwh, sq body, sq st]
    have f1 : ∀ y, mOp dIx (mVar 0) (mC (.int 1)) [some (.loc 1), some (.int width), none, y] (Pot [] seed (k + 1) R) = _ := fun y => p1 rfl
    have f2 : ∀ y, mOp dIx (mVar 0) (mC (.int 2)) [some (.loc 1), some (.int width), none, y] (Pot [] seed (k + 1) R) = _ := fun y => p2 rfl
    have a1 : mOp dMod (mOp dMul (mOp dAdd (mOp dAdd (mOp dIx (mVar 0) (mC (.int 1))) (mOp dMul (mOp dMul (mC (.int 65537)) (mOp dIx (mVar 0) (mC (.int 2)))) (mOp dIx (mVar 0) (mC (.int 2))))) (mC (.int 11))) (mC (.int 48271))) (mC (.int 2305843009213693921)) [some (.loc 1), some (.int width), none, none] (Pot [] seed (k + 1) R) = .ok (.int n) (Pot [] seed (k + 1) R) := by
      have x1 : mOp dMul (mOp dMul (mC (.int 65537)) (mOp dIx (mVar 0) (mC (.int 2)))) (mOp dIx (mVar 0) (mC (.int 2))) [some (.loc 1), some (.int width), none, none] (Pot [] seed (k + 1) R) = .ok (.int (65537 * (k + 1) * (k + 1))) (Pot [] seed (k + 1) R) :=
        opv (opv c_ok (f2 none) (mul_i c1)) (f2 none) (mul_i c2)
      rw [← hn, ← hm]
      exact opv (opv (opv (opv (f1 none) x1 add_i) c_ok add_i) c_ok (mul_i (by rw [hm]; exact c3))) c_ok (mod_i (by decide))
    have a2 : mOp dMod (mOp dMul (mVar 3) (mOp dAdd (mOp dMod (mVar 3) (mC (.int 1000003))) (mOp dMul (mC (.int 99991)) (mOp dIx (mVar 0) (mC (.int 2)))))) (mC (.int 2305843009213693907)) [some (.loc 1), some (.int width), none, some (.int n)] (Pot [] seed (k + 1) R) = .ok (.int z) (Pot [] seed (k + 1) R) := by
      rw [← hz]
      exact opv (opv (var_ok rfl) (opv (opv (var_ok rfl) c_ok (mod_i (by decide))) (opv c_ok (f2 _) (mul_i c4)) add_i) (mul_i c5)) c_ok (mod_i (by decide))
    have a3 : mOp dMod (mOp dAdd (mOp dDiv (mVar 3) (mC (.int 97))) (mOp dDiv (mVar 3) (mC (.int 1000033)))) (mVar 1) [some (.loc 1), some (.int width), none, some (.int z)] (Pot [] seed (k + 1) R) = .ok (.int ((z / 97 + z / 1000033) % width)) (Pot [] seed (k + 1) R) :=
      opv (opv (opv (var_ok rfl) c_ok (div_i d1)) (opv (var_ok rfl) c_ok (div_i d2)) add_i) (var_ok rfl) (mod_i hw0)
    have s1 := asg_ok (i := 3) a1
    have s2 := asg_ok (i := 3) a2
    rw [sq s1]
    show (match sSeq _ _ [some (.loc 1), some (.int width), none, some (.int n)] _ with | .ret d S' => Res.ok d S' | .next _ S' => .ok .non S' | .err x S' => .err x S' | _ => .stuck) = _
    rw [sq s2]
    show (match sRet _ [some (.loc 1), some (.int width), none, some (.int z)] _ with | .ret d S' => Res.ok d S' | .next _ S' => .ok .non S' | .err x S' => .err x S' | _ => .stuck) = _
    rw [ret_ok a3]
theorem def_ret {n np : Nat} {a : EM} {ds : List D} {S S' : Store} {d : D} (hl : ds.length = np) (h : a (startE n ds) S = .ok d S') : mDef n np (sRet a) ds S = .ok d S' := by
  unfold mDef
  rw [if_pos hl, ret_ok h]
theorem of_ {ds : List D} (hne : ds ≠ []) (hl : ds.length ≤ 1000) (g : Good own) (hs0 : 0 ≤ seed) (hs : seed < 2 ^ 62) (hk0 : 0 ≤ k) (hk : k ≤ 10000) :
    ∃ d ∈ ds, ∃ (own' : List Int) (k' : Int), m__law_of [.loc 1, .lst ds] (Pot own seed k R) = .ok d (Pot own' seed k' R) ∧ Good own' ∧ k ≤ k' ∧ k' ≤ k + 1 := by
  have hp : 0 < ds.length := List.length_pos_iff.mpr hne
  have b : (1000000 : Int) < 2 ^ 400 := by decide
  obtain ⟨r, own', k', h, r0, r1, g', k1, k2⟩ := take (R := R) g hs0 hs hk0 hk (show (0 : Int) < ds.length by omega) (by omega)
  have hr : r.toNat < ds.length := by omega
  refine ⟨ds[r.toNat], List.getElem_mem hr, own', k', ?_, g', k1, k2⟩
  refine def_ret rfl (opv (x := .lst ds) (var_ok rfl) ((call_ok (cons_ok (var_ok rfl) (cons_ok (show mCall cLen _ _ _ = .ok (.int ds.length) (Pot own seed k R) from (call_ok (cons_ok (var_ok rfl) nil_ok)).trans rfl) nil_ok))).trans h) ?_)
  have at1 : atI ds r = some ds[r.toNat] := by
    unfold atI ixN
    rw [if_pos r0, if_pos r1]
    exact List.getElem?_eq_getElem hr
  simp only [dIx, asL, at1]
theorem pw12 {env : En} {S : Store} : mOp dPow (mC (.int 10)) (mC (.int 12)) env S = .ok (.int (10 ^ 12)) S := opv c_ok c_ok (pow_i (by unfold CPow; decide))
theorem pw9 {env : En} {S : Store} : mOp dPow (mC (.int 10)) (mC (.int 9)) env S = .ok (.int (10 ^ 9)) S := opv c_ok c_ok (pow_i (by unfold CPow; decide))
theorem pw29 {env : En} {S : Store} : mOp dPow (mC (.int 10)) (mC (.int 29)) env S = .ok (.int (10 ^ 29)) S := opv c_ok c_ok (pow_i (by unfold CPow; decide))
theorem pw30 {env : En} {S : Store} : mOp dPow (mC (.int 10)) (mC (.int 30)) env S = .ok (.int (10 ^ 30)) S := opv c_ok c_ok (pow_i (by unfold CPow; decide))
def ByOk (d : D) : Prop := ∃ i : Int, d = .int i ∧ 1 ≤ i ∧ i ≤ 10 ^ 30
def FewOk (a : Int) (d : D) : Prop := ∃ i : Int, d = .int i ∧ 0 ≤ i ∧ i ≤ a
theorem two (g : Good own) (hs0 : 0 ≤ seed) (hs : seed < 2 ^ 62) (hk0 : 0 ≤ k) (hk : k ≤ 9000) :
    ∃ (p w : Int) (own' : List Int) (k' : Int), m__law_two [.loc 1] (Pot own seed k R) = .ok (.tup [.int p, .int w]) (Pot own' seed k' R) ∧ 0 ≤ p ∧ p ≤ w ∧ 1 ≤ w ∧ w < 2 ^ 210 ∧ Good own' ∧ k ≤ k' ∧ k' ≤ k + 7 := by
  have t12 : (10 : Int) ^ 12 = 1000000000000 := by decide
  have t9 : (10 : Int) ^ 9 = 1000000000 := by decide
  have t29 : (10 : Int) ^ 29 = 100000000000000000000000000000 := by decide
  have t30 : (10 : Int) ^ 30 = 1000000000000000000000000000000 := by decide
  have b400 : (100000000000000000000000000000000000000 : Int) < 2 ^ 400 := by decide
  have b500 : (100000000000000000000000000000000000000 : Int) < 2 ^ 500 := by decide
  -- by
  obtain ⟨r1, o1, k1, h1, r10, r11, g1, k10, k11⟩ := take (R := R) (k := k) (width := 10 ^ 12) g hs0 hs hk0 (by omega) (by decide) (by decide)
  obtain ⟨d1, m1, o2, k2, h2, g2, k20, k21⟩ := of_ (R := R) (k := k1) (ds := [.int 1, .int 2, .int 6, .int 97, .int 360360, .int (10 ^ 29 + 1), .int (1 + r1)]) (by simp) (by simp) g1 hs0 hs (by omega) (by omega)
  have by1 : ByOk d1 := by
    simp only [List.mem_cons, List.not_mem_nil, or_false] at m1
    rcases m1 with rfl | rfl | rfl | rfl | rfl | rfl | rfl <;> refine ⟨_, rfl, ?_, ?_⟩ <;> omega
  obtain ⟨b, rfl, b0, b1⟩ := by1
  have s1 : sAsg (mCall m__law_of (mCons (mVar 0) (mCons (mLst (mCons (mC (.int 1)) (mCons (mC (.int 2)) (mCons (mC (.int 6)) (mCons (mC (.int 97)) (mCons (mC (.int 360360)) (mCons (mOp dAdd (mOp dPow (mC (.int 10)) (mC (.int 29))) (mC (.int 1))) (mCons (mOp dAdd (mC (.int 1)) (mCall m__law_take (mCons (mVar 0) (mCons (mOp dPow (mC (.int 10)) (mC (.int 12))) mNil)))) mNil)))))))) mNil))) (gmName 1) [some (.loc 1), none, none, none] (Pot own seed k R) = .next [some (.loc 1), some (.int b), none, none] (Pot o2 seed k2 R) := by
    have x : mCall m__law_take (mCons (mVar 0) (mCons (mOp dPow (mC (.int 10)) (mC (.int 12))) mNil)) [some (.loc 1), none, none, none] (Pot own seed k R) = _ := (call_ok (cons_ok (var_ok rfl) (cons_ok pw12 nil_ok))).trans h1
    rw [asg_ok ((call_ok (cons_ok (var_ok rfl) (cons_ok (lst_ok (cons_ok c_ok (cons_ok c_ok (cons_ok c_ok (cons_ok c_ok (cons_ok c_ok (cons_ok (opv pw29 c_ok add_i) (cons_ok (opv c_ok x add_i) nil_ok))))))) (show 7 ≤ sizeLine by decide)) nil_ok))).trans h2)]
    rfl
  -- around
  obtain ⟨r2, o3, k3, h3, r20, r21, g3, k30, k31⟩ := take (R := R) (k := k2) (width := 10 ^ 9) g2 hs0 hs (by omega) (by omega) (by decide) (by decide)
  obtain ⟨d2, m2, o4, k4, h4, g4, k40, k41⟩ := of_ (R := R) (k := k3) (ds := [.int 1, .int 2, .int 3, .int 4, .int 12, .int (10 ^ 30 - 1), .int (1 + r2)]) (by simp) (by simp) g3 hs0 hs (by omega) (by omega)
  have by2 : ByOk d2 := by
    simp only [List.mem_cons, List.not_mem_nil, or_false] at m2
    rcases m2 with rfl | rfl | rfl | rfl | rfl | rfl | rfl <;> refine ⟨_, rfl, ?_, ?_⟩ <;> omega
  obtain ⟨a, rfl, a0, a1⟩ := by2
  have s2 : sAsg (mCall m__law_of (mCons (mVar 0) (mCons (mLst (mCons (mC (.int 1)) (mCons (mC (.int 2)) (mCons (mC (.int 3)) (mCons (mC (.int 4)) (mCons (mC (.int 12)) (mCons (mOp dSub (mOp dPow (mC (.int 10)) (mC (.int 30))) (mC (.int 1))) (mCons (mOp dAdd (mC (.int 1)) (mCall m__law_take (mCons (mVar 0) (mCons (mOp dPow (mC (.int 10)) (mC (.int 9))) mNil)))) mNil)))))))) mNil))) (gmName 2) [some (.loc 1), some (.int b), none, none] (Pot o2 seed k2 R) = .next [some (.loc 1), some (.int b), some (.int a), none] (Pot o4 seed k4 R) := by
    have x : mCall m__law_take (mCons (mVar 0) (mCons (mOp dPow (mC (.int 10)) (mC (.int 9))) mNil)) [some (.loc 1), some (.int b), none, none] (Pot o2 seed k2 R) = _ := (call_ok (cons_ok (var_ok rfl) (cons_ok pw9 nil_ok))).trans h3
    rw [asg_ok ((call_ok (cons_ok (var_ok rfl) (cons_ok (lst_ok (cons_ok c_ok (cons_ok c_ok (cons_ok c_ok (cons_ok c_ok (cons_ok c_ok (cons_ok (opv pw30 c_ok sub_i) (cons_ok (opv c_ok x add_i) nil_ok))))))) (show 7 ≤ sizeLine by decide)) nil_ok))).trans h4)]
    rfl
  -- few
  obtain ⟨r3, o5, k5, h5, r30, r31, g5, k50, k51⟩ := take (R := R) (k := k4) (width := a + 1) g4 hs0 hs (by omega) (by omega) (by omega) (by omega)
  obtain ⟨r4, o6, k6, h6, r40, r41, g6, k60, k61⟩ := take (R := R) (k := k5) (width := a + 1) g5 hs0 hs (by omega) (by omega) (by omega) (by omega)
  obtain ⟨d3, m3, o7, k7, h7, g7, k70, k71⟩ := of_ (R := R) (k := k6) (ds := [.int 0, .int 1, .int a, .int (a - 1), .int (a / 2), .int r3, .int r4]) (by simp) (by simp) g6 hs0 hs (by omega) (by omega)
  have by3 : FewOk a d3 := by
    simp only [List.mem_cons, List.not_mem_nil, or_false] at m3
    rcases m3 with rfl | rfl | rfl | rfl | rfl | rfl | rfl <;> refine ⟨_, rfl, ?_, ?_⟩ <;> omega
  obtain ⟨f, rfl, f0, f1⟩ := by3
  have s3 : sAsg (mCall m__law_of (mCons (mVar 0) (mCons (mLst (mCons (mC (.int 0)) (mCons (mC (.int 1)) (mCons (mVar 2) (mCons (mOp dSub (mVar 2) (mC (.int 1))) (mCons (mOp dDiv (mVar 2) (mC (.int 2))) (mCons (mCall m__law_take (mCons (mVar 0) (mCons (mOp dAdd (mVar 2) (mC (.int 1))) mNil))) (mCons (mCall m__law_take (mCons (mVar 0) (mCons (mOp dAdd (mVar 2) (mC (.int 1))) mNil))) mNil)))))))) mNil))) (gmName 3) [some (.loc 1), some (.int b), some (.int a), none] (Pot o4 seed k4 R) = .next [some (.loc 1), some (.int b), some (.int a), some (.int f)] (Pot o7 seed k7 R) := by
    have x1 : mCall m__law_take (mCons (mVar 0) (mCons (mOp dAdd (mVar 2) (mC (.int 1))) mNil)) [some (.loc 1), some (.int b), some (.int a), none] (Pot o4 seed k4 R) = _ := (call_ok (cons_ok (var_ok rfl) (cons_ok (opv (var_ok rfl) c_ok add_i) nil_ok))).trans h5
    have x2 : mCall m__law_take (mCons (mVar 0) (mCons (mOp dAdd (mVar 2) (mC (.int 1))) mNil)) [some (.loc 1), some (.int b), some (.int a), none] (Pot o5 seed k5 R) = _ := (call_ok (cons_ok (var_ok rfl) (cons_ok (opv (var_ok rfl) c_ok add_i) nil_ok))).trans h6
    rw [asg_ok ((call_ok (cons_ok (var_ok rfl) (cons_ok (lst_ok (cons_ok c_ok (cons_ok c_ok (cons_ok (var_ok rfl) (cons_ok (opv (var_ok rfl) c_ok sub_i) (cons_ok (opv (var_ok rfl) c_ok (div_i (cd (by decide) (by decide)))) (cons_ok x1 (cons_ok x2 nil_ok))))))) (show 7 ≤ sizeLine by decide)) nil_ok))).trans h7)]
    rfl
  have ab : a * b < 2 ^ 210 := Int.lt_of_le_of_lt (Int.mul_le_mul a1 b1 (by omega) (by omega)) (by decide)
  have cfb : CMulW f b := cm f0 (by omega) (by omega) (by omega)
  have cab : CMulW a b := cm (by omega) (by omega) (by omega) (by omega)
  refine ⟨f * b, a * b, o7, k7, ?_, Int.mul_nonneg f0 (by omega), Int.mul_le_mul_of_nonneg_right f1 (by omega), ?_, ab, g7, by omega, by omega⟩
  · unfold m__law_two mDef
    rw [if_pos (by rfl)]
    show (match sSeq _ _ [some (.loc 1), none, none, none] (Pot own seed k R) with | .ret d S' => Res.ok d S' | .next _ S' => .ok .non S' | .err x S' => .err x S' | _ => .stuck) = _
    rw [sq s1, sq s2, sq s3]
    have mn : mCall cMin2 (mCons (mVar 3) (mCons (mVar 2) mNil)) [some (.loc 1), some (.int b), some (.int a), some (.int f)] (Pot o7 seed k7 R) = .ok (.int f) (Pot o7 seed k7 R) := by
      rw [call_ok (cons_ok (var_ok rfl) (cons_ok (var_ok rfl) nil_ok))]
      show Res.ok (D.int (if a < f then a else f)) _ = _
      rw [if_neg (by omega)]
    rw [ret_ok (tup_ok (cons_ok (opv mn (var_ok rfl) (mul_i cfb)) (cons_ok (opv (var_ok rfl) (var_ok rfl) (mul_i cab)) nil_ok)) (show 2 ≤ sizeLine by decide))]
  · exact Int.le_trans (by decide) (Int.mul_le_mul a0 b0 (by decide) (by omega))
end
end Lw

set_option exponentiation.threshold 600
namespace Lw
open PySem L2 Lg
/-! ### a share as the program keeps it -/
def ga (p w : Nat) : Nat := p / Nat.gcd p w
def gb (p w : Nat) : Nat := w / Nat.gcd p w
def ShA (a b : Nat) : Ob := .ins 0 [("part", .int (a : Nat)), ("whole", .int (b : Nat))]
abbrev Sh (p w : Nat) : Ob := ShA (ga p w) (gb p w)
theorem gpos {p w : Nat} (h : 1 ≤ w) : 0 < Nat.gcd p w := Nat.gcd_pos_of_pos_right _ (by omega)
theorem ga_mul (p w : Nat) : ga p w * Nat.gcd p w = p := Nat.div_mul_cancel (Nat.gcd_dvd_left p w)
theorem gb_mul (p w : Nat) : gb p w * Nat.gcd p w = w := Nat.div_mul_cancel (Nat.gcd_dvd_right p w)
theorem gb_pos {p w : Nat} (h : 1 ≤ w) : 1 ≤ gb p w := by
  have := gb_mul p w
  rcases Nat.eq_zero_or_pos (gb p w) with z | z
  · rw [z] at this; omega
  · exact z
theorem ga_le (p w : Nat) : ga p w ≤ p := Nat.div_le_self _ _
theorem gb_le (p w : Nat) : gb p w ≤ w := Nat.div_le_self _ _
theorem cop {p w : Nat} (h : 1 ≤ w) : Nat.Coprime (ga p w) (gb p w) := Nat.coprime_div_gcd_div_gcd (gpos h)
theorem cross_ne {n m : PySem.Str} (h : (n == m) = false) : ¬ n = m := by simpa using h
theorem put2 (a b : D) : putD "whole" b (putD "part" a []) = ([("part", a), ("whole", b)] : List (PySem.Str × D)) := by
  have h : ¬ ("part" : PySem.Str) = "whole" := cross_ne (by decide +kernel)
  simp [putD, h]
theorem cdN {i : Int} {g : Nat} (h0 : 0 < g) (h : g < 2 ^ 500) : CDivW i (g : Int) := cd (by omega) (by
  have : ((g : Nat) : Int) < ((2 ^ 500 : Nat) : Int) := Int.ofNat_lt.mpr h
  simpa using this)
theorem init {p w n : Nat} {S : Store} (hw : 1 ≤ w) (hw5 : w < 2 ^ 500) (h : S[n]? = some (.ins 0 [])) : m_Share_init [.loc n, .int (p : Nat), .int (w : Nat)] S = .ok .non (S.set n (Sh p w)) := by
  have hn : n < S.length := (List.getElem?_eq_some_iff.mp h).1
  have hg : Nat.gcd p w < 2 ^ 500 := Nat.lt_of_le_of_lt (Nat.gcd_le_right _ (by omega)) hw5
  have s1 : sAsg (mCall cGcd (mCons (mVar 1) (mCons (mVar 2) mNil))) (gmName 3) [some (.loc n), some (.int (p : Nat)), some (.int (w : Nat)), none] S = .next [some (.loc n), some (.int (p : Nat)), some (.int (w : Nat)), some (.int (Nat.gcd p w : Nat))] S := by
    rw [asg_ok ((call_ok (cons_ok (var_ok rfl) (cons_ok (var_ok rfl) nil_ok))).trans rfl)]
    rfl
  have d1 : mOp dDiv (mVar 1) (mVar 3) [some (.loc n), some (.int (p : Nat)), some (.int (w : Nat)), some (.int (Nat.gcd p w : Nat))] S = .ok (.int (ga p w : Nat)) S := opv (var_ok rfl) (var_ok rfl) (div_i (cdN (gpos hw) hg))
  have d2 : ∀ S', mOp dDiv (mVar 2) (mVar 3) [some (.loc n), some (.int (p : Nat)), some (.int (w : Nat)), some (.int (Nat.gcd p w : Nat))] S' = .ok (.int (gb p w : Nat)) S' := fun S' => opv (var_ok rfl) (var_ok rfl) (div_i (cdN (gpos hw) hg))
  have v0 : ∀ S' : Store, mVar 0 [some (.loc n), some (.int (p : Nat)), some (.int (w : Nat)), some (.int (Nat.gcd p w : Nat))] S' = .ok (.loc n) S' := fun S' => var_ok rfl
  have s2 : sFldM 0 "part" (mVar 0) (mOp dDiv (mVar 1) (mVar 3)) [some (.loc n), some (.int (p : Nat)), some (.int (w : Nat)), some (.int (Nat.gcd p w : Nat))] S = .next [some (.loc n), some (.int (p : Nat)), some (.int (w : Nat)), some (.int (Nat.gcd p w : Nat))] (S.set n (.ins 0 (putD "part" (.int (ga p w : Nat)) []))) := by
    simp [sFldM, d1, v0, Res.bindS, h]
  have s3 : sFldM 0 "whole" (mVar 0) (mOp dDiv (mVar 2) (mVar 3)) [some (.loc n), some (.int (p : Nat)), some (.int (w : Nat)), some (.int (Nat.gcd p w : Nat))] (S.set n (.ins 0 (putD "part" (.int (ga p w : Nat)) []))) = .next [some (.loc n), some (.int (p : Nat)), some (.int (w : Nat)), some (.int (Nat.gcd p w : Nat))] (S.set n (Sh p w)) := by
    have hl : (putD "part" (D.int (ga p w : Nat)) []).length < 1000 := (show 1 < 1000 by decide)
    simp only [sFldM, d2, v0, Res.bindS, List.getElem?_set_self hn, hl, and_self, if_true, List.set_set, put2]
    rfl
  unfold m_Share_init mDef
  rw [if_pos (by rfl)]
  show (match sSeq _ _ [some (.loc n), some (.int (p : Nat)), some (.int (w : Nat)), none] S with | .ret d S' => Res.ok d S' | .next _ S' => .ok .non S' | .err x S' => .err x S' | _ => .stuck) = _
  rw [sq s1, sq s2, s3]
theorem set_snoc {α : Type} (S : List α) (x y : α) : (S ++ [x]).set S.length y = S ++ [y] := by
  rw [List.set_append_right _ _ (Nat.le_refl _)]; simp
theorem mk {p w : Nat} {as : AM} {env : En} {S S' : Store} (hw : 1 ≤ w) (hw5 : w < 2 ^ 500) (h : as env S = .ok [.int (p : Nat), .int (w : Nat)] S') : mMake 0 m_Share_init [] as env S = .ok (.loc S'.length) (S' ++ [Sh p w]) := by
  unfold mMake
  rw [h]
  simp only [Res.bind, List.append_nil]
  rw [init hw hw5 (by simp)]
  simp only [set_snoc]
theorem mkk {p w : Nat} {as : AM} {env : En} {S S' : Store} (hw : 1 ≤ w) (hw5 : w < 2 ^ 500) (h : as env S = .ok [.int (w : Nat), .int (p : Nat)] S') : mMakeK 0 2 m_Share_init (fun ds es => ds ++ es.reverse) as env S = .ok (.loc S'.length) (S' ++ [Sh p w]) := by
  unfold mMakeK
  rw [h]
  simp only [Res.bind, List.length_cons, List.length_nil, if_true, List.reverse_cons, List.reverse_nil, List.nil_append, List.cons_append]
  rw [init hw hw5 (by simp)]
  simp only [set_snoc]
/-! ### asking it -/
section
variable {a b n i : Nat} {S : Store} {env : En}
theorem fpart (e : env[i]? = some (some (.loc n))) (h : S[n]? = some (ShA a b)) : mFldO ok_of_part "part" (mVar i) env S = .ok (.int (a : Nat)) S := by
  unfold mFldO
  rw [var_ok e]
  simp [Res.bind, insF, h, ShA, ok_of_part]
theorem fwhole (e : env[i]? = some (some (.loc n))) (h : S[n]? = some (ShA a b)) : mFldO ok_of_whole "whole" (mVar i) env S = .ok (.int (b : Nat)) S := by
  have q : (("whole" : PySem.Str) == "part") = false := by decide +kernel
  unfold mFldO
  rw [var_ok e]
  simp [Res.bind, insF, h, ShA, ok_of_whole, List.lookup, q]
def tx (a : Nat) : PySem.Str := PySem.Str.ofString (toString ((a : Nat) : Int))
theorem lgN {x k : Nat} (h : x < 2 ^ k) (hk : 0 < k) : ((x : Nat) : Int).natAbs.log2 < k := by
  show Nat.log2 x < k
  by_cases z : x = 0
  · subst z; simpa using hk
  · exact (Nat.log2_lt z).mpr h
theorem tx_len (h : a < 2 ^ 500) : (tx a).length ≤ 501 := by
  have e := int_text_length_le (a := (a : Int)) (k := 500) (by decide) (lgN h (by decide))
  unfold tx
  rw [ofString_length]
  exact e
theorem str_ok {e : EM} {S' : Store} (h : e env S = .ok (.int (a : Nat)) S') (ha : a < 2 ^ 500) : mCall cStr (mCons e mNil) env S = .ok (.str (tx a)) S' := by
  rw [call_ok (cons_ok h nil_ok)]
  exact if_pos (Nat.lt_of_lt_of_le (lgN ha (by decide)) (by decide))
theorem fmt_ok {e : EM} {S' : Store} (h : e env S = .ok (.int (a : Nat)) S') (ha : a < 2 ^ 500) : mFmt e env S = .ok (.str (tx a)) S' := by
  unfold mFmt
  rw [h]
  exact if_pos (Nat.lt_of_lt_of_le (lgN ha (by decide)) (by decide))
theorem js_ok {e : EM} {es : List EM} {acc y : PySem.Str} {S' : Store} {r : Res D} (h : e env S = .ok (.str y) S') (hl : (acc ++ y).length ≤ sizeLine) (q : mJs es (acc ++ y) env S' = r) : mJs (e :: es) acc env S = r := by
  show (e env S).bind _ = _
  rw [h]
  show (if (acc ++ y).length ≤ sizeLine then mJs es (acc ++ y) env S' else .stuck) = _
  rw [if_pos hl, q]
theorem emp_app (y : PySem.Str) : PySem.Str.empty ++ y = y := Str.append_left_empty rfl
theorem own_str (h : S[n]? = some (ShA a b)) (ha : a < 2 ^ 500) (hb : b < 2 ^ 500) : m_Share_str [.loc n] S = .ok (.str (tx a ++ "/" ++ tx b)) S := by
  have la := tx_len ha
  have lb := tx_len hb
  have l1 : ("/" : PySem.Str).length = 1 := by decide +kernel
  refine def_ret rfl (js_ok (fmt_ok (fpart rfl h) ha) ?_ (js_ok c_ok ?_ (js_ok (fmt_ok (fwhole rfl h) hb) ?_ ?_))) <;> rw [emp_app]
  · exact Nat.le_trans la (by decide)
  · rw [Str.length_append, l1]; exact Nat.le_trans (Nat.add_le_add_right la 1) (by decide)
  · rw [Str.length_append, Str.length_append, l1]; exact Nat.le_trans (Nat.add_le_add (Nat.add_le_add_right la 1) lb) (by decide)
  · rfl
theorem own_repr (h : S[n]? = some (ShA a b)) (ha : a < 2 ^ 500) (hb : b < 2 ^ 500) : m_Share_repr [.loc n] S = .ok (.str ("Share(" ++ tx a ++ ", " ++ tx b ++ ")")) S := by
  have la := tx_len ha
  have lb := tx_len hb
  have l1 : ("Share(" : PySem.Str).length = 6 := by decide +kernel
  have l2 : (", " : PySem.Str).length = 2 := by decide +kernel
  have l3 : (")" : PySem.Str).length = 1 := by decide +kernel
  have z : 2000 ≤ sizeLine := by decide
  refine def_ret rfl (js_ok c_ok ?_ (js_ok (fmt_ok (fpart rfl h) ha) ?_ (js_ok c_ok ?_ (js_ok (fmt_ok (fwhole rfl h) hb) ?_ (js_ok c_ok ?_ ?_))))) <;> rw [emp_app]
  · rw [l1]; omega
  · rw [Str.length_append, l1]; omega
  · simp only [Str.length_append, l1, l2]; omega
  · simp only [Str.length_append, l1, l2]; omega
  · simp only [Str.length_append, l1, l2, l3]; omega
  · rfl
theorem own1_str {f : List D → Store → Res D} {base : List D → Store → Res D} {y : PySem.Str} (h : S[n]? = some (ShA a b)) (hf : f [.loc n] S = .ok (.str y) S) (e : env[i]? = some (some (.loc n))) : mCall (cO1 0 isStrD f base) (mCons (mVar i) mNil) env S = .ok (.str y) S := by
  rw [call_ok (cons_ok (var_ok e) nil_ok)]
  unfold cO1
  simp [insC, h, ShA, hf, Res.bind, isStrD]
/-! ### == -/
theorem eq_no {d : D} {k : String} (h : S[n]? = some (ShA a b)) (hk : kindD d S = some k) : dOE 0 okE m_Share_eq dEqA (.loc n) d S = .ok (.bl false) S := by
  have e : m_Share_eq [.loc n, d] S = .ok (.bl false) S := by
    refine def_ret rfl ?_
    have : mIsO io_Share (mVar 1) (startE 2 [.loc n, d]) S = .ok (.bl false) S := by
      unfold mIsO
      rw [var_ok (show (startE 2 [D.loc n, d])[1]? = some (some d) from rfl)]
      simp [Res.bind, hk]
    unfold mAndV
    rw [this]
    rfl
  unfold dOE eqOk
  simp [insC, h, ShA, hk, e]
theorem eq_own {a' b' m : Nat} (h : S[n]? = some (ShA a b)) (h' : S[m]? = some (ShA a' b')) : m_Share_eq [.loc n, .loc m] S = .ok (.bl (decide (a = a') && decide (b = b'))) S := by
  refine def_ret rfl ?_
  have q : mIsO io_Share (mVar 1) (startE 2 [.loc n, .loc m]) S = .ok (.bl true) S := by
    unfold mIsO
    rw [var_ok (show (startE 2 [D.loc n, D.loc m])[1]? = some (some (D.loc m)) from rfl)]
    simp [Res.bind, kindD, insC, h', ShA, io_Share]
  have q1 : mOp dEqA (mFldO ok_of_part "part" (mVar 0)) (mFldO ok_of_part "part" (mVar 1)) (startE 2 [.loc n, .loc m]) S = .ok (.bl (decide (a = a'))) S := by
    refine opv (fpart rfl h) (fpart rfl h') ((eqI _ _ _).trans (by congr 2; exact decide_eq_decide.mpr Int.ofNat_inj))
  have q2 : mOp dEqA (mFldO ok_of_whole "whole" (mVar 0)) (mFldO ok_of_whole "whole" (mVar 1)) (startE 2 [.loc n, .loc m]) S = .ok (.bl (decide (b = b'))) S := by
    refine opv (fwhole rfl h) (fwhole rfl h') ((eqI _ _ _).trans (by congr 2; exact decide_eq_decide.mpr Int.ofNat_inj))
  unfold mAndV
  rw [q]
  simp only [Res.bind, if_true]
  rw [q1]
  by_cases z : a = a' <;> simp [z, q2]
theorem oe_own {a' b' m : Nat} {base : D → D → Store → Res D} (h : S[n]? = some (ShA a b)) (h' : S[m]? = some (ShA a' b')) : dOE 0 okE m_Share_eq base (.loc n) (.loc m) S = .ok (.bl (decide (a = a') && decide (b = b'))) S := by
  have e := eq_own h h'
  unfold dOE eqOk
  simp [insC, h, h', ShA, kindD, okE, e]
theorem on_own {a' b' m : Nat} {base : D → D → Store → Res D} (h : S[n]? = some (ShA a b)) (h' : S[m]? = some (ShA a' b')) : dON 0 okE m_Share_eq base (.loc n) (.loc m) S = .ok (.bl (!(decide (a = a') && decide (b = b')))) S := by
  have e := eq_own h h'
  unfold dON eqOk
  simp only [insC, h, h', ShA, kindD, okE, e, Res.bind]
  rfl
end
end Lw

set_option exponentiation.threshold 600
namespace Lw
open PySem L2 Lg
/-! ### the law's own greatest common part -/
theorem eu {S : Store} : ∀ (j a b n : Nat), b < 2 ^ j → 2 * j < n → sWhile (bVal (mOp dNeA (mVar 1) (mC (.int 0)))) (sPar 0 1 (mCons (mVar 1) (mCons (mOp dMod (mVar 0) (mVar 1)) mNil))) n [some (.int (a : Nat)), some (.int (b : Nat))] S = .next [some (.int (Nat.gcd a b : Nat)), some (.int 0)] S := by
  have c : ∀ a b : Nat, bVal (mOp dNeA (mVar 1) (mC (.int 0))) [some (.int (a : Nat)), some (.int (b : Nat))] S = .ok (!decide (b = 0)) S := fun a b => val_ok (opv (var_ok rfl) c_ok ((neI _ _ _).trans (by congr 3; exact decide_eq_decide.mpr Int.ofNat_inj)))
  have stop : ∀ (n a : Nat), sWhile (bVal (mOp dNeA (mVar 1) (mC (.int 0)))) (sPar 0 1 (mCons (mVar 1) (mCons (mOp dMod (mVar 0) (mVar 1)) mNil))) (n + 1) [some (.int (a : Nat)), some (.int ((0 : Nat) : Int))] S = .next [some (.int (Nat.gcd a 0 : Nat)), some (.int 0)] S := fun n a => by
    simp only [sWhile, c]
    rw [Nat.gcd_zero_right]
    rfl
  have step : ∀ (n a b : Nat), b ≠ 0 → sWhile (bVal (mOp dNeA (mVar 1) (mC (.int 0)))) (sPar 0 1 (mCons (mVar 1) (mCons (mOp dMod (mVar 0) (mVar 1)) mNil))) (n + 1) [some (.int (a : Nat)), some (.int (b : Nat))] S = sWhile (bVal (mOp dNeA (mVar 1) (mC (.int 0)))) (sPar 0 1 (mCons (mVar 1) (mCons (mOp dMod (mVar 0) (mVar 1)) mNil))) n [some (.int (b : Nat)), some (.int ((a % b : Nat) : Int))] S := fun n a b hb => by
    have p : sPar 0 1 (mCons (mVar 1) (mCons (mOp dMod (mVar 0) (mVar 1)) mNil)) [some (.int (a : Nat)), some (.int (b : Nat))] S = .next [some (.int (b : Nat)), some (.int ((a % b : Nat) : Int))] S := by
      unfold sPar
      rw [cons_ok (var_ok rfl) (cons_ok (opv (var_ok rfl) (var_ok rfl) (mod_i (by omega))) nil_ok)]
      rfl
    simp only [sWhile, c, hb, decide_false, Bool.not_false, Res.bindS, if_true, p]
  intro j
  induction j with
  | zero =>
    intro a b n hb hn
    obtain rfl : b = 0 := by simpa using hb
    obtain ⟨n, rfl⟩ : ∃ m, n = m + 1 := ⟨n - 1, by omega⟩
    exact stop n a
  | succ j ih =>
    intro a b n hb hn
    obtain ⟨n, rfl⟩ : ∃ m, n = m + 2 := ⟨n - 2, by omega⟩
    by_cases h0 : b = 0
    · subst h0; exact stop _ _
    · rw [step _ _ _ h0]
      by_cases h1 : a % b = 0
      · rw [h1, stop, Nat.gcd_zero_right, Nat.gcd_comm, Nat.gcd_rec, h1, Nat.gcd_zero_left]
      · rw [step _ _ _ h1]
        have l1 : a % b < b := Nat.mod_lt _ (by omega)
        have l2 : b % (a % b) < a % b := Nat.mod_lt _ (by omega)
        have l3 : b = (a % b) * (b / (a % b)) + b % (a % b) := (Nat.div_add_mod _ _).symm
        have l4 : 1 ≤ b / (a % b) := Nat.div_pos (Nat.le_of_lt l1) (by omega)
        have l5 : a % b ≤ (a % b) * (b / (a % b)) := Nat.le_mul_of_pos_right _ l4
        rw [ih _ _ n (by rw [Nat.pow_succ] at hb; omega) (by omega)]
        congr 3
        rw [show Nat.gcd (a % b) (b % (a % b)) = Nat.gcd b (a % b) by rw [Nat.gcd_comm (a % b), ← Nat.gcd_rec, Nat.gcd_comm], Nat.gcd_comm b, ← Nat.gcd_rec, Nat.gcd_comm]
theorem common {a b : Nat} {S : Store} (hb : b < 2 ^ 500) : m__law_common [.int (a : Nat), .int (b : Nat)] S = .ok (.int (Nat.gcd a b : Nat)) S := by
  unfold m__law_common mDef
  rw [if_pos (by rfl)]
  show (match sSeq _ _ [some (.int (a : Nat)), some (.int (b : Nat))] S with | .ret d S' => Res.ok d S' | .next _ S' => .ok .non S' | .err x S' => .err x S' | _ => .stuck) = _
  rw [sq (eu 500 a b 2000 hb (by decide)), ret_ok (var_ok rfl)]
/-! ### one share is right -/
theorem cmN {x y : Nat} (hx : x < 2 ^ 500) (hy : y < 2 ^ 500) : CMulW (x : Int) (y : Int) := by
  have a := lgN hx (by decide)
  have b := lgN hy (by decide)
  unfold CMulW
  omega
theorem or_ok {a b : BM} {env : En} {S S1 : Store} {r : Res Bool} (h : a env S = .ok false S1) (h2 : b env S1 = r) : bOr a b env S = r := by rw [or_no h, h2]
theorem no_if {c : BM} {a b : SM} {env : En} {S S' : Store} (h : c env S = .ok false S') (hb : b env S' = .next env S') : sIf c a b env S = .next env S' := by rw [if_ok h, if_neg (by decide), hb]
theorem isi_int {e : EM} {env : En} {S S' : Store} {i : Int} (h : e env S = .ok (.int i) S') : bVal (mIsi "bool" e) env S = .ok false S' := by
  refine val_ok ?_
  have k : kitB "int" "bool" = some false := by decide +kernel
  unfold mIsi
  rw [h]
  simp [Res.bind, kindD, k]
theorem dneS (x y : PySem.Str) (S : Store) : dNeA (.str x) (.str y) S = .ok (.bl (!decide (x = y))) S := rfl
theorem ne01 (S : Store) : dNeA (.tup [.int 0, .int 1]) (.tup [.int 0, .int 1]) S = .ok (.bl false) S := rfl
theorem addS {x y : PySem.Str} {S : Store} (h : (x ++ y).length ≤ sizeLine) : dAdd (.str x) (.str y) S = .ok (.str (x ++ y)) S := by
  rw [Str.length_append] at h
  exact if_pos h
section
variable {p w : Nat} {S : Store}
theorem right (hp : p ≤ w) (hw : 1 ≤ w) (hz : w < 2 ^ 210) : m__law_right [.int (p : Nat), .int (w : Nat)] S = .ok (.bl true) (S ++ [Sh p w, Sh p w]) := by
  have b21 : (2 : Nat) ^ 210 < 2 ^ 500 := by decide
  have hw5 : w < 2 ^ 500 := by omega
  have ga5 : ga p w < 2 ^ 500 := by have := ga_le p w; omega
  have gb5 : gb p w < 2 ^ 500 := by have := gb_le p w; omega
  have hS : ∀ T : Store, (S ++ Sh p w :: T)[S.length]? = some (ShA (ga p w) (gb p w)) := fun T => by simp
  have s1 : sAsg (mMake 0 m_Share_init [] (mCons (mVar 0) (mCons (mVar 1) mNil))) (gmName 2) [some (.int (p : Nat)), some (.int (w : Nat)), none] S = .next [some (.int (p : Nat)), some (.int (w : Nat)), some (.loc S.length)] (S ++ [Sh p w]) := by
    rw [asg_ok (mk hw hw5 (cons_ok (var_ok rfl) (cons_ok (var_ok rfl) nil_ok)))]
    rfl
  generalize hE : ([some (.int (p : Nat)), some (.int (w : Nat)), some (.loc S.length)] : En) = E
  have e0 : E[0]? = some (some (.int (p : Nat))) := by rw [← hE]; rfl
  have e1 : E[1]? = some (some (.int (w : Nat))) := by rw [← hE]; rfl
  have e2 : E[2]? = some (some (.loc S.length)) := by rw [← hE]; rfl
  have fp : mFldO ok_of_part "part" (mVar 2) E (S ++ [Sh p w]) = .ok (.int (ga p w : Nat)) (S ++ [Sh p w]) := fpart e2 (hS [])
  have fw : mFldO ok_of_whole "whole" (mVar 2) E (S ++ [Sh p w]) = .ok (.int (gb p w : Nat)) (S ++ [Sh p w]) := fwhole e2 (hS [])
  have cr : ((ga p w : Nat) : Int) * (w : Nat) = (p : Nat) * ((gb p w : Nat) : Int) := by
    have h1 := ga_mul p w
    have h2 := gb_mul p w
    have : ga p w * w = p * gb p w := by
      calc ga p w * w = ga p w * (gb p w * Nat.gcd p w) := by rw [h2]
        _ = (ga p w * Nat.gcd p w) * gb p w := by rw [Nat.mul_comm (gb p w), Nat.mul_assoc]
        _ = p * gb p w := by rw [h1]
    exact_mod_cast this
  have t1 : bVal (mOp dNeA (mOp dMul (mFldO ok_of_part "part" (mVar 2)) (mVar 1)) (mOp dMul (mVar 0) (mFldO ok_of_whole "whole" (mVar 2)))) E (S ++ [Sh p w]) = .ok false (S ++ [Sh p w]) := by
    refine val_ok (opv (opv fp (var_ok e1) (mul_i (cmN ga5 hw5))) (opv (var_ok e0) fw (mul_i (cmN (by omega) gb5))) ?_)
    rw [neI, cr]; simp
  have t2 : bVal (mOp dNeA (mCall m__law_common (mCons (mFldO ok_of_whole "whole" (mVar 2)) (mCons (mFldO ok_of_part "part" (mVar 2)) mNil))) (mC (.int 1))) E (S ++ [Sh p w]) = .ok false (S ++ [Sh p w]) := by
    refine val_ok (opv ((call_ok (cons_ok fw (cons_ok fp nil_ok))).trans (common ga5)) c_ok ?_)
    have : Nat.gcd (gb p w) (ga p w) = 1 := by rw [Nat.gcd_comm]; exact cop hw
    rw [neI, this]; rfl
  have t3 : bVal (mOp dLtA (mFldO ok_of_whole "whole" (mVar 2)) (mC (.int 1))) E (S ++ [Sh p w]) = .ok false (S ++ [Sh p w]) := by
    have := gb_pos (p := p) hw
    refine val_ok (opv fw c_ok ?_)
    show Res.ok (D.bl (decide (((gb p w : Nat) : Int) < 1))) _ = _
    rw [decide_eq_false (by omega)]
  have s2 : ∀ a, sIf (bOr (bVal (mOp dNeA (mOp dMul (mFldO ok_of_part "part" (mVar 2)) (mVar 1)) (mOp dMul (mVar 0) (mFldO ok_of_whole "whole" (mVar 2))))) (bOr (bVal (mOp dNeA (mCall m__law_common (mCons (mFldO ok_of_whole "whole" (mVar 2)) (mCons (mFldO ok_of_part "part" (mVar 2)) mNil))) (mC (.int 1)))) (bVal (mOp dLtA (mFldO ok_of_whole "whole" (mVar 2)) (mC (.int 1)))))) a sNext E (S ++ [Sh p w]) = .next E (S ++ [Sh p w]) := fun a => no_if (or_ok t1 (or_ok t2 t3)) rfl
  have s3 : ∀ a, sIf (bAnd (bVal (mOp dEqA (mVar 0) (mC (.int 0)))) (bVal (mOp dNeA (mTup (mCons (mFldO ok_of_part "part" (mVar 2)) (mCons (mFldO ok_of_whole "whole" (mVar 2)) mNil))) (mTup (mCons (mC (.int 0)) (mCons (mC (.int 1)) mNil)))))) a sNext E (S ++ [Sh p w]) = .next E (S ++ [Sh p w]) := fun a => by
    refine no_if ?_ rfl
    rw [and_v (val_ok (opv (var_ok e0) c_ok (eqI _ _ _)))]
    by_cases z : p = 0
    · have h1 : ga p w = 0 := by rw [z]; exact Nat.zero_div _
      have h2 : gb p w = 1 := by rw [z]; unfold gb; rw [Nat.gcd_zero_left]; exact Nat.div_self hw
      rw [if_pos (by simp [z])]
      refine val_ok (opv (tup_ok (cons_ok fp (cons_ok fw nil_ok)) (show 2 ≤ sizeLine by decide)) (tup_ok (cons_ok c_ok (cons_ok c_ok nil_ok)) (show 2 ≤ sizeLine by decide)) ?_)
      rw [h1, h2]
      exact ne01 _
    · rw [if_neg (by simp; omega)]
  have s4 : ∀ a, sIf (bOr (bVal (mIsi "bool" (mFldO ok_of_part "part" (mVar 2)))) (bVal (mIsi "bool" (mFldO ok_of_whole "whole" (mVar 2))))) a sNext E (S ++ [Sh p w]) = .next E (S ++ [Sh p w]) := fun a => no_if (or_ok (isi_int fp) (isi_int fw)) rfl
  have la := tx_len ga5
  have lb := tx_len gb5
  have z : 2000 ≤ sizeLine := by decide
  have l1 : ("/" : PySem.Str).length = 1 := by decide +kernel
  have m1 : ("Share(" : PySem.Str).length = 6 := by decide +kernel
  have m2 : (", " : PySem.Str).length = 2 := by decide +kernel
  have m3 : (")" : PySem.Str).length = 1 := by decide +kernel
  have os : mCall (cO1 0 isStrD m_Share_str cStr) (mCons (mVar 2) mNil) E (S ++ [Sh p w]) = _ := own1_str (hS []) (own_str (hS []) ga5 gb5) e2
  have or' : mCall (cO1 0 isStrD m_Share_repr cReprS) (mCons (mVar 2) mNil) E (S ++ [Sh p w]) = _ := own1_str (hS []) (own_repr (hS []) ga5 gb5) e2
  have u1 : bVal (mOp dNeA (mCall (cO1 0 isStrD m_Share_str cStr) (mCons (mVar 2) mNil)) (mOp dAdd (mOp dAdd (mCall cStr (mCons (mFldO ok_of_part "part" (mVar 2)) mNil)) (mC (.str "/"))) (mCall cStr (mCons (mFldO ok_of_whole "whole" (mVar 2)) mNil)))) E (S ++ [Sh p w]) = .ok false (S ++ [Sh p w]) := by
    refine val_ok (opv os (opv (opv (str_ok fp ga5) c_ok (addS ?_)) (str_ok fw gb5) (addS ?_)) ((dneS _ _ _).trans ?_))
    · rw [Str.length_append, l1]; omega
    · simp only [Str.length_append, l1]; omega
    · rw [decide_eq_true rfl]; rfl
  have u2 : bVal (mOp (dOE 0 okE m_Share_eq dEqA) (mVar 2) (mTup (mCons (mFldO ok_of_part "part" (mVar 2)) (mCons (mFldO ok_of_whole "whole" (mVar 2)) mNil)))) E (S ++ [Sh p w]) = .ok false (S ++ [Sh p w]) :=
    val_ok (opv (var_ok e2) (tup_ok (cons_ok fp (cons_ok fw nil_ok)) (show 2 ≤ sizeLine by decide)) (eq_no (hS []) rfl))
  have u3 : bVal (mOp (dOE 0 okE m_Share_eq dEqA) (mVar 2) (mCall (cO1 0 isStrD m_Share_str cStr) (mCons (mVar 2) mNil))) E (S ++ [Sh p w]) = .ok false (S ++ [Sh p w]) := val_ok (opv (var_ok e2) os (eq_no (hS []) rfl))
  have s5 : ∀ a, sIf (bOr (bVal (mOp dNeA (mCall (cO1 0 isStrD m_Share_str cStr) (mCons (mVar 2) mNil)) (mOp dAdd (mOp dAdd (mCall cStr (mCons (mFldO ok_of_part "part" (mVar 2)) mNil)) (mC (.str "/"))) (mCall cStr (mCons (mFldO ok_of_whole "whole" (mVar 2)) mNil))))) (bOr (bVal (mOp (dOE 0 okE m_Share_eq dEqA) (mVar 2) (mTup (mCons (mFldO ok_of_part "part" (mVar 2)) (mCons (mFldO ok_of_whole "whole" (mVar 2)) mNil))))) (bVal (mOp (dOE 0 okE m_Share_eq dEqA) (mVar 2) (mCall (cO1 0 isStrD m_Share_str cStr) (mCons (mVar 2) mNil)))))) a sNext E (S ++ [Sh p w]) = .next E (S ++ [Sh p w]) := fun a => no_if (or_ok u1 (or_ok u2 u3)) rfl
  have last : mOp (dOE 0 okE m_Share_eq dEqA) (mVar 2) (mMakeK 0 2 m_Share_init (fun ds es => ds ++ es.reverse) (mCons (mVar 1) (mCons (mVar 0) mNil))) E (S ++ [Sh p w]) = .ok (.bl true) (S ++ [Sh p w, Sh p w]) := by
    refine opv (var_ok e2) (mkk hw hw5 (cons_ok (var_ok e1) (cons_ok (var_ok e0) nil_ok))) ?_
    rw [List.append_assoc]
    refine (oe_own (a := ga p w) (b := gb p w) (hS [Sh p w]) (a' := ga p w) (b' := gb p w) ?_).trans (by simp)
    simp
  unfold m__law_right mDef
  rw [if_pos (by rfl)]
  show (match sSeq _ _ [some (.int (p : Nat)), some (.int (w : Nat)), none] S with | .ret d S' => Res.ok d S' | .next _ S' => .ok .non S' | .err x S' => .err x S' | _ => .stuck) = _
  rw [sq s1, hE, sq (s2 _), sq (s3 _), sq (s4 _), sq (s5 _)]
  rw [sq (?_ : sIf _ _ _ E (S ++ [Sh p w]) = .next E (S ++ [Sh p w])), ret_ok last]
  refine no_if (val_ok (opv or' (opv (opv (opv (opv c_ok (str_ok fp ga5) (addS ?_)) c_ok (addS ?_)) (str_ok fw gb5) (addS ?_)) c_ok (addS ?_)) ((dneS _ _ _).trans ?_))) rfl
  · simp only [Str.length_append, m1, m2, m3]; omega
  · simp only [Str.length_append, m1, m2, m3]; omega
  · simp only [Str.length_append, m1, m2, m3]; omega
  · simp only [Str.length_append, m1, m2, m3]; omega
  · rw [decide_eq_true rfl]; rfl
end
end Lw

set_option exponentiation.threshold 600
namespace Lw
open PySem L2 Lg
/-! ### two shares -/
theorem cross_pos {a b a' b' g g' : Nat} (hg : 0 < g) (hg' : 0 < g') : ((a : Int) * g * (b' * g') - a' * g' * (b * g) = ((a : Int) * b' - a' * b) * (g * g')) ∧ (0 : Int) < (g : Int) * g' := by
  refine ⟨?_, by have := Nat.mul_pos hg hg'; exact_mod_cast this⟩
  have h1 : (a : Int) * g * (b' * g') = (a : Int) * b' * (g * g') := by
    rw [Int.mul_assoc, Int.mul_assoc, Int.mul_left_comm (g : Int)]
  have h2 : (a' : Int) * g' * (b * g) = (a' : Int) * b * (g * g') := by
    rw [Int.mul_assoc, Int.mul_assoc, Int.mul_left_comm (g' : Int), Int.mul_comm (g' : Int)]
  rw [h1, h2, Int.sub_mul]
theorem sgn {x z : Int} (hz : 0 < z) : (0 < x * z ↔ 0 < x) ∧ (x * z = 0 ↔ x = 0) := by
  refine ⟨⟨fun h => ?_, fun h => Int.mul_pos h hz⟩, ⟨fun h => ?_, fun h => by rw [h, Int.zero_mul]⟩⟩
  · by_cases q : 0 < x
    · exact q
    · have := Int.mul_nonneg (show 0 ≤ -x by omega) (Int.le_of_lt hz)
      rw [Int.neg_mul] at this
      omega
  · rcases Int.mul_eq_zero.mp h with q | q
    · exact q
    · omega
theorem low_eq {a b a' b' : Nat} (hb : 1 ≤ b) (hb' : 1 ≤ b') (h : Nat.Coprime a b) (h' : Nat.Coprime a' b') (e : a * b' = a' * b) : a = a' ∧ b = b' := by
  have d1 : b ∣ b' := Nat.Coprime.dvd_of_dvd_mul_left (Nat.Coprime.symm h) (e ▸ Nat.dvd_mul_left b a')
  have d2 : b' ∣ b := Nat.Coprime.dvd_of_dvd_mul_left (Nat.Coprime.symm h') (e ▸ Nat.dvd_mul_left b' a)
  have eb : b = b' := Nat.dvd_antisymm d1 d2
  subst eb
  exact ⟨Nat.eq_of_mul_eq_mul_right (by omega) e, rfl⟩
theorem reprB {e : EM} {env : En} {S S' : Store} {b : Bool} (h : e env S = .ok (.bl b) S') : mCall cReprS (mCons e mNil) env S = .ok (.str (PyData.shown (.bool b))) S' := (call_ok (cons_ok h nil_ok)).trans rfl
theorem ix2 {x y : D} {j : Int} {d : D} {i : Nat} {env : En} {S : Store} (e : env[i]? = some (some (.tup [x, y]))) (h : (j = 0 ∧ d = x) ∨ (j = 1 ∧ d = y)) : mOp dIx (mVar i) (mC (.int j)) env S = .ok d S := by
  refine opv (var_ok e) c_ok ?_
  rcases h with ⟨rfl, rfl⟩ | ⟨rfl, rfl⟩ <;> rfl
theorem meth_ok {n m : Nat} {a b a' b' : Nat} {S : Store} {env : En} (e2 : env[2]? = some (some (.loc n))) (e3 : env[3]? = some (some (.loc m))) (h : S[n]? = some (ShA a b)) (h' : S[m]? = some (ShA a' b')) (z1 : a < 2 ^ 500) (z2 : b < 2 ^ 500) (z3 : a' < 2 ^ 500) (z4 : b' < 2 ^ 500) :
    mMeth 0 "more_than" m_Share_more_than [] (mVar 2) (mCons (mVar 3) mNil) env S = .ok (.bl (decide ((a' : Int) * b < a * b'))) S := by
  have q : m_Share_more_than [.loc n, .loc m] S = .ok (.bl (decide ((a' : Int) * b < a * b'))) S := by
    refine def_ret rfl (opv (opv (fpart rfl h) (fwhole rfl h') (mul_i (cmN z1 z4))) (opv (fpart rfl h') (fwhole rfl h) (mul_i (cmN z3 z2))) ?_)
    rfl
  have k1 : ((("more_than" : PySem.Str) == ("part" : PySem.Str))) = false := by decide +kernel
  have k2 : ((("more_than" : PySem.Str) == ("whole" : PySem.Str))) = false := by decide +kernel
  unfold mMeth
  rw [var_ok e2]
  simp only [Res.bind, insAt, h, ShA, if_true, List.lookup, k1, k2]
  rw [cons_ok (var_ok e3) nil_ok]
  exact q
section
variable {p w p' w' : Nat} {S : Store}
theorem compared (hp : p ≤ w) (hw : 1 ≤ w) (hz : w < 2 ^ 210) (hp' : p' ≤ w') (hw' : 1 ≤ w') (hz' : w' < 2 ^ 210) :
    m__law_compared_right [.tup [.int (p : Nat), .int (w : Nat)], .tup [.int (p' : Nat), .int (w' : Nat)]] S = .ok (.bl true) (S ++ [Sh p w, Sh p' w']) := by
  have b21 : (2 : Nat) ^ 210 < 2 ^ 500 := by decide
  have z1 : ga p w < 2 ^ 500 := by have := ga_le p w; omega
  have z2 : gb p w < 2 ^ 500 := by have := gb_le p w; omega
  have z3 : ga p' w' < 2 ^ 500 := by have := ga_le p' w'; omega
  have z4 : gb p' w' < 2 ^ 500 := by have := gb_le p' w'; omega
  have s1 : sPar 2 3 (mCons (mMake 0 m_Share_init [] (mCons (mOp dIx (mVar 0) (mC (.int 0))) (mCons (mOp dIx (mVar 0) (mC (.int 1))) mNil))) (mCons (mMake 0 m_Share_init [] (mCons (mOp dIx (mVar 1) (mC (.int 0))) (mCons (mOp dIx (mVar 1) (mC (.int 1))) mNil))) mNil)) [some (.tup [.int (p : Nat), .int (w : Nat)]), some (.tup [.int (p' : Nat), .int (w' : Nat)]), none, none, none] S =
      .next [some (.tup [.int (p : Nat), .int (w : Nat)]), some (.tup [.int (p' : Nat), .int (w' : Nat)]), some (.loc S.length), some (.loc (S.length + 1)), none] (S ++ [Sh p w, Sh p' w']) := by
    unfold sPar
    rw [cons_ok (mk (p := p) (w := w) hw (by omega) (cons_ok (ix2 rfl (.inl ⟨rfl, rfl⟩)) (cons_ok (ix2 rfl (.inr ⟨rfl, rfl⟩)) nil_ok))) (cons_ok (mk (p := p') (w := w') hw' (by omega) (cons_ok (ix2 rfl (.inl ⟨rfl, rfl⟩)) (cons_ok (ix2 rfl (.inr ⟨rfl, rfl⟩)) nil_ok))) nil_ok)]
    simp [Res.bindS]
  generalize hc : (p : Int) * w' - p' * w = cross
  have gp := gpos (p := p) hw
  have gp' := gpos (p := p') hw'
  obtain ⟨c1, c2⟩ := cross_pos (a := ga p w) (b := gb p w) (a' := ga p' w') (b' := gb p' w') gp gp'
  have ec : cross = ((ga p w : Int) * gb p' w' - ga p' w' * gb p w) * ((Nat.gcd p w : Nat) * (Nat.gcd p' w' : Nat)) := by
    rw [← c1, ← hc]
    have h1 : ((ga p w : Nat) : Int) * (Nat.gcd p w : Nat) = (p : Nat) := by exact_mod_cast ga_mul p w
    have h2 : ((gb p w : Nat) : Int) * (Nat.gcd p w : Nat) = (w : Nat) := by exact_mod_cast gb_mul p w
    have h3 : ((ga p' w' : Nat) : Int) * (Nat.gcd p' w' : Nat) = (p' : Nat) := by exact_mod_cast ga_mul p' w'
    have h4 : ((gb p' w' : Nat) : Int) * (Nat.gcd p' w' : Nat) = (w' : Nat) := by exact_mod_cast gb_mul p' w'
    rw [h1, h2, h3, h4]
  have more : decide ((ga p' w' : Int) * gb p w < ga p w * gb p' w') = decide (0 < cross) := by
    refine decide_eq_decide.mpr ?_
    rw [ec, (sgn c2).1]
    omega
  have same : (decide (ga p w = ga p' w') && decide (gb p w = gb p' w')) = decide (cross = 0) := by
    rw [← Bool.decide_and]
    refine decide_eq_decide.mpr ?_
    rw [ec, (sgn c2).2]
    constructor
    · rintro ⟨h1, h2⟩; rw [h1, h2]; omega
    · intro h
      refine low_eq (gb_pos hw) (gb_pos hw') (cop hw) (cop hw') ?_
      have : ((ga p w * gb p' w' : Nat) : Int) = ((ga p' w' * gb p w : Nat) : Int) := by push_cast; omega
      exact_mod_cast this
  generalize hE : ([some (.tup [.int (p : Nat), .int (w : Nat)]), some (.tup [.int (p' : Nat), .int (w' : Nat)]), some (.loc S.length), some (.loc (S.length + 1)), none] : En) = E
  have hA : (S ++ [Sh p w, Sh p' w'])[S.length]? = some (ShA (ga p w) (gb p w)) := by simp
  have hB : (S ++ [Sh p w, Sh p' w'])[S.length + 1]? = some (ShA (ga p' w') (gb p' w')) := by simp
  have s2 : sAsg (mOp dSub (mOp dMul (mOp dIx (mVar 0) (mC (.int 0))) (mOp dIx (mVar 1) (mC (.int 1)))) (mOp dMul (mOp dIx (mVar 1) (mC (.int 0))) (mOp dIx (mVar 0) (mC (.int 1))))) (gmName 4) E (S ++ [Sh p w, Sh p' w']) = .next (E.set 4 (some (.int cross))) (S ++ [Sh p w, Sh p' w']) := by
    rw [asg_ok (opv (opv (ix2 (by rw [← hE]; rfl) (.inl ⟨rfl, rfl⟩)) (ix2 (by rw [← hE]; rfl) (.inr ⟨rfl, rfl⟩)) (mul_i (cmN (by omega) (by omega)))) (opv (ix2 (by rw [← hE]; rfl) (.inl ⟨rfl, rfl⟩)) (ix2 (by rw [← hE]; rfl) (.inr ⟨rfl, rfl⟩)) (mul_i (cmN (by omega) (by omega)))) sub_i), hc]
  have e2 : (E.set 4 (some (.int cross)))[2]? = some (some (.loc S.length)) := by rw [← hE]; rfl
  have e3 : (E.set 4 (some (.int cross)))[3]? = some (some (.loc (S.length + 1))) := by rw [← hE]; rfl
  have e4 : (E.set 4 (some (.int cross)))[4]? = some (some (.int cross)) := by rw [← hE]; rfl
  generalize hF : E.set 4 (some (.int cross)) = F at s2 e2 e3 e4
  have mt := meth_ok e2 e3 hA hB z1 z2 z3 z4
  rw [more] at mt
  have gt : mOp dGt (mVar 4) (mC (.int 0)) F (S ++ [Sh p w, Sh p' w']) = .ok (.bl (decide (0 < cross))) (S ++ [Sh p w, Sh p' w']) := opv (var_ok e4) c_ok rfl
  have eq : mOp (dOE 0 okE m_Share_eq dEqA) (mVar 2) (mVar 3) F (S ++ [Sh p w, Sh p' w']) = .ok (.bl (decide (cross = 0))) (S ++ [Sh p w, Sh p' w']) := opv (var_ok e2) (var_ok e3) ((oe_own hA hB).trans (by rw [same]))
  have ne : mOp (dON 0 okE m_Share_eq dNeA) (mVar 2) (mVar 3) F (S ++ [Sh p w, Sh p' w']) = .ok (.bl (!decide (cross = 0))) (S ++ [Sh p w, Sh p' w']) := opv (var_ok e2) (var_ok e3) ((on_own hA hB).trans (by rw [same]))
  have ez : mOp dEqA (mVar 4) (mC (.int 0)) F (S ++ [Sh p w, Sh p' w']) = .ok (.bl (decide (cross = 0))) (S ++ [Sh p w, Sh p' w']) := opv (var_ok e4) c_ok (eqI _ _ _)
  have nz : mOp dNeA (mVar 4) (mC (.int 0)) F (S ++ [Sh p w, Sh p' w']) = .ok (.bl (!decide (cross = 0))) (S ++ [Sh p w, Sh p' w']) := opv (var_ok e4) c_ok (neI _ _ _)
  have bb : ∀ (b : Bool) (T : Store), dEqA (.bl b) (.bl b) T = .ok (.bl true) T := fun b T => by cases b <;> rfl
  have s3 : ∀ a, sIf (bOr (bVal (mOp dNeA (mCall cReprS (mCons (mMeth 0 "more_than" m_Share_more_than [] (mVar 2) (mCons (mVar 3) mNil)) mNil)) (mCall cReprS (mCons (mOp dGt (mVar 4) (mC (.int 0))) mNil)))) (bVal (mOp dNeA (mCall cReprS (mCons (mOp (dOE 0 okE m_Share_eq dEqA) (mVar 2) (mVar 3)) mNil)) (mCall cReprS (mCons (mOp dEqA (mVar 4) (mC (.int 0))) mNil))))) a sNext F (S ++ [Sh p w, Sh p' w']) = .next F (S ++ [Sh p w, Sh p' w']) := fun a =>
    no_if (or_ok (val_ok (opv (reprB mt) (reprB gt) ((dneS _ _ _).trans (by rw [decide_eq_true rfl]; rfl)))) (val_ok (opv (reprB eq) (reprB ez) ((dneS _ _ _).trans (by rw [decide_eq_true rfl]; rfl))))) rfl
  unfold m__law_compared_right mDef
  rw [if_pos (by rfl)]
  show (match sSeq _ _ [some (.tup [.int (p : Nat), .int (w : Nat)]), some (.tup [.int (p' : Nat), .int (w' : Nat)]), none, none, none] S with | .ret d S' => Res.ok d S' | .next _ S' => .ok .non S' | .err x S' => .err x S' | _ => .stuck) = _
  rw [sq s1, hE, sq s2, sq (s3 _)]
  have l1 : mOp dEqA (mCall cReprS (mCons (mMeth 0 "more_than" m_Share_more_than [] (mVar 2) (mCons (mVar 3) mNil)) mNil)) (mCall cReprS (mCons (mOp dGt (mVar 4) (mC (.int 0))) mNil)) F (S ++ [Sh p w, Sh p' w']) = .ok (.bl true) (S ++ [Sh p w, Sh p' w']) := by
    refine opv (reprB mt) (reprB gt) ?_
    show Res.ok (D.bl (decide (_ = _))) _ = _
    rw [decide_eq_true rfl]
  have l2 : mOp dEqA (mOp (dON 0 okE m_Share_eq dNeA) (mVar 2) (mVar 3)) (mOp dNeA (mVar 4) (mC (.int 0))) F (S ++ [Sh p w, Sh p' w']) = .ok (.bl true) (S ++ [Sh p w, Sh p' w']) := opv ne nz (bb _ _)
  have l3 : mAndV (mOp dEqA (mCall cReprS (mCons (mMeth 0 "more_than" m_Share_more_than [] (mVar 2) (mCons (mVar 3) mNil)) mNil)) (mCall cReprS (mCons (mOp dGt (mVar 4) (mC (.int 0))) mNil))) (mOp dEqA (mOp (dON 0 okE m_Share_eq dNeA) (mVar 2) (mVar 3)) (mOp dNeA (mVar 4) (mC (.int 0)))) F (S ++ [Sh p w, Sh p' w']) = .ok (.bl true) (S ++ [Sh p w, Sh p' w']) := by
    unfold mAndV
    rw [l1]
    exact l2
  rw [ret_ok l3]
end
end Lw

set_option exponentiation.threshold 600
namespace Lw
open PySem L2 Lg
/-! ### loops -/
theorem for_step {g : GM} {b : SM} {d : D} {r : List D} {env env1 env2 : En} {S S1 S2 : Store} (hg : g d env S = .ok env1 S1) (hb : b env1 S1 = .next env2 S2) : sFor g b (d :: r) env S = sFor g b r env2 S2 := by
  simp only [sFor, hg, Res.bindS, hb]
theorem lc_step {g : GM} {e : EM} {d x : D} {r acc : List D} {env env1 : En} {S S3 : Store} (hg : g d env S = .ok env1 S) (he : e env1 S = .ok x S3) (hl : acc.length < sizeLine) : mLcGo g bYes e env (d :: r) acc S = mLcGo g bYes e env r (acc ++ [x]) S3 := by
  simp only [mLcGo, hg, bYes, he, hl, if_true]
theorem lc_all {g : GM} {e : EM} {env : En} : ∀ (ds acc : List D) (S : Store), (∀ d ∈ ds, ∀ S, ∃ env1, g d env S = .ok env1 S ∧ ∃ X, e env1 S = .ok (.bl true) (S ++ X)) → acc.length + ds.length ≤ sizeLine → ∃ X, mLcGo g bYes e env ds acc S = .ok (acc ++ ds.map fun _ => .bl true) (S ++ X)
  | [], acc, S, _, _ => ⟨[], by simp [mLcGo]⟩
  | d :: ds, acc, S, h, hl => by
    obtain ⟨env1, h1, X, h2⟩ := h d List.mem_cons_self S
    rw [List.length_cons] at hl
    obtain ⟨Y, h3⟩ := lc_all ds (acc ++ [.bl true]) (S ++ X) (fun d hd => h d (List.mem_cons_of_mem _ hd)) (by simp; omega)
    refine ⟨X ++ Y, ?_⟩
    rw [lc_step h1 h2 (by omega), h3]
    simp
theorem bls_true : ∀ ds : List D, bls (ds.map fun _ => D.bl true) = some (ds.map fun _ => true)
  | [] => rfl
  | d :: ds => by simp [bls, bls_true ds]
theorem all_lc {it : IM} {g : GM} {e : EM} {vs : List Nat} {env : En} {S : Store} {ds : List D} (hi : it env S = .ok ds S) (h : ∀ d ∈ ds, ∀ S, ∃ env1, g d (wipeE env vs) S = .ok env1 S ∧ ∃ X, e env1 S = .ok (.bl true) (S ++ X)) (hl : ds.length ≤ sizeLine) :
    ∃ X, bNot (bVal (mCall cAll (mCons (mLc it g bYes e vs) mNil))) env S = .ok false (S ++ X) := by
  obtain ⟨X, h1⟩ := lc_all ds [] S h (by simpa using hl)
  refine ⟨X, ?_⟩
  have q : mLc it g bYes e vs env S = .ok (.lst (ds.map fun _ => .bl true)) (S ++ X) := by
    unfold mLc
    rw [hi]
    simp only [Res.bind, h1, List.nil_append]
  have q2 : mCall cAll (mCons (mLc it g bYes e vs) mNil) env S = .ok (.bl true) (S ++ X) := by
    rw [call_ok (cons_ok q nil_ok)]
    simp [cAll, asL, bls_true]
  unfold bNot
  rw [val_ok q2]
  rfl
/-! ### one turn -/
def OkT (t : D) : Prop := ∃ p w : Nat, t = .tup [.int (p : Nat), .int (w : Nat)] ∧ p ≤ w ∧ 1 ≤ w ∧ w < 2 ^ 210
theorem twoT {own : List Int} {seed k : Int} {R : Store} (g : Good own) (hs0 : 0 ≤ seed) (hs : seed < 2 ^ 62) (hk0 : 0 ≤ k) (hk : k ≤ 9000) :
    ∃ (t : D) (own' : List Int) (k' : Int), m__law_two [.loc 1] (Pot own seed k R) = .ok t (Pot own' seed k' R) ∧ OkT t ∧ Good own' ∧ k ≤ k' ∧ k' ≤ k + 7 := by
  obtain ⟨p, w, own', k', h, h1, h2, h3, h4, h5, h6, h7⟩ := two (R := R) g hs0 hs hk0 hk
  refine ⟨_, own', k', h, ⟨p.toNat, w.toNat, ?_, by omega, by omega, ?_⟩, h5, h6, h7⟩
  · rw [Int.toNat_of_nonneg h1, Int.toNat_of_nonneg (by omega)]
  · have : ((w.toNat : Nat) : Int) < ((2 ^ 210 : Nat) : Int) := by rw [Int.toNat_of_nonneg (by omega)]; simpa using h4
    exact_mod_cast this
theorem pot_app {own : List Int} {seed k : Int} {R X : Store} : Pot own seed k R ++ X = Pot own seed k (R ++ X) := rfl
theorem mine_turn {ns : List Int} {i a3 : D} {ts : List D} {x4 x5 x6 x7 x8 : Option D} (ht : ∀ t ∈ ts, OkT t) (hl : ts.length ≤ sizeLine) (S : Store) {t : D} (h : OkT t) :
    ∃ (env2 : En) (X : Store) (y5 y6 y7 y8 : Option D), sIf (bNot (bVal (mCall cAll (mCons (mLc (itSeq (mVar 3)) (gmName 8) bYes (mCall m__law_compared_right (mCons (mVar 4) (mCons (mVar 8) mNil))) [8]) mNil)))) (sRet (mC (.bl false))) sNext [some (.scr ns), some (.loc 1), some i, some (.lst ts), some t, x5, x6, x7, x8] S = .next [some (.scr ns), some (.loc 1), some i, some (.lst ts), some t, x5, x6, x7, x8] (S ++ X) := by
  obtain ⟨p, w, rfl, h1, h2, h3⟩ := h
  obtain ⟨X, hX⟩ := all_lc (it := itSeq (mVar 3)) (g := gmName 8) (e := mCall m__law_compared_right (mCons (mVar 4) (mCons (mVar 8) mNil))) (vs := [8]) (env := [some (.scr ns), some (.loc 1), some i, some (.lst ts), some (.tup [.int (p : Nat), .int (w : Nat)]), x5, x6, x7, x8]) (S := S) (ds := ts) rfl (fun d hd S => by
    obtain ⟨p', w', rfl, q1, q2, q3⟩ := ht d hd
    refine ⟨_, rfl, [Sh p w, Sh p' w'], ?_⟩
    exact (call_ok (cons_ok (var_ok rfl) (cons_ok (var_ok rfl) nil_ok))).trans (compared h1 h2 h3 q1 q2 q3)) hl
  exact ⟨[], X, none, none, none, none, no_if hX rfl⟩
theorem mine_all {ns : List Int} {i : D} {ts : List D} {x5 x6 x7 x8 : Option D} (ht : ∀ t ∈ ts, OkT t) (hl : ts.length ≤ sizeLine) : ∀ (ds : List D) (x4 : Option D) (S : Store), (∀ t ∈ ds, OkT t) →
    ∃ (X : Store) (y4 : Option D), sFor (gmName 4) (sIf (bNot (bVal (mCall cAll (mCons (mLc (itSeq (mVar 3)) (gmName 8) bYes (mCall m__law_compared_right (mCons (mVar 4) (mCons (mVar 8) mNil))) [8]) mNil)))) (sRet (mC (.bl false))) sNext) ds [some (.scr ns), some (.loc 1), some i, some (.lst ts), x4, x5, x6, x7, x8] S = .next [some (.scr ns), some (.loc 1), some i, some (.lst ts), y4, x5, x6, x7, x8] (S ++ X)
  | [], x4, S, _ => ⟨[], x4, by simp [sFor]⟩
  | d :: ds, x4, S, h => by
    obtain ⟨_, X, _, _, _, _, h1⟩ := mine_turn (ns := ns) (i := i) (a3 := i) (x4 := none) (x5 := x5) (x6 := x6) (x7 := x7) (x8 := x8) ht hl S (h d List.mem_cons_self)
    obtain ⟨Y, y4, h2⟩ := mine_all ht hl ds (some d) (S ++ X) (fun t m => h t (List.mem_cons_of_mem _ m))
    refine ⟨X ++ Y, y4, ?_⟩
    rw [for_step (env1 := [some (.scr ns), some (.loc 1), some i, some (.lst ts), some d, x5, x6, x7, x8]) rfl h1, h2, List.append_assoc]
abbrev bodyOf : SM := (sSeq (sAsg (mLc (itRange1 (mCons (mC (.int 3)) mNil)) (gmName 5) bYes (mCall m__law_two (mCons (mVar 1) mNil)) [5]) (gmName 3)) (sSeq (sIf (bNot (bVal (mCall cAll (mCons (mLc (itSeq (mVar 3)) (gmTup 2 (gmCons (gmName 6) (gmCons (gmName 7) gmNil))) bYes (mCall m__law_right (mCons (mVar 6) (mCons (mVar 7) mNil))) [6, 7]) mNil)))) (sRet (mC (.bl false))) sNext) (sForI (itSeq (mVar 3)) (gmName 4) (sIf (bNot (bVal (mCall cAll (mCons (mLc (itSeq (mVar 3)) (gmName 8) bYes (mCall m__law_compared_right (mCons (mVar 4) (mCons (mVar 8) mNil))) [8]) mNil)))) (sRet (mC (.bl false))) sNext))))
theorem turn {ns : List Int} {i : D} {x3 x4 x5 x6 x7 x8 : Option D} {own : List Int} {seed k : Int} {R : Store} (g : Good own) (hs0 : 0 ≤ seed) (hs : seed < 2 ^ 62) (hk0 : 0 ≤ k) (hk : k ≤ 8900) :
    ∃ (y3 y4 : Option D) (own' : List Int) (k' : Int) (R' : Store), bodyOf [some (.scr ns), some (.loc 1), some i, x3, x4, x5, x6, x7, x8] (Pot own seed k R) = .next [some (.scr ns), some (.loc 1), some i, y3, y4, x5, x6, x7, x8] (Pot own' seed k' R') ∧ Good own' ∧ k ≤ k' ∧ k' ≤ k + 21 := by
  obtain ⟨t1, o1, k1, a1, a2, a3, a4, a5⟩ := twoT (R := R) g hs0 hs hk0 (by omega)
  obtain ⟨t2, o2, k2, b1, b2, b3, b4, b5⟩ := twoT (R := R) (k := k1) a3 hs0 hs (by omega) (by omega)
  obtain ⟨t3, o3, k3, c1, c2, c3, c4, c5⟩ := twoT (R := R) (k := k2) b3 hs0 hs (by omega) (by omega)
  have ht : ∀ t ∈ [t1, t2, t3], OkT t := by
    intro t h
    simp only [List.mem_cons, List.not_mem_nil, or_false] at h
    rcases h with rfl | rfl | rfl <;> assumption
  have z : 3 ≤ sizeLine := by decide
  have s1 : sAsg (mLc (itRange1 (mCons (mC (.int 3)) mNil)) (gmName 5) bYes (mCall m__law_two (mCons (mVar 1) mNil)) [5]) (gmName 3) [some (.scr ns), some (.loc 1), some i, x3, x4, x5, x6, x7, x8] (Pot own seed k R) = .next [some (.scr ns), some (.loc 1), some i, some (.lst [t1, t2, t3]), x4, x5, x6, x7, x8] (Pot o3 seed k3 R) := by
    have ri : itRange1 (mCons (mC (.int 3)) mNil) [some (.scr ns), some (.loc 1), some i, x3, x4, x5, x6, x7, x8] (Pot own seed k R) = .ok [.int 0, .int 1, .int 2] (Pot own seed k R) := rfl
    have q : mLc (itRange1 (mCons (mC (.int 3)) mNil)) (gmName 5) bYes (mCall m__law_two (mCons (mVar 1) mNil)) [5] [some (.scr ns), some (.loc 1), some i, x3, x4, x5, x6, x7, x8] (Pot own seed k R) = .ok (.lst [t1, t2, t3]) (Pot o3 seed k3 R) := by
      unfold mLc
      rw [ri]
      simp only [Res.bind]
      rw [lc_step (env1 := [some (.scr ns), some (.loc 1), some i, x3, x4, some (.int 0), x6, x7, x8]) rfl ((call_ok (cons_ok (var_ok rfl) nil_ok)).trans a1) (by decide)]
      rw [lc_step (acc := [] ++ [t1]) (env1 := [some (.scr ns), some (.loc 1), some i, x3, x4, some (.int 1), x6, x7, x8]) rfl ((call_ok (cons_ok (var_ok rfl) nil_ok)).trans b1) (by simp [sizeLine])]
      rw [lc_step (acc := [] ++ [t1] ++ [t2]) (env1 := [some (.scr ns), some (.loc 1), some i, x3, x4, some (.int 2), x6, x7, x8]) rfl ((call_ok (cons_ok (var_ok rfl) nil_ok)).trans c1) (by simp [sizeLine])]
      rfl
    rw [asg_ok q]
    rfl
  obtain ⟨X, hX⟩ := all_lc (it := itSeq (mVar 3)) (g := gmTup 2 (gmCons (gmName 6) (gmCons (gmName 7) gmNil))) (e := mCall m__law_right (mCons (mVar 6) (mCons (mVar 7) mNil))) (vs := [6, 7]) (env := [some (.scr ns), some (.loc 1), some i, some (.lst [t1, t2, t3]), x4, x5, x6, x7, x8]) (S := Pot o3 seed k3 R) (ds := [t1, t2, t3]) rfl (fun d hd S => by
    obtain ⟨p', w', rfl, q1, q2, q3⟩ := ht d hd
    refine ⟨_, rfl, [Sh p' w', Sh p' w'], ?_⟩
    exact (call_ok (cons_ok (var_ok rfl) (cons_ok (var_ok rfl) nil_ok))).trans (right q1 q2 q3)) z
  obtain ⟨Y, y4, hY⟩ := mine_all (ns := ns) (i := i) (x5 := x5) (x6 := x6) (x7 := x7) (x8 := x8) ht z [t1, t2, t3] x4 (Pot o3 seed k3 R ++ X) ht
  refine ⟨some (.lst [t1, t2, t3]), y4, o3, k3, R ++ X ++ Y, ?_, c3, by omega, by omega⟩
  unfold bodyOf
  rw [sq s1, sq (no_if (a := sRet (mC (.bl false))) (b := sNext) hX rfl)]
  unfold sForI
  rw [show itSeq (mVar 3) [some (.scr ns), some (.loc 1), some i, some (.lst [t1, t2, t3]), x4, x5, x6, x7, x8] (Pot o3 seed k3 R ++ X) = .ok [t1, t2, t3] (Pot o3 seed k3 R ++ X) from rfl]
  simp only [Res.bindS]
  rw [hY]
  rfl
theorem turns {ns : List Int} {seed : Int} (hs0 : 0 ≤ seed) (hs : seed < 2 ^ 62) : ∀ (ds : List D) (x2 x3 x4 x5 x6 x7 x8 : Option D) (own : List Int) (k : Int) (R : Store), Good own → 0 ≤ k → k + 21 * ds.length ≤ 8900 →
    ∃ (env' : En) (S' : Store), sFor (gmName 2) bodyOf ds [some (.scr ns), some (.loc 1), x2, x3, x4, x5, x6, x7, x8] (Pot own seed k R) = .next env' S'
  | [], _, _, _, _, _, _, _, _, _, _, _, _, _ => ⟨_, _, rfl⟩
  | d :: ds, x2, x3, x4, x5, x6, x7, x8, own, k, R, g, hk0, hk => by
    rw [List.length_cons] at hk
    obtain ⟨y3, y4, own', k', R', h1, g', k1, k2⟩ := turn (ns := ns) (i := d) (x3 := x3) (x4 := x4) (x5 := x5) (x6 := x6) (x7 := x7) (x8 := x8) (R := R) g hs0 hs hk0 (by omega)
    obtain ⟨env', S', h2⟩ := turns hs0 hs ds (some d) y3 y4 x5 x6 x7 x8 own' k' R' g' (by omega) (by omega)
    exact ⟨env', S', by rw [for_step (env1 := [some (.scr ns), some (.loc 1), some d, x3, x4, x5, x6, x7, x8]) rfl h1, h2]⟩
/-! ### the pot made -/
theorem absI {e : EM} {env : En} {S S' : Store} {i : Int} (h : e env S = .ok (.int i) S') : mCall cAbs (mCons e mNil) env S = .ok (.int (if i < 0 then -i else i)) S' := (call_ok (cons_ok h nil_ok)).trans rfl
theorem pw18 {env : En} {S : Store} : mOp dPow (mC (.int 10)) (mC (.int 18)) env S = .ok (.int (10 ^ 18)) S := opv c_ok c_ok (pow_i (by unfold CPow; decide))
theorem pw60 {env : En} {S : Store} : mOp dPow (mC (.int 10)) (mC (.int 60)) env S = .ok (.int (10 ^ 60)) S := opv c_ok c_ok (pow_i (by unfold CPow; decide))
abbrev beginOf : SM := (sSeq (sAsg (mOp dMod (mOp dAdd (mOp dAdd (mOp dMul (mVar 1) (mC (.int 1000003))) (mOp dMod (mVar 4) (mOp dPow (mC (.int 10)) (mC (.int 30))))) (mOp dMul (mC (.int 31)) (mVar 3))) (mC (.int 2305843009213693951))) (gmName 1)) (sIf (bVal (mOp dGe (mCall cAbs (mCons (mVar 4) mNil)) (mOp dPow (mC (.int 10)) (mC (.int 18))))) (sDrop (mBMt "list" qAppend (mVar 2) (mCons (mOp dMod (mCall cAbs (mCons (mVar 4) mNil)) (mOp dMul (mOp dPow (mC (.int 10)) (mC (.int 60))) (mOp dPow (mC (.int 10)) (mC (.int 60))))) mNil))) sNext))
theorem begin_turn {a : Option D} {own : List Int} {seed i x : Int} (hs0 : 0 ≤ seed) (hs : seed < 2 ^ 62) (hi0 : 0 ≤ i) (hi : i ≤ 1000) (hg : ∀ y ∈ own, 0 ≤ y ∧ y < 2 ^ 400) (hl : own.length ≤ 62) :
    ∃ (seed' : Int) (own' : List Int), beginOf [a, some (.int seed), some (.loc 0), some (.int i), some (.int x)] [.lst (own.map D.int)] = .next [a, some (.int seed'), some (.loc 0), some (.int i), some (.int x)] [.lst (own'.map D.int)] ∧ 0 ≤ seed' ∧ seed' < 2 ^ 62 ∧ (∀ y ∈ own', 0 ≤ y ∧ y < 2 ^ 400) ∧ own'.length ≤ own.length + 1 := by
  have b62 : (2 ^ 62 : Int) = 4611686018427387904 := by decide
  have b5 : (10000000000000000000000000 : Int) < 2 ^ 500 := by decide
  have c1 : CMulW seed 1000003 := cm hs0 (by omega) (by decide) (by decide)
  have c2 : CMulW 31 i := cm (by decide) (by decide) hi0 (by omega)
  have c3 : CMulW (10 ^ 60) (10 ^ 60) := cm (by decide) (by decide) (by decide) (by decide)
  generalize hz : (seed * 1000003 + x % 10 ^ 30 + 31 * i) % 2305843009213693951 = seed'
  have z0 : 0 ≤ seed' ∧ seed' < 2305843009213693951 := by rw [← hz]; exact ⟨Int.emod_nonneg _ (by decide), Int.emod_lt_of_pos _ (by decide)⟩
  have s1 : sAsg (mOp dMod (mOp dAdd (mOp dAdd (mOp dMul (mVar 1) (mC (.int 1000003))) (mOp dMod (mVar 4) (mOp dPow (mC (.int 10)) (mC (.int 30))))) (mOp dMul (mC (.int 31)) (mVar 3))) (mC (.int 2305843009213693951))) (gmName 1) [a, some (.int seed), some (.loc 0), some (.int i), some (.int x)] [.lst (own.map D.int)] = .next [a, some (.int seed'), some (.loc 0), some (.int i), some (.int x)] [.lst (own.map D.int)] := by
    rw [asg_ok (opv (opv (opv (opv (var_ok rfl) c_ok (mul_i c1)) (opv (var_ok rfl) pw30 (mod_i (by decide))) add_i) (opv c_ok (var_ok rfl) (mul_i c2)) add_i) c_ok (mod_i (by decide))), hz]
    rfl
  generalize hy : (if x < 0 then -x else x) = y
  have y0 : 0 ≤ y := by rw [← hy]; split <;> omega
  have ax : ∀ S, mCall cAbs (mCons (mVar 4) mNil) [a, some (.int seed'), some (.loc 0), some (.int i), some (.int x)] S = .ok (.int y) S := fun S => by rw [absI (var_ok rfl), hy]
  have c : bVal (mOp dGe (mCall cAbs (mCons (mVar 4) mNil)) (mOp dPow (mC (.int 10)) (mC (.int 18)))) [a, some (.int seed'), some (.loc 0), some (.int i), some (.int x)] [.lst (own.map D.int)] = .ok (decide ((10 : Int) ^ 18 ≤ y)) [.lst (own.map D.int)] := val_ok (opv (ax _) pw18 rfl)
  by_cases hb : (10 : Int) ^ 18 ≤ y
  · refine ⟨seed', own ++ [y % (10 ^ 60 * 10 ^ 60)], ?_, z0.1, by omega, fun u hu => ?_, by simp⟩
    · unfold beginOf
      rw [sq s1, if_ok c, if_pos (decide_eq_true hb)]
      have m : mOp dMod (mCall cAbs (mCons (mVar 4) mNil)) (mOp dMul (mOp dPow (mC (.int 10)) (mC (.int 60))) (mOp dPow (mC (.int 10)) (mC (.int 60)))) [a, some (.int seed'), some (.loc 0), some (.int i), some (.int x)] [.lst (own.map D.int)] = .ok (.int (y % (10 ^ 60 * 10 ^ 60))) [.lst (own.map D.int)] :=
        opv (ax _) (opv pw60 pw60 (mul_i c3)) (mod_i (by decide))
      have z : 62 < sizeLine := by decide
      have hl' : own.length < sizeLine := by omega
      have v2 : mVar 2 [a, some (.int seed'), some (.loc 0), some (.int i), some (.int x)] [.lst (own.map D.int)] = .ok (.loc 0) [.lst (own.map D.int)] := rfl
      have ap : mBMt "list" qAppend (mVar 2) (mCons (mOp dMod (mCall cAbs (mCons (mVar 4) mNil)) (mOp dMul (mOp dPow (mC (.int 10)) (mC (.int 60))) (mOp dPow (mC (.int 10)) (mC (.int 60))))) mNil) [a, some (.int seed'), some (.loc 0), some (.int i), some (.int x)] [.lst (own.map D.int)] = .ok .non [.lst ((own ++ [y % (10 ^ 60 * 10 ^ 60)]).map D.int)] := by
        unfold mBMt
        rw [v2]
        simp only [Res.bind]
        rw [if_pos (by rfl), cons_ok m nil_ok]
        simp [Res.bind, qAppend, hl']
      unfold sDrop
      rw [ap]
      rfl
    · rcases List.mem_append.mp hu with hu | hu
      · exact hg u hu
      · obtain rfl := List.mem_singleton.mp hu
        exact ⟨Int.emod_nonneg _ (by decide), Int.lt_trans (Int.emod_lt_of_pos _ (by decide)) (by decide)⟩
  · exact ⟨seed', own, by unfold beginOf; rw [sq s1, if_ok c, if_neg (by rw [decide_eq_false hb]; decide)]; rfl, z0.1, by omega, hg, by omega⟩
theorem begin_turns {a : Option D} : ∀ (xs : List (Int × Int)) (seed : Int) (own : List Int) (x3 x4 : Option D), 0 ≤ seed → seed < 2 ^ 62 → (∀ q ∈ xs, 0 ≤ q.1 ∧ q.1 ≤ 1000) → (∀ y ∈ own, 0 ≤ y ∧ y < 2 ^ 400) → own.length + xs.length ≤ 63 →
    ∃ (seed' : Int) (own' : List Int) (y3 y4 : Option D), sFor (gmTup 2 (gmCons (gmName 3) (gmCons (gmName 4) gmNil))) beginOf (xs.map fun q => .tup [.int q.1, .int q.2]) [a, some (.int seed), some (.loc 0), x3, x4] [.lst (own.map D.int)] = .next [a, some (.int seed'), some (.loc 0), y3, y4] [.lst (own'.map D.int)] ∧ 0 ≤ seed' ∧ seed' < 2 ^ 62 ∧ Good own'
  | [], seed, own, x3, x4, h0, h1, _, hg, hl => ⟨seed, own, x3, x4, rfl, h0, h1, hg, by simpa using hl⟩
  | q :: xs, seed, own, x3, x4, h0, h1, hq, hg, hl => by
    rw [List.length_cons] at hl
    obtain ⟨s1, o1, e1, e2, e3, e4, e5⟩ := begin_turn (a := a) (x := q.2) h0 h1 (hq q List.mem_cons_self).1 (hq q List.mem_cons_self).2 hg (by omega)
    obtain ⟨s2, o2, y3, y4, f1, f2, f3, f4⟩ := begin_turns (a := a) xs s1 o1 (some (.int q.1)) (some (.int q.2)) e2 e3 (fun u hu => hq u (List.mem_cons_of_mem _ hu)) e4 (by omega)
    refine ⟨s2, o2, y3, y4, ?_, f2, f3, f4⟩
    rw [List.map_cons, for_step (env1 := [a, some (.int seed), some (.loc 0), some (.int q.1), some (.int q.2)]) rfl e1, f1]
theorem enum_ints (ns : List Int) : enumD (ns.map D.int) = ((List.range ns.length).zipWith (fun (i : Nat) n => (((i : Nat) : Int), n)) ns).map fun q => D.tup [.int q.1, .int q.2] := by
  unfold enumD
  rw [List.length_map, List.zipWith_map_right, List.map_zipWith]
theorem cut63 (xs : List D) (h : xs.length ≤ 63) : cutD xs none (some 63) = xs := by
  unfold cutD
  have h1 : HT.sIx xs.length 0 none = 0 := rfl
  have h2 : HT.sIx xs.length xs.length (some 63) = xs.length := by
    have := HT.sIx_nat xs.length xs.length 63
    rw [show ((63 : Nat) : Int) = 63 from rfl] at this
    rw [this]; omega
  rw [h1, h2]
  simp
theorem begin_ {ns : List Int} (hn : ns.length ≤ 63) : ∃ (own : List Int) (seed : Int), m__law_begin [.scr ns] [] = .ok (.loc 1) (Pot own seed 0 []) ∧ Good own ∧ 0 ≤ seed ∧ seed < 2 ^ 62 := by
  have z : (100 : Int) < 2 ^ 62 := by decide
  obtain ⟨seed, own, y3, y4, h1, h2, h3, h4⟩ := begin_turns (a := some (.scr ns)) ((List.range ns.length).zipWith (fun (i : Nat) n => (((i : Nat) : Int), n)) ns) ((ns.length : Int) + 7) [] none none (by omega) (by omega) (fun q hq => by
    obtain ⟨i, hi, e⟩ := List.getElem_of_mem hq
    simp only [List.getElem_zipWith, List.getElem_range] at e
    subst e
    simp only [List.length_zipWith, List.length_range] at hi
    dsimp only
    omega) (fun y hy => absurd hy List.not_mem_nil) (by simp; omega)
  rw [← enum_ints] at h1
  refine ⟨own, seed, ?_, h4, h2, h3⟩
  have s1 : sPar 1 2 (mCons (mOp dAdd (mCall cLen (mCons (mVar 0) mNil)) (mC (.int 7))) (mCons (mLstL mNil) mNil)) [some (.scr ns), none, none, none, none] [] = .next [some (.scr ns), some (.int ((ns.length : Int) + 7)), some (.loc 0), none, none] [.lst []] := rfl
  have it : itEnum (mCons (mSl (mVar 0) oNone (oSome (mC (.int 63)))) mNil) [some (.scr ns), some (.int ((ns.length : Int) + 7)), some (.loc 0), none, none] [.lst []] = .ok (enumD (ns.map D.int)) [.lst []] := by
    have q : mSl (mVar 0) oNone (oSome (mC (.int 63))) [some (.scr ns), some (.int ((ns.length : Int) + 7)), some (.loc 0), none, none] [.lst []] = .ok (.lst (ns.map D.int)) [.lst []] := by
      show Res.ok (D.lst (cutD (ns.map D.int) none (some 63))) _ = _
      rw [cut63 _ (by simpa using hn)]
    unfold itEnum
    rw [cons_ok q nil_ok]
    rfl
  unfold m__law_begin mDef
  rw [if_pos (by rfl)]
  show (match sSeq _ _ [some (.scr ns), none, none, none, none] [] with | .ret d S' => Res.ok d S' | .next _ S' => .ok .non S' | .err x S' => .err x S' | _ => .stuck) = _
  rw [sq s1]
  have s2 : sForI (itEnum (mCons (mSl (mVar 0) oNone (oSome (mC (.int 63)))) mNil)) (gmTup 2 (gmCons (gmName 3) (gmCons (gmName 4) gmNil))) beginOf [some (.scr ns), some (.int ((ns.length : Int) + 7)), some (.loc 0), none, none] [.lst []] = .next [some (.scr ns), some (.int seed), some (.loc 0), y3, y4] [.lst (own.map D.int)] := by
    unfold sForI
    rw [it]
    exact h1
  rw [sq s2]
  rfl
theorem law_true : ∀ ns : List Int, ns.length ≤ 63 → (∀ z ∈ ns, Builtin.Int.intBits z ≤ 1048576) → ∃ S', m_law [.scr ns] [] = .ok (.bl true) S' := by
  intro ns hn _
  obtain ⟨own, seed, h1, h2, h3, h4⟩ := begin_ hn
  generalize hm : (4 : Int) + (if (ns.length : Int) < 20 then (ns.length : Int) else 20) = m
  have m0 : 0 ≤ m ∧ m ≤ 24 := by rw [← hm]; split <;> omega
  obtain ⟨env', S', h5⟩ := turns (ns := ns) h3 h4 ((List.range m.toNat).map fun i : Nat => D.int (0 + (i : Int))) none none none none none none none own 0 [] h2 (by decide) (by rw [List.length_map, List.length_range]; omega)
  refine ⟨S', ?_⟩
  have s1 : sAsg (mCall m__law_begin (mCons (mVar 0) mNil)) (gmName 1) [some (.scr ns), none, none, none, none, none, none, none, none] [] = .next [some (.scr ns), some (.loc 1), none, none, none, none, none, none, none] (Pot own seed 0 []) := by
    rw [asg_ok ((call_ok (cons_ok (var_ok rfl) nil_ok)).trans h1)]
    rfl
  have it : itRange1 (mCons (mOp dAdd (mC (.int 4)) (mCall cMin2 (mCons (mC (.int 20)) (mCons (mCall cLen (mCons (mVar 0) mNil)) mNil)))) mNil) [some (.scr ns), some (.loc 1), none, none, none, none, none, none, none] (Pot own seed 0 []) = .ok ((List.range m.toNat).map fun i : Nat => D.int (0 + (i : Int))) (Pot own seed 0 []) := by
    have ln : mCall cLen (mCons (mVar 0) mNil) [some (.scr ns), some (.loc 1), none, none, none, none, none, none, none] (Pot own seed 0 []) = .ok (.int ns.length) (Pot own seed 0 []) := (call_ok (cons_ok (var_ok rfl) nil_ok)).trans rfl
    have mn : mCall cMin2 (mCons (mC (.int 20)) (mCons (mCall cLen (mCons (mVar 0) mNil)) mNil)) [some (.scr ns), some (.loc 1), none, none, none, none, none, none, none] (Pot own seed 0 []) = .ok (.int (if (ns.length : Int) < 20 then (ns.length : Int) else 20)) (Pot own seed 0 []) := (call_ok (cons_ok c_ok (cons_ok ln nil_ok))).trans rfl
    unfold itRange1
    rw [cons_ok (opv c_ok mn add_i) nil_ok, hm]
    simp only [Res.bind]
    rw [if_pos ⟨by have : -(2 ^ 62 : Int) < 0 := by decide
                   omega, by have : (100 : Int) < 2 ^ 62 := by decide
                             omega⟩]
  unfold m_law mDef
  rw [if_pos (by rfl)]
  show (match sSeq _ _ [some (.scr ns), none, none, none, none, none, none, none, none] [] with | .ret d S' => Res.ok d S' | .next _ S' => .ok .non S' | .err x S' => .err x S' | _ => .stuck) = _
  rw [sq s1]
  rw [sq (show sForI _ _ _ _ _ = .next env' S' by unfold sForI; rw [it]; exact h5)]
  rfl
end Lw

open PySem PySem.W PyProof.Rows in
set_option maxRecDepth 100000 in
set_option maxHeartbeats 0 in
theorem PySem.Challenge.cw_lotgivers_k26_exact_shares_holds : PySem.Challenge.rw_lotgivers_k26_exact_shares.Holds := by
  w_on; o_law; k_head; (case hw => w_witness2)
  k_fill
  refine Lg.walkG (l := PySem.Challenge.rw_lotgivers_k26_exact_shares) (n := 63) (k := 5) (x := "_law_script") (f := Lw.m_law) rfl (by decide) rfl ⟨rfl, by decide, by decide⟩ (by first | rfl | kernel_rfl) (fun w h Y => PySem.W.kIn_of Y) ?F Lw.law_true
  case F =>
    intro w mg fa h KX G hmg
    refine' Lw.all_mk KX G hmg ?n_Share ?n_law_begin ?l_law_begin ?c_law_begin ?k_law_begin ?n_law_take ?l_law_take ?c_law_take ?k_law_take ?n_law_of ?l_law_of ?c_law_of ?k_law_of ?n_law_two ?l_law_two ?c_law_two ?k_law_two ?n_law_common ?l_law_common ?c_law_common ?k_law_common ?n_law_right ?l_law_right ?c_law_right ?k_law_right ?n_law_compared_right ?l_law_compared_right ?c_law_compared_right ?k_law_compared_right ?nlaw ?llaw ?claw ?klaw ?mShare_init ?lShare_init ?cShare_init ?kShare_init ?fShare_init ?mkShare ?kcShare ?mShare_eq ?lShare_eq ?cShare_eq ?kShare_eq ?fShare_eq ?mShare_repr ?lShare_repr ?cShare_repr ?kShare_repr ?fShare_repr ?mShare_str ?lShare_str ?cShare_str ?kShare_str ?fShare_str ?mShare_more_than ?lShare_more_than ?cShare_more_than ?kShare_more_than ?fShare_more_than ?clShare ?neShare ?eqShare ?ioShare ?ofpart ?ofwhole ?bfgcd ?zabs ?zall ?zbool ?zenumerate ?zisinstance ?zlen ?zmin ?zrange ?zrepr ?zstr
    (case n_Share => k_is)
    (case n_law_begin => k_is)
    (case l_law_begin => k_is)
    (case c_law_begin => k_is)
    (case k_law_begin => k_is)
    (case n_law_take => k_is)
    (case l_law_take => k_is)
    (case c_law_take => k_is)
    (case k_law_take => k_is)
    (case n_law_of => k_is)
    (case l_law_of => k_is)
    (case c_law_of => k_is)
    (case k_law_of => k_is)
    (case n_law_two => k_is)
    (case l_law_two => k_is)
    (case c_law_two => k_is)
    (case k_law_two => k_is)
    (case n_law_common => k_is)
    (case l_law_common => k_is)
    (case c_law_common => k_is)
    (case k_law_common => k_is)
    (case n_law_right => k_is)
    (case l_law_right => k_is)
    (case c_law_right => k_is)
    (case k_law_right => k_is)
    (case n_law_compared_right => k_is)
    (case l_law_compared_right => k_is)
    (case c_law_compared_right => k_is)
    (case k_law_compared_right => k_is)
    (case nlaw => k_is)
    (case llaw => k_is)
    (case claw => k_is)
    (case klaw => k_is)
    (case mShare_init => k_is)
    (case lShare_init => k_is)
    (case cShare_init => k_is)
    (case kShare_init => k_is)
    (case fShare_init => k_is)
    (case mkShare => k_is)
    (case kcShare => k_is)
    (case mShare_eq => k_is)
    (case lShare_eq => k_is)
    (case cShare_eq => k_is)
    (case kShare_eq => k_is)
    (case fShare_eq => k_is)
    (case mShare_repr => k_is)
    (case lShare_repr => k_is)
    (case cShare_repr => k_is)
    (case kShare_repr => k_is)
    (case fShare_repr => k_is)
    (case mShare_str => k_is)
    (case lShare_str => k_is)
    (case cShare_str => k_is)
    (case kShare_str => k_is)
    (case fShare_str => k_is)
    (case mShare_more_than => k_is)
    (case lShare_more_than => k_is)
    (case cShare_more_than => k_is)
    (case kShare_more_than => k_is)
    (case fShare_more_than => k_is)
    (case clShare => kernel_rfl)
    (case neShare => k_is)
    (case eqShare => kernel_rfl)
    (case ioShare => kernel_rfl)
    (case ofpart => kernel_rfl)
    (case ofwhole => kernel_rfl)
    (case bfgcd => k_is)
    (case zabs => k_is)
    (case zall => k_is)
    (case zbool => k_is)
    (case zenumerate => k_is)
    (case zisinstance => k_is)
    (case zlen => k_is)
    (case zmin => k_is)
    (case zrange => k_is)
    (case zrepr => k_is)
    (case zstr => k_is)
