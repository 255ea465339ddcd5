import PyProof.Rows.All
import Wide.All
import OpenK.AllK
import Wide.FinOn
import HandS.ForMost
import HandS.ForExc
import HandS.ExcInit
import HandS.ExcValue
import HandS.Walk
import HandS.Wide
import HandS.Deep
import HandS.TupAny
import HandS.IsInst
import HandS.ExcIs
import HandS.ExcField
import KE.KExcSuper
import HandS.Defaults
import HandS.DictComp
import HandS.Dict
import HandS.Iter
import HandS.EndBits
import HandS.FStrTup
import PySem.Challenge.RW_lotgivers_k08_refusals_made
set_option Elab.async false
set_option linter.all false
set_option maxRecDepth 100000
set_option maxHeartbeats 4000000

namespace Lg
open PySem L2

/-- data: by value, or (loc) an object of the store that may change -/
inductive D where
  | non | bl (b : Bool) | int (i : Int) | str (s : PySem.Str) | tup (ds : List D) | lst (ds : List D) | scr (ns : List Int) | loc (n : Nat)
  | emp (fr : Bool)

inductive Ob where
  | lst (ds : List D) | dK (kvs : List (Key × D)) | dT (kvs : List (List Key × D)) | ins (c : Nat) (fs : List (PySem.Str × D))
  | exc (c : Nat) (d : Option Nat) | xd (fs : List (PySem.Str × D)) | ex0 (c : Nat)
abbrev Store := List Ob

/-- what the text's classes are: the place of each -/
structure G where
  K : PySem.W.Frag
  cls : Nat → Addr
  hid : List Addr := []
/-- the same, other places hidden: nothing that is known speaks of them -/
def G.hide (g : G) (l : List Addr) : G := { g with hid := l }
def Out (g : G) (ρ : List Addr) (a : Addr) : Prop := a ∉ ρ ∧ a ∉ g.hid

mutual
inductive RD (g : G) (ρ : List Addr) (H : Hp) : V → D → Prop
  | non : RD g ρ H .non .non
  | bl (b : Bool) : RD g ρ H (.bl b) (.bl b)
  | int (i : Int) : RD g ρ H (.int i) (.int i)
  | str (s : PySem.Str) : RD g ρ H (.str s) (.str s)
  | tup {a : Addr} {vs : List V} {ds : List D} (h : H a = some (.tup vs)) (n : Out g ρ a) (r : RDs g ρ H vs ds) : RD g ρ H (.ref a) (.tup ds)
  | lst {a : Addr} {vs : List V} {ds : List D} (h : H a = some (.lst vs)) (n : Out g ρ a) (r : RDs g ρ H vs ds) : RD g ρ H (.ref a) (.lst ds)
  | scr {a : Addr} {ns : List Int} (n : (∃ o, H a = some (.frz o (.lst (ns.map V.int))) ∧ Out g ρ a) ∨ ∀ H', SqL g.K H' a (ns.map V.int)) : RD g ρ H (.ref a) (.scr ns)
  | loc {n : Nat} {a : Addr} (h : ρ[n]? = some a) : RD g ρ H (.ref a) (.loc n)
  | empF {a : Addr} {o : Obj} (h : H a = some (.frz o (.dK []))) (n : Out g ρ a) : RD g ρ H (.ref a) (.emp true)
  | empU {a : Addr} (h : H a = some (.dK [])) (n : Out g ρ a) : RD g ρ H (.ref a) (.emp false)
inductive RDs (g : G) (ρ : List Addr) (H : Hp) : List V → List D → Prop
  | nil : RDs g ρ H [] []
  | cons {v : V} {d : D} {vs : List V} {ds : List D} (h : RD g ρ H v d) (t : RDs g ρ H vs ds) : RDs g ρ H (v :: vs) (d :: ds)
end

def RKV {κ : Type} (g : G) (ρ : List Addr) (H : Hp) : List (κ × V) → List (κ × D) → Prop := Paired fun p q => p.1 = q.1 ∧ RD g ρ H p.2 q.2

def RO (g : G) (ρ : List Addr) (H : Hp) (a : Addr) : Ob → Prop
  | .lst ds => ∃ vs, H a = some (.lst vs) ∧ RDs g ρ H vs ds
  | .dK kvs => ∃ kv, H a = some (.dK kv) ∧ RKV g ρ H kv kvs
  | .dT kvs => ∃ kv, H a = some (.dT kv) ∧ RKV g ρ H kv kvs
  | .ins c fs => ∃ dx fv, H a = some (.ins (g.cls c) dx fv) ∧ RKV g ρ H fv fs
  | .exc c none => H a = some (exo a (g.cls c) none)
  | .exc c (some n) => ∃ dx, ρ[n]? = some dx ∧ H a = some (exo a (g.cls c) (some dx))
  | .xd fs => ∃ fv, H a = some (exd a fv) ∧ RKV g ρ H fv fs
  | .ex0 c => H a = some (ExO (.ref (g.cls c)) a)

structure RS (g : G) (ρ : List Addr) (S : Store) (H : Hp) : Prop where
  len : ρ.length = S.length
  nd : ρ.Nodup
  ob : ∀ (n : Nat) (a : Addr) (o : Ob), ρ[n]? = some a → S[n]? = some o → RO g ρ H a o
  hd : ∀ a, a ∈ g.hid → (∃ o, H a = some o) ∧ a ∉ ρ

/-- what is known goes on: all that is no object of the store stays -/
structure Ex (ρ : List Addr) (H : Hp) (ρ' : List Addr) (H' : Hp) : Prop where
  new : ∃ l, ρ' = ρ ++ l ∧ ∀ a ∈ l, H a = none ∧ a ∉ ρ
  keep : ∀ a o, a ∉ ρ → H a = some o → H' a = some o

theorem Ex.refl {ρ : List Addr} {H : Hp} : Ex ρ H ρ H := ⟨⟨[], by simp, by simp⟩, fun _ _ _ h => h⟩
theorem Ex.out {ρ ρ' : List Addr} {H H' : Hp} (e : Ex ρ H ρ' H') {a : Addr} {o : HO} (h : H a = some o) (n : a ∉ ρ) : a ∉ ρ' := by
  obtain ⟨l, rfl, hl⟩ := e.new
  intro m
  rcases List.mem_append.mp m with m | m
  · exact n m
  · rw [(hl a m).1] at h; cases h
theorem Ex.trans {ρ ρ1 ρ2 : List Addr} {H H1 H2 : Hp} (a : Ex ρ H ρ1 H1) (b : Ex ρ1 H1 ρ2 H2) : Ex ρ H ρ2 H2 := by
  obtain ⟨l, rfl, hl⟩ := a.new
  obtain ⟨m, rfl, hm⟩ := b.new
  refine ⟨⟨l ++ m, by simp, fun x hx => ?_⟩, fun x o n h => b.keep x o (a.out h n) (a.keep x o n h)⟩
  rcases List.mem_append.mp hx with hx | hx
  · exact hl x hx
  · obtain ⟨h1, h2⟩ := hm x hx
    have h3 : x ∉ ρ := fun q => h2 (List.mem_append_left _ q)
    refine ⟨?_, h3⟩
    cases q : H x with
    | none => rfl
    | some o => rw [a.keep x o h3 q] at h1; cases h1
theorem Ex.at {ρ ρ' : List Addr} {H H' : Hp} (e : Ex ρ H ρ' H') {n : Nat} {a : Addr} (h : ρ[n]? = some a) : ρ'[n]? = some a := by
  obtain ⟨l, rfl, _⟩ := e.new
  rw [List.getElem?_append_left (List.getElem?_eq_some_iff.mp h).1]
  exact h
/-- a new object that is no object of the store -/
theorem Ex.new1 {ρ : List Addr} {H : Hp} {p : Addr} {o : HO} (h : H p = none) : Ex ρ H ρ (upd H p o) :=
  ⟨⟨[], by simp, by simp⟩, fun a u _ e => by rw [upd_ne (ne_of_none e h)]; exact e⟩

section
variable {g : G} {ρ ρ' : List Addr} {H H' : Hp} {S : Store}
theorem RD.mono (e : Ex ρ H ρ' H') {v : V} {d : D} (r : RD g ρ H v d) : RD g ρ' H' v d := by
  refine RD.rec (motive_1 := fun v d _ => RD g ρ' H' v d) (motive_2 := fun vs ds _ => RDs g ρ' H' vs ds) .non .bl .int .str ?_ ?_ ?_ ?_ ?_ ?_ .nil ?_ r
  · intro a vs ds h n _ ih; exact .tup (e.keep a _ n.1 h) ⟨e.out h n.1, n.2⟩ ih
  · intro a vs ds h n _ ih; exact .lst (e.keep a _ n.1 h) ⟨e.out h n.1, n.2⟩ ih
  · intro a ns n
    refine .scr ?_
    rcases n with ⟨o, h, n⟩ | n
    · exact .inl ⟨o, e.keep a _ n.1 h, e.out h n.1, n.2⟩
    · exact .inr n
  · intro n a h; exact .loc (e.at h)
  · intro a o h n; exact .empF (e.keep a _ n.1 h) ⟨e.out h n.1, n.2⟩
  · intro a h n; exact .empU (e.keep a _ n.1 h) ⟨e.out h n.1, n.2⟩
  · intro v d vs ds _ _ h t; exact .cons h t
theorem RDs.mono (e : Ex ρ H ρ' H') : ∀ {vs : List V} {ds : List D}, RDs g ρ H vs ds → RDs g ρ' H' vs ds
  | _, _, .nil => .nil
  | _, _, .cons h t => .cons (h.mono e) (RDs.mono e t)
theorem RDs.length : ∀ {vs : List V} {ds : List D}, RDs g ρ H vs ds → vs.length = ds.length
  | _, _, .nil => rfl
  | _, _, .cons _ t => by simp [RDs.length t]
theorem RDs.get : ∀ {vs : List V} {ds : List D} {i : Nat} {d : D}, RDs g ρ H vs ds → ds[i]? = some d → ∃ v, vs[i]? = some v ∧ RD g ρ H v d
  | _, _, _, _, .nil, e => by simp at e
  | _, _, 0, _, .cons h _, e => by simp at e; subst e; exact ⟨_, rfl, h⟩
  | _, _, i + 1, d, .cons _ t, e => by
    obtain ⟨v, h1, h2⟩ := RDs.get (i := i) (d := d) t (by simpa using e)
    exact ⟨v, by simpa using h1, h2⟩
theorem RDs.append : ∀ {vs ws : List V} {ds es : List D}, RDs g ρ H vs ds → RDs g ρ H ws es → RDs g ρ H (vs ++ ws) (ds ++ es)
  | _, _, _, _, .nil, s => s
  | _, _, _, _, .cons h t, s => .cons h (RDs.append t s)
theorem RDs.take : ∀ {vs : List V} {ds : List D} (n : Nat), RDs g ρ H vs ds → RDs g ρ H (vs.take n) (ds.take n)
  | _, _, 0, _ => .nil
  | _, _, _ + 1, .nil => .nil
  | _, _, n + 1, .cons h t => .cons h (RDs.take n t)
theorem RDs.drop : ∀ {vs : List V} {ds : List D} (n : Nat), RDs g ρ H vs ds → RDs g ρ H (vs.drop n) (ds.drop n)
  | _, _, 0, r => r
  | _, _, _ + 1, .nil => .nil
  | _, _, n + 1, .cons _ t => RDs.drop n t
theorem RDs.set {v : V} {d : D} (r : RD g ρ H v d) : ∀ {vs : List V} {ds : List D} (i : Nat), RDs g ρ H vs ds → RDs g ρ H (vs.set i v) (ds.set i d)
  | _, _, _, .nil => .nil
  | _, _, 0, .cons _ t => .cons r t
  | _, _, i + 1, .cons q t => .cons q (RDs.set r i t)
theorem RDs.eraseIdx : ∀ {vs : List V} {ds : List D} (i : Nat), RDs g ρ H vs ds → RDs g ρ H (vs.eraseIdx i) (ds.eraseIdx i)
  | _, _, _, .nil => .nil
  | _, _, 0, .cons _ t => t
  | _, _, i + 1, .cons q t => .cons q (RDs.eraseIdx i t)
theorem RDs.snoc {vs : List V} {ds : List D} {v : V} {d : D} (h : RDs g ρ H vs ds) (r : RD g ρ H v d) : RDs g ρ H (vs ++ [v]) (ds ++ [d]) := h.append (.cons r .nil)
theorem RKV.mono {κ : Type} (e : Ex ρ H ρ' H') {xs : List (κ × V)} {ys : List (κ × D)} (r : RKV g ρ H xs ys) : RKV g ρ' H' xs ys := Paired.mapP r fun _ _ h => ⟨h.1, h.2.mono e⟩

/-- the same facts elsewhere -/
theorem RD.tr {g' : G} (hK : g.K = g'.K) (hρ : ∀ (n : Nat) a, ρ[n]? = some a → ρ'[n]? = some a) (k : ∀ a o, Out g ρ a → H a = some o → Out g' ρ' a ∧ H' a = some o) {v : V} {d : D} (r : RD g ρ H v d) : RD g' ρ' H' v d := by
  refine RD.rec (motive_1 := fun v d _ => RD g' ρ' H' v d) (motive_2 := fun vs ds _ => RDs g' ρ' H' vs ds) .non .bl .int .str ?_ ?_ ?_ ?_ ?_ ?_ .nil ?_ r
  · intro a vs ds h n _ ih; exact .tup (k a _ n h).2 (k a _ n h).1 ih
  · intro a vs ds h n _ ih; exact .lst (k a _ n h).2 (k a _ n h).1 ih
  · intro a ns n
    refine .scr ?_
    rcases n with ⟨o, h, n⟩ | n
    · exact .inl ⟨o, (k a _ n h).2, (k a _ n h).1⟩
    · exact .inr (hK ▸ n)
  · intro n a h; exact .loc (hρ n a h)
  · intro a o h n; exact .empF (k a _ n h).2 (k a _ n h).1
  · intro a h n; exact .empU (k a _ n h).2 (k a _ n h).1
  · intro v d vs ds _ _ h t; exact .cons h t
theorem RDs.tr {g' : G} (hK : g.K = g'.K) (hρ : ∀ (n : Nat) a, ρ[n]? = some a → ρ'[n]? = some a) (k : ∀ a o, Out g ρ a → H a = some o → Out g' ρ' a ∧ H' a = some o) : ∀ {vs : List V} {ds : List D}, RDs g ρ H vs ds → RDs g' ρ' H' vs ds
  | _, _, .nil => .nil
  | _, _, .cons h t => .cons (h.tr hK hρ k) (RDs.tr hK hρ k t)
theorem RKV.tr {κ : Type} {g' : G} (hK : g.K = g'.K) (hρ : ∀ (n : Nat) a, ρ[n]? = some a → ρ'[n]? = some a) (k : ∀ a o, Out g ρ a → H a = some o → Out g' ρ' a ∧ H' a = some o) {xs : List (κ × V)} {ys : List (κ × D)} (r : RKV g ρ H xs ys) : RKV g' ρ' H' xs ys := Paired.mapP r fun _ _ h => ⟨h.1, h.2.tr hK hρ k⟩
theorem RO.tr {g' : G} (hK : g.K = g'.K) (hc : g.cls = g'.cls) (hρ : ∀ (n : Nat) a, ρ[n]? = some a → ρ'[n]? = some a) (k : ∀ a o, Out g ρ a → H a = some o → Out g' ρ' a ∧ H' a = some o) {a : Addr} (ha : ∀ o, H a = some o → H' a = some o) {ob : Ob} (r : RO g ρ H a ob) : RO g' ρ' H' a ob := by
  cases ob with
  | lst ds => obtain ⟨vs, q1, q2⟩ := r; exact ⟨vs, ha _ q1, q2.tr hK hρ k⟩
  | dK ds => obtain ⟨vs, q1, q2⟩ := r; exact ⟨vs, ha _ q1, q2.tr hK hρ k⟩
  | dT ds => obtain ⟨vs, q1, q2⟩ := r; exact ⟨vs, ha _ q1, q2.tr hK hρ k⟩
  | ins c fs => obtain ⟨dx, fv, q1, q2⟩ := r; exact ⟨dx, fv, hc ▸ ha _ q1, q2.tr hK hρ k⟩
  | exc c d => cases d with
    | none => exact (hc ▸ ha _ r : H' a = some (exo a (g'.cls c) none))
    | some n => obtain ⟨dx, q1, q2⟩ := r; exact ⟨dx, hρ n dx q1, hc ▸ ha _ q2⟩
  | xd fs => obtain ⟨fv, q1, q2⟩ := r; exact ⟨fv, ha _ q1, q2.tr hK hρ k⟩
  | ex0 c => exact (hc ▸ ha _ r : H' a = some (ExO (.ref (g'.cls c)) a))
theorem RS.there (rs : RS g ρ S H) {a : Addr} (h : a ∈ ρ) : ∃ o, H a = some o := by
  obtain ⟨n, hn, e⟩ := List.getElem_of_mem h
  have hS : n < S.length := by rw [← rs.len]; exact hn
  have r := rs.ob n a S[n] (by rw [List.getElem?_eq_getElem hn, e]) (List.getElem?_eq_getElem hS)
  cases hh : S[n] with
  | lst ds => rw [hh] at r; obtain ⟨vs, q1, _⟩ := r; exact ⟨_, q1⟩
  | dK ds => rw [hh] at r; obtain ⟨vs, q1, _⟩ := r; exact ⟨_, q1⟩
  | dT ds => rw [hh] at r; obtain ⟨vs, q1, _⟩ := r; exact ⟨_, q1⟩
  | ins c fs => rw [hh] at r; obtain ⟨dx, fv, q1, _⟩ := r; exact ⟨_, q1⟩
  | exc c d => cases d with
    | none => rw [hh] at r; exact ⟨_, r⟩
    | some n => rw [hh] at r; obtain ⟨dx, _, q⟩ := r; exact ⟨_, q⟩
  | xd fs => rw [hh] at r; obtain ⟨fv, q1, _⟩ := r; exact ⟨_, q1⟩
  | ex0 c => rw [hh] at r; exact ⟨_, r⟩
theorem RS.fresh (rs : RS g ρ S H) {a : Addr} (h : H a = none) : Out g ρ a := by
  refine ⟨fun m => ?_, fun m => ?_⟩
  · obtain ⟨o, e⟩ := rs.there m
    rw [h] at e; cases e
  · obtain ⟨⟨o, e⟩, _⟩ := rs.hd a m
    rw [h] at e; cases e
/-- a new place is hidden | it is let go, whatever stands there -/
theorem hide_k {l : List Addr} {p : Addr} {o : HO} (hp : H p = none) : ∀ a u, Out (g.hide l) ρ a → H a = some u → Out (g.hide (p :: l)) ρ a ∧ upd H p o a = some u := fun a u n h => by
  have ne := ne_of_none h hp
  exact ⟨⟨n.1, fun m => (List.mem_cons.mp m).elim ne n.2⟩, by rw [upd_ne ne]; exact h⟩
theorem show_k {l : List Addr} {p : Addr} (k : ∀ a, a ≠ p → H' a = H a) : ∀ a u, Out (g.hide (p :: l)) ρ a → H a = some u → Out (g.hide l) ρ a ∧ H' a = some u := fun a u n h =>
  ⟨⟨n.1, fun m => n.2 (List.mem_cons_of_mem _ m)⟩, by rw [k a fun e => n.2 (by rw [e]; exact List.mem_cons_self)]; exact h⟩
theorem RS.hide {l : List Addr} {p : Addr} {o : HO} (rs : RS (g.hide l) ρ S H) (hp : H p = none) : RS (g.hide (p :: l)) ρ S (upd H p o) := by
  refine ⟨rs.len, rs.nd, fun n a ob h1 h2 => RO.tr (g := g.hide l) (g' := g.hide (p :: l)) (H' := upd H p o) rfl rfl (fun _ _ h => h) (hide_k hp) (r := rs.ob n a ob h1 h2) (ha :=  fun u q => by rw [upd_ne (ne_of_none q hp)]; exact q), fun a m => ?_⟩
  rcases List.mem_cons.mp m with e | m
  · rw [e]; exact ⟨⟨o, upd_same⟩, (rs.fresh hp).1⟩
  · obtain ⟨⟨u, h⟩, n⟩ := rs.hd a m
    exact ⟨⟨u, by rw [upd_ne (ne_of_none h hp)]; exact h⟩, n⟩
theorem RS.unhide {l : List Addr} {p : Addr} (hl : p ∉ l) (rs : RS (g.hide (p :: l)) ρ S H) (k : ∀ a, a ≠ p → H' a = H a) : RS (g.hide l) ρ S H' := by
  have np : p ∉ ρ := (rs.hd p List.mem_cons_self).2
  refine ⟨rs.len, rs.nd, fun n a ob h1 h2 => RO.tr (g := g.hide (p :: l)) (g' := g.hide l) (H' := H') rfl rfl (fun _ _ h => h) (show_k k) (r := rs.ob n a ob h1 h2) (ha := fun u q => ?_), fun a m => ?_⟩
  · rw [k a fun e => np (by rw [← e]; exact List.mem_of_getElem? h1)]; exact q
  · obtain ⟨⟨u, h⟩, n⟩ := rs.hd a (List.mem_cons_of_mem _ m)
    exact ⟨⟨u, by rw [k a fun e => hl (by rw [← e]; exact m)]; exact h⟩, n⟩
/-- a hidden place is written -/
theorem RS.hidden {l : List Addr} {p : Addr} {o : HO} (rs : RS (g.hide (p :: l)) ρ S H) : RS (g.hide (p :: l)) ρ S (upd H p o) := by
  have np : p ∉ ρ := (rs.hd p List.mem_cons_self).2
  have kk : ∀ a u, Out (g.hide (p :: l)) ρ a → H a = some u → Out (g.hide (p :: l)) ρ a ∧ upd H p o a = some u := fun a u n h => ⟨n, by rw [upd_ne fun e => n.2 (by rw [e]; exact List.mem_cons_self)]; exact h⟩
  refine ⟨rs.len, rs.nd, fun n a ob h1 h2 => (rs.ob n a ob h1 h2).tr (g' := g.hide (p :: l)) (H' := upd H p o) rfl rfl (fun _ _ h => h) kk fun u q => ?_, fun a m => ?_⟩
  · rw [upd_ne fun e => np (by rw [← e]; exact List.mem_of_getElem? h1)]; exact q
  · obtain ⟨⟨u, h⟩, n⟩ := rs.hd a m
    by_cases e : a = p
    · rw [e]; exact ⟨⟨o, upd_same⟩, np⟩
    · exact ⟨⟨u, by rw [upd_ne e]; exact h⟩, n⟩
theorem hidden_k {l : List Addr} {p : Addr} {o : HO} : ∀ a u, Out (g.hide (p :: l)) ρ a → H a = some u → Out (g.hide (p :: l)) ρ a ∧ upd H p o a = some u := fun a u n h =>
  ⟨n, by rw [upd_ne fun e => n.2 (by rw [e]; exact List.mem_cons_self)]; exact h⟩
/-- what H didn't know may change -/
theorem Ex.mut {ρ' : List Addr} {p : Addr} {o : HO} (e : Ex ρ H ρ' H') (hp : H p = none) : Ex ρ H ρ' (upd H' p o) :=
  ⟨e.new, fun a u n h => by rw [upd_ne (ne_of_none h hp)]; exact e.keep a u n h⟩

/-! ### slots -/
abbrev En := List (Option D)
def RE (g : G) (ρ : List Addr) (H : Hp) : L2.St → En → Prop := Paired fun v d => ∀ x, d = some x → ∃ y, v = some y ∧ RD g ρ H y x
theorem RE.mono (e : Ex ρ H ρ' H') {σ : L2.St} {env : En} (r : RE g ρ H σ env) : RE g ρ' H' σ env := Paired.mapP r fun _ _ h x q => by
  obtain ⟨y, h1, h2⟩ := h x q
  exact ⟨y, h1, h2.mono e⟩
theorem RE.get : ∀ {σ : L2.St} {env : En} {i : Nat} {d : D}, RE g ρ H σ env → env[i]? = some (some d) → ∃ v, σ[i]? = some (some v) ∧ RD g ρ H v d
  | _, _, _, _, .nil, e => by simp at e
  | _, _, 0, _, .cons h _, e => by
    simp at e
    obtain ⟨y, h1, h2⟩ := h _ e
    exact ⟨y, by simp [h1], h2⟩
  | _, _, i + 1, d, .cons _ t, e => by
    obtain ⟨v, h1, h2⟩ := RE.get (i := i) (d := d) t (by simpa using e)
    exact ⟨v, by simpa using h1, h2⟩
theorem RE.set {v : V} {d : D} (r : RD g ρ H v d) : ∀ {σ : L2.St} {env : En} (i : Nat), RE g ρ H σ env → RE g ρ H (σ.set i (some v)) (env.set i (some d))
  | _, _, _, .nil => .nil
  | _, _, 0, .cons _ t => .cons (fun x q => by cases q; exact ⟨v, rfl, r⟩) t
  | _, _, i + 1, .cons q t => .cons q (RE.set r i t)
theorem RE.tr {g' : G} (hK : g.K = g'.K) (hρ : ∀ (n : Nat) a, ρ[n]? = some a → ρ'[n]? = some a) (k : ∀ a o, Out g ρ a → H a = some o → Out g' ρ' a ∧ H' a = some o) {σ : L2.St} {env : En} (r : RE g ρ H σ env) : RE g' ρ' H' σ env := Paired.mapP r fun _ _ h x q => by
  obtain ⟨y, h1, h2⟩ := h x q
  exact ⟨y, h1, h2.tr hK hρ k⟩
/-- what was known ahead of a new place is known behind, the place hidden -/
theorem ahead_k {l : List Addr} {p : Addr} (hp : H p = none) (e : Ex ρ H ρ' H') : ∀ a u, Out (g.hide l) ρ a → H a = some u → Out (g.hide (p :: l)) ρ' a ∧ H' a = some u := fun a u n h =>
  ⟨⟨e.out h n.1, fun m => (List.mem_cons.mp m).elim (ne_of_none h hp) n.2⟩, e.keep a u n.1 h⟩
theorem RE.clear : ∀ {σ : L2.St} {env : En} (i : Nat), RE g ρ H σ env → RE g ρ H (σ.set i none) (env.set i none)
  | _, _, _, .nil => .nil
  | _, _, 0, .cons _ t => .cons (fun x q => by cases q) t
  | _, _, i + 1, .cons q t => .cons q (RE.clear i t)
def wipeE (env : En) : List Nat → En
  | [] => env
  | i :: r => (wipeE env r).set i none
theorem RE.wipe {σ : L2.St} {env : En} (re : RE g ρ H σ env) : ∀ vs : List Nat, RE g ρ H (L2.wipe σ vs) (wipeE env vs)
  | [] => re
  | i :: r => by
    unfold L2.wipe wipeE
    exact (RE.wipe re r).clear i
end

/-! ### answers -/
structure Exc where
  c : Nat
  fs : Option (List (PySem.Str × D))
inductive Res (α : Type) where
  | ok (a : α) (S : Store) | err (x : Exc) (S : Store) | stuck
inductive FRes where
  | next (env : En) (S : Store) | ret (d : D) (S : Store) | brk (env : En) (S : Store) | cont (env : En) (S : Store) | err (x : Exc) (S : Store) | stuck
abbrev EM := En → Store → Res D
abbrev BM := En → Store → Res Bool
abbrev AM := En → Store → Res (List D)
abbrev SM := En → Store → FRes

def RX (g : G) (ρ : List Addr) (H : Hp) (x : Exc) (c : Value) (od : Option Addr) : Prop :=
  c = .ref (g.cls x.c) ∧ match x.fs with
    | none => od = none
    | some fs => ∃ d fv, od = some d ∧ d ∉ ρ ∧ H d = some (.xd fv) ∧ RKV g ρ H fv fs

section
variable (g : G) (E : XK) (ρ : List Addr) (H : Hp)
def PX (x : Exc) (S' : Store) : Prop := ∀ ρ' H' c od, Ex ρ H ρ' H' → RS g ρ' S' H' → RX g ρ' H' x c od → E c od H'
def PostE (Q : VK) : Res D → Prop
  | .ok d S' => ∀ ρ' H' v, Ex ρ H ρ' H' → RS g ρ' S' H' → RD g ρ' H' v d → Q v H'
  | .err x S' => PX g E ρ H x S'
  | .stuck => False
def PostT (Q : Bool → Hp → Prop) : Res Bool → Prop
  | .ok b S' => ∀ ρ' H', Ex ρ H ρ' H' → RS g ρ' S' H' → Q b H'
  | .err x S' => PX g E ρ H x S'
  | .stuck => False
def PostA (Q : List V → Hp → Prop) : Res (List D) → Prop
  | .ok ds S' => ∀ ρ' H' vs, Ex ρ H ρ' H' → RS g ρ' S' H' → RDs g ρ' H' vs ds → Q vs H'
  | .err x S' => PX g E ρ H x S'
  | .stuck => False
def PN (P : L2.St → Hp → Prop) (env' : En) (S' : Store) : Prop := ∀ ρ' H' σ', Ex ρ H ρ' H' → RS g ρ' S' H' → RE g ρ' H' σ' env' → P σ' H'
def PostS (D' : Ends) : FRes → Prop
  | .next env' S' => PN g ρ H D'.nx env' S'
  | .brk env' S' => PN g ρ H D'.bk env' S'
  | .cont env' S' => PN g ρ H D'.ct env' S'
  | .ret d S' => ∀ ρ' H' v, Ex ρ H ρ' H' → RS g ρ' S' H' → RD g ρ' H' v d → D'.rt v H'
  | .err x S' => PX g E ρ H x S'
  | .stuck => False
end
section
variable {g : G} {E : XK} {ρ ρ1 : List Addr} {H H1 : Hp}
theorem PX.ex {x : Exc} {S' : Store} (p : PX g E ρ H x S') (e : Ex ρ H ρ1 H1) : PX g E ρ1 H1 x S' := fun ρ' H' c od a b r => p ρ' H' c od (e.trans a) b r
theorem PostE.ex {Q : VK} {r : Res D} (p : PostE g E ρ H Q r) (e : Ex ρ H ρ1 H1) : PostE g E ρ1 H1 Q r := by
  cases r with
  | ok d S' => exact fun ρ' H' v a b c => p ρ' H' v (e.trans a) b c
  | err x S' => exact PX.ex p e
  | stuck => exact p
theorem PostT.ex {Q : Bool → Hp → Prop} {r : Res Bool} (p : PostT g E ρ H Q r) (e : Ex ρ H ρ1 H1) : PostT g E ρ1 H1 Q r := by
  cases r with
  | ok d S' => exact fun ρ' H' a b => p ρ' H' (e.trans a) b
  | err x S' => exact PX.ex p e
  | stuck => exact p
theorem PostA.ex {Q : List V → Hp → Prop} {r : Res (List D)} (p : PostA g E ρ H Q r) (e : Ex ρ H ρ1 H1) : PostA g E ρ1 H1 Q r := by
  cases r with
  | ok d S' => exact fun ρ' H' v a b c => p ρ' H' v (e.trans a) b c
  | err x S' => exact PX.ex p e
  | stuck => exact p
theorem PN.ex {P : L2.St → Hp → Prop} {env' : En} {S' : Store} (p : PN g ρ H P env' S') (e : Ex ρ H ρ1 H1) : PN g ρ1 H1 P env' S' := fun ρ' H' σ' a b c => p ρ' H' σ' (e.trans a) b c
theorem PostS.ex {D' : Ends} {r : FRes} (p : PostS g E ρ H D' r) (e : Ex ρ H ρ1 H1) : PostS g E ρ1 H1 D' r := by
  cases r with
  | next env' S' => exact PN.ex p e
  | brk env' S' => exact PN.ex p e
  | cont env' S' => exact PN.ex p e
  | ret d S' => exact fun ρ' H' v a b c => p ρ' H' v (e.trans a) b c
  | err x S' => exact PX.ex p e
  | stuck => exact p
end

/-! ### what goes as a plain function -/
section
variable (g : G) (E : XK)
def SimE (t : TE) (m : EM) : Prop := ∀ l σ H Q ρ S env, RE (g.hide l) ρ H σ env → RS (g.hide l) ρ S H → PostE (g.hide l) E ρ H Q (m env S) → t σ H Q
def SimT (t : TT) (m : BM) : Prop := ∀ l σ H Q ρ S env, RE (g.hide l) ρ H σ env → RS (g.hide l) ρ S H → PostT (g.hide l) E ρ H Q (m env S) → t σ H Q
def SimA (t : TA) (m : AM) : Prop := ∀ l σ H Q ρ S env, RE (g.hide l) ρ H σ env → RS (g.hide l) ρ S H → PostA (g.hide l) E ρ H Q (m env S) → t σ H Q
def SimS (t : TS) (m : SM) : Prop := ∀ l D' σ H ρ S env, RE (g.hide l) ρ H σ env → RS (g.hide l) ρ S H → PostS (g.hide l) E ρ H D' (m env S) → t D' σ H
def Res.bind {α β : Type} (r : Res α) (f : α → Store → Res β) : Res β := match r with
  | .ok a S => f a S
  | .err x S => .err x S
  | .stuck => .stuck
def Res.bindS {α : Type} (r : Res α) (f : α → Store → FRes) : FRes := match r with
  | .ok a S => f a S
  | .err x S => .err x S
  | .stuck => .stuck
end
section
variable {g : G} {E : XK}
/-- the shape of most proofs: an answer behind an answer -/
theorem SimE.bind {t : TE} {m : EM} (h : SimE g E t m) {l : List Addr} {σ : L2.St} {H : Hp} {Q Q' : VK} {ρ : List Addr} {S : Store} {env : En} {f : D → Store → Res D} (re : RE (g.hide l) ρ H σ env) (rs : RS (g.hide l) ρ S H) (p : PostE (g.hide l) E ρ H Q' ((m env S).bind f))
    (k : ∀ d S' ρ' H' v, Ex ρ H ρ' H' → RS (g.hide l) ρ' S' H' → RD (g.hide l) ρ' H' v d → RE (g.hide l) ρ' H' σ env → PostE (g.hide l) E ρ' H' Q' (f d S') → Q v H') : t σ H Q := by
  refine h l σ H Q ρ S env re rs ?_
  cases e : m env S with
  | ok d S' => rw [e] at p; exact fun ρ' H' v a b c => k d S' ρ' H' v a b c (re.mono a) (PostE.ex p a)
  | err x S' => rw [e] at p; exact p
  | stuck => rw [e] at p; exact p
theorem SimE.bindT {t : TE} {m : EM} (h : SimE g E t m) {l : List Addr} {σ : L2.St} {H : Hp} {Q : VK} {Q' : Bool → Hp → Prop} {ρ : List Addr} {S : Store} {env : En} {f : D → Store → Res Bool} (re : RE (g.hide l) ρ H σ env) (rs : RS (g.hide l) ρ S H) (p : PostT (g.hide l) E ρ H Q' ((m env S).bind f))
    (k : ∀ d S' ρ' H' v, Ex ρ H ρ' H' → RS (g.hide l) ρ' S' H' → RD (g.hide l) ρ' H' v d → RE (g.hide l) ρ' H' σ env → PostT (g.hide l) E ρ' H' Q' (f d S') → Q v H') : t σ H Q := by
  refine h l σ H Q ρ S env re rs ?_
  cases e : m env S with
  | ok d S' => rw [e] at p; exact fun ρ' H' v a b c => k d S' ρ' H' v a b c (re.mono a) (PostT.ex p a)
  | err x S' => rw [e] at p; exact p
  | stuck => rw [e] at p; exact p
theorem SimE.bindA {t : TE} {m : EM} (h : SimE g E t m) {l : List Addr} {σ : L2.St} {H : Hp} {Q : VK} {Q' : List V → Hp → Prop} {ρ : List Addr} {S : Store} {env : En} {f : D → Store → Res (List D)} (re : RE (g.hide l) ρ H σ env) (rs : RS (g.hide l) ρ S H) (p : PostA (g.hide l) E ρ H Q' ((m env S).bind f))
    (k : ∀ d S' ρ' H' v, Ex ρ H ρ' H' → RS (g.hide l) ρ' S' H' → RD (g.hide l) ρ' H' v d → RE (g.hide l) ρ' H' σ env → PostA (g.hide l) E ρ' H' Q' (f d S') → Q v H') : t σ H Q := by
  refine h l σ H Q ρ S env re rs ?_
  cases e : m env S with
  | ok d S' => rw [e] at p; exact fun ρ' H' v a b c => k d S' ρ' H' v a b c (re.mono a) (PostA.ex p a)
  | err x S' => rw [e] at p; exact p
  | stuck => rw [e] at p; exact p
theorem SimE.bindS {t : TE} {m : EM} (h : SimE g E t m) {l : List Addr} {σ : L2.St} {H : Hp} {Q : VK} {D' : Ends} {ρ : List Addr} {S : Store} {env : En} {f : D → Store → FRes} (re : RE (g.hide l) ρ H σ env) (rs : RS (g.hide l) ρ S H) (p : PostS (g.hide l) E ρ H D' ((m env S).bindS f))
    (k : ∀ d S' ρ' H' v, Ex ρ H ρ' H' → RS (g.hide l) ρ' S' H' → RD (g.hide l) ρ' H' v d → RE (g.hide l) ρ' H' σ env → PostS (g.hide l) E ρ' H' D' (f d S') → Q v H') : t σ H Q := by
  refine h l σ H Q ρ S env re rs ?_
  cases e : m env S with
  | ok d S' => rw [e] at p; exact fun ρ' H' v a b c => k d S' ρ' H' v a b c (re.mono a) (PostS.ex p a)
  | err x S' => rw [e] at p; exact p
  | stuck => rw [e] at p; exact p
theorem SimT.bind {t : TT} {m : BM} (h : SimT g E t m) {l : List Addr} {σ : L2.St} {H : Hp} {Q Q' : Bool → Hp → Prop} {ρ : List Addr} {S : Store} {env : En} {f : Bool → Store → Res Bool} (re : RE (g.hide l) ρ H σ env) (rs : RS (g.hide l) ρ S H) (p : PostT (g.hide l) E ρ H Q' ((m env S).bind f))
    (k : ∀ d S' ρ' H', Ex ρ H ρ' H' → RS (g.hide l) ρ' S' H' → RE (g.hide l) ρ' H' σ env → PostT (g.hide l) E ρ' H' Q' (f d S') → Q d H') : t σ H Q := by
  refine h l σ H Q ρ S env re rs ?_
  cases e : m env S with
  | ok d S' => rw [e] at p; exact fun ρ' H' a b => k d S' ρ' H' a b (re.mono a) (PostT.ex p a)
  | err x S' => rw [e] at p; exact p
  | stuck => rw [e] at p; exact p
theorem SimT.bindE {t : TT} {m : BM} (h : SimT g E t m) {l : List Addr} {σ : L2.St} {H : Hp} {Q : Bool → Hp → Prop} {Q' : VK} {ρ : List Addr} {S : Store} {env : En} {f : Bool → Store → Res D} (re : RE (g.hide l) ρ H σ env) (rs : RS (g.hide l) ρ S H) (p : PostE (g.hide l) E ρ H Q' ((m env S).bind f))
    (k : ∀ d S' ρ' H', Ex ρ H ρ' H' → RS (g.hide l) ρ' S' H' → RE (g.hide l) ρ' H' σ env → PostE (g.hide l) E ρ' H' Q' (f d S') → Q d H') : t σ H Q := by
  refine h l σ H Q ρ S env re rs ?_
  cases e : m env S with
  | ok d S' => rw [e] at p; exact fun ρ' H' a b => k d S' ρ' H' a b (re.mono a) (PostE.ex p a)
  | err x S' => rw [e] at p; exact p
  | stuck => rw [e] at p; exact p
theorem SimT.bindS {t : TT} {m : BM} (h : SimT g E t m) {l : List Addr} {σ : L2.St} {H : Hp} {Q : Bool → Hp → Prop} {D' : Ends} {ρ : List Addr} {S : Store} {env : En} {f : Bool → Store → FRes} (re : RE (g.hide l) ρ H σ env) (rs : RS (g.hide l) ρ S H) (p : PostS (g.hide l) E ρ H D' ((m env S).bindS f))
    (k : ∀ d S' ρ' H', Ex ρ H ρ' H' → RS (g.hide l) ρ' S' H' → RE (g.hide l) ρ' H' σ env → PostS (g.hide l) E ρ' H' D' (f d S') → Q d H') : t σ H Q := by
  refine h l σ H Q ρ S env re rs ?_
  cases e : m env S with
  | ok d S' => rw [e] at p; exact fun ρ' H' a b => k d S' ρ' H' a b (re.mono a) (PostS.ex p a)
  | err x S' => rw [e] at p; exact p
  | stuck => rw [e] at p; exact p
theorem SimA.bind {t : TA} {m : AM} (h : SimA g E t m) {l : List Addr} {σ : L2.St} {H : Hp} {Q : List V → Hp → Prop} {Q' : VK} {ρ : List Addr} {S : Store} {env : En} {f : List D → Store → Res D} (re : RE (g.hide l) ρ H σ env) (rs : RS (g.hide l) ρ S H) (p : PostE (g.hide l) E ρ H Q' ((m env S).bind f))
    (k : ∀ d S' ρ' H' v, Ex ρ H ρ' H' → RS (g.hide l) ρ' S' H' → RDs (g.hide l) ρ' H' v d → RE (g.hide l) ρ' H' σ env → PostE (g.hide l) E ρ' H' Q' (f d S') → Q v H') : t σ H Q := by
  refine h l σ H Q ρ S env re rs ?_
  cases e : m env S with
  | ok d S' => rw [e] at p; exact fun ρ' H' v a b c => k d S' ρ' H' v a b c (re.mono a) (PostE.ex p a)
  | err x S' => rw [e] at p; exact p
  | stuck => rw [e] at p; exact p
theorem SimA.bindA {t : TA} {m : AM} (h : SimA g E t m) {l : List Addr} {σ : L2.St} {H : Hp} {Q : List V → Hp → Prop} {Q' : List V → Hp → Prop} {ρ : List Addr} {S : Store} {env : En} {f : List D → Store → Res (List D)} (re : RE (g.hide l) ρ H σ env) (rs : RS (g.hide l) ρ S H) (p : PostA (g.hide l) E ρ H Q' ((m env S).bind f))
    (k : ∀ d S' ρ' H' v, Ex ρ H ρ' H' → RS (g.hide l) ρ' S' H' → RDs (g.hide l) ρ' H' v d → RE (g.hide l) ρ' H' σ env → PostA (g.hide l) E ρ' H' Q' (f d S') → Q v H') : t σ H Q := by
  refine h l σ H Q ρ S env re rs ?_
  cases e : m env S with
  | ok d S' => rw [e] at p; exact fun ρ' H' v a b c => k d S' ρ' H' v a b c (re.mono a) (PostA.ex p a)
  | err x S' => rw [e] at p; exact p
  | stuck => rw [e] at p; exact p
end
end Lg

namespace Lg
open PySem L2

/-! ### the plain functions -/
def mVar (i : Nat) : EM := fun env S => match env[i]? with
  | some (some d) => .ok d S
  | _ => .stuck
def mC (d : D) : EM := fun _ S => .ok d S
def mOp (f : D → D → Store → Res D) (a b : EM) : EM := fun env S => (a env S).bind fun x S1 => (b env S1).bind fun y S2 => f x y S2
def mUn (f : D → Store → Res D) (a : EM) : EM := fun env S => (a env S).bind f
def mNil : AM := fun _ S => .ok [] S
def mCons (a : EM) (b : AM) : AM := fun env S => (a env S).bind fun x S1 => (b env S1).bind fun y S2 => .ok (x :: y) S2
def mTup (a : AM) : EM := fun env S => (a env S).bind fun ds S1 => if ds.length ≤ sizeLine then .ok (.tup ds) S1 else .stuck
/-- a list that nobody changes | one that stands in the store -/
def mLst (a : AM) : EM := fun env S => (a env S).bind fun ds S1 => if ds.length ≤ sizeLine then .ok (.lst ds) S1 else .stuck
def mLstL (a : AM) : EM := fun env S => (a env S).bind fun ds S1 => if ds.length ≤ sizeLine then .ok (.loc S1.length) (S1 ++ [.lst ds]) else .stuck
def mCall (f : List D → Store → Res D) (a : AM) : EM := fun env S => (a env S).bind f
def mIf (c : BM) (a b : EM) : EM := fun env S => (c env S).bind fun k S1 => if k = true then a env S1 else b env S1
def bVal (a : EM) : BM := fun env S => (a env S).bind fun x S1 => match x with
  | .bl k => .ok k S1
  | _ => .stuck
def bAnd (a b : BM) : BM := fun env S => (a env S).bind fun k S1 => if k = true then b env S1 else .ok false S1
def bOr (a b : BM) : BM := fun env S => (a env S).bind fun k S1 => if k = true then .ok true S1 else b env S1
def bNot (a : BM) : BM := fun env S => (a env S).bind fun k S1 => .ok (!k) S1
def mAndV (a b : EM) : EM := fun env S => (a env S).bind fun x S1 => match x with
  | .bl k => if k = true then b env S1 else .ok (.bl false) S1
  | _ => .stuck
def mOrV (a b : EM) : EM := fun env S => (a env S).bind fun x S1 => match x with
  | .bl k => if k = true then .ok (.bl true) S1 else b env S1
  | _ => .stuck
def mNotV (a : EM) : EM := fun env S => (a env S).bind fun x S1 => match x with
  | .bl k => .ok (.bl (!k)) S1
  | _ => .stuck
/-- statements -/
def sNext : SM := fun env S => .next env S
def FRes.seq (r : FRes) (f : En → Store → FRes) : FRes := match r with
  | .next env S => f env S
  | r => r
def sSeq (a b : SM) : SM := fun env S => (a env S).seq b
def sRet (a : EM) : SM := fun env S => (a env S).bindS fun d S1 => .ret d S1
def sRetN : SM := fun _ S => .ret .non S
def sDrop (a : EM) : SM := fun env S => (a env S).bindS fun _ S1 => .next env S1
def sIf (c : BM) (a b : SM) : SM := fun env S => (c env S).bindS fun k S1 => if k = true then a env S1 else b env S1
def sNever : SM := fun _ _ => .stuck
def sBrk : SM := fun env S => .brk env S
def sCont : SM := fun env S => .cont env S
/-- targets: what is assigned, the slots, the store -/
abbrev GM := D → En → Store → Res En
def gmName (i : Nat) : GM := fun d env S => .ok (env.set i (some d)) S
def gmNil : List D → En → Store → Res En := fun ds env S => match ds with
  | [] => .ok env S
  | _ => .stuck
def gmCons (t : GM) (u : List D → En → Store → Res En) : List D → En → Store → Res En := fun ds env S => match ds with
  | d :: r => (t d env S).bind fun env' S' => u r env' S'
  | [] => .stuck
def gmTup (n : Nat) (t : List D → En → Store → Res En) : GM := fun d env S => match d with
  | .tup ds => if ds.length = n then t ds env S else .stuck
  | _ => .stuck
def gmSub (o i : EM) (f : D → D → D → Store → Option Store) : GM := fun d env S => (o env S).bind fun x S1 => (i env S1).bind fun y S2 => match f x y d S2 with
  | some S3 => .ok env S3
  | none => .stuck
def sAsg (a : EM) (g : GM) : SM := fun env S => (a env S).bindS fun d S1 => (g d env S1).bindS fun env' S2 => .next env' S2
/-- a loop over items that stand there -/
def sFor (g : GM) (b : SM) : List D → SM
  | [], env, S => .next env S
  | d :: r, env, S => (g d env S).bindS fun env1 S1 => match b env1 S1 with
    | .next env2 S2 => sFor g b r env2 S2
    | .cont env2 S2 => sFor g b r env2 S2
    | .brk env2 S2 => .next env2 S2
    | q => q
abbrev IM := En → Store → Res (List D)
def sForI (it : IM) (g : GM) (b : SM) : SM := fun env S => (it env S).bindS fun ds S1 => sFor g b ds env S1
def sWhile (c : BM) (b : SM) : Nat → SM
  | 0, _, _ => .stuck
  | n + 1, env, S => (c env S).bindS fun k S1 => if k = true then
      match b env S1 with
      | .next env2 S2 => sWhile c b n env2 S2
      | .cont env2 S2 => sWhile c b n env2 S2
      | .brk env2 S2 => .next env2 S2
      | q => q
    else .next env S1
/-- a comprehension: no error leaves it -/
def mLcGo (g : GM) (t : BM) (e : EM) (env : En) : List D → List D → Store → Res (List D)
  | [], acc, S => .ok acc S
  | d :: r, acc, S => match g d env S with
    | .ok env1 S1 => match t env1 S1 with
      | .ok true S2 => match e env1 S2 with
        | .ok x S3 => if acc.length < sizeLine then mLcGo g t e env r (acc ++ [x]) S3 else .stuck
        | _ => .stuck
      | .ok false S2 => mLcGo g t e env r acc S2
      | _ => .stuck
    | _ => .stuck
def mLc (it : IM) (g : GM) (t : BM) (e : EM) (vs : List Nat) : EM := fun env S => (it env S).bind fun ds S1 => (mLcGo g t e (wipeE env vs) ds [] S1).bind fun xs S2 => .ok (.lst xs) S2
/-- the same, the new list an object of the store -/
def mLcL (it : IM) (g : GM) (t : BM) (e : EM) (vs : List Nat) : EM := fun env S => (it env S).bind fun ds S1 => (mLcGo g t e (wipeE env vs) ds [] S1).bind fun xs S2 => .ok (.loc S2.length) (S2 ++ [.lst xs])
def bYes : BM := fun _ S => .ok true S

/-! ### objects of the store -/
section
variable {g : G} {ρ : List Addr} {S : Store} {H : Hp}
theorem RKV.mt {κ : Type} : RKV (κ := κ) g ρ H [] [] := Paired.nil
theorem RO.mono {H' : Hp} {ρ' : List Addr} {a : Addr} {ob : Ob} (r : RO g ρ H a ob) (e : Ex ρ H ρ' H') (k : ∀ o, H a = some o → H' a = some o) : RO g ρ' H' a ob := by
  cases ob with
  | lst ds => obtain ⟨vs, q1, q2⟩ := r; exact ⟨vs, k _ q1, q2.mono e⟩
  | dK ds => obtain ⟨vs, q1, q2⟩ := r; exact ⟨vs, k _ q1, q2.mono e⟩
  | dT ds => obtain ⟨vs, q1, q2⟩ := r; exact ⟨vs, k _ q1, q2.mono e⟩
  | ins c fs => obtain ⟨dx, fv, q1, q2⟩ := r; exact ⟨dx, fv, k _ q1, q2.mono e⟩
  | exc c d => cases d with
    | none => exact k _ r
    | some n => obtain ⟨dx, q1, q2⟩ := r; exact ⟨dx, e.at q1, k _ q2⟩
  | xd fs => obtain ⟨fv, q1, q2⟩ := r; exact ⟨fv, k _ q1, q2.mono e⟩
  | ex0 c => exact k _ r
/-- a new object of the store -/
theorem RS.push (rs : RS g ρ S H) {p : Addr} {o : HO} {ob : Ob} (hp : H p = none) (ho : ∀ ρ' H', Ex ρ H ρ' H' → H' p = some o → RO g ρ' H' p ob) : Ex ρ H (ρ ++ [p]) (upd H p o) ∧ RS g (ρ ++ [p]) (S ++ [ob]) (upd H p o) := by
  have hρ : p ∉ ρ := (rs.fresh hp).1
  have e : Ex ρ H (ρ ++ [p]) (upd H p o) := ⟨⟨[p], rfl, fun a ha => by rw [List.mem_singleton.mp ha]; exact ⟨hp, hρ⟩⟩, fun a u _ q => by rw [upd_ne (ne_of_none q hp)]; exact q⟩
  refine ⟨e, by simp [rs.len], ?_, fun n a o' h1 h2 => ?_, fun a m => ?_⟩
  · rw [List.nodup_append]
    exact ⟨rs.nd, by simp, fun x hx y hy => by rw [List.mem_singleton.mp hy]; exact fun q => hρ (q ▸ hx)⟩
  · by_cases hn : n < ρ.length
    · rw [List.getElem?_append_left hn] at h1
      rw [List.getElem?_append_left (by rw [← rs.len]; exact hn)] at h2
      have r := rs.ob n a o' h1 h2
      have ne : a ≠ p := fun q => hρ (q ▸ List.mem_of_getElem? h1)
      exact r.mono e fun u q => by rw [upd_ne ne]; exact q
    · have hn' : n = ρ.length := by
        have := (List.getElem?_eq_some_iff.mp h1).1
        simp at this
        omega
      subst hn'
      simp at h1
      rw [rs.len] at h2
      simp at h2
      subst h1 h2
      exact ho _ _ e upd_same
  · obtain ⟨⟨u, h⟩, n⟩ := rs.hd a m
    have ne : a ≠ p := ne_of_none h hp
    exact ⟨⟨u, by rw [upd_ne ne]; exact h⟩, fun q => (List.mem_append.mp q).elim n fun q => ne (List.mem_singleton.mp q)⟩
/-- an object of the store is written -/
theorem RS.put (rs : RS g ρ S H) {n : Nat} {a : Addr} {o : HO} {ob : Ob} (ha : ρ[n]? = some a) (ho : ∀ H', Ex ρ H ρ H' → H' a = some o → RO g ρ H' a ob) : Ex ρ H ρ (upd H a o) ∧ RS g ρ (S.set n ob) (upd H a o) := by
  have e : Ex ρ H ρ (upd H a o) := ⟨⟨[], by simp, by simp⟩, fun b u hb q => by rw [upd_ne (fun z => hb (by rw [z]; exact List.mem_of_getElem? ha))]; exact q⟩
  refine ⟨e, by simp [rs.len], rs.nd, fun m b o' h1 h2 => ?_, fun b m => ?_⟩
  have hnS : n < S.length := by rw [← rs.len]; exact (List.getElem?_eq_some_iff.mp ha).1
  by_cases hm : m = n
  · subst hm
    rw [ha] at h1; cases h1
    rw [List.getElem?_set_self hnS] at h2; cases h2
    exact ho _ e upd_same
  · rw [List.getElem?_set_ne (Ne.symm hm)] at h2
    have r := rs.ob m b o' h1 h2
    have ne : b ≠ a := fun q => by
      subst q
      obtain ⟨h3, e1⟩ := List.getElem?_eq_some_iff.mp h1
      obtain ⟨h4, e2⟩ := List.getElem?_eq_some_iff.mp ha
      exact hm ((List.getElem_inj rs.nd).mp (e1.trans e2.symm))
    exact r.mono e fun u q => by rw [upd_ne ne]; exact q
  · obtain ⟨⟨u, h⟩, n⟩ := rs.hd b m
    exact ⟨⟨u, by rw [upd_ne fun q => n (by rw [q]; exact List.mem_of_getElem? ha)]; exact h⟩, n⟩
/-- nothing of the store changes: a new thing beside it -/
theorem RS.aside (rs : RS g ρ S H) {p : Addr} {o : HO} (hp : H p = none) : RS g ρ S (upd H p o) := by
  refine ⟨rs.len, rs.nd, fun n a ob h1 h2 => ?_, fun a m => ?_⟩
  · have r := rs.ob n a ob h1 h2
    exact r.mono (Ex.new1 hp) fun u q => by rw [upd_ne (ne_of_none q hp)]; exact q
  · obtain ⟨⟨u, h⟩, n⟩ := rs.hd a m
    exact ⟨⟨u, by rw [upd_ne (ne_of_none h hp)]; exact h⟩, n⟩
end

/-! ### the proofs -/
section
variable {g : G} {E : XK}
theorem sim_var (i : Nat) : SimE g E (tVar i) (mVar i) := by
  intro l σ H Q ρ S env re rs p
  unfold mVar at p
  cases e : env[i]? with
  | none => rw [e] at p; exact p.elim
  | some o =>
    cases o with
    | none => rw [e] at p; exact p.elim
    | some d =>
      rw [e] at p
      obtain ⟨v, h1, h2⟩ := re.get e
      exact ⟨v, h1, p ρ H v Ex.refl rs h2⟩
theorem sim_c {v : V} {d : D} (r : ∀ l ρ H, RD (g.hide l) ρ H v d) : SimE g E (tC v) (mC d) := fun l σ H Q ρ S env re rs p => p ρ H v Ex.refl rs (r l ρ H)
def OpSim (g₀ : G) (E : XK) (r : R2) (f : D → D → Store → Res D) : Prop := ∀ l x y H Q ρ S dx dy, RD (g₀.hide l) ρ H x dx → RD (g₀.hide l) ρ H y dy → RS (g₀.hide l) ρ S H → PostE (g₀.hide l) E ρ H Q (f dx dy S) → r x y H Q
def UnSim (g₀ : G) (E : XK) (r : V → Hp → VK → Prop) (f : D → Store → Res D) : Prop := ∀ l x H Q ρ S dx, RD (g₀.hide l) ρ H x dx → RS (g₀.hide l) ρ S H → PostE (g₀.hide l) E ρ H Q (f dx S) → r x H Q
def CallSim (g₀ : G) (E : XK) (r : List V → Hp → VK → Prop) (f : List D → Store → Res D) : Prop := ∀ l xs H Q ρ S ds, RDs (g₀.hide l) ρ H xs ds → RS (g₀.hide l) ρ S H → PostE (g₀.hide l) E ρ H Q (f ds S) → r xs H Q
theorem sim_op {r : R2} {f : D → D → Store → Res D} {ta tb : TE} {a b : EM} (h : OpSim g E r f) (ha : SimE g E ta a) (hb : SimE g E tb b) : SimE g E (tOp r ta tb) (mOp f a b) := by
  intro l σ H Q ρ S env re rs p
  exact ha.bind re rs p fun x S1 ρ1 H1 v e1 rs1 rx re1 p1 => hb.bind re1 rs1 p1 fun y S2 ρ2 H2 u e2 rs2 ry re2 p2 => h l v u H2 Q ρ2 S2 x y (rx.mono e2) ry rs2 p2
theorem sim_un {r : V → Hp → VK → Prop} {f : D → Store → Res D} {ta : TE} {a : EM} (h : UnSim g E r f) (ha : SimE g E ta a) : SimE g E (tUn r ta) (mUn f a) := by
  intro l σ H Q ρ S env re rs p
  exact ha.bind re rs p fun x S1 ρ1 H1 v e1 rs1 rx re1 p1 => h l v H1 Q ρ1 S1 x rx rs1 p1
theorem sim_nil : SimA g E tNil mNil := fun l σ H Q ρ S env re rs p => p ρ H [] Ex.refl rs .nil
theorem sim_cons {ta : TE} {tb : TA} {a : EM} {b : AM} (ha : SimE g E ta a) (hb : SimA g E tb b) : SimA g E (tCons ta tb) (mCons a b) := by
  intro l σ H Q ρ S env re rs p
  exact ha.bindA re rs p fun x S1 ρ1 H1 v e1 rs1 rx re1 p1 => hb.bindA re1 rs1 p1 fun y S2 ρ2 H2 u e2 rs2 ry re2 p2 => p2 ρ2 H2 (v :: u) Ex.refl rs2 (.cons (rx.mono e2) ry)
theorem sim_tup {ta : TA} {a : AM} (ha : SimA g E ta a) : SimE g E (tTup ta) (mTup a) := by
  intro l σ H Q ρ S env re rs p
  refine ha.bind re rs p fun ds S1 ρ1 H1 vs e1 rs1 rx re1 p1 => ?_
  by_cases hz : ds.length ≤ sizeLine
  · rw [if_pos hz] at p1
    refine ⟨by rw [rx.length]; exact hz, fun q hq => ?_⟩
    exact p1 ρ1 _ _ (Ex.new1 hq) (rs1.aside hq) (.tup upd_same (rs1.fresh hq) (rx.mono (Ex.new1 hq)))
  · rw [if_neg hz] at p1; exact p1.elim
theorem sim_lst {ta : TA} {a : AM} (ha : SimA g E ta a) : SimE g E (tLst ta) (mLst a) := by
  intro l σ H Q ρ S env re rs p
  refine ha.bind re rs p fun ds S1 ρ1 H1 vs e1 rs1 rx re1 p1 => ?_
  by_cases hz : ds.length ≤ sizeLine
  · rw [if_pos hz] at p1
    refine ⟨by rw [rx.length]; exact hz, fun q hq => ?_⟩
    exact p1 ρ1 _ _ (Ex.new1 hq) (rs1.aside hq) (.lst upd_same (rs1.fresh hq) (rx.mono (Ex.new1 hq)))
  · rw [if_neg hz] at p1; exact p1.elim
theorem sim_lstL {ta : TA} {a : AM} (ha : SimA g E ta a) : SimE g E (tLst ta) (mLstL a) := by
  intro l σ H Q ρ S env re rs p
  refine ha.bind re rs p fun ds S1 ρ1 H1 vs e1 rs1 rx re1 p1 => ?_
  by_cases hz : ds.length ≤ sizeLine
  · rw [if_pos hz] at p1
    refine ⟨by rw [rx.length]; exact hz, fun q hq => ?_⟩
    obtain ⟨e, rs2⟩ := rs1.push (o := .lst vs) (ob := .lst ds) hq fun ρ' H' e q => ⟨vs, q, rx.mono e⟩
    exact p1 _ _ _ e rs2 (.loc (by rw [← rs1.len]; simp))
  · rw [if_neg hz] at p1; exact p1.elim
/-- a call by its promise -/
theorem sim_cb {r : List V → Hp → VK → Prop} {f : List D → Store → Res D} {ta : TA} {a : AM} (h : CallSim g E r f) (ha : SimA g E ta a) : SimE g E (tCB r ta) (mCall f a) := by
  intro l σ H Q ρ S env re rs p
  exact ha.bind re rs p fun ds S1 ρ1 H1 vs e1 rs1 rx re1 p1 => h l vs H1 Q ρ1 S1 ds rx rs1 p1
theorem sim_if {tc : TT} {ta tb : TE} {c : BM} {a b : EM} (hc : SimT g E tc c) (ha : SimE g E ta a) (hb : SimE g E tb b) : SimE g E (tIf tc ta tb) (mIf c a b) := by
  intro l σ H Q ρ S env re rs p
  refine hc.bindE re rs p fun k S1 ρ1 H1 e1 rs1 re1 p1 => ?_
  cases k with
  | true => exact ha l σ H1 Q ρ1 S1 env re1 rs1 p1
  | false => exact hb l σ H1 Q ρ1 S1 env re1 rs1 p1
theorem simt_test {ta : TE} {a : EM} (ha : SimE g E ta a) : SimT g E (tTest ta) (bVal a) := by
  intro l σ H Q ρ S env re rs p
  refine ha.bindT re rs p fun x S1 ρ1 H1 v e1 rs1 rx re1 p1 => ?_
  cases rx with
  | bl b => exact ⟨b, rfl, p1 ρ1 H1 Ex.refl rs1⟩
  | _ => exact p1.elim
theorem simt_tB {ta : TE} {a : EM} (ha : SimE g E ta a) : SimT g E (tB ta) (bVal a) := by
  intro l σ H Q ρ S env re rs p
  refine ha.bindT re rs p fun x S1 ρ1 H1 v e1 rs1 rx re1 p1 => ?_
  cases rx with
  | bl b => exact ⟨b, rfl, p1 ρ1 H1 Ex.refl rs1⟩
  | _ => exact p1.elim
theorem simt_and {ta tb : TT} {a b : BM} (ha : SimT g E ta a) (hb : SimT g E tb b) : SimT g E (tAnd ta tb) (bAnd a b) := by
  intro l σ H Q ρ S env re rs p
  refine ha.bind re rs p fun k S1 ρ1 H1 e1 rs1 re1 p1 => ?_
  cases k with
  | true => exact hb l σ H1 Q ρ1 S1 env re1 rs1 p1
  | false => exact p1 ρ1 H1 Ex.refl rs1
theorem simt_or {ta tb : TT} {a b : BM} (ha : SimT g E ta a) (hb : SimT g E tb b) : SimT g E (tOr ta tb) (bOr a b) := by
  intro l σ H Q ρ S env re rs p
  refine ha.bind re rs p fun k S1 ρ1 H1 e1 rs1 re1 p1 => ?_
  cases k with
  | false => exact hb l σ H1 Q ρ1 S1 env re1 rs1 p1
  | true => exact p1 ρ1 H1 Ex.refl rs1
theorem simt_not {ta : TT} {a : BM} (ha : SimT g E ta a) : SimT g E (tNot ta) (bNot a) := by
  intro l σ H Q ρ S env re rs p
  refine ha.bind re rs p fun k S1 ρ1 H1 e1 rs1 re1 p1 => ?_
  exact p1 ρ1 H1 Ex.refl rs1
theorem simt_yes : SimT g E tYes bYes := fun l σ H Q ρ S env re rs p => p ρ H Ex.refl rs
theorem sim_and {ta tb : TE} {a b : EM} (ha : SimE g E ta a) (hb : SimE g E tb b) : SimE g E (tAndV ta tb) (mAndV a b) := by
  intro l σ H Q ρ S env re rs p
  refine ha.bind re rs p fun x S1 ρ1 H1 v e1 rs1 rx re1 p1 => ?_
  cases rx with
  | bl k =>
    refine ⟨k, rfl, ?_⟩
    cases k with
    | true => exact hb l σ H1 Q ρ1 S1 env re1 rs1 p1
    | false => exact p1 ρ1 H1 _ Ex.refl rs1 (.bl false)
  | _ => exact p1.elim
theorem sim_or {ta tb : TE} {a b : EM} (ha : SimE g E ta a) (hb : SimE g E tb b) : SimE g E (tOrV ta tb) (mOrV a b) := by
  intro l σ H Q ρ S env re rs p
  refine ha.bind re rs p fun x S1 ρ1 H1 v e1 rs1 rx re1 p1 => ?_
  cases rx with
  | bl k =>
    refine ⟨k, rfl, ?_⟩
    cases k with
    | false => exact hb l σ H1 Q ρ1 S1 env re1 rs1 p1
    | true => exact p1 ρ1 H1 _ Ex.refl rs1 (.bl true)
  | _ => exact p1.elim
theorem sim_not {ta : TE} {a : EM} (ha : SimE g E ta a) : SimE g E (tNotV ta) (mNotV a) := by
  intro l σ H Q ρ S env re rs p
  refine ha.bind re rs p fun x S1 ρ1 H1 v e1 rs1 rx re1 p1 => ?_
  cases rx with
  | bl k => exact ⟨k, rfl, p1 ρ1 H1 _ Ex.refl rs1 (.bl _)⟩
  | _ => exact p1.elim
/-! statements -/
theorem sims_next : SimS g E tNext sNext := fun l D' σ H ρ S env re rs p => p ρ H σ Ex.refl rs re
theorem sims_brk : SimS g E tBreak sBrk := fun l D' σ H ρ S env re rs p => p ρ H σ Ex.refl rs re
theorem sims_cont : SimS g E tCont sCont := fun l D' σ H ρ S env re rs p => p ρ H σ Ex.refl rs re
theorem sims_never {t : TS} : SimS g E t sNever := fun l D' σ H ρ S env re rs p => p.elim
theorem PN.of {ρ : List Addr} {H : Hp} {env' : En} {S' : Store} {P : L2.St → Hp → Prop} (h : ∀ ρ' H' σ', Ex ρ H ρ' H' → RS g ρ' S' H' → RE g ρ' H' σ' env' → P σ' H') : PN g ρ H P env' S' := h
theorem sims_seq {t u : TS} {a b : SM} (ha : SimS g E t a) (hb : SimS g E u b) : SimS g E (tSeq t u) (sSeq a b) := by
  intro l D' σ H ρ S env re rs p
  refine ha l { D' with nx := u D' } σ H ρ S env re rs ?_
  unfold sSeq at p
  cases e : a env S with
  | next env1 S1 =>
    rw [e] at p
    exact fun ρ1 H1 σ1 e1 rs1 re1 => hb l D' σ1 H1 ρ1 S1 env1 re1 rs1 (PostS.ex p e1)
  | ret d S1 => rw [e] at p; exact p
  | brk env1 S1 => rw [e] at p; exact p
  | cont env1 S1 => rw [e] at p; exact p
  | err x S1 => rw [e] at p; exact p
  | stuck => rw [e] at p; exact p
theorem sims_ret {ta : TE} {a : EM} (ha : SimE g E ta a) : SimS g E (tRet ta) (sRet a) := by
  intro l D' σ H ρ S env re rs p
  exact ha.bindS re rs p fun d S1 ρ1 H1 v e1 rs1 rx re1 p1 => p1 ρ1 H1 v Ex.refl rs1 rx
theorem sims_retN : SimS g E tRetN sRetN := fun l D' σ H ρ S env re rs p => p ρ H _ Ex.refl rs .non
theorem sims_drop {ta : TE} {a : EM} (ha : SimE g E ta a) : SimS g E (tDrop ta) (sDrop a) := by
  intro l D' σ H ρ S env re rs p
  exact ha.bindS re rs p fun d S1 ρ1 H1 v e1 rs1 rx re1 p1 => p1 ρ1 H1 σ Ex.refl rs1 re1
theorem sims_if {tc : TT} {t u : TS} {c : BM} {a b : SM} (hc : SimT g E tc c) (ha : SimS g E t a) (hb : SimS g E u b) : SimS g E (tIfS tc t u) (sIf c a b) := by
  intro l D' σ H ρ S env re rs p
  refine hc.bindS re rs p fun k S1 ρ1 H1 e1 rs1 re1 p1 => ?_
  cases k with
  | true => exact ha l D' σ H1 ρ1 S1 env re1 rs1 p1
  | false => exact hb l D' σ H1 ρ1 S1 env re1 rs1 p1
/-! targets -/
def PostG (g : G) (E : XK) (ρ : List Addr) (H : Hp) (Q : L2.St → Hp → Prop) : Res En → Prop
  | .ok env' S' => PN g ρ H Q env' S'
  | .err x S' => PX g E ρ H x S'
  | .stuck => False
def SimG (g : G) (E : XK) (t : TG) (m : GM) : Prop := ∀ l v σ H Q ρ S env d, RD (g.hide l) ρ H v d → RE (g.hide l) ρ H σ env → RS (g.hide l) ρ S H → PostG (g.hide l) E ρ H Q (m d env S) → t v σ H Q
def SimGs (g : G) (E : XK) (t : TGs) (m : List D → En → Store → Res En) : Prop := ∀ l vs σ H Q ρ S env ds, RDs (g.hide l) ρ H vs ds → RE (g.hide l) ρ H σ env → RS (g.hide l) ρ S H → PostG (g.hide l) E ρ H Q (m ds env S) → t vs σ H Q
theorem simg_name (i : Nat) : SimG g E (gName i) (gmName i) := fun l v σ H Q ρ S env d rv re rs p => p ρ H _ Ex.refl rs (re.set rv i)
theorem simg_nil : SimGs g E gNil gmNil := by
  intro l vs σ H Q ρ S env ds rv re rs p
  cases rv with
  | nil => exact ⟨rfl, p ρ H σ Ex.refl rs re⟩
  | cons h t => exact p.elim
theorem PostG.ex {ρ ρ1 : List Addr} {H H1 : Hp} {Q : L2.St → Hp → Prop} {r : Res En} (p : PostG g E ρ H Q r) (e : Ex ρ H ρ1 H1) : PostG g E ρ1 H1 Q r := by
  cases r with
  | ok d S' => exact PN.ex p e
  | err x S' => exact PX.ex p e
  | stuck => exact p
theorem simg_cons {t : TG} {u : TGs} {a : GM} {b : List D → En → Store → Res En} (ha : SimG g E t a) (hb : SimGs g E u b) : SimGs g E (gCons t u) (gmCons a b) := by
  intro l vs σ H Q ρ S env ds rv re rs p
  cases rv with
  | nil => exact p.elim
  | @cons v d vs' ds' h r =>
    refine ⟨v, vs', rfl, ?_⟩
    refine ha l v σ H _ ρ S env d h re rs ?_
    have p' : PostG (g.hide l) E ρ H Q ((a d env S).bind fun env' S' => b ds' env' S') := p
    cases e : a d env S with
    | ok env1 S1 => rw [e] at p'; exact fun ρ1 H1 σ1 e1 rs1 re1 => hb l vs' σ1 H1 Q ρ1 S1 env1 ds' (r.mono e1) re1 rs1 (PostG.ex p' e1)
    | err x S1 => rw [e] at p'; exact p'
    | stuck => rw [e] at p'; exact p'
theorem simg_tup {K : PySem.W.Frag} {n : Nat} {t : TGs} {a : List D → En → Store → Res En} (ha : SimGs g E t a) : SimG g E (gTup K n t) (gmTup n a) := by
  intro l v σ H Q ρ S env d rv re rs p
  cases rv with
  | @tup ad vs ds h hn r =>
    unfold gmTup at p
    by_cases hl : ds.length = n
    · simp only [if_pos hl] at p
      exact ⟨ad, vs, rfl, SqT.of h, by rw [r.length]; exact hl, ha l vs σ H Q ρ S env ds r re rs p⟩
    · simp only [if_neg hl] at p; exact p.elim
  | _ => exact p.elim
def SetSim (g₀ : G) (t : TSet) (f : D → D → D → Store → Option Store) : Prop := ∀ l o i v H Q ρ S d1 d2 d3 S', RD (g₀.hide l) ρ H o d1 → RD (g₀.hide l) ρ H i d2 → RD (g₀.hide l) ρ H v d3 → RS (g₀.hide l) ρ S H → f d1 d2 d3 S = some S' →
  (∀ ρ' H', Ex ρ H ρ' H' → RS (g₀.hide l) ρ' S' H' → Q H') → t o i v H Q
theorem simg_sub {to ti : TE} {t : TSet} {o i : EM} {f : D → D → D → Store → Option Store} (ho : SimE g E to o) (hi : SimE g E ti i) (hf : SetSim g t f) : SimG g E (gSub to ti t) (gmSub o i f) := by
  intro l v σ H Q ρ S env d rv re rs p
  unfold gmSub at p
  refine ho l σ H _ ρ S env re rs ?_
  cases e : o env S with
  | ok d1 S1 =>
    rw [e] at p
    refine fun ρ1 H1 v1 e1 rs1 r1 => ?_
    have p1 := PostG.ex p e1
    simp only [Res.bind] at p1
    refine hi l σ H1 _ ρ1 S1 env (re.mono e1) rs1 ?_
    cases e' : i env S1 with
    | ok d2 S2 =>
      rw [e'] at p1
      refine fun ρ2 H2 v2 e2 rs2 r2 => ?_
      have p2 := PostG.ex p1 e2
      simp only [Res.bind] at p2
      cases e3 : f d1 d2 d S2 with
      | some S3 =>
        rw [e3] at p2
        exact hf l v1 v2 v H2 _ ρ2 S2 d1 d2 d S3 (r1.mono e2) r2 (rv.mono (e1.trans e2)) rs2 e3 fun ρ3 H3 e4 rs3 => p2 ρ3 H3 σ e4 rs3 (re.mono ((e1.trans e2).trans e4))
      | none => rw [e3] at p2; exact p2.elim
    | err x S2 => rw [e'] at p1; exact p1
    | stuck => rw [e'] at p1; exact p1
  | err x S1 => rw [e] at p; exact p
  | stuck => rw [e] at p; exact p
theorem sims_asg {te : TE} {t : TG} {a : EM} {m : GM} (ha : SimE g E te a) (hg : SimG g E t m) : SimS g E (tAsg te t) (sAsg a m) := by
  intro l D' σ H ρ S env re rs p
  refine ha.bindS re rs p fun d S1 ρ1 H1 v e1 rs1 rx re1 p1 => ?_
  refine hg l v σ H1 _ ρ1 S1 env d rx re1 rs1 ?_
  cases e : m d env S1 with
  | ok env' S2 => rw [e] at p1; exact p1
  | err x S2 => rw [e] at p1; exact p1
  | stuck => rw [e] at p1; exact p1
end
end Lg

namespace Lg
open PySem L2

/-- an iterator that gives these things, whatever is done beside it -/
def WalkD (g : G) (ρ : List Addr) (H : Hp) (J : It) (ds : List D) : Prop := ∃ (G' : Hp → Prop) (Y : Nat → Hp → V → Hp → Prop), Walk J ds.length G' Y ∧ (∀ ρ' H', Ex ρ H ρ' H' → G' H') ∧
  ∀ i ρ' H' x H'' S, i < ds.length → Ex ρ H ρ' H' → RS g ρ' S H' → Y i H' x H'' → ∃ d, ds[i]? = some d ∧ Ex ρ' H' ρ' H'' ∧ RS g ρ' S H'' ∧ RD g ρ' H'' x d ∧ ∀ p o, H' p = some o → H'' p = some o
def SimI (g : G) (E : XK) (wi : TI) (m : IM) : Prop := ∀ l σ H R ρ S env, RE (g.hide l) ρ H σ env → RS (g.hide l) ρ S H →
  (match m env S with
   | .ok ds S' => ∀ ρ' H' J, Ex ρ H ρ' H' → RS (g.hide l) ρ' S' H' → (∀ l', (∀ a, a ∈ l' → a ∈ l ∨ H' a = none) → WalkD (g.hide l') ρ' H' J ds) → R J H'
   | .err x S' => PX (g.hide l) E ρ H x S'
   | .stuck => False) → wi σ H R

theorem drop_at {α : Type} {ds : List α} {i : Nat} {d : α} (h : ds[i]? = some d) : ds.drop i = d :: ds.drop (i + 1) := by
  obtain ⟨hi, e⟩ := List.getElem?_eq_some_iff.mp h
  rw [List.drop_eq_getElem_cons hi, e]

section
variable {g : G} {E : XK}
theorem sims_for {wi : TI} {gt : TG} {tb : TS} {it : IM} {gm : GM} {bm : SM} (hi : SimI g E wi it) (hg : SimG g E gt gm) (hb : SimS g E tb bm) : SimS g E (tFor wi gt tb) (sForI it gm bm) := by
  intro l D' σ H ρ S env re rs p
  refine hi l σ H _ ρ S env re rs ?_
  unfold sForI at p
  cases e : it env S with
  | err x S' => rw [e] at p; exact p
  | stuck => rw [e] at p; exact p
  | ok ds S1 =>
    rw [e] at p
    simp only [Res.bindS] at p
    intro ρ1 H1 J e1 rs1 wd0
    obtain ⟨G', Y, w, wg, wy⟩ := wd0 l fun a h => .inl h
    refine for_it w (fun i σ' H' => ∃ ρ' S' env', Ex ρ1 H1 ρ' H' ∧ RS (g.hide l) ρ' S' H' ∧ RE (g.hide l) ρ' H' σ' env' ∧ PostS (g.hide l) E ρ' H' D' (sFor gm bm (ds.drop i) env' S')) ?_ ?_ ?_ ?_
    · exact ⟨ρ1, S1, env, Ex.refl, rs1, re.mono e1, by simpa using PostS.ex p e1⟩
    · rintro i σ' H' _ ⟨ρ', S', env', e2, _⟩
      exact wg ρ' H' e2
    · rintro i x σ' H' H'' hi' ⟨ρ', S', env', e2, rs2, re2, p2⟩ y
      obtain ⟨d, hd, e3, rs3, rx, _⟩ := wy i ρ' H' x H'' S' hi' e2 rs2 y
      rw [drop_at hd] at p2
      refine hg l x σ' H'' _ ρ' S' env' d rx (re2.mono e3) rs3 ?_
      have p3 := PostS.ex p2 e3
      have p3' : PostS (g.hide l) E ρ' H'' D' ((gm d env' S').bindS fun env1 S1 => match bm env1 S1 with
        | .next env2 S2 => sFor gm bm (ds.drop (i + 1)) env2 S2
        | .cont env2 S2 => sFor gm bm (ds.drop (i + 1)) env2 S2
        | .brk env2 S2 => .next env2 S2
        | q => q) := p3
      cases eg : gm d env' S' with
      | err x S' => rw [eg] at p3'; exact p3'
      | stuck => rw [eg] at p3'; exact p3'
      | ok env1 S2 =>
        rw [eg] at p3'
        simp only [Res.bindS] at p3'
        intro ρ4 H4 σ4 e4 rs4 re4
        refine hb l _ σ4 H4 ρ4 S2 env1 re4 rs4 ?_
        have p4 := PostS.ex p3' e4
        have e14 := (e2.trans e3).trans e4
        cases eb : bm env1 S2 with
        | next env2 S3 => rw [eb] at p4; exact fun ρ5 H5 σ5 e5 rs5 re5 => ⟨ρ5, S3, env2, e14.trans e5, rs5, re5, PostS.ex p4 e5⟩
        | cont env2 S3 => rw [eb] at p4; exact fun ρ5 H5 σ5 e5 rs5 re5 => ⟨ρ5, S3, env2, e14.trans e5, rs5, re5, PostS.ex p4 e5⟩
        | brk env2 S3 => rw [eb] at p4; exact p4
        | ret d S3 => rw [eb] at p4; exact p4
        | err x S3 => rw [eb] at p4; exact p4
        | stuck => rw [eb] at p4; exact p4
    · rintro σ' H' ⟨ρ', S', env', e2, rs2, re2, p2⟩
      rw [List.drop_length] at p2
      exact p2 ρ' H' σ' Ex.refl rs2 re2
theorem sims_while {tc : TT} {tb : TS} {cm : BM} {bm : SM} (n : Nat) (hc : SimT g E tc cm) (hb : SimS g E tb bm) : SimS g E (tWhile tc tb) (sWhile cm bm n) := by
  intro l D' σ H ρ S env re rs p
  refine ⟨fun m σ' H' => ∃ ρ' S' env', RS (g.hide l) ρ' S' H' ∧ RE (g.hide l) ρ' H' σ' env' ∧ PostS (g.hide l) E ρ' H' D' (sWhile cm bm m env' S'), ⟨n, ρ, S, env, rs, re, p⟩, ?_⟩
  rintro m σ1 H1 ⟨ρ1, S1, env1, rs1, re1, p1⟩
  cases m with
  | zero => exact p1.elim
  | succ m =>
    have p1' : PostS (g.hide l) E ρ1 H1 D' ((cm env1 S1).bindS fun k S1 => if k = true then
      match bm env1 S1 with
      | .next env2 S2 => sWhile cm bm m env2 S2
      | .cont env2 S2 => sWhile cm bm m env2 S2
      | .brk env2 S2 => .next env2 S2
      | q => q
    else .next env1 S1) := p1
    refine hc.bindS re1 rs1 p1' fun k S2 ρ2 H2 e2 rs2 re2 p2 => ?_
    cases k with
    | false => exact p2 ρ2 H2 σ1 Ex.refl rs2 re2
    | true =>
      simp only [if_true] at p2 ⊢
      refine ⟨fun σ' H' => ∃ ρ' S' env', RS (g.hide l) ρ' S' H' ∧ RE (g.hide l) ρ' H' σ' env' ∧ PostS (g.hide l) E ρ' H' D' (sWhile cm bm m env' S'), fun σ' H' q => ⟨m, Nat.lt_succ_self m, q⟩, ?_⟩
      refine hb l _ σ1 H2 ρ2 S2 env1 re2 rs2 ?_
      cases eb : bm env1 S2 with
      | next env2 S3 => rw [eb] at p2; exact fun ρ5 H5 σ5 e5 rs5 re5 => ⟨ρ5, S3, env2, rs5, re5, PostS.ex p2 e5⟩
      | cont env2 S3 => rw [eb] at p2; exact fun ρ5 H5 σ5 e5 rs5 re5 => ⟨ρ5, S3, env2, rs5, re5, PostS.ex p2 e5⟩
      | brk env2 S3 => rw [eb] at p2; exact p2
      | ret d S3 => rw [eb] at p2; exact p2
      | err x S3 => rw [eb] at p2; exact p2
      | stuck => rw [eb] at p2; exact p2
/-- no error leaves -/
theorem px0 {ρ : List Addr} {H : Hp} {x : Exc} {S' : Store} {l : List Addr} (h : False) : PX (g.hide l) E0 ρ H x S' := h.elim

/-- the comprehension's turns: Dl is the new list, hidden meanwhile -/
theorem lc_turns {wi : TI} {gt : TG} {tt : TT} {te : TE} {it : IM} {gm : GM} {tm : BM} {em : EM} {vs : List Nat} (hi : SimI g E wi it) (hg : SimG g E0 gt gm) (ht : SimT g E0 tt tm) (he : SimE g E0 te em)
    (hws : ∀ v σ H Q, gt v σ H Q → gt v σ H fun σ2 H2 => L2.wipe σ2 vs = L2.wipe σ vs ∧ Q σ2 H2)
    {l : List Addr} {σ : L2.St} {H : Hp} {Q : VK} {ρ : List Addr} {S : Store} {env : En} {f : List D → Store → Res D} (hwi : L2.wipe (L2.wipe σ vs) vs = L2.wipe σ vs) (re : RE (g.hide l) ρ H σ env) (rs : RS (g.hide l) ρ S H)
    (p : PostE (g.hide l) E ρ H Q ((it env S).bind fun ds S1 => (mLcGo gm tm em (wipeE env vs) ds [] S1).bind f))
    (k : ∀ Dl xs ws S2 ρ2 H2, Ex ρ H ρ2 H2 → RS (g.hide (Dl :: l)) ρ2 S2 H2 → Dl ∉ l → H2 Dl = some (.lst ws) → RDs (g.hide (Dl :: l)) ρ2 H2 ws xs → PostE (g.hide l) E ρ H Q (f xs S2) → H Dl = none → Dl ∉ ρ → Q (.ref Dl) H2) :
    tLc wi gt tt te vs σ H Q := by
  refine hi l σ H _ ρ S env re rs ?_
  cases e : it env S with
  | err x S' => rw [e] at p; exact p
  | stuck => rw [e] at p; exact p
  | ok ds S1 =>
    rw [e] at p
    have p : PostE (g.hide l) E ρ H Q ((mLcGo gm tm em (wipeE env vs) ds [] S1).bind f) := p
    intro ρ1 H1 J e1 rs1 wd0 Dl hD
    have nDl : Dl ∉ l := (rs1.fresh hD).2
    have nDρ1 : Dl ∉ ρ1 := (rs1.fresh hD).1
    have nDρ : Dl ∉ ρ := fun m => by
      obtain ⟨n, hn, en⟩ := List.getElem_of_mem m
      exact nDρ1 (List.mem_of_getElem? (e1.at (show ρ[n]? = some Dl by rw [List.getElem?_eq_getElem hn, en])))
    have hDn : H Dl = none := by
      cases q : H Dl with
      | none => rfl
      | some o => rw [e1.keep Dl o nDρ q] at hD; cases hD
    obtain ⟨G', Y, w, wg, wy⟩ := wd0 (Dl :: l) fun a m => (List.mem_cons.mp m).elim (fun z => .inr (z ▸ hD)) .inl
    refine lc_it w (fun i H' => ∃ ρ' S' acc ws, Ex ρ1 H1 ρ' H' ∧ RS (g.hide (Dl :: l)) ρ' S' H' ∧ H' Dl = some (.lst ws) ∧ RDs (g.hide (Dl :: l)) ρ' H' ws acc ∧
      PostE (g.hide l) E ρ H Q ((mLcGo gm tm em (wipeE env vs) (ds.drop i) acc S').bind f)) ?_ ?_ ?_ ?_
    · exact ⟨ρ1, S1, [], [], Ex.new1 hD, rs1.hide hD, upd_same, .nil, p⟩
    · rintro i H' _ ⟨ρ', S', acc, ws, e2, _⟩
      exact wg ρ' H' e2
    · rintro i x H' H'' hi' ⟨ρ', S', acc, ws, e2, rs2, hDw, racc, p2⟩ y
      obtain ⟨d, hd, e3, rs3, rx, kp⟩ := wy i ρ' H' x H'' S' hi' e2 rs2 y
      rw [drop_at hd] at p2
      have e23 := e2.trans e3
      have re3 : RE (g.hide (Dl :: l)) ρ' H'' (L2.wipe σ vs) (wipeE env vs) := RE.tr (g := g.hide l) (g' := g.hide (Dl :: l)) rfl (fun _ _ h => e23.at h) (ahead_k hD e23) ((re.mono e1).wipe vs)
      have nD' : Dl ∉ ρ' := (rs3.hd Dl List.mem_cons_self).2
      have hDw3 := kp _ _ hDw
      have racc3 := racc.mono e3
      refine hws x _ H'' _ ?_ |> fun z => by rw [hwi] at z; exact z
      refine hg (Dl :: l) x (L2.wipe σ vs) H'' _ ρ' S' (wipeE env vs) d rx re3 rs3 ?_
      have p3 : PostE (g.hide l) E ρ H Q ((match gm d (wipeE env vs) S' with
        | .ok env1 S1 => match tm env1 S1 with
          | .ok true S2 => match em env1 S2 with
            | .ok x S3 => if acc.length < sizeLine then mLcGo gm tm em (wipeE env vs) (ds.drop (i + 1)) (acc ++ [x]) S3 else .stuck
            | _ => .stuck
          | .ok false S2 => mLcGo gm tm em (wipeE env vs) (ds.drop (i + 1)) acc S2
          | _ => .stuck
        | _ => .stuck : Res (List D)).bind f) := p2
      cases eg : gm d (wipeE env vs) S' with
      | err x S' => rw [eg] at p3; exact p3.elim
      | stuck => rw [eg] at p3; exact p3.elim
      | ok env1 S2 =>
        rw [eg] at p3
        dsimp only at p3
        intro ρ4 H4 σ4 e4 rs4 re4
        refine ht (Dl :: l) σ4 H4 _ ρ4 S2 env1 re4 rs4 ?_
        cases et : tm env1 S2 with
        | err x S' => rw [et] at p3; exact p3.elim
        | stuck => rw [et] at p3; exact p3.elim
        | ok b S3 =>
          rw [et] at p3
          intro ρ5 H5 e5 rs5
          have hDw5 := e5.keep _ _ (rs4.hd Dl List.mem_cons_self).2 (e4.keep _ _ nD' hDw3)
          cases b with
          | false =>
            exact ⟨ρ5, S3, acc, ws, (e23.trans e4).trans e5, rs5, hDw5, (racc3.mono e4).mono e5, p3⟩
          | true =>
            dsimp only at p3
            refine he (Dl :: l) σ4 H5 _ ρ5 S3 env1 (re4.mono e5) rs5 ?_
            cases ee : em env1 S3 with
            | err x S' => rw [ee] at p3; exact p3.elim
            | stuck => rw [ee] at p3; exact p3.elim
            | ok z S4 =>
              rw [ee] at p3
              dsimp only at p3
              intro ρ6 H6 v6 e6 rs6 rz
              have hDw6 := e6.keep _ _ (rs5.hd Dl List.mem_cons_self).2 hDw5
              have racc6 := ((racc3.mono e4).mono e5).mono e6
              by_cases hz : acc.length < sizeLine
              · rw [if_pos hz] at p3
                have e16 := ((e23.trans e4).trans e5).trans e6
                refine ⟨ws, hDw6, by rw [racc6.length]; exact hz, ρ6, S4, acc ++ [z], ws ++ [v6], Ex.mut e16 hD, rs6.hidden, upd_same, ?_, p3⟩
                exact (RDs.tr (g := g.hide (Dl :: l)) (g' := g.hide (Dl :: l)) rfl (fun _ _ h => h) hidden_k (racc6.snoc rz))
              · rw [if_neg hz] at p3; exact p3.elim
    · rintro H' ⟨ρ', S', acc, ws, e2, rs2, hDw, racc, p2⟩
      rw [List.drop_length] at p2
      exact k Dl acc ws S' ρ' H' (e1.trans e2) rs2 nDl hDw racc p2 hDn nDρ
end
end Lg

namespace Lg
open PySem L2

/-! ### comprehensions -/
theorem wipe_set (σ : L2.St) (i : Nat) (x : Option V) : ∀ vs : List Nat, L2.wipe (σ.set i x) vs = if i ∈ vs then L2.wipe σ vs else (L2.wipe σ vs).set i x
  | [] => by simp [L2.wipe]
  | v :: vs => by
    show (L2.wipe (σ.set i x) vs).set v none = if i ∈ v :: vs then (L2.wipe σ vs).set v none else ((L2.wipe σ vs).set v none).set i x
    rw [wipe_set σ i x vs]
    by_cases h : i ∈ vs
    · rw [if_pos h, if_pos (List.mem_cons_of_mem _ h)]
    · rw [if_neg h]
      by_cases e : i = v
      · subst e
        rw [if_pos List.mem_cons_self, List.set_set]
      · rw [if_neg (by simp [e, h]), List.set_comm _ _ e]
theorem wipe_wipe (σ : L2.St) : ∀ vs : List Nat, L2.wipe (L2.wipe σ vs) vs = L2.wipe σ vs
  | [] => rfl
  | v :: vs => by
    show (L2.wipe ((L2.wipe σ vs).set v none) vs).set v none = (L2.wipe σ vs).set v none
    rw [wipe_set, wipe_wipe σ vs]
    by_cases h : v ∈ vs
    · rw [if_pos h]
    · rw [if_neg h, List.set_set]
/-- a target whose names are the comprehension's own -/
def Own (vs : List Nat) (t : TG) : Prop := ∀ v σ H Q, t v σ H Q → t v σ H fun σ2 H2 => L2.wipe σ2 vs = L2.wipe σ vs ∧ Q σ2 H2
def Owns (vs : List Nat) (t : TGs) : Prop := ∀ v σ H Q, t v σ H Q → t v σ H fun σ2 H2 => L2.wipe σ2 vs = L2.wipe σ vs ∧ Q σ2 H2
theorem own_name {vs : List Nat} {i : Nat} (h : i ∈ vs) : Own vs (gName i) := fun v σ H Q q => ⟨by rw [wipe_set, if_pos h], q⟩
theorem owns_nil {vs : List Nat} : Owns vs gNil := fun v σ H Q q => ⟨q.1, rfl, q.2⟩
theorem owns_cons {vs : List Nat} {t : TG} {u : TGs} (ht : Own vs t) (mt : ∀ v σ H Q Q', (∀ σ' H', Q σ' H' → Q' σ' H') → t v σ H Q → t v σ H Q') (hu : Owns vs u) (mu : ∀ v σ H Q Q', (∀ σ' H', Q σ' H' → Q' σ' H') → u v σ H Q → u v σ H Q') : Owns vs (gCons t u) := by
  intro v σ H Q q
  obtain ⟨x, r, e, h⟩ := q
  refine ⟨x, r, e, mt _ _ _ _ _ (fun σ' H' z => ?_) (ht _ _ _ _ h)⟩
  obtain ⟨z1, z2⟩ := z
  exact mu _ _ _ _ _ (fun σ2 H2 y => ⟨y.1.trans z1, y.2⟩) (hu _ _ _ _ z2)
theorem own_tup {vs : List Nat} {K : PySem.W.Frag} {n : Nat} {t : TGs} (h : Owns vs t) : Own vs (gTup K n t) := by
  intro v σ H Q q
  obtain ⟨a, xs, e, h1, h2, h3⟩ := q
  exact ⟨a, xs, e, h1, h2, h _ _ _ _ h3⟩
theorem mono_name {i : Nat} : ∀ v σ H (Q Q' : L2.St → Hp → Prop), (∀ σ' H', Q σ' H' → Q' σ' H') → gName i v σ H Q → gName i v σ H Q' := fun _ _ _ _ _ f q => f _ _ q
theorem monos_nil : ∀ v σ H (Q Q' : L2.St → Hp → Prop), (∀ σ' H', Q σ' H' → Q' σ' H') → gNil v σ H Q → gNil v σ H Q' := fun _ _ _ _ _ f q => ⟨q.1, f _ _ q.2⟩
theorem monos_cons {t : TG} {u : TGs} (mt : ∀ v σ H Q Q', (∀ σ' H', Q σ' H' → Q' σ' H') → t v σ H Q → t v σ H Q') (mu : ∀ v σ H Q Q', (∀ σ' H', Q σ' H' → Q' σ' H') → u v σ H Q → u v σ H Q') :
    ∀ v σ H (Q Q' : L2.St → Hp → Prop), (∀ σ' H', Q σ' H' → Q' σ' H') → gCons t u v σ H Q → gCons t u v σ H Q' := by
  intro v σ H Q Q' f q
  obtain ⟨x, r, e, h⟩ := q
  exact ⟨x, r, e, mt _ _ _ _ _ (fun σ' H' z => mu _ _ _ _ _ f z) h⟩
theorem mono_tup {K : PySem.W.Frag} {n : Nat} {t : TGs} (mt : ∀ v σ H Q Q', (∀ σ' H', Q σ' H' → Q' σ' H') → t v σ H Q → t v σ H Q') :
    ∀ v σ H (Q Q' : L2.St → Hp → Prop), (∀ σ' H', Q σ' H' → Q' σ' H') → gTup K n t v σ H Q → gTup K n t v σ H Q' := by
  intro v σ H Q Q' f q
  obtain ⟨a, xs, e, h1, h2, h3⟩ := q
  exact ⟨a, xs, e, h1, h2, mt _ _ _ _ _ f h3⟩
section
variable {g : G} {E : XK}
/-- the new list is nobody's to change -/
theorem sim_lc {wi : TI} {gt : TG} {tt : TT} {te : TE} {it : IM} {gm : GM} {tm : BM} {em : EM} {vs : List Nat} (hi : SimI g E wi it) (hg : SimG g E0 gt gm) (ho : Own vs gt) (ht : SimT g E0 tt tm) (he : SimE g E0 te em) :
    SimE g E (tLc wi gt tt te vs) (mLc it gm tm em vs) := by
  intro l σ H Q ρ S env re rs p
  refine lc_turns hi hg ht he ho (wipe_wipe σ vs) re rs (f := fun xs S2 => .ok (.lst xs) S2) p fun Dl xs ws S2 ρ2 H2 e rs2 hl hD rx p2 hn nρ => ?_
  have nD : Dl ∉ ρ2 := (rs2.hd Dl List.mem_cons_self).2
  refine p2 ρ2 H2 _ e (rs2.unhide hl fun _ _ => rfl) (.lst hD ⟨nD, hl⟩ ?_)
  exact RDs.tr (g := g.hide (Dl :: l)) (g' := g.hide l) rfl (fun _ _ h => h) (show_k fun _ _ => rfl) rx
theorem sim_lcL {wi : TI} {gt : TG} {tt : TT} {te : TE} {it : IM} {gm : GM} {tm : BM} {em : EM} {vs : List Nat} (hi : SimI g E wi it) (hg : SimG g E0 gt gm) (ho : Own vs gt) (ht : SimT g E0 tt tm) (he : SimE g E0 te em) :
    SimE g E (tLc wi gt tt te vs) (mLcL it gm tm em vs) := by
  intro l σ H Q ρ S env re rs p
  refine lc_turns hi hg ht he ho (wipe_wipe σ vs) re rs (f := fun xs S2 => .ok (.loc S2.length) (S2 ++ [Ob.lst xs])) p fun Dl xs ws S2 ρ2 H2 e rs2 hl hD rx p2 hn nρ => ?_
  have nD : Dl ∉ ρ2 := (rs2.hd Dl List.mem_cons_self).2
  let H3 : Hp := fun a => if a = Dl then none else H2 a
  have k3 : ∀ a, a ≠ Dl → H3 a = H2 a := fun a h => if_neg h
  have rs3 : RS (g.hide l) ρ2 S2 H3 := rs2.unhide hl k3
  have hD3 : H3 Dl = none := if_pos rfl
  have e3 : Ex ρ H ρ2 H3 := ⟨e.new, fun a o n h => by rw [k3 a (ne_of_none h hn)]; exact e.keep a o n h⟩
  have u3 : upd H3 Dl (.lst ws) = H2 := by
    funext a
    by_cases h : a = Dl
    · rw [h, upd_same, hD]
    · rw [upd_ne h, k3 a h]
  have rx3 : RDs (g.hide l) ρ2 H3 ws xs := RDs.tr (g := g.hide (Dl :: l)) (g' := g.hide l) rfl (fun _ _ h => h) (show_k k3) rx
  obtain ⟨e4, rs4⟩ := rs3.push (o := .lst ws) (ob := .lst xs) hD3 fun ρ' H' e' q => ⟨ws, q, rx3.mono e'⟩
  rw [u3] at e4 rs4
  exact p2 _ H2 _ (e3.trans e4) rs4 (.loc (by rw [← rs2.len]; simp))
end

/-! ### defs -/
def startE (n : Nat) (ds : List D) : En := ds.map some ++ List.replicate (n - ds.length) none
def mDef (n np : Nat) (m : SM) (ds : List D) (S : Store) : Res D := if ds.length = np then
    match m (startE n ds) S with
    | .ret d S' => .ok d S'
    | .next _ S' => .ok .non S'
    | .err x S' => .err x S'
    | _ => .stuck
  else .stuck
/-- the promise of a def that goes as f -/
def spOf (g : G) (n : Nat) (f : List D → Store → Res D) : Sp := fun vs H Q E => ∃ l ρ S ds, vs.length = n ∧ RDs (g.hide l) ρ H vs ds ∧ RS (g.hide l) ρ S H ∧ PostE (g.hide l) E ρ H Q (f ds S)
section
variable {g : G} {ρ : List Addr} {H : Hp}
theorem re_none (k : Nat) : RE g ρ H (List.replicate k none) (List.replicate k none) := by
  induction k with
  | zero => exact .nil
  | succ k ih => exact .cons (fun x q => by cases q) ih
theorem re_app : ∀ {σ σ' : L2.St} {e e' : En}, RE g ρ H σ e → RE g ρ H σ' e' → RE g ρ H (σ ++ σ') (e ++ e')
  | _, _, _, _, .nil, s => s
  | _, _, _, _, .cons h t, s => .cons h (re_app t s)
theorem re_some : ∀ {vs : List V} {ds : List D}, RDs g ρ H vs ds → RE g ρ H (vs.map some) (ds.map some)
  | _, _, .nil => .nil
  | _, _, .cons h t => .cons (fun x q => by cases q; exact ⟨_, rfl, h⟩) (re_some t)
theorem re_start {N : List PySem.Str} {vs : List V} {ds : List D} (r : RDs g ρ H vs ds) : RE g ρ H (L2.start N vs) (startE N.length ds) := by
  unfold L2.start startE
  rw [r.length]
  exact re_app (re_some r) (re_none _)
end
section
variable {P : Program} {w : World} {K : PySem.W.Frag} {mg : PySem.Str → Option Value} {base : Heap} {g : G}
/-- THE RULE for a def -/
theorem fn_sim {x qual : PySem.Str} {st : Stmt} {f : Addr} {fd : FuncData} {N ps : List PySem.Str} {k : Nat} {m : SM} (F : Fun K x qual st f fd) (Sc : FnScope N ps (defScope st))
    (hb : ∀ (cdv : Value) (A : Around) (outer : List Env) (s : Shared) (H : Hp) (E : XK), Room k (A.deeper (PyProof.Rows.envOfC qual (defScope st) s.heap.objs.size f cdv)) →
      ∃ t, PSs (cxOf (L2.CX P w) P w K mg base N qual (defScope st) f cdv A outer s H E) (defBody st) t ∧ SimS g E t m) :
    FnOk P w K mg base (L2.CX P w) (k + 1) f fd ps (spOf g ps.length (mDef N.length ps.length m)) := by
  refine F.okX Sc (fun vs H Q E h => ?_) (fun cdv A outer s H vs Q E hr h => ?_)
  · obtain ⟨l, ρ, S, ds, hl, _⟩ := h
    exact hl
  · obtain ⟨l, ρ, S, ds, hl, rd, rs, p⟩ := h
    obtain ⟨t, ht, hs⟩ := hb cdv A outer s H E hr
    refine ⟨t, ht, hs l _ _ H ρ S (startE N.length ds) (re_start rd) rs ?_⟩
    unfold mDef at p
    rw [if_pos (by rw [← rd.length]; exact hl)] at p
    cases e : m (startE N.length ds) S with
    | ret d S' => rw [e] at p; exact p
    | next env' S' => rw [e] at p; exact fun ρ' H' σ' e1 rs1 re1 => p ρ' H' .non e1 rs1 .non
    | err x S' => rw [e] at p; exact p
    | brk env' S' => rw [e] at p; exact p.elim
    | cont env' S' => rw [e] at p; exact p.elim
    | stuck => rw [e] at p; exact p.elim
end
theorem mDef_len {n np : Nat} {m : SM} {ds : List D} {S : Store} (h : ds.length ≠ np) : mDef n np m ds S = .stuck := by
  unfold mDef; rw [if_neg h]
/-- what goes only with n things -/
def Ar (n : Nat) (f : List D → Store → Res D) : Prop := ∀ ds S, ds.length ≠ n → f ds S = .stuck
theorem ar_def {n np : Nat} {m : SM} : Ar np (mDef n np m) := fun _ _ h => mDef_len h
section
variable {g : G} {E : XK}
theorem sp_go {n : Nat} {f : List D → Store → Res D} (ha : Ar n f) {l : List Addr} {ρ : List Addr} {S : Store} {H : Hp} {Q : VK} {vs : List V} {ds : List D} (r : RDs (g.hide l) ρ H vs ds) (rs : RS (g.hide l) ρ S H) (p : PostE (g.hide l) E ρ H Q (f ds S)) : spOf g n f vs H Q E := by
  refine ⟨l, ρ, S, ds, ?_, r, rs, p⟩
  by_cases h : ds.length = n
  · rw [r.length]; exact h
  · rw [ha ds S h] at p; exact p.elim
theorem sim_call {n : Nat} {f : List D → Store → Res D} {ta : TA} {a : AM} (hf : Ar n f) (ha : SimA g E ta a) : SimE g E (tCall (spOf g n f) [] E ta) (mCall f a) := by
  intro l σ H Q ρ S env re rs p
  refine ha.bind re rs p fun ds S1 ρ1 H1 vs e1 rs1 rx re1 p1 => ?_
  show spOf g n f (vs ++ []) H1 Q E
  rw [List.append_nil]
  exact sp_go hf rx rs1 p1
/-- with defaults -/
def mCallD (f : List D → Store → Res D) (dd : List D) (a : AM) : EM := fun env S => (a env S).bind fun ds S1 => f (ds ++ dd) S1
theorem sim_callD {n : Nat} {f : List D → Store → Res D} {ta : TA} {a : AM} {dvs : List V} {dd : List D} (hf : Ar n f) (hd : ∀ l ρ H, RDs (g.hide l) ρ H dvs dd) (ha : SimA g E ta a) : SimE g E (tCall (spOf g n f) dvs E ta) (mCallD f dd a) := by
  intro l σ H Q ρ S env re rs p
  exact ha.bind re rs p fun ds S1 ρ1 H1 vs e1 rs1 rx re1 p1 => sp_go hf (rx.append (hd l ρ1 H1)) rs1 p1

/-! ### objects -/
def lookF (f : PySem.Str) (fs : List (PySem.Str × D)) : Option D := fs.lookup f
/-- the object of the class c at d: its fields -/
def insAt (c : Nat) (d : D) (S : Store) : Option (List (PySem.Str × D)) := match d with
  | .loc n => match S[n]? with
    | some (.ins c' fs) => if c' = c then some fs else none
    | _ => none
  | _ => none
def mFld (c : Nat) (f : PySem.Str) (a : EM) : EM := fun env S => (a env S).bind fun d S1 => match insAt c d S1 with
  | some fs => match fs.lookup f with
    | some x => .ok x S1
    | none => .stuck
  | none => .stuck
def mMeth (c : Nat) (m : PySem.Str) (f : List D → Store → Res D) (dd : List D) (a : EM) (as : AM) : EM := fun env S => (a env S).bind fun d S1 => match insAt c d S1 with
  | some fs => match fs.lookup m with
    | none => (as env S1).bind fun ds S2 => f (d :: (ds ++ dd)) S2
    | some _ => .stuck
  | none => .stuck
def mMake (c : Nat) (f : List D → Store → Res D) (dd : List D) (as : AM) : EM := fun env S => (as env S).bind fun ds S1 => (f (.loc S1.length :: (ds ++ dd)) (S1 ++ [.ins c []])).bind fun v S2 => match v with
  | .non => .ok (.loc S1.length) S2
  | _ => .stuck
def putD (f : PySem.Str) (v : D) : List (PySem.Str × D) → List (PySem.Str × D)
  | [] => [(f, v)]
  | (h, x) :: r => if h = f then (h, v) :: r else (h, x) :: putD f v r
def sFldM (c : Nat) (f : PySem.Str) (o a : EM) : SM := fun env S => (a env S).bindS fun y S1 => (o env S1).bindS fun d S2 => match d with
  | .loc n => match S2[n]? with
    | some (.ins c' fs) => if c' = c ∧ fs.length < 1000 then .next env (S2.set n (.ins c (putD f y fs))) else .stuck
    | _ => .stuck
  | _ => .stuck
theorem RKV.lookup {ρ : List Addr} {H : Hp} {f : PySem.Str} : ∀ {xs : List (PySem.Str × V)} {ys : List (PySem.Str × D)}, RKV g ρ H xs ys → (∀ d, ys.lookup f = some d → ∃ v, xs.lookup f = some v ∧ RD g ρ H v d) ∧ (ys.lookup f = none → xs.lookup f = none)
  | _, _, .nil => ⟨fun d h => (nomatch h), fun _ => rfl⟩
  | (k1, v1) :: xs, (k2, d2) :: ys, .cons h t => by
    obtain ⟨e, r⟩ := h
    have e : k1 = k2 := e
    subst e
    have ih := RKV.lookup (f := f) t
    by_cases q : f = k1
    · subst q
      refine ⟨fun d h => ?_, fun h => ?_⟩
      · simp [List.lookup_cons_self] at h ⊢
        subst h; exact r
      · simp [List.lookup_cons_self] at h
    · have q' : (f == k1) = false := by simpa using q
      simp only [List.lookup_cons, q']
      exact ih
theorem RKV.length {κ : Type} {ρ : List Addr} {H : Hp} {xs : List (κ × V)} {ys : List (κ × D)} (r : RKV g ρ H xs ys) : xs.length = ys.length := Paired.length r
theorem RKV.putF {ρ : List Addr} {H : Hp} {f : PySem.Str} {v : V} {d : D} (rv : RD g ρ H v d) : ∀ {xs : List (PySem.Str × V)} {ys : List (PySem.Str × D)}, RKV g ρ H xs ys → RKV g ρ H (L2.putF f v xs) (putD f d ys)
  | _, _, .nil => .cons ⟨rfl, rv⟩ .nil
  | (k1, v1) :: xs, (k2, d2) :: ys, .cons h t => by
    obtain ⟨e, r⟩ := h
    have e : k1 = k2 := e
    subst e
    show RKV g ρ H (if k1 = f then (k1, v) :: xs else (k1, v1) :: L2.putF f v xs) (if k1 = f then (k1, d) :: ys else (k1, d2) :: putD f d ys)
    by_cases q : k1 = f
    · rw [if_pos q, if_pos q]; exact .cons ⟨rfl, rv⟩ t
    · rw [if_neg q, if_neg q]; exact .cons ⟨rfl, r⟩ (RKV.putF rv t)
theorem ins_at {l : List Addr} {ρ : List Addr} {S : Store} {H : Hp} {c : Nat} {v : V} {d : D} {fs : List (PySem.Str × D)} (rs : RS (g.hide l) ρ S H) (r : RD (g.hide l) ρ H v d) (h : insAt c d S = some fs) : ∃ n a dx fv, d = .loc n ∧ ρ[n]? = some a ∧ v = .ref a ∧ S[n]? = some (.ins c fs) ∧ H a = some (.ins (g.cls c) dx fv) ∧ RKV (g.hide l) ρ H fv fs := by
  cases r with
  | @loc n a hn =>
    unfold insAt at h
    dsimp only at h
    cases e : S[n]? with
    | none => rw [e] at h; cases h
    | some ob =>
      rw [e] at h
      cases ob with
      | ins c' fs' =>
        dsimp only at h
        by_cases q : c' = c
        · subst q
          rw [if_pos rfl] at h; cases h
          obtain ⟨dx, fv, h1, h2⟩ := rs.ob n a _ hn e
          exact ⟨n, a, dx, fv, rfl, hn, rfl, e, h1, h2⟩
        · rw [if_neg q] at h; cases h
      | _ => cases h
  | _ => cases h
theorem sim_fld {c : Nat} {f : PySem.Str} {K : PySem.W.Frag} {ta : TE} {a : EM} (cl : Cls K (g.cls c)) (na : NoAttr K (g.cls c) f) (ha : SimE g E ta a) : SimE g E (tFld K ta f) (mFld c f a) := by
  intro l σ H Q ρ S env re rs p
  refine ha.bind re rs p fun d S1 ρ1 H1 v e1 rs1 rx re1 p1 => ?_
  cases hI : insAt c d S1 with
  | none => rw [hI] at p1; exact p1.elim
  | some fs =>
    rw [hI] at p1
    dsimp only at p1
    obtain ⟨n, ad, dx, fv, e2, hn, e3, hS, hH, rk⟩ := ins_at rs1 rx hI
    cases hF : fs.lookup f with
    | none => rw [hF] at p1; exact p1.elim
    | some x =>
      rw [hF] at p1
      obtain ⟨y, h1, h2⟩ := (rk.lookup (f := f)).1 x hF
      exact ⟨ad, _, dx, fv, y, e3, hH, cl, na, h1, p1 ρ1 H1 y Ex.refl rs1 h2⟩
theorem sim_meth {n : Nat} {c : Nat} {m : PySem.Str} {f : List D → Store → Res D} {ta : TE} {a : EM} {tas : TA} {as : AM} {dvs : List V} {dd : List D} (hf : Ar n f) (hd : ∀ l ρ H, RDs (g.hide l) ρ H dvs dd) (ha : SimE g E ta a) (has : SimA g E tas as) :
    SimE g E (tMeth (g.cls c) m (spOf g n f) dvs E ta tas) (mMeth c m f dd a as) := by
  intro l σ H Q ρ S env re rs p
  refine ha.bind re rs p fun d S1 ρ1 H1 v e1 rs1 rx re1 p1 => ?_
  cases hI : insAt c d S1 with
  | none => rw [hI] at p1; exact p1.elim
  | some fs =>
    rw [hI] at p1
    dsimp only at p1
    obtain ⟨n, ad, dx, fv, e2, hn, e3, hS, hH, rk⟩ := ins_at rs1 rx hI
    cases hF : fs.lookup m with
    | some x => rw [hF] at p1; exact p1.elim
    | none =>
      rw [hF] at p1
      dsimp only at p1
      refine ⟨ad, dx, fv, e3, hH, (rk.lookup (f := m)).2 hF, ?_⟩
      exact has.bind re1 rs1 p1 fun ds S2 ρ2 H2 vs e4 rs2 ry re2 p2 => sp_go hf (.cons (rx.mono e4) (ry.append (hd l ρ2 H2))) rs2 p2
theorem sim_make {n : Nat} {c : Nat} {f : List D → Store → Res D} {tas : TA} {as : AM} {dvs : List V} {dd : List D} (hf : Ar n f) (hd : ∀ l ρ H, RDs (g.hide l) ρ H dvs dd) (has : SimA g E tas as) : SimE g E (tMake (g.cls c) (spOf g n f) dvs E tas) (mMake c f dd as) := by
  intro l σ H Q ρ S env re rs p
  refine has.bind re rs p fun ds S1 ρ1 H1 vs e1 rs1 rx re1 p1 => ?_
  intro x dx hx hdx ne
  have e2 : Ex ρ1 H1 ρ1 (upd H1 dx (.own x)) := Ex.new1 hdx
  have rs2 := rs1.aside (o := .own x) hdx
  have hx2 : upd H1 dx (.own x) x = none := by rw [upd_ne (Ne.symm ne)]; exact hx
  obtain ⟨e3, rs3⟩ := rs2.push (o := .ins (g.cls c) dx []) (ob := .ins c []) hx2 fun ρ' H' e' q => ⟨dx, [], q, RKV.mt⟩
  have e13 := e2.trans e3
  have rself : RD (g.hide l) (ρ1 ++ [x]) (upd (upd H1 dx (.own x)) x (.ins (g.cls c) dx [])) (.ref x) (.loc S1.length) := .loc (by rw [← rs1.len]; simp)
  refine sp_go hf (.cons rself ((rx.mono e13).append (hd l _ _))) rs3 ?_
  have p2 := PostE.ex p1 e13
  cases ef : f (.loc S1.length :: (ds ++ dd)) (S1 ++ [.ins c []]) with
  | err x' S' => rw [ef] at p2; exact p2
  | stuck => rw [ef] at p2; exact p2.elim
  | ok v S2 =>
    rw [ef] at p2
    simp only [Res.bind] at p2
    intro ρ' H' u e4 rs4 ru
    cases ru with
    | non => exact ⟨rfl, p2 ρ' H' _ e4 rs4 (.loc (e4.at (by rw [← rs1.len]; simp)))⟩
    | _ => exact p2.elim
theorem sims_fld {c : Nat} {f : PySem.Str} {K : PySem.W.Frag} {to ta : TE} {o a : EM} (cl : Cls K (g.cls c)) (na : NoAttr K (g.cls c) f) (ho : SimE g E to o) (ha : SimE g E ta a) : SimS g E (sFld K to ta f) (sFldM c f o a) := by
  intro l D' σ H ρ S env re rs p
  refine ha.bindS re rs p fun y S1 ρ1 H1 v e1 rs1 ry re1 p1 => ?_
  refine ho.bindS re1 rs1 p1 fun d S2 ρ2 H2 u e2 rs2 rd re2 p2 => ?_
  cases rd with
  | @loc n ad hn =>
    dsimp only at p2
    cases e : S2[n]? with
    | none => rw [e] at p2; exact p2.elim
    | some ob =>
      rw [e] at p2
      cases ob with
      | ins c' fs =>
        dsimp only at p2
        by_cases q : c' = c ∧ fs.length < 1000
        · rw [if_pos q] at p2
          obtain ⟨rfl, hl⟩ := q
          obtain ⟨dx, fv, h1, h2⟩ := rs2.ob n ad _ hn e
          obtain ⟨e3, rs3⟩ := rs2.put (o := .ins (g.cls c') dx (putF f v fv)) (ob := .ins c' (putD f y fs)) hn fun H' e' q' => ⟨dx, _, q', (h2.mono e').putF ((ry.mono e2).mono e')⟩
          exact ⟨ad, _, dx, fv, rfl, h1, cl, na, by rw [h2.length]; exact hl, p2 ρ2 _ σ e3 rs3 (re2.mono e3)⟩
        · rw [if_neg q] at p2; exact p2.elim
      | _ => exact p2.elim
  | _ => exact p2.elim
end
end Lg
namespace Lg
open PySem L2
section
variable {P : Program} {w : World} {K : PySem.W.Frag} {mg : PySem.Str → Option Value} {base : Heap} {N : List PySem.Str} {qual : PySem.Str} {scope : Scope} {f : Addr} {cd : Value} {A : Around} {outer : List Env} {s : Shared} {H : Hp} {E : XK}
theorem pD : Passes (L2.CX P w) (cxOf (L2.CX P w) P w K mg base N qual scope f cd A outer s H E) E := passes_call (takes_of rfl rfl rfl rfl) (fun _ _ _ _ h => h)
end
end Lg

namespace Lg
open PySem L2

/-! ### data as the library's data -/
mutual
def D.py : D → Option PyData
  | .non => some .none
  | .bl b => some (.bool b)
  | .int i => some (.int i)
  | .str s => some (.str s)
  | .tup ds => (pys ds).map .tuple
  | .lst ds => (pys ds).map .list
  | _ => none
def pys : List D → Option (List PyData)
  | [] => some []
  | d :: ds => match d.py, pys ds with
    | some p, some ps => some (p :: ps)
    | _, _ => none
end
section
variable {g : G} {K : PySem.W.Frag} {ρ : List Addr} {H : Hp}
theorem dp_both {v : V} {d : D} (r : RD g ρ H v d) : ∀ p, d.py = some p → Dp K H v p := by
  refine RD.rec (motive_1 := fun v d _ => ∀ p, d.py = some p → Dp K H v p) (motive_2 := fun vs ds _ => ∀ ps, pys ds = some ps → DpAll K H vs ps) ?_ ?_ ?_ ?_ ?_ ?_ ?_ ?_ ?_ ?_ ?_ ?_ r
  · intro p h; simp [D.py] at h; subst h; exact .non
  · intro b p h; simp [D.py] at h; subst h; exact .bl b
  · intro i p h; simp [D.py] at h; subst h; exact .int i
  · intro s p h; simp [D.py] at h; subst h; exact .str s
  · intro a vs ds h n _ ih p e
    simp only [D.py, Option.map_eq_some_iff] at e
    obtain ⟨ps, e1, rfl⟩ := e
    exact .tup (SqT.of h) (ih ps e1)
  · intro a vs ds h n _ ih p e
    simp only [D.py, Option.map_eq_some_iff] at e
    obtain ⟨ps, e1, rfl⟩ := e
    exact .lst (SqL.of h) (ih ps e1)
  · intro a ns n p e; simp [D.py] at e
  · intro n a h p e; simp [D.py] at e
  · intro a o h n p e; simp [D.py] at e
  · intro a h n p e; simp [D.py] at e
  · intro ps e; simp [pys] at e; subst e; exact .nil
  · intro v d vs ds _ _ ih1 ih2 ps e
    simp only [pys] at e
    split at e
    · rename_i p ps' e1 e2
      cases e
      exact .cons (ih1 p e1) (ih2 ps' e2)
    · cases e
theorem dps_of : ∀ {vs : List V} {ds : List D} {ps : List PyData}, RDs g ρ H vs ds → pys ds = some ps → DpAll K H vs ps
  | _, _, ps, .nil, e => by simp [pys] at e; subst e; exact .nil
  | _, _, ps, .cons h t, e => by
    simp only [pys] at e
    split at e
    · rename_i p ps' e1 e2
      cases e
      exact .cons (dp_both h p e1) (dps_of t e2)
    · cases e
end
/-- the items of a list, wherever it stands -/
def asL (d : D) (S : Store) : Option (List D) := match d with
  | .lst ds => some ds
  | .loc n => match S[n]? with
    | some (.lst ds) => some ds
    | _ => none
  | _ => none
def pyOf (d : D) (S : Store) : Option PyData := match d with
  | .loc n => match S[n]? with
    | some (.lst ds) => (pys ds).map .list
    | _ => none
  | d => d.py
section
variable {g : G} {K : PySem.W.Frag} {ρ : List Addr} {H : Hp} {S : Store} {v : V} {d : D}
theorem as_l {ds : List D} (rs : RS g ρ S H) (r : RD g ρ H v d) (h : asL d S = some ds) : ∃ a vs, v = .ref a ∧ H a = some (.lst vs) ∧ RDs g ρ H vs ds := by
  cases r with
  | @lst a vs ds' h1 n r => cases h; exact ⟨a, vs, rfl, h1, r⟩
  | @loc n a hn =>
    simp only [asL] at h
    split at h
    · rename_i ds' e
      cases h
      obtain ⟨vs, h1, h2⟩ := rs.ob n a _ hn e
      exact ⟨a, vs, rfl, h1, h2⟩
    · cases h
  | _ => cases h
theorem py_of {p : PyData} (rs : RS g ρ S H) (r : RD g ρ H v d) (h : pyOf d S = some p) : Dp K H v p := by
  cases r with
  | @loc n a hn =>
    simp only [pyOf] at h
    split at h
    · rename_i ds' e
      obtain ⟨vs, h1, h2⟩ := rs.ob n a _ hn e
      simp only [Option.map_eq_some_iff] at h
      obtain ⟨ps, e1, rfl⟩ := h
      exact .lst (SqL.of h1) (dps_of h2 e1)
    · cases h
  | non => exact dp_both (g := g) (ρ := ρ) .non p h
  | bl b => exact dp_both (g := g) (ρ := ρ) (.bl b) p h
  | int i => exact dp_both (g := g) (ρ := ρ) (.int i) p h
  | str s => exact dp_both (g := g) (ρ := ρ) (.str s) p h
  | tup h1 n r => exact dp_both (.tup h1 n r) p h
  | lst h1 n r => exact dp_both (.lst h1 n r) p h
  | scr n => exact dp_both (.scr n) p h
  | empF h1 n => exact dp_both (.empF h1 n) p h
  | empU h1 n => exact dp_both (.empU h1 n) p h
end

/-! ### arithmetic, gluing -/
def dAdd (x y : D) (S : Store) : Res D := match x, y with
  | .int i, .int j => .ok (.int (i + j)) S
  | .str a, .str b => if a.length + b.length ≤ sizeLine then .ok (.str (a ++ b)) S else .stuck
  | .tup a, .tup b => if a.length + b.length ≤ sizeLine then .ok (.tup (a ++ b)) S else .stuck
  | x, y => match asL x S, asL y S with
    | some a, some b => if a.length + b.length ≤ sizeLine then .ok (.lst (a ++ b)) S else .stuck
    | _, _ => .stuck
def dInt (f : Int → Int → Option D) (x y : D) (S : Store) : Res D := match x, y with
  | .int i, .int j => match f i j with
    | some d => .ok d S
    | none => .stuck
  | _, _ => .stuck
abbrev dSub := dInt fun i j => some (.int (i - j))
instance (i j : Int) : Decidable (CMulW i j) := inferInstanceAs (Decidable (_ < _))
instance (i j : Int) : Decidable (CDivW i j) := inferInstanceAs (Decidable (_ ∧ _))
instance (i j : Int) : Decidable (CPow i j) := inferInstanceAs (Decidable (_ ∧ _ ∧ _))
abbrev dMul := dInt fun i j => if CMulW i j then some (.int (i * j)) else none
abbrev dDiv := dInt fun i j => if CDivW i j then some (.int (i / j)) else none
abbrev dMod := dInt fun i j => if 0 < j then some (.int (i % j)) else none
abbrev dPow := dInt fun i j => if CPow i j then some (.int (i ^ j.toNat)) else none
abbrev dLt := dInt fun i j => some (.bl (decide (i < j)))
abbrev dLe := dInt fun i j => some (.bl (decide (i ≤ j)))
abbrev dGt := dInt fun i j => some (.bl (decide (j < i)))
abbrev dGe := dInt fun i j => some (.bl (decide (j ≤ i)))
def dNeg (x : D) (S : Store) : Res D := match x with
  | .int i => .ok (.int (-i)) S
  | _ => .stuck
def dEqB (x y : D) (S : Store) : Option Bool := match pyOf x S, pyOf y S with
  | some p, some q => if SeqAt.shaped p = true ∧ SeqAt.shaped q = true then some (PyData.eqv p q) else none
  | _, _ => none
def dEq (x y : D) (S : Store) : Res D := match dEqB x y S with
  | some b => .ok (.bl b) S
  | none => .stuck
def dNe (x y : D) (S : Store) : Res D := match dEqB x y S with
  | some b => .ok (.bl (!b)) S
  | none => .stuck
def dIsN (x y : D) (S : Store) : Res D := match x, y with
  | .non, .non => .ok (.bl true) S
  | _, .non => .ok (.bl false) S
  | _, _ => .stuck
def dNotN (x y : D) (S : Store) : Res D := match x, y with
  | .non, .non => .ok (.bl false) S
  | _, .non => .ok (.bl true) S
  | _, _ => .stuck

section
variable {g : G} {E : XK} {K : PySem.W.Frag} {X : Cx}
theorem rd_int {l : List Addr} {ρ : List Addr} {H : Hp} {v : V} {i : Int} (r : RD (g.hide l) ρ H v (.int i)) : v = .int i := by cases r; rfl
theorem sim_int0 {f : Int → Int → D} {h : Int → Int → V} (hr : ∀ i j l ρ H, RD (g.hide l) ρ H (h i j) (f i j)) : OpSim g E (rI0 h) (dInt fun i j => some (f i j)) := by
  intro l x y H Q ρ S dx dy rx ry rs p
  unfold dInt at p
  split at p
  · cases rx; cases ry
    exact ⟨_, _, rfl, rfl, p ρ H _ Ex.refl rs (hr _ _ _ _ _)⟩
  · exact p.elim
theorem sim_intC {C : Int → Int → Prop} [∀ i j, Decidable (C i j)] {f : Int → Int → D} {h : Int → Int → V} (hr : ∀ i j l ρ H, RD (g.hide l) ρ H (h i j) (f i j)) : OpSim g E (rI C h) (dInt fun i j => if C i j then some (f i j) else none) := by
  intro l x y H Q ρ S dx dy rx ry rs p
  unfold dInt at p
  split at p
  · rename_i i j
    cases rx; cases ry
    by_cases c : C i j
    · simp only [if_pos c] at p
      exact ⟨_, _, rfl, rfl, c, p ρ H _ Ex.refl rs (hr _ _ _ _ _)⟩
    · simp only [if_neg c] at p; exact p.elim
  · exact p.elim
theorem sim_sub : OpSim g E (rI0 fun i j => .int (i - j)) dSub := sim_int0 fun _ _ _ _ _ => .int _
theorem sim_mul : OpSim g E (rI CMulW fun i j => .int (i * j)) dMul := sim_intC fun _ _ _ _ _ => .int _
theorem sim_div : OpSim g E (rI CDivW fun i j => .int (i / j)) dDiv := sim_intC fun _ _ _ _ _ => .int _
theorem sim_mod : OpSim g E (rI (fun _ j => 0 < j) fun i j => .int (i % j)) dMod := sim_intC (C := fun _ j => 0 < j) fun _ _ _ _ _ => .int _
theorem sim_pow : OpSim g E (rI CPow fun i j => .int (i ^ j.toNat)) dPow := sim_intC fun _ _ _ _ _ => .int _
theorem sim_lt : OpSim g E (rI0 fun i j => .bl (decide (i < j))) dLt := sim_int0 fun _ _ _ _ _ => .bl _
theorem sim_le : OpSim g E (rI0 fun i j => .bl (decide (i ≤ j))) dLe := sim_int0 fun _ _ _ _ _ => .bl _
theorem sim_gt : OpSim g E (rI0 fun i j => .bl (decide (j < i))) dGt := sim_int0 fun _ _ _ _ _ => .bl _
theorem sim_ge : OpSim g E (rI0 fun i j => .bl (decide (j ≤ i))) dGe := sim_int0 fun _ _ _ _ _ => .bl _
theorem sim_neg : UnSim g E (rU fun i => .int (-i)) dNeg := by
  intro l x H Q ρ S dx rx rs p
  cases rx with
  | int i => exact ⟨i, rfl, p ρ H _ Ex.refl rs (.int _)⟩
  | _ => exact p.elim
/-- + of all kinds -/
def rAddA (K : PySem.W.Frag) : R2 := fun x y H Q => (∃ i j, x = .int i ∧ y = .int j ∧ Q (.int (i + j)) H) ∨ (∃ i j, x = .str i ∧ y = .str j ∧ i.length + j.length ≤ sizeLine ∧ Q (.str (i ++ j)) H) ∨ rCatA K x y H Q ∨ rCat x y H Q
theorem op_addA : OpR X (binaryOp .Add) (rAddA X.K) := op_add.or (op_add_str.or (op_catA.or op_cat))
theorem sim_add : OpSim g E (rAddA K) dAdd := by
  intro l x y H Q ρ S dx dy rx ry rs p
  unfold dAdd at p
  split at p
  · cases rx; cases ry
    exact .inl ⟨_, _, rfl, rfl, p ρ H _ Ex.refl rs (.int _)⟩
  · cases rx; cases ry
    split at p
    · rename_i hz; exact .inr (.inl ⟨_, _, rfl, rfl, hz, p ρ H _ Ex.refl rs (.str _)⟩)
    · exact p.elim
  · cases rx with
    | @tup a vs ds ha na ra =>
      cases ry with
      | @tup b ws es hb nb rb =>
        split at p
        · rename_i hz
          refine .inr (.inr (.inl ⟨a, b, vs, ws, rfl, rfl, SqT.of ha, SqT.of hb, by rw [ra.length, rb.length]; exact hz, fun e => ?_, fun e e' => ?_, fun e e' q hq => ?_⟩))
          · subst e
            cases ra
            exact p ρ H _ Ex.refl rs (.tup hb nb (by simpa using rb))
          · subst e'
            cases rb
            exact p ρ H _ Ex.refl rs (.tup ha na (by simpa using ra))
          · exact p ρ _ _ (Ex.new1 hq) (rs.aside hq) (.tup upd_same (rs.fresh hq) ((ra.append rb).mono (Ex.new1 hq)))
        · exact p.elim
  · split at p
    · rename_i a b ea eb
      obtain ⟨a1, vs, rfl, h1, r1⟩ := as_l rs rx ea
      obtain ⟨b1, ws, rfl, h2, r2⟩ := as_l rs ry eb
      split at p
      · rename_i hz
        refine .inr (.inr (.inr ⟨a1, b1, vs, ws, rfl, rfl, h1, h2, by rw [r1.length, r2.length]; exact hz, fun q hq => ?_⟩))
        exact p ρ _ _ (Ex.new1 hq) (rs.aside hq) (.lst upd_same (rs.fresh hq) ((r1.append r2).mono (Ex.new1 hq)))
      · exact p.elim
    · exact p.elim
theorem sim_eq : OpSim g E (rEqD K) dEq := by
  intro l x y H Q ρ S dx dy rx ry rs p
  unfold dEq dEqB at p
  split at p
  · rename_i b e
    split at e
    · rename_i p1 p2 e1 e2
      split at e
      · rename_i hs
        cases e
        exact ⟨p1, p2, py_of rs rx e1, py_of rs ry e2, hs.1, hs.2, p ρ H _ Ex.refl rs (.bl _)⟩
      · cases e
    · cases e
  · exact p.elim
theorem sim_ne : OpSim g E (rNeD K) dNe := by
  intro l x y H Q ρ S dx dy rx ry rs p
  unfold dNe dEqB at p
  split at p
  · rename_i b e
    split at e
    · rename_i p1 p2 e1 e2
      split at e
      · rename_i hs
        cases e
        exact ⟨p1, p2, py_of rs rx e1, py_of rs ry e2, hs.1, hs.2, p ρ H _ Ex.refl rs (.bl _)⟩
      · cases e
    · cases e
  · exact p.elim
theorem sim_isN : OpSim g E (fun x y H Q => y = .non ∧ Q (.bl (decide (x = .non))) H) dIsN := by
  intro l x y H Q ρ S dx dy rx ry rs p
  unfold dIsN at p
  split at p
  · cases rx; cases ry; exact ⟨rfl, p ρ H _ Ex.refl rs (.bl _)⟩
  · rename_i hne
    cases ry
    refine ⟨rfl, ?_⟩
    have : decide (x = .non) = false := by
      cases rx with
      | non => exact absurd rfl hne
      | _ => rfl
    rw [this]; exact p ρ H _ Ex.refl rs (.bl _)
  · exact p.elim
theorem sim_notN : OpSim g E (fun x y H Q => y = .non ∧ Q (.bl (!decide (x = .non))) H) dNotN := by
  intro l x y H Q ρ S dx dy rx ry rs p
  unfold dNotN at p
  split at p
  · cases rx; cases ry; exact ⟨rfl, p ρ H _ Ex.refl rs (.bl _)⟩
  · rename_i hne
    cases ry
    refine ⟨rfl, ?_⟩
    have : decide (x = .non) = false := by
      cases rx with
      | non => exact absurd rfl hne
      | _ => rfl
    rw [this]; exact p ρ H _ Ex.refl rs (.bl _)
  · exact p.elim
end

/-! ### items, slices -/
def strAt (z : PySem.Str) (i : Int) : Option D := (atI z.cps.toList i).map fun c => .str ⟨#[c]⟩
def dIx (x y : D) (S : Store) : Res D := match x, y with
  | .tup ds, .int i => match atI ds i with
    | some d => .ok d S
    | none => .stuck
  | .str z, .int i => if z.length ≤ sizeLine then match strAt z i with
    | some d => .ok d S
    | none => .stuck
    else .stuck
  | x, .int i => match asL x S with
    | some ds => match atI ds i with
      | some d => .ok d S
      | none => .stuck
    | none => .stuck
  | _, _ => .stuck
theorem atI_rel {g : G} {ρ : List Addr} {H : Hp} {vs : List V} {ds : List D} {i : Int} {d : D} (r : RDs g ρ H vs ds) (h : atI ds i = some d) : ∃ v, atI vs i = some v ∧ RD g ρ H v d := by
  unfold atI at h ⊢
  rw [r.length]
  cases e : ixN ds.length i with
  | none => rw [e] at h; cases h
  | some j =>
    rw [e] at h
    exact r.get h
def rIxA (K : PySem.W.Frag) : R2 := rIx K
section
variable {g : G} {E : XK} {K : PySem.W.Frag}
theorem sim_ix : OpSim g E (rIx K) dIx := by
  intro l x y H Q ρ S dx dy rx ry rs p
  unfold dIx at p
  split at p
  · rename_i ds i
    cases ry
    cases rx with
    | @tup a vs ds ha na ra =>
      split at p
      · rename_i d e
        obtain ⟨v, h1, h2⟩ := atI_rel ra e
        exact .inr (.inl ⟨a, vs, i, v, rfl, rfl, SqT.of ha, h1, p ρ H _ Ex.refl rs h2⟩)
      · exact p.elim
  · rename_i z i
    cases ry; cases rx
    split at p
    · rename_i hz
      split at p
      · rename_i d e
        unfold strAt at e
        simp only [Option.map_eq_some_iff] at e
        obtain ⟨c, e1, rfl⟩ := e
        exact .inr (.inr ⟨z, i, c, rfl, rfl, hz, e1, p ρ H _ Ex.refl rs (.str _)⟩)
      · exact p.elim
    · exact p.elim
  · rename_i i _ _
    cases ry
    split at p
    · rename_i ds e
      obtain ⟨a, vs, rfl, h1, r1⟩ := as_l rs rx e
      split at p
      · rename_i d e2
        obtain ⟨v, h2, h3⟩ := atI_rel r1 e2
        exact .inl ⟨a, vs, i, v, rfl, rfl, SqL.of h1, h2, p ρ H _ Ex.refl rs h3⟩
      · exact p.elim
    · exact p.elim
  · exact p.elim
/-- o[i] = v of a list of the store -/
def dSet (o i v : D) (S : Store) : Option Store := match o, i with
  | .loc n, .int k => match S[n]? with
    | some (.lst ds) => match ixN ds.length k with
      | some j => some (S.set n (.lst (ds.set j v)))
      | none => none
    | _ => none
  | _, _ => none
theorem sim_set : SetSim g rSetL dSet := by
  intro l o i v H Q ρ S d1 d2 d3 S' r1 r2 r3 rs h q
  unfold dSet at h
  split at h
  · rename_i n k
    cases r2
    cases r1 with
    | @loc n a hn =>
      split at h
      · rename_i ds e
        split at h
        · rename_i j ej
          cases h
          obtain ⟨vs, h1, h2⟩ := rs.ob n a _ hn e
          obtain ⟨e3, rs3⟩ := rs.put (o := .lst (vs.set j v)) (ob := .lst (ds.set j d3)) hn fun H' e' q' => ⟨_, q', (h2.mono e').set (r3.mono e') j⟩
          exact ⟨a, vs, k, j, rfl, rfl, h1, by rw [h2.length]; exact ej, q ρ _ e3 rs3⟩
        · cases h
      · cases h
  · cases h
end

/-! ### built-ins -/
def cLen (ds : List D) (S : Store) : Res D := match ds with
  | [.str z] => if z.length ≤ sizeLine then .ok (.int z.length) S else .stuck
  | [.tup xs] => .ok (.int xs.length) S
  | [.scr ns] => .ok (.int ns.length) S
  | [x] => match asL x S with
    | some xs => .ok (.int xs.length) S
    | none => .stuck
  | _ => .stuck
def cAbs (ds : List D) (S : Store) : Res D := match ds with
  | [.int i] => .ok (.int (if i < 0 then -i else i)) S
  | _ => .stuck
def cMax2 (ds : List D) (S : Store) : Res D := match ds with
  | [.int i, .int j] => .ok (.int (if j > i then j else i)) S
  | _ => .stuck
def cMin2 (ds : List D) (S : Store) : Res D := match ds with
  | [.int i, .int j] => .ok (.int (if j < i then j else i)) S
  | _ => .stuck
/-- the items of a list, a tuple, the script -/
def asSeq (d : D) (S : Store) : Option (List D) := match d with
  | .tup ds => some ds
  | .scr ns => some (ns.map .int)
  | d => asL d S
/-- list(x), a list nobody changes | one of the store -/
def cList (ds : List D) (S : Store) : Res D := match ds with
  | [x] => match asSeq x S with
    | some xs => .ok (.lst xs) S
    | none => .stuck
  | _ => .stuck
def cListL (ds : List D) (S : Store) : Res D := match ds with
  | [x] => match asSeq x S with
    | some xs => .ok (.loc S.length) (S ++ [.lst xs])
    | none => .stuck
  | _ => .stuck
def cTuple (ds : List D) (S : Store) : Res D := match ds with
  | [.tup xs] => .ok (.tup xs) S
  | [x] => match asL x S with
    | some xs => .ok (.tup xs) S
    | none => .stuck
  | _ => .stuck
def bls : List D → Option (List Bool)
  | [] => some []
  | .bl b :: ds => (bls ds).map (b :: ·)
  | _ => none
def cAll (ds : List D) (S : Store) : Res D := match ds with
  | [x] => match asL x S with
    | some xs => match bls xs with
      | some bs => .ok (.bl (bs.all id)) S
      | none => .stuck
    | none => .stuck
  | _ => .stuck
def cAny (ds : List D) (S : Store) : Res D := match ds with
  | [x] => match asL x S with
    | some xs => match bls xs with
      | some bs => .ok (.bl (bs.any id)) S
      | none => .stuck
    | none => .stuck
  | _ => .stuck
section
variable {g : G} {E : XK} {K : PySem.W.Frag}
theorem RDs.one {g : G} {ρ : List Addr} {H : Hp} {vs : List V} {d : D} (r : RDs g ρ H vs [d]) : ∃ v, vs = [v] ∧ RD g ρ H v d := by
  cases r with
  | cons h t => cases t; exact ⟨_, rfl, h⟩
theorem RDs.two {g : G} {ρ : List Addr} {H : Hp} {vs : List V} {d e : D} (r : RDs g ρ H vs [d, e]) : ∃ v w, vs = [v, w] ∧ RD g ρ H v d ∧ RD g ρ H w e := by
  cases r with
  | cons h t => obtain ⟨w, rfl, q⟩ := t.one; exact ⟨_, w, rfl, h, q⟩
theorem rds_ints {g : G} {ρ : List Addr} {H : Hp} : ∀ ns : List Int, RDs g ρ H (ns.map V.int) (ns.map D.int)
  | [] => .nil
  | n :: ns => .cons (.int n) (rds_ints ns)
theorem scr_l {l : List Addr} {ρ : List Addr} {H : Hp} {v : V} {ns : List Int} (r : RD (g.hide l) ρ H v (.scr ns)) : ∃ a, v = .ref a ∧ SqL g.K H a (ns.map V.int) := by
  cases r with
  | @scr a ns n =>
    rcases n with ⟨o, h, _⟩ | n
    · exact ⟨a, rfl, .inl (.inr ⟨o, h⟩)⟩
    · exact ⟨a, rfl, n H⟩
theorem sim_len : CallSim g E (fun xs H Q => ∃ x n, xs = [x] ∧ LenV g.K x H n ∧ Q (.int n) H) cLen := by
  intro l xs H Q ρ S ds rx rs p
  unfold cLen at p
  split at p
  · obtain ⟨v, rfl, r⟩ := rx.one
    cases r
    split at p
    · rename_i hz; exact ⟨_, _, rfl, ⟨hz, rfl⟩, p ρ H _ Ex.refl rs (.int _)⟩
    · exact p.elim
  · obtain ⟨v, rfl, r⟩ := rx.one
    cases r with
    | @tup a vs ds ha na ra => exact ⟨_, _, rfl, .inr ⟨vs, SqT.of ha, rfl⟩, by rw [ra.length]; exact p ρ H _ Ex.refl rs (.int _)⟩
  · rename_i ns
    obtain ⟨v, rfl, r⟩ := rx.one
    obtain ⟨a, rfl, h⟩ := scr_l r
    exact ⟨_, ns.length, rfl, .inl ⟨_, h, by simp⟩, p ρ H _ Ex.refl rs (.int _)⟩
  · obtain ⟨v, rfl, r⟩ := rx.one
    split at p
    · rename_i xs' e
      obtain ⟨a, vs, rfl, h1, r1⟩ := as_l rs r e
      exact ⟨_, _, rfl, .inl ⟨vs, SqL.of h1, rfl⟩, by rw [r1.length]; exact p ρ H _ Ex.refl rs (.int _)⟩
    · exact p.elim
  · exact p.elim
theorem sim_abs : CallSim g E (fun xs H Q => ∃ i, xs = [.int i] ∧ Q (.int (if i < 0 then -i else i)) H) cAbs := by
  intro l xs H Q ρ S ds rx rs p
  unfold cAbs at p
  split at p
  · obtain ⟨v, rfl, r⟩ := rx.one
    cases r
    exact ⟨_, rfl, p ρ H _ Ex.refl rs (.int _)⟩
  · exact p.elim
theorem sim_max2 : CallSim g E (fun xs H Q => ∃ i j, xs = [.int i, .int j] ∧ Q (.int (if j > i then j else i)) H) cMax2 := by
  intro l xs H Q ρ S ds rx rs p
  unfold cMax2 at p
  split at p
  · obtain ⟨v, w, rfl, r1, r2⟩ := rx.two
    cases r1; cases r2
    exact ⟨_, _, rfl, p ρ H _ Ex.refl rs (.int _)⟩
  · exact p.elim
theorem sim_min2 : CallSim g E (fun xs H Q => ∃ i j, xs = [.int i, .int j] ∧ Q (.int (if j < i then j else i)) H) cMin2 := by
  intro l xs H Q ρ S ds rx rs p
  unfold cMin2 at p
  split at p
  · obtain ⟨v, w, rfl, r1, r2⟩ := rx.two
    cases r1; cases r2
    exact ⟨_, _, rfl, p ρ H _ Ex.refl rs (.int _)⟩
  · exact p.elim
theorem seq_of {l : List Addr} {ρ : List Addr} {H : Hp} {S : Store} {v : V} {d : D} {ds : List D} (rs : RS (g.hide l) ρ S H) (r : RD (g.hide l) ρ H v d) (h : asSeq d S = some ds) : ∃ a vs, v = .ref a ∧ (SqL g.K H a vs ∨ SqT g.K H a vs) ∧ RDs (g.hide l) ρ H vs ds := by
  cases r with
  | @tup a vs ds' ha na ra => cases h; exact ⟨a, vs, rfl, .inr (SqT.of ha), ra⟩
  | @scr a ns n =>
    cases h
    obtain ⟨a', e, h1⟩ := scr_l (g := g) (l := l) (RD.scr n)
    cases e
    exact ⟨a, _, rfl, .inl h1, rds_ints ns⟩
  | lst h1 n1 r1 => obtain ⟨a, vs, e, h2, r2⟩ := as_l rs (.lst h1 n1 r1) h; exact ⟨a, vs, e, .inl (SqL.of h2), r2⟩
  | loc h1 => obtain ⟨a, vs, e, h2, r2⟩ := as_l rs (.loc h1) h; exact ⟨a, vs, e, .inl (SqL.of h2), r2⟩
  | _ => cases h
abbrev rListA (K : PySem.W.Frag) : List V → Hp → VK → Prop := fun xs H Q => ∃ p ys, xs = [.ref p] ∧ (SqL K H p ys ∨ SqT K H p ys) ∧ ∀ l, H l = none → Q (.ref l) (upd H l (.lst ys))
theorem sim_list : CallSim g E (rListA g.K) cList := by
  intro l xs H Q ρ S ds rx rs p
  unfold cList at p
  split at p
  · obtain ⟨v, rfl, r⟩ := rx.one
    split at p
    · rename_i xs' e
      obtain ⟨a, vs, rfl, h1, r1⟩ := seq_of rs r e
      exact ⟨a, vs, rfl, h1, fun q hq => p ρ _ _ (Ex.new1 hq) (rs.aside hq) (.lst upd_same (rs.fresh hq) (r1.mono (Ex.new1 hq)))⟩
    · exact p.elim
  · exact p.elim
theorem sim_listL : CallSim g E (rListA g.K) cListL := by
  intro l xs H Q ρ S ds rx rs p
  unfold cListL at p
  split at p
  · obtain ⟨v, rfl, r⟩ := rx.one
    split at p
    · rename_i xs' e
      obtain ⟨a, vs, rfl, h1, r1⟩ := seq_of rs r e
      refine ⟨a, vs, rfl, h1, fun q hq => ?_⟩
      obtain ⟨e3, rs3⟩ := rs.push (o := .lst vs) (ob := .lst xs') hq fun ρ' H' e' q' => ⟨vs, q', r1.mono e'⟩
      exact p _ _ _ e3 rs3 (.loc (by rw [← rs.len]; simp))
    · exact p.elim
  · exact p.elim
abbrev rTupleA (K : PySem.W.Frag) : List V → Hp → VK → Prop := fun xs H Q => ∃ p ys, xs = [.ref p] ∧ ((SqL K H p ys ∧ ∀ l, H l = none → Q (.ref l) (upd H l (.tup ys))) ∨ (SqT K H p ys ∧ Q (.ref p) H))
theorem sim_tuple : CallSim g E (rTupleA K) cTuple := by
  intro l xs H Q ρ S ds rx rs p
  unfold cTuple at p
  split at p
  · obtain ⟨v, rfl, r⟩ := rx.one
    cases r with
    | @tup a vs ds ha na ra => exact ⟨a, vs, rfl, .inr ⟨SqT.of ha, p ρ H _ Ex.refl rs (.tup ha na ra)⟩⟩
  · obtain ⟨v, rfl, r⟩ := rx.one
    split at p
    · rename_i xs' e
      obtain ⟨a, vs, rfl, h1, r1⟩ := as_l rs r e
      exact ⟨a, vs, rfl, .inl ⟨SqL.of h1, fun q hq => p ρ _ _ (Ex.new1 hq) (rs.aside hq) (.tup upd_same (rs.fresh hq) (r1.mono (Ex.new1 hq)))⟩⟩
    · exact p.elim
  · exact p.elim
theorem bls_rel {ρ : List Addr} {H : Hp} : ∀ {ds : List D} {vs : List V} {bs : List Bool}, RDs g ρ H vs ds → bls ds = some bs → vs = bs.map V.bl
  | [], _, _, .nil, e => by simp [bls] at e; subst e; rfl
  | .bl b :: ds, _, bs, .cons h t, e => by
    simp only [bls, Option.map_eq_some_iff] at e
    obtain ⟨bs', e1, rfl⟩ := e
    cases h
    rw [bls_rel t e1]; rfl
theorem sim_all : CallSim g E (rAll K) cAll := by
  intro l xs H Q ρ S ds rx rs p
  unfold cAll at p
  split at p
  · obtain ⟨v, rfl, r⟩ := rx.one
    split at p
    · rename_i xs' e
      obtain ⟨a, vs, rfl, h1, r1⟩ := as_l rs r e
      split at p
      · rename_i bs eb
        have := bls_rel r1 eb
        subst this
        exact ⟨a, bs, rfl, SqL.of h1, p ρ H _ Ex.refl rs (.bl _)⟩
      · exact p.elim
    · exact p.elim
  · exact p.elim
theorem sim_any : CallSim g E (rAny K) cAny := by
  intro l xs H Q ρ S ds rx rs p
  unfold cAny at p
  split at p
  · obtain ⟨v, rfl, r⟩ := rx.one
    split at p
    · rename_i xs' e
      obtain ⟨a, vs, rfl, h1, r1⟩ := as_l rs r e
      split at p
      · rename_i bs eb
        have := bls_rel r1 eb
        subst this
        exact ⟨a, bs, rfl, SqL.of h1, p ρ H _ Ex.refl rs (.bl _)⟩
      · exact p.elim
    · exact p.elim
  · exact p.elim
end

/-! ### methods of lists -/
def mBM (f : D → List D → Store → Res D) (o : EM) (as : AM) : EM := fun env S => (o env S).bind fun d S1 => (as env S1).bind fun ds S2 => f d ds S2
def tyD (T : String) (d : D) (S : Store) : Bool := match d with
  | .str _ => T == "str"
  | .lst _ => T == "list"
  | .loc n => match S[n]? with
    | some (.lst _) => T == "list"
    | some (.dK _) => T == "dict"
    | some (.dT _) => T == "dict"
    | _ => false
  | _ => false
def qAppend (d : D) (ds : List D) (S : Store) : Res D := match d, ds with
  | .loc n, [x] => match S[n]? with
    | some (.lst xs) => if xs.length < sizeLine then .ok .non (S.set n (.lst (xs ++ [x]))) else .stuck
    | _ => .stuck
  | _, _ => .stuck
def qPopAt (d : D) (ds : List D) (S : Store) : Res D := match d, ds with
  | .loc n, [.int i] => match S[n]? with
    | some (.lst xs) => if -(2 ^ 63) ≤ i ∧ i < 2 ^ 63 then match seqIndex? i xs.length with
      | some k => match xs[k]? with
        | some x => .ok x (S.set n (.lst (xs.eraseIdx k)))
        | none => .stuck
      | none => .stuck
      else .stuck
    | _ => .stuck
  | _, _ => .stuck
def MtSim (g₀ : G) (E : XK) (r : V → List V → Hp → VK → Prop) (f : D → List D → Store → Res D) : Prop := ∀ l x xs H Q ρ S d ds, RD (g₀.hide l) ρ H x d → RDs (g₀.hide l) ρ H xs ds → RS (g₀.hide l) ρ S H → PostE (g₀.hide l) E ρ H Q (f d ds S) → r x xs H Q
section
variable {g : G} {E : XK} {K : PySem.W.Frag}
theorem sim_append : MtSim g E rAppend qAppend := by
  intro l x xs H Q ρ S d ds rx rxs rs p
  unfold qAppend at p
  split at p
  · rename_i n y
    obtain ⟨v, rfl, r⟩ := rxs.one
    cases rx with
    | @loc n a hn =>
      split at p
      · rename_i zs e
        obtain ⟨vs, h1, h2⟩ := rs.ob n a _ hn e
        split at p
        · rename_i hz
          obtain ⟨e3, rs3⟩ := rs.put (o := .lst (vs ++ [v])) (ob := .lst (zs ++ [y])) hn fun H' e' q' => ⟨_, q', (h2.mono e').snoc (r.mono e')⟩
          exact ⟨a, vs, v, rfl, rfl, h1, by rw [h2.length]; exact hz, p ρ _ _ e3 rs3 .non⟩
        · exact p.elim
      · exact p.elim
  · exact p.elim
theorem sim_popAt : MtSim g E rPopAt qPopAt := by
  intro l x xs H Q ρ S d ds rx rxs rs p
  unfold qPopAt at p
  split at p
  · rename_i n i
    obtain ⟨v, rfl, r⟩ := rxs.one
    cases r
    cases rx with
    | @loc n a hn =>
      split at p
      · rename_i zs e
        obtain ⟨vs, h1, h2⟩ := rs.ob n a _ hn e
        split at p
        · rename_i hz
          split at p
          · rename_i k ek
            split at p
            · rename_i y ey
              obtain ⟨v, h3, h4⟩ := h2.get ey
              obtain ⟨e3, rs3⟩ := rs.put (o := .lst (vs.eraseIdx k)) (ob := .lst (zs.eraseIdx k)) hn fun H' e' q' => ⟨_, q', (h2.mono e').eraseIdx k⟩
              exact ⟨a, vs, i, k, v, rfl, rfl, h1, hz.1, hz.2, by rw [h2.length]; exact ek, h3, p ρ _ _ e3 rs3 (h4.mono e3)⟩
            · exact p.elim
          · exact p.elim
        · exact p.elim
      · exact p.elim
  · exact p.elim
/-- what the receiver is -/
theorem ty_of {l : List Addr} {ρ : List Addr} {H : Hp} {S : Store} {v : V} {d : D} {T : String} (rs : RS (g.hide l) ρ S H) (r : RD (g.hide l) ρ H v d) (h : tyD T d S = true) : tyV K T v H := by
  cases r with
  | str s => exact beq_iff_eq.mp h |> fun e => by subst e; rfl
  | @lst a vs ds ha na ra => exact beq_iff_eq.mp h |> fun e => by subst e; exact .inl ⟨rfl, _, SqL.of ha⟩
  | @loc n a hn =>
    simp only [tyD] at h
    split at h
    · rename_i zs e
      obtain ⟨vs, h1, h2⟩ := rs.ob n a _ hn e
      exact beq_iff_eq.mp h |> fun e => by subst e; exact .inl ⟨rfl, _, SqL.of h1⟩
    · rename_i kvs e
      obtain ⟨kv, h1, h2⟩ := rs.ob n a _ hn e
      exact beq_iff_eq.mp h |> fun e => by subst e; exact .inr (.inr (.inl ⟨rfl, .inl ⟨_, h1⟩⟩))
    · rename_i kvs e
      obtain ⟨kv, h1, h2⟩ := rs.ob n a _ hn e
      exact beq_iff_eq.mp h |> fun e => by subst e; exact .inr (.inr (.inl ⟨rfl, .inr ⟨_, h1⟩⟩))
    · cases h
  | _ => cases h
def mBMt (T : String) (f : D → List D → Store → Res D) (o : EM) (as : AM) : EM := fun env S => (o env S).bind fun d S1 => if tyD T d S1 = true then (as env S1).bind fun ds S2 => f d ds S2 else .stuck
theorem sim_bm {T : String} {r : V → List V → Hp → VK → Prop} {f : D → List D → Store → Res D} {to : TE} {ta : TA} {o : EM} {a : AM} (h : MtSim g E r f) (ho : SimE g E to o) (ha : SimA g E ta a) : SimE g E (tBM K T r to ta) (mBMt T f o a) := by
  intro l σ H Q ρ S env re rs p
  refine ho.bind re rs p fun d S1 ρ1 H1 v e1 rs1 rx re1 p1 => ?_
  by_cases ht : tyD T d S1 = true
  · rw [if_pos ht] at p1
    refine ⟨ty_of rs1 rx ht, ?_⟩
    exact ha.bind re1 rs1 p1 fun ds S2 ρ2 H2 vs e2 rs2 ry re2 p2 => h l v vs H2 Q ρ2 S2 d ds (rx.mono e2) ry rs2 p2
  · rw [if_neg ht] at p1; exact p1.elim
theorem sim_bm0 {T : String} {r : V → List V → Hp → VK → Prop} {f : D → List D → Store → Res D} {to : TE} {o : EM} (h : MtSim g E r f) (ho : SimE g E to o) : SimE g E (tBM0 K T r to) (mBMt T f o mNil) := by
  intro l σ H Q ρ S env re rs p
  refine ho.bind re rs p fun d S1 ρ1 H1 v e1 rs1 rx re1 p1 => ?_
  by_cases ht : tyD T d S1 = true
  · rw [if_pos ht] at p1
    exact ⟨ty_of rs1 rx ht, h l v [] H1 Q ρ1 S1 d [] rx .nil rs1 p1⟩
  · rw [if_neg ht] at p1; exact p1.elim
end

/-! ### slices -/
abbrev OM := En → Store → Res (Option Int)
def oNone : OM := fun _ S => .ok none S
def oSome (a : EM) : OM := fun env S => (a env S).bind fun d S1 => match d with
  | .int i => .ok (some i) S1
  | _ => .stuck
def SimO (g : G) (E : XK) (t : TO) (m : OM) : Prop := ∀ l σ H (Q : Option Int → Hp → Prop) ρ S env, RE (g.hide l) ρ H σ env → RS (g.hide l) ρ S H →
  (match m env S with
   | .ok o S' => ∀ ρ' H', Ex ρ H ρ' H' → RS (g.hide l) ρ' S' H' → Q o H'
   | .err x S' => PX (g.hide l) E ρ H x S'
   | .stuck => False) → t σ H Q
def cutD (xs : List D) (lo hi : Option Int) : List D := (xs.drop (HT.sIx xs.length 0 lo)).take (HT.sIx xs.length xs.length hi - HT.sIx xs.length 0 lo)
def dSl (x : D) (lo hi : Option Int) (S : Store) : Res D := match x with
  | .tup ds => .ok (.tup (cutD ds lo hi)) S
  | .str z => if z.length ≤ sizeLine then .ok (.str (cutS z lo hi)) S else .stuck
  | x => match asL x S with
    | some ds => .ok (.lst (cutD ds lo hi)) S
    | none => .stuck
def mSl (a : EM) (lo hi : OM) : EM := fun env S => (a env S).bind fun x S1 => (lo env S1).bind fun i S2 => (hi env S2).bind fun j S3 => dSl x i j S3
section
variable {g : G} {E : XK} {K : PySem.W.Frag}
theorem simo_none : SimO g E tNoPart oNone := fun l σ H Q ρ S env re rs p => p ρ H Ex.refl rs
theorem simo_some {te : TE} {a : EM} (ha : SimE g E te a) : SimO g E (tPart te) (oSome a) := by
  intro l σ H Q ρ S env re rs p
  refine ha l σ H _ ρ S env re rs ?_
  unfold oSome at p
  cases e : a env S with
  | ok d S1 =>
    rw [e] at p
    intro ρ1 H1 v e1 rs1 rx
    simp only [Res.bind] at p
    cases rx with
    | int i => exact ⟨i, rfl, p ρ1 H1 e1 rs1⟩
    | _ => exact p.elim
  | err x S1 => rw [e] at p; exact p
  | stuck => rw [e] at p; exact p
abbrev rSlAll (K : PySem.W.Frag) : V → Option Int → Option Int → Hp → VK → Prop := fun x lo hi H Q => rSlA K x lo hi H Q ∨ rSlS x lo hi H Q ∨ rSlL K x lo hi H Q
theorem sl_all {X : Cx} : SlR X (rSlAll X.K) := sl_tupA.or (sl_str.or sl_list)
theorem cut_rel {ρ : List Addr} {H : Hp} {vs : List V} {ds : List D} {lo hi : Option Int} (r : RDs g ρ H vs ds) : RDs g ρ H (cutV vs lo hi) (cutD ds lo hi) := by
  unfold cutV cutD
  rw [r.length]
  exact (r.drop _).take _
theorem sim_slice {te : TE} {tl th : TO} {a : EM} {lo hi : OM} (ha : SimE g E te a) (hl : SimO g E tl lo) (hh : SimO g E th hi) : SimE g E (tSl (rSlAll K) te tl th) (mSl a lo hi) := by
  intro l σ H Q ρ S env re rs p
  refine ha.bind re rs p fun d S1 ρ1 H1 v e1 rs1 rx re1 p1 => ?_
  refine hl l σ H1 _ ρ1 S1 env re1 rs1 ?_
  cases e : lo env S1 with
  | err x S2 => rw [e] at p1; exact p1
  | stuck => rw [e] at p1; exact p1
  | ok i S2 =>
    rw [e] at p1
    intro ρ2 H2 e2 rs2
    have p2 := PostE.ex p1 e2
    simp only [Res.bind] at p2
    refine hh l σ H2 _ ρ2 S2 env (re1.mono e2) rs2 ?_
    cases e' : hi env S2 with
    | err x S3 => rw [e'] at p2; exact p2
    | stuck => rw [e'] at p2; exact p2
    | ok j S3 =>
      rw [e'] at p2
      intro ρ3 H3 e3 rs3
      have p3 : PostE (g.hide l) E ρ3 H3 Q (dSl d i j S3) := PostE.ex p2 e3
      have rx3 := rx.mono (e2.trans e3)
      unfold dSl at p3
      split at p3
      · cases rx3 with
        | @tup ad vs ds ha' na ra =>
          refine .inl ⟨ad, vs, rfl, SqT.of ha', fun hw => ?_, fun hw q hq => ?_⟩
          · refine p3 ρ3 H3 _ Ex.refl rs3 (.tup ha' na ?_)
            rename_i ds0
            have : cutD _ i j = _ := show cutD ds0 i j = ds0 by
              unfold cutD
              rw [← ra.length, hw.1, hw.2]
              simp [ra.length]
            rw [this]; exact ra
          · exact p3 ρ3 _ _ (Ex.new1 hq) (rs3.aside hq) (.tup upd_same (rs3.fresh hq) ((cut_rel ra).mono (Ex.new1 hq)))
      · cases rx3
        split at p3
        · rename_i hz; exact .inr (.inl ⟨_, rfl, hz, p3 ρ3 H3 _ Ex.refl rs3 (.str _)⟩)
        · exact p3.elim
      · split at p3
        · rename_i ds e4
          obtain ⟨ad, vs, rfl, h1, r1⟩ := as_l rs3 rx3 e4
          exact .inr (.inr ⟨ad, vs, rfl, SqL.of h1, fun q hq => p3 ρ3 _ _ (Ex.new1 hq) (rs3.aside hq) (.lst upd_same (rs3.fresh hq) ((cut_rel r1).mono (Ex.new1 hq)))⟩)
        · exact p3.elim
end

/-! ### iterators -/
def itSeq (a : EM) : IM := fun env S => (a env S).bind fun d S1 => match d with
  | .lst ds => .ok ds S1
  | .tup ds => .ok ds S1
  | _ => .stuck
def itList (a : EM) : IM := fun env S => (a env S).bind fun d S1 => match d with
  | .lst ds => .ok ds S1
  | _ => .stuck
def itTup (a : EM) : IM := fun env S => (a env S).bind fun d S1 => match d with
  | .tup ds => .ok ds S1
  | _ => .stuck
def itRange1 (a : AM) : IM := fun env S => (a env S).bind fun ds S1 => match ds with
  | [.int j] => if -(2 ^ 62) ≤ j ∧ j < 2 ^ 62 then .ok ((List.range j.toNat).map fun i : Nat => D.int (0 + (i : Int))) S1 else .stuck
  | _ => .stuck
def itStr (a : EM) : IM := fun env S => (a env S).bind fun d S1 => match d with
  | .str z => .ok (z.cps.toList.map fun c => D.str ⟨#[c]⟩) S1
  | _ => .stuck
section
variable {g : G} {E : XK} {K : PySem.W.Frag}
theorem walkd_at {l : List Addr} {ρ : List Addr} {H : Hp} {J : It} {vs : List V} {ds : List D} {G' : Hp → Prop} (w : Walk J vs.length G' (YAt vs)) (hG : ∀ ρ' H', Ex ρ H ρ' H' → G' H') (r : RDs (g.hide l) ρ H vs ds) : WalkD (g.hide l) ρ H J ds := by
  refine ⟨G', YAt vs, by rw [← r.length]; exact w, hG, fun i ρ' H' x H'' S hi e rs y => ?_⟩
  obtain ⟨rfl, hx⟩ := y
  have hd : ds[i]? = some ds[i] := List.getElem?_eq_getElem hi
  obtain ⟨v, h1, h2⟩ := r.get hd
  rw [hx] at h1; cases h1
  exact ⟨ds[i], hd, Ex.refl, rs, h2.mono e, fun _ _ h => h⟩
theorem rds_hide {l l' : List Addr} {ρ : List Addr} {H : Hp} {vs : List V} {ds : List D} (hl : ∀ a, a ∈ l' → a ∈ l ∨ H a = none) (r : RDs (g.hide l) ρ H vs ds) : RDs (g.hide l') ρ H vs ds :=
  RDs.tr (g := g.hide l) (g' := g.hide l') rfl (fun _ _ h => h) (fun a o n h => ⟨⟨n.1, fun m => (hl a m).elim n.2 fun z => by rw [z] at h; cases h⟩, h⟩) r
abbrev iSeq (K : PySem.W.Frag) (te : TE) : TI := fun σ H R => te σ H fun x H1 => (∃ a, x = .ref a ∧ (∃ xs, SqL K H1 a xs) ∧ R (Itl K a) H1) ∨ (∃ a, x = .ref a ∧ (∃ xs, SqT K H1 a xs) ∧ R (Itt K a) H1)
theorem simi_list {te : TE} {a : EM} (ha : SimE g E te a) : SimI g E (iList K te) (itList a) := by
  intro l σ H R ρ S env re rs p
  unfold itList at p
  refine ha l σ H _ ρ S env re rs ?_
  cases e : a env S with
  | err x S2 => rw [e] at p; exact p
  | stuck => rw [e] at p; exact p
  | ok d S1 =>
    rw [e] at p
    simp only [Res.bind] at p
    intro ρ1 H1 v e1 rs1 rx
    cases rx with
    | @lst ad vs ds h n r =>
      exact ⟨ad, rfl, ⟨vs, SqL.of h⟩, p ρ1 H1 _ e1 rs1 fun l' hl => walkd_at walk_list (fun ρ' H' ex => SqL.of (ex.keep _ _ n.1 h)) (rds_hide hl r)⟩
    | _ => exact p.elim
theorem simi_tup {te : TE} {a : EM} (ha : SimE g E te a) : SimI g E (iTup K te) (itTup a) := by
  intro l σ H R ρ S env re rs p
  unfold itTup at p
  refine ha l σ H _ ρ S env re rs ?_
  cases e : a env S with
  | err x S2 => rw [e] at p; exact p
  | stuck => rw [e] at p; exact p
  | ok d S1 =>
    rw [e] at p
    simp only [Res.bind] at p
    intro ρ1 H1 v e1 rs1 rx
    cases rx with
    | @tup ad vs ds h n r =>
      exact ⟨ad, rfl, ⟨vs, SqT.of h⟩, p ρ1 H1 _ e1 rs1 fun l' hl => walkd_at walk_tup (fun ρ' H' ex => SqT.of (ex.keep _ _ n.1 h)) (rds_hide hl r)⟩
    | _ => exact p.elim
theorem simi_range1 {ta : TA} {a : AM} (ha : SimA g E ta a) : SimI g E (iRng1 ta) (itRange1 a) := by
  intro l σ H R ρ S env re rs p
  refine ha l σ H _ ρ S env re rs ?_
  unfold itRange1 at p
  cases e : a env S with
  | err x S2 => rw [e] at p; exact p
  | stuck => rw [e] at p; exact p
  | ok ds S1 =>
    rw [e] at p
    simp only [Res.bind] at p
    intro ρ1 H1 vs e1 rs1 rx
    split at p
    · rename_i q hq
      split at hq
      · rename_i j
        split at hq
        · rename_i hj
          cases hq
          obtain ⟨v, rfl, r⟩ := rx.one
          cases r
          refine ⟨j, rfl, hj.1, hj.2, p ρ1 H1 _ e1 rs1 fun l' hl => ?_⟩
          refine ⟨fun _ => True, YFn fun i => .int (0 + i), by rw [show (List.map (fun i : Nat => D.int (0 + (i : Int))) (List.range j.toNat)).length = j.toNat by simp]; exact walk_range, fun _ _ _ => trivial, fun i ρ' H' x H'' S' hi e2 rs2 y => ?_⟩
          obtain ⟨rfl, rfl⟩ := y
          have hi' : i < j.toNat := by simpa using hi
          exact ⟨.int (0 + i), by simp [hi'], Ex.refl, rs2, .int _, fun _ _ h => h⟩
        · cases hq
      · cases hq
    · rename_i hq
      split at hq
      · split at hq <;> cases hq
      · cases hq
    · exact p.elim
theorem simi_str {te : TE} {a : EM} (ha : SimE g E te a) : SimI g E (iStr te) (itStr a) := by
  intro l σ H R ρ S env re rs p
  refine ha l σ H _ ρ S env re rs ?_
  unfold itStr at p
  cases e : a env S with
  | err x S2 => rw [e] at p; exact p
  | stuck => rw [e] at p; exact p
  | ok d S1 =>
    rw [e] at p
    simp only [Res.bind] at p
    intro ρ1 H1 v e1 rs1 rx
    cases rx with
    | str z =>
      refine ⟨z, rfl, p ρ1 H1 _ e1 rs1 fun l' hl => ?_⟩
      refine ⟨fun _ => True, _, by simpa using walk_str (z := z), fun _ _ _ => trivial, fun i ρ' H' x H'' S' hi e2 rs2 y => ?_⟩
      obtain ⟨rfl, c, hc, rfl⟩ := y
      exact ⟨.str ⟨#[c]⟩, by simp [hc], Ex.refl, rs2, .str _, fun _ _ h => h⟩
    | _ => exact p.elim
end
end Lg

namespace L2
open PySem PySem.Spec PyProof.Rows
section
variable {X : Cx} {tg : Expr}
/-- over a list or a tuple -/
theorem pi_seq {l : Expr} {tl : TE} (hl : PE X l tl) : PI X tg l (Lg.iSeq X.K tl) := by
  refine ⟨fun pins s σ H R I h => ?_⟩
  refine thn (hl.run pins s σ H _ I h) fun v s1 ⟨x, H1, I1, r1, q1⟩ => ?_
  rcases q1 with ⟨a, e, ⟨xs, hq⟩, q⟩ | ⟨a, e, ⟨xs, hq⟩, q⟩
  · subst e
    cases r1
    obtain ⟨its, rv, p, hz⟩ := I1.list hq
    refine wpAny_pyIter_list p.isList ?_
    refine ⟨s1.heap.objs.size, [s1.heap.objs.size], _, _, H1, rfl, I1.kept (t' := s1.toks) fun b o e => Heap.get?_push_of_some _ e, turn_list a _, ⟨_, Heap.get?_push_size _ rfl, rfl, rfl⟩, fun b hb => ?_, q⟩
    have e : b = s1.heap.objs.size := by simpa using hb
    subst e
    exact I1.fpOk (Nat.le_refl _) (I1.hok.fresh (Nat.le_refl _))
  · subst e
    cases r1
    obtain ⟨its, rv, p, hz⟩ := I1.tuple hq
    refine wpAny_pyIter_tuple (show s1.heap.IsTuple a its.toArray from p) ?_
    refine ⟨s1.heap.objs.size, [s1.heap.objs.size], _, _, H1, rfl, I1.kept (t' := s1.toks) fun b o e => Heap.get?_push_of_some _ e, turn_tuple a _, ⟨_, Heap.get?_push_size _ rfl, rfl, rfl⟩, fun b hb => ?_, q⟩
    have e : b = s1.heap.objs.size := by simpa using hb
    subst e
    exact I1.fpOk (Nat.le_refl _) (I1.hok.fresh (Nat.le_refl _))
/-- x in a tuple of data -/
def rInT (K : PySem.W.Frag) : R2 := fun x y H Q => ∃ d ds, Dp K H x d ∧ Dp K H y (.tuple ds) ∧ SeqAt.shaped d = true ∧ SeqAt.shaped (.tuple ds) = true ∧ Q (.bl (ds.any fun z => PyData.eqv z d)) H
def rNotInT (K : PySem.W.Frag) : R2 := fun x y H Q => ∃ d ds, Dp K H x d ∧ Dp K H y (.tuple ds) ∧ SeqAt.shaped d = true ∧ SeqAt.shaped (.tuple ds) = true ∧ Q (.bl (!ds.any fun z => PyData.eqv z d)) H
theorem op_inT (hu : X.A.units + 65 < cLine) : OpR X (compareOp .In) (rInT X.K) := by
  intro pins s σ H x y v u Q I rx ry h
  obtain ⟨d, ds, hd, he, sd, se, q⟩ := h
  obtain ⟨as, r1⟩ := Dp.reads I d x v hd rx
  obtain ⟨bs, r2⟩ := Dp.reads I (.tuple ds) y u he ry
  exact SeqAt.in_tuple_reads r2 r1 (SeqAt.canLay_of_shaped se) (SeqAt.canLay_of_shaped sd) (room_in_shaped sd hu) ⟨.bl _, H, I, rfl, q⟩
theorem op_notInT (hu : X.A.units + 65 < cLine) : OpR X (compareOp .NotIn) (rNotInT X.K) := by
  intro pins s σ H x y v u Q I rx ry h
  obtain ⟨d, ds, hd, he, sd, se, q⟩ := h
  obtain ⟨as, r1⟩ := Dp.reads I d x v hd rx
  obtain ⟨bs, r2⟩ := Dp.reads I (.tuple ds) y u he ry
  exact SeqAt.notIn_tuple_reads r2 r1 (SeqAt.canLay_of_shaped se) (SeqAt.canLay_of_shaped sd) (room_in_shaped sd hu) ⟨.bl _, H, I, rfl, q⟩
end
end L2

namespace Lg
open PySem L2
section
variable {g : G} {E : XK} {K : PySem.W.Frag}
theorem simi_seq {te : TE} {a : EM} (ha : SimE g E te a) : SimI g E (iSeq K te) (itSeq a) := by
  intro l σ H R ρ S env re rs p
  refine ha l σ H _ ρ S env re rs ?_
  unfold itSeq at p
  cases e : a env S with
  | err x S2 => rw [e] at p; exact p
  | stuck => rw [e] at p; exact p
  | ok d S1 =>
    rw [e] at p
    simp only [Res.bind] at p
    intro ρ1 H1 v e1 rs1 rx
    cases rx with
    | @tup ad vs ds h n r =>
      exact .inr ⟨ad, rfl, ⟨vs, SqT.of h⟩, p ρ1 H1 _ e1 rs1 fun l' hl => walkd_at walk_tup (fun ρ' H' ex => SqT.of (ex.keep _ _ n.1 h)) (rds_hide hl r)⟩
    | @lst ad vs ds h n r =>
      exact .inl ⟨ad, rfl, ⟨vs, SqL.of h⟩, p ρ1 H1 _ e1 rs1 fun l' hl => walkd_at walk_list (fun ρ' H' ex => SqL.of (ex.keep _ _ n.1 h)) (rds_hide hl r)⟩
    | _ => exact p.elim
/-- a, b = x, y -/
def sPar (i j : Nat) (a : AM) : SM := fun env S => (a env S).bindS fun ds S1 => match ds with
  | [x, y] => .next ((env.set i (some x)).set j (some y)) S1
  | _ => .stuck
theorem SimA.bindS {t : TA} {m : AM} (h : SimA g E t m) {l : List Addr} {σ : L2.St} {H : Hp} {Q : List V → Hp → Prop} {D' : Ends} {ρ : List Addr} {S : Store} {env : En} {f : List D → Store → FRes} (re : RE (g.hide l) ρ H σ env) (rs : RS (g.hide l) ρ S H) (p : PostS (g.hide l) E ρ H D' ((m env S).bindS f))
    (k : ∀ d S' ρ' H' v, Ex ρ H ρ' H' → RS (g.hide l) ρ' S' H' → RDs (g.hide l) ρ' H' v d → RE (g.hide l) ρ' H' σ env → PostS (g.hide l) E ρ' H' D' (f d S') → Q v H') : t σ H Q := by
  refine h l σ H Q ρ S env re rs ?_
  cases e : m env S with
  | ok d S' => rw [e] at p; exact fun ρ' H' v a b c => k d S' ρ' H' v a b c (re.mono a) (PostS.ex p a)
  | err x S' => rw [e] at p; exact p
  | stuck => rw [e] at p; exact p
theorem sims_par {i j : Nat} {ta : TA} {a : AM} (ha : SimA g E ta a) : SimS g E (tPar i j ta) (sPar i j a) := by
  intro l D' σ H ρ S env re rs p
  refine ha.bindS re rs p fun ds S1 ρ1 H1 vs e1 rs1 rx re1 p1 => ?_
  split at p1
  · obtain ⟨v, w, rfl, r1, r2⟩ := rx.two
    exact ⟨v, w, rfl, p1 ρ1 H1 _ Ex.refl rs1 ((re1.set r1 i).set r2 j)⟩
  · exact p1.elim
/-! ### x in xs -/
def pyL (ps : List PyData) (p : PyData) : Bool := ps.any fun z => PyData.eqv z p
def dInB (x y : D) (S : Store) : Option Bool := match pyOf x S, pyOf y S with
  | some p, some (.list qs) => if SeqAt.shaped p = true ∧ SeqAt.shaped (.list qs) = true then some (pyL qs p) else none
  | some p, some (.tuple qs) => if SeqAt.shaped p = true ∧ SeqAt.shaped (.tuple qs) = true then some (pyL qs p) else none
  | some (.str a), some (.str b) => match a.cps.toList with
    | [c] => some (decide (c ∈ b.cps.toList))
    | _ => none
  | _, _ => none
def dIn (x y : D) (S : Store) : Res D := match dInB x y S with
  | some b => .ok (.bl b) S
  | none => .stuck
def dNotIn (x y : D) (S : Store) : Res D := match dInB x y S with
  | some b => .ok (.bl (!b)) S
  | none => .stuck
abbrev rInA (K : PySem.W.Frag) : R2 := fun x y H Q => rInD K x y H Q ∨ rInT K x y H Q ∨ ∃ (c : Nat) (z : PySem.Str), x = .str ⟨#[c]⟩ ∧ y = .str z ∧ Q (.bl (decide (c ∈ z.cps.toList))) H
abbrev rNotInA (K : PySem.W.Frag) : R2 := fun x y H Q => rNotInD K x y H Q ∨ rNotInT K x y H Q ∨ ∃ (c : Nat) (z : PySem.Str), x = .str ⟨#[c]⟩ ∧ y = .str z ∧ Q (.bl (!decide (c ∈ z.cps.toList))) H
theorem op_inA {X : Cx} (hu : X.A.units + 65 < cLine) : OpR X (compareOp .In) (rInA X.K) := (op_inD hu).or ((op_inT hu).or op_in_sign)
theorem op_notInA {X : Cx} (hu : X.A.units + 65 < cLine) : OpR X (compareOp .NotIn) (rNotInA X.K) := (op_notInD hu).or ((op_notInT hu).or op_notIn_sign)
theorem str_of_py {ρ : List Addr} {H : Hp} {S : Store} {v : V} {d : D} {a : PySem.Str} (rs : RS g ρ S H) (r : RD g ρ H v d) (h : pyOf d S = some (.str a)) : v = .str a := by
  have := py_of (K := ([] : PySem.W.Frag)) rs r h
  cases this; rfl
theorem str_one {a : PySem.Str} {c : Nat} (h : a.cps.toList = [c]) : a = ⟨#[c]⟩ := by
  obtain ⟨cps⟩ := a
  simp only at h
  congr 1
  rw [← Array.toArray_toList (xs := cps), h]
theorem sim_in : OpSim g E (rInA K) dIn := by
  intro l x y H Q ρ S dx dy rx ry rs p
  unfold dIn dInB at p
  split at p
  · rename_i b e
    split at e
    · rename_i p1 qs e1 e2
      split at e
      · rename_i hs; cases e
        exact .inl ⟨p1, qs, py_of rs rx e1, py_of rs ry e2, hs.1, hs.2, p ρ H _ Ex.refl rs (.bl _)⟩
      · cases e
    · rename_i p1 qs e1 e2
      split at e
      · rename_i hs; cases e
        exact .inr (.inl ⟨p1, qs, py_of rs rx e1, py_of rs ry e2, hs.1, hs.2, p ρ H _ Ex.refl rs (.bl _)⟩)
      · cases e
    · rename_i a b' e1 e2
      split at e
      · rename_i c ec
        cases e
        refine .inr (.inr ⟨c, b', ?_, str_of_py rs ry e2, p ρ H _ Ex.refl rs (.bl _)⟩)
        rw [str_of_py rs rx e1, str_one ec]
      · cases e
    · cases e
  · exact p.elim
theorem sim_notIn : OpSim g E (rNotInA K) dNotIn := by
  intro l x y H Q ρ S dx dy rx ry rs p
  unfold dNotIn dInB at p
  split at p
  · rename_i b e
    split at e
    · rename_i p1 qs e1 e2
      split at e
      · rename_i hs; cases e
        exact .inl ⟨p1, qs, py_of rs rx e1, py_of rs ry e2, hs.1, hs.2, p ρ H _ Ex.refl rs (.bl _)⟩
      · cases e
    · rename_i p1 qs e1 e2
      split at e
      · rename_i hs; cases e
        exact .inr (.inl ⟨p1, qs, py_of rs rx e1, py_of rs ry e2, hs.1, hs.2, p ρ H _ Ex.refl rs (.bl _)⟩)
      · cases e
    · rename_i a b' e1 e2
      split at e
      · rename_i c ec
        cases e
        refine .inr (.inr ⟨c, b', ?_, str_of_py rs ry e2, p ρ H _ Ex.refl rs (.bl _)⟩)
        rw [str_of_py rs rx e1, str_one ec]
      · cases e
    · cases e
  · exact p.elim
/-! ### what kind a thing is of: a built-in type by its name -/
def kindD (d : D) (S : Store) : Option String := match d with
  | .non => some "NoneType"
  | .bl _ => some "bool"
  | .int _ => some "int"
  | .str _ => some "str"
  | .tup _ => some "tuple"
  | .lst _ => some "list"
  | .emp _ => some "dict"
  | .loc n => match S[n]? with
    | some (.lst _) => some "list"
    | some (.dK _) => some "dict"
    | some (.dT _) => some "dict"
    | _ => none
  | _ => none
def mIsi (T : String) (a : EM) : EM := fun env S => (a env S).bind fun d S1 => match kindD d S1 with
  | some k => match kitB k T with
    | some b => .ok (.bl b) S1
    | none => .stuck
  | none => .stuck
theorem kind_ty {l : List Addr} {ρ : List Addr} {H : Hp} {S : Store} {v : V} {d : D} {k : String} (rs : RS (g.hide l) ρ S H) (r : RD (g.hide l) ρ H v d) (h : kindD d S = some k) : TyX K H v (.type k) := by
  cases r with
  | non => cases h; exact .base .non
  | bl b => cases h; exact .base (.bl b)
  | int i => cases h; exact .base (.int i)
  | str s => cases h; exact .base (.str s)
  | tup h1 n r => cases h; exact .base (.tup h1)
  | lst h1 n r => cases h; exact .base (.lst h1)
  | scr n => cases h
  | empF h1 n => cases h; exact .fDict h1
  | empU h1 n => cases h; exact .base (.dK h1)
  | @loc n a hn =>
    simp only [kindD] at h
    split at h
    · rename_i zs e
      obtain ⟨vs, h1, h2⟩ := rs.ob n a _ hn e
      cases h; exact .base (.lst h1)
    · rename_i zs e
      obtain ⟨vs, h1, h2⟩ := rs.ob n a _ hn e
      cases h; exact .base (.dK h1)
    · rename_i zs e
      obtain ⟨vs, h1, h2⟩ := rs.ob n a _ hn e
      cases h; exact .base (.dT h1)
    · cases h
theorem sim_isi {T : String} {ta : TE} {a : EM} (ha : SimE g E ta a) : SimE g E (tCB (rIsi K) (tCons ta (tCons (tC (.ty T)) tNil))) (mIsi T a) := by
  intro l σ H Q ρ S env re rs p
  refine ha.bind re rs p fun d S1 ρ1 H1 v e1 rs1 rx re1 p1 => ?_
  split at p1
  · rename_i k ek
    split at p1
    · rename_i b eb
      exact ⟨v, .ty T, .type k, .type T, b, rfl, .ty T, kind_ty rs1 rx ek, kit_ty eb, p1 ρ1 H1 _ Ex.refl rs1 (.bl _)⟩
    · exact p1.elim
  · exact p1.elim
end
end Lg

namespace Lg
open PySem PySem.Spec L2
abbrev sEnv (qual : PySem.Str) (scope : Scope) (s : Shared) (f cda cc : Addr) : Env := PySem.W.ksEnv qual scope s.heap.objs.size f (.ref cda) cc
def cxS (P : Program) (w : World) (K : PySem.W.Frag) (mg : PySem.Str → Option Value) (base : Heap) (N : List PySem.Str) (qual : PySem.Str) (scope : Scope) (f cda cc : Addr) (A : Around) (outer : List Env) (s : Shared) (H : Hp) (E : XK) : Cx where
  prog := P
  w := w
  K := K
  mg := mg
  base := base
  A := A.deeper (sEnv qual scope s f cda cc)
  N := N
  s_0 := s
  H_0 := H
  env := sEnv qual scope s f cda cc
  outer := outer
  stack := sEnv qual scope s f cda cc :: outer
  ex := []
  calm := true
  fn := fun _ => false
  pn := []
  xe := fun e s' => wpAny (model P w) (A.deeper (sEnv qual scope s f cda cc)) (leaving (sEnv qual scope s f cda cc) e) (fun _ s'' => L2.CX P w outer H s E e s'') (fun e' s'' => L2.CX P w outer H s E e' s'') s'
structure ScS (N ps : List PySem.Str) (sc : Scope) : Prop where
  kind : sc.kind = .function
  co : sc.isCoroutine = false
  gen : sc.isGenerator = false
  nd : N.Nodup
  pre : N.take ps.length = ps
  par : ∀ x ∈ ps, sc.names.lookup x = some .local
  nocell : ∀ y ∈ sc.names, y.2 ≠ .cell
  free : ∀ y ∈ sc.names, y.2 = .free → y.1 = "__class__"
  su : sc.names.lookup ("super" : PySem.Str) = some .globalImplicit
  cl : sc.names.lookup ("__class__" : PySem.Str) = some .free
theorem zip_out {x : PySem.Str} : ∀ {ps : List PySem.Str} {us : List Value}, x ∉ ps → (ps.zip us).reverse.lookup x = none := by
  intro ps us h
  have : ∀ l : List (PySem.Str × Value), (∀ p ∈ l, p.1 ≠ x) → l.lookup x = none := by
    intro l
    induction l with
    | nil => intro _; rfl
    | cons p l ih =>
      intro q
      obtain ⟨k, v⟩ := p
      have q1 : k ≠ x := q (k, v) List.mem_cons_self
      rw [List.lookup_cons, show (x == k) = false by simpa using Ne.symm q1]
      exact ih fun p hp => q p (List.mem_cons_of_mem _ hp)
  refine this _ fun p hp e => h ?_
  have hp := List.mem_reverse.mp hp
  obtain ⟨k, v⟩ := p
  have e : k = x := e
  subst e
  exact (List.of_mem_zip hp).1
theorem zip_get {x : PySem.Str} {u : Value} : ∀ {ps : List PySem.Str} {us : List Value} {i : Nat}, ps.Nodup → ps[i]? = some x → us[i]? = some u → (ps.zip us).reverse.lookup x = some u
  | [], _, _, _, h, _ => by simp at h
  | _ :: _, [], _, _, _, h => by simp at h
  | p :: ps, v :: us, 0, nd, h1, h2 => by
    simp at h1 h2; subst h1; subst h2
    rw [List.zip_cons_cons, List.reverse_cons, List.lookup_append, zip_out (List.nodup_cons.mp nd).1]
    simp
  | p :: ps, v :: us, i + 1, nd, h1, h2 => by
    rw [List.zip_cons_cons, List.reverse_cons, List.lookup_append, zip_get (i := i) (List.nodup_cons.mp nd).2 (by simpa using h1) (by simpa using h2)]
    rfl
section
variable {P : Program} {w : World} {K : PySem.W.Frag} {mg : PySem.Str → Option Value} {base : Heap} {N ps : List PySem.Str} {qual : PySem.Str} {scope : Scope} {f cda cc : Addr} {A : Around} {outer : List Env} {s : Shared} {H : Hp} {E : XK} {us : List Value} {vs : List V}
theorem kind_sup {cl : List (PySem.Str × Addr)} (S : ScS N ps scope) {x : PySem.Str} (h : scope.names.lookup x = some .cell ∨ scope.names.lookup x = some .free) : x = "__class__" := by
  rcases h with h | h
  · exact absurd rfl (S.nocell _ (PySem.mem_of_lookup h))
  · exact S.free _ (PySem.mem_of_lookup h) rfl
theorem look1 {cc c : Addr} {x : PySem.Str} (h : ([("__class__", cc)] : List (PySem.Str × Addr)).lookup x = some c) : x = "__class__" ∧ c = cc := by
  rw [List.lookup_cons] at h
  by_cases e : x = "__class__"
  · subst e
    simp at h
    exact ⟨rfl, h.symm⟩
  · rw [show (x == ("__class__" : PySem.Str)) = false by simpa using e] at h
    cases h
theorem inv_startS (S : ScS N ps scope) {cl : Value} {cld : Option Addr} {csl : Array (Option Value)} {D : Addr} (hcell : K.lookup cc = some ⟨cl, cld, .cell (some (.ref D)), csl⟩) (hd : A.handled = none) (e0 : Env0 P w K mg base A outer s H) (hl : vs.length = ps.length) (r : Vals vs us)
    {h0 : Heap} {t : Nat} (hns : h0.Ns s.heap.objs.size (fun x => (ps.zip us).reverse.lookup x)) (hk : ∀ b o, s.heap.get? b = some o → h0.get? b = some o) :
    Inv (cxS P w K mg base N qual scope f cda cc A outer s H E) [] (L2.start N vs) H { s with heap := h0, toks := t } := by
  have hpl : ps.length ≤ N.length := by have := congrArg List.length S.pre; rw [List.length_take] at this; omega
  have noA : ∀ b : Addr, b ∉ (cxS P w K mg base N qual scope f cda cc A outer s H E).ex := fun b z => absurd (show b ∈ ([] : List Addr) from z) (by simp)
  have hB := e0.mod.kin _ _ hcell
  refine ⟨⟨e0.mod, S.kind, rfl, rfl, Nat.le_refl _, fun y z c h1 h2 => ?_, fun y hy => ?_, fun y c q h => ?_, fun _ => hd, Around.frames_deeper e0.frames, .inr ⟨rfl, rfl⟩, fun b z => absurd z (noA b), e0.bs, e0.bsz, fun b _ _ => noA b, fun b z => absurd z (noA b), e0.funs, e0.frf⟩,
    rfl, e0.bare, Un.kept hk, ⟨_, hns, fun i y v h1 h2 h3 => ?_⟩, fun y c h => ?_, e0.hok.fresh (Nat.le_refl _), fun y c h => ?_, fun p hp => absurd (show p ∈ ([] : List (Addr × Obj)) from hp) (by simp), e0.hok.kept hk, ?_⟩
  · rw [(look1 h1).1, (look1 h2).1]
  · rw [kind_sup (cl := []) S hy]
    exact ⟨cc, List.lookup_cons_self (k := PySem.Str.ofString "__class__")⟩
  · exact absurd (show false = true from q) (by decide)
  · have hi : i < vs.length := by
      unfold L2.start at h2
      by_cases hi : i < vs.length
      · exact hi
      · rw [List.getElem?_append_right (by simpa using hi)] at h2
        rw [List.getElem?_replicate] at h2
        split at h2 <;> cases h2
    have ha : vs[i]? = some v := by
      unfold L2.start at h2
      rw [List.getElem?_append_left (by simpa using hi), List.getElem?_map] at h2
      cases e : vs[i]? with
      | none => rw [e] at h2; cases h2
      | some a => rw [e] at h2; cases h2; rfl
    obtain ⟨u, hu, rv⟩ := r.get ha
    have hp : ps[i]? = some y := by
      rw [← S.pre, List.getElem?_take_of_lt (by omega)]; exact h1
    have ndP : ps.Nodup := by rw [← S.pre]; exact S.nd.sublist (List.take_sublist _ _)
    exact ⟨u, rv, .inl ⟨S.par y (List.mem_of_getElem? hp), zip_get ndP hp hu⟩⟩
  · obtain ⟨_, rfl⟩ := look1 h
    exact ⟨some (.ref D), _, hk _ _ (e0.bs _ _ hB).1, rfl⟩
  · obtain ⟨_, rfl⟩ := look1 h
    exact (e0.bs _ _ hB).2
  · unfold L2.start
    show _ = N.length
    rw [List.length_append, List.length_map, List.length_replicate]
    omega
end

/-- what the written part says, for super().__init__ in the own __init__ of the exception class at C -/
structure SupC (K : PySem.W.Frag) (prog : Program) (C cda cc : Addr) : Prop where
  T : OexC K C
  hm : PySem.W.ks_superIn K C C "__init__" = some (some (.builtin "ValueError.__init__"))
  hB : PySem.W.subIn K (.ref C) (.type "ValueError") = some true
  hsub : PySem.W.mroIn K C (.ref C) = some true
  ho : PySem.W.nsIn K cStatics "thirdparty.any" = some none
  code : ∃ ccl cdd vs ccs file tf, K.lookup cda = some ⟨ccl, cdd, .fields vs, ccs⟩ ∧ vs[2]? = some (.str file tf) ∧ ((prog.main.file : PySem.Str) == file) = true
  cell : ∃ cl cld csl, K.lookup cc = some ⟨cl, cld, .cell (some (.ref C)), csl⟩
  top : (prog.main.scope.names.lookup ("super" : PySem.Str)).isSome = false
theorem boot_super : bootBuiltins "super" = some (.type "super") := PyProof.Rows.Boot.super
section
variable {A : Around} {E : Value → Shared → Prop} {s : Shared}
/-- the wrapper called -/
theorem wrap_call {X : Cx} {pins : List (Addr × Obj)} {σ : L2.St} {H : Hp} {C a u : Addr} {rest : List Value} {Q : Value → Shared → Prop} (T : OexC X.K C) (I : Inv X pins σ H s) (e : H a = some (exo a C none)) (hu : s.heap.get? u = some (PySem.W.kxs_mw "ValueError.__init__" a)) (hz : rest.length ≤ sizeLine)
    (h : ∀ s', Inv X pins σ H s' → Q .none s') : wpAny (model X.prog X.w) A (call (.ref u) rest) Q E s := by
  obtain ⟨nm, q, N, bs, bm, sn, sub, ab, col, dd, k0, k1, k2, k3, k5, hC, hbm⟩ := T.cls
  obtain ⟨t1, ho⟩ := exo_at I.hok e
  have hC' := I.kIn _ _ hC
  obtain ⟨hh, g, d, tk, os⟩ := s
  refine wpAny_call (codeAny_of_tree ?_)
  show wpAny _ A.in1 (callAny (.ref u) ⟨rest, []⟩) _ _ _
  simp only [callAny]
  refine wpAny_bind (wpAny_load hu ?_)
  simp only [PySem.W.kxs_mw, show (Value.type "method-wrapper" == Value.type "method" || Value.type "method-wrapper" == Value.type "builtin_function_or_method" || Value.type "method-wrapper" == Value.type "method-wrapper") = true by decide, if_true]
  refine PySem.W.KFB.if_so (by decide) ?_
  refine wpAny_bind (PySem.W.check_bound_init F.excBase_ValueError.toExcCallFacts hC' ho rfl ?_)
  refine wpAny_bind (wpAny_pure (wpAny_pure ?_))
  refine ⟨plainId_quiet F.excBase_ValueError.init.plain _, codeAny_builtin F.excBase_ValueError.initEntry ?_⟩
  refine PySem.W.exc_init_tree (cls := .ref C) (t0 := t1) (dv := none) (c2 := .none) (c3 := .none) (b4 := .bool false) ho hz fun h' k hx _ => ?_
  have J := I.write (t' := tk) (x := a) (e := a) (o := exo a C none) (by rw [e]; exact True.intro) (.inl rfl) k ⟨_, hx⟩ (exo_ok hx)
  have eu : upd H a (exo a C none) = H := by
    funext b
    by_cases hb : b = a
    · rw [hb, upd_same, e]
    · rw [upd_ne hb]
  rw [eu] at J
  exact h _ J
end

section
variable {P : Program} {w : World} {K : PySem.W.Frag} {mg : PySem.Str → Option Value} {base : Heap}
theorem fn_super {N ps : List PySem.Str} {k : Nat} {sp : Sp} {f C cda cc : Addr} {name qual z : PySem.Str} {params : Arguments} {rest : List Stmt} {scope : Scope} {dV kV doc pm ct oc : Value} {an od : Option Addr} {osl : Array (Option Value)} {p0 p1 p2 p3 p4 p5 : Pos} {j : Nat} {ar : Arg}
    (lk : K.lookup f = some ⟨oc, od, .func (PySem.W.ksFn name qual params (.Expr (.Call (.Attribute (.Call (.Name "super" p0) [] [] p1) "__init__" p2) [.Constant (.str z) j p3] [] p4) p5 :: rest) scope dV kV doc pm an (.ref cda) ct cc), osl⟩)
    (hcd : PySem.W.codeIn K (.ref cda) qual = true) (S : ScS N ps scope) (U : SupC K P C cda cc) (hsu : mg "super" = none) (hp : (params.posonlyargs ++ params.args).head? = some ar) {pl : Shared → Sem Bool}
    (hev : ∀ s : Shared, eval (.Call (.Attribute (.Call (.Name "super" p0) [] [] p1) "__init__" p2) [.Constant (.str z) j p3] [] p4) (sEnv qual scope s f cda cc) = (do
      let ov ← attributeBase (.Call (.Name "super" p0) [] [] p1) "__init__" (sEnv qual scope s f cda cc) (eval (.Call (.Name "super" p0) [] [] p1) (sEnv qual scope s f cda cc))
      standAt p2.atName
      let (g, first) ← holding [ov] (getMethod ov "__init__" (pl s))
      callWith p4 g first (backTo p4 (starEach [.Constant (.str z) j p3] (sEnv qual scope s f cda cc))) []))
    (hps : ps.head? = some ar.arg)
    (len : ∀ vs H Q E, sp vs H Q E → vs.length = ps.length) (hself : ∀ vs H Q E, sp vs H Q E → ∃ a ws, vs = .ref a :: ws ∧ H a = some (exo a C none))
    (hbody : ∀ (A : Around) (outer : List Env) (s : Shared) (H : Hp) (vs : List V) (Q : VK) (E : XK), Room k (A.deeper (sEnv qual scope s f cda cc)) → sp vs H Q E →
      ∃ t, PSs (cxS P w K mg base N qual scope f cda cc A outer s H E) rest t ∧ t { nx := fun _ H' => Q .non H', rt := Q } (L2.start N vs) H) :
    FnOk P w K mg base (L2.CX P w) (k + 1) f (PySem.W.ksFn name qual params (.Expr (.Call (.Attribute (.Call (.Name "super" p0) [] [] p1) "__init__" p2) [.Constant (.str z) j p3] [] p4) p5 :: rest) scope dV kV doc pm an (.ref cda) ct cc) ps sp := by
  refine ⟨len, fun A outer s H args us vs Q E hr e0 hb r hsp => ?_⟩
  obtain ⟨a, ws, rfl, ha⟩ := hself _ _ _ _ hsp
  have hl := len _ _ _ _ hsp
  have KX : K.In s.heap := e0.mod.kin.keeps fun b o e => (e0.bs b o e).1
  have lim : s.heap.NoLimit := e0.mod.nolimit.keeps fun b o e => (e0.bs b o e).1
  obtain ⟨cl, cld, csl, hcell⟩ := U.cell
  obtain ⟨ccl, cdd, fvs, ccs, file, tf, hcode, hvs, hfile⟩ := U.code
  refine PySem.ks_codeAny_call_defAt (binds := ps.zip us) hr.depth (KX _ _ lk) rfl lim (PySem.W.codeRec_of KX hcd) rfl hb S.nocell (fun y hy => S.par _ (List.of_mem_zip (a := y.1) (b := y.2) hy).1) (fun h0 hns hk => ?_) S.co S.gen S.kind
  have I : Inv (cxS P w K mg base N qual scope f cda cc A outer s H E) [] (L2.start N (.ref a :: ws)) H ⟨h0, s.gens, s.drawn, s.toks + (ps.zip us).length, s.os⟩ := inv_startS S hcell hr.hd e0 hl r hns hk
  show _root_.PySem.wpAt (model P w) (A.deeper (sEnv qual scope s f cda cc)) (.func _ (sEnv qual scope s f cda cc)) (execs _ (sEnv qual scope s f cda cc)) _ _ _
  refine PySem.ks_wpAt_execs_cons ?_
  refine PySem.ks_wpAt_Expr_any ?_ (by unfold interactive; rw [show (sEnv qual scope s f cda cc).scope.kind = .function from S.kind]; rfl)
  refine PySem.ks_wpAt_MethodCall ?_ (hev s)
  obtain ⟨pr, rfl⟩ : ∃ pr, ps = ar.arg :: pr := by
    cases ps with
    | nil => cases hps
    | cons p pr => cases hps; exact ⟨pr, rfl⟩
  obtain ⟨ur, rfl⟩ : ∃ ur, us = .ref a :: ur := by
    cases r with
    | @cons _ u0 _ ur ra rr => obtain rfl : u0 = Value.ref a := ra; exact ⟨ur, rfl⟩
  have hv0 : ((ar.arg :: pr).zip (Value.ref a :: ur)).reverse.lookup ar.arg = some (.ref a) := zip_get (i := 0) (by rw [← S.pre]; exact S.nd.sublist (List.take_sublist _ _)) rfl rfl
  obtain ⟨nm, q, NN, bs, bm, sn, sub, ab, col, dd, k0, k1, k2, k3, k5, hC, hbm⟩ := U.T.cls
  have hcl : PySem.W.clsIn K C = some { name := nm, bases := bs, mro := .ref C :: bm, ns := NN, qualname := q, hasDict := true, slotNames := sn, subclasses := sub, abstract := ab, collection := col, hasDel := false } := by unfold PySem.W.clsIn; rw [hC] <;> rfl
  have hC1 := I.kIn _ _ hC
  obtain ⟨t1, hob⟩ := exo_at I.hok ha
  refine PySem.ks_wpAt_super_base (env := sEnv qual scope s f cda cc) S.su S.cl (by decide) rfl (I.kIn _ _ lk) rfl hp rfl (I.kIn _ _ hcode) rfl hvs hfile U.top ?_
  obtain ⟨mb, hb1, hb2⟩ := I.mod.blt
  refine PySem.W.ks_loadName_global S.kind S.su (Calls.loadGlobal_builtin (env := sEnv qual scope s f cda cc) (I.mod.glob.keeps I.bk) hsu (hb1.keeps I.bk) ((hb2 _ (by decide)).trans boot_super) ⟨rfl, ?_⟩)
  refine wpAny_loadName_free S.kind S.cl rfl ⟨_, I.kIn _ _ hcell, rfl⟩ ?_
  refine wpAny_loadName_local S.kind (S.par _ List.mem_cons_self) hns hv0 ?_
  refine ks_wpAny_isType_cls hC1 rfl ⟨rfl, ?_⟩
  refine ks_wpAny_call_super hC1 rfl hob rfl (fun c e => by cases e) (PySem.W.looks_mroIn I.kIn U.hsub) (fun h1 e1 k1 => ?_)
  have I1 : Inv (cxS P w K mg base N qual scope f cda cc A outer s H E) [] (L2.start N (.ref a :: ws)) H ⟨h1, s.gens, s.drawn, s.toks + ((ar.arg :: pr).zip (Value.ref a :: ur)).length, s.os⟩ := I.kept k1
  have hob1 := k1 _ _ hob
  have IA : PySem.W.InstAt h1 a { cls := .ref C, dict := none, data := .fields #[.ref t1, .none, .none, .none, .bool false, .none] } C none := ⟨hob1, rfl, rfl, trivial⟩
  have hm := U.hm
  unfold PySem.W.ks_superIn at hm
  rw [hcl] at hm
  refine PySem.W.kxs_getMethod PySem.W.kxs_ValueError e1 (PySem.W.looks_opaque I1.kIn U.ho) (l₀ := .ref C :: bm) (fun A Q E s k q => wpAny_bind ((PySem.W.looks_clsIn I1.kIn hcl) A _ E s k (wpAny_pure q))) rfl I1.kIn hm (IA.type.andThen (PySem.W.looks_subIn I1.kIn U.hB)) (PySem.W.ks_ne I1.kIn IA hcl) (by decide) ?_
  have I2 : Inv (cxS P w K mg base N qual scope f cda cc A outer s H E) [] (L2.start N (.ref a :: ws)) H ⟨h1.push (PySem.W.kxs_mw "ValueError.__init__" a), s.gens, s.drawn, s.toks + ((ar.arg :: pr).zip (Value.ref a :: ur)).length + 1, s.os⟩ := I1.kept fun b o e => Heap.get?_push_of_some _ e
  have hu2 : (h1.push (PySem.W.kxs_mw "ValueError.__init__" a)).get? h1.objs.size = some (PySem.W.kxs_mw "ValueError.__init__" a) := Heap.get?_push_at rfl rfl
  have I3 : Inv (cxS P w K mg base N qual scope f cda cc A outer s H E) [(h1.objs.size, PySem.W.kxs_mw "ValueError.__init__" a)] (L2.start N (.ref a :: ws)) H ⟨h1.push (PySem.W.kxs_mw "ValueError.__init__" a), s.gens, s.drawn, s.toks + ((ar.arg :: pr).zip (Value.ref a :: ur)).length + 1, s.os⟩ := by
    refine I2.pins_of fun p hp => ?_
    rw [List.mem_singleton.mp hp]
    exact ⟨hu2, I1.hok.fresh (Nat.le_refl _), Nat.ne_of_gt I1.lt, I1.nofs (Nat.le_refl _), fun v z => by cases z⟩
  refine PySem.W.kxs_callWith (i := "ValueError.__init__") (x := a) rfl ?_
  refine Calls.evalArgs_plain ?_
  refine wpAny_mono ((pa_cons (X := cxS P w K mg base N qual scope f cda cc A outer s H E) pe_str pa_nil).run p4 _ _ _ H (fun vs H' => H' = H ∧ vs = [.str z]) I3 ⟨rfl, rfl⟩) (fun us1 s3 hs3 => ?_) fun _ _ x => x
  obtain ⟨vs3, H3, I4, r3, e3, rfl⟩ := hs3
  rw [e3] at I4
  have hu4 := (I4.pin _ (List.mem_append_right _ (List.mem_singleton.mpr rfl))).1
  refine ⟨hu4, ?_⟩
  have hl3 : us1.length ≤ sizeLine := by
    rw [← Paired.length r3, sizeLine_eq]
    show 1 ≤ _
    omega
  refine wrap_call (X := cxS P w K mg base N qual scope f cda cc A outer s H E) U.T I4 ha hu4 hl3 fun s5 I5 => ?_
  refine wpAt_of_wpAny ?_
  obtain ⟨t, ht, hq⟩ := hbody A outer s H (.ref a :: ws) Q E (hr.deeper _) hsp
  have I6 : Inv (cxS P w K mg base N qual scope f cda cc A outer s H E) [] (L2.start N (.ref a :: ws)) H s5 := I5.pins_of fun p hp => absurd hp (by simp)
  refine wpAny_mono (ht.run [] s5 _ _ _ I6 hq) (fun fl s' hs => ?_) fun e s' hs => hs
  have fin : ∀ {σ' : L2.St} {H' : Hp} {v : V} {u : Value}, Inv (cxS P w K mg base N qual scope f cda cc A outer s H E) [] σ' H' s' → RelV v u → Q v H' → CE outer P w H s Q u s' :=
    fun {σ' H' v u} J rv q => ⟨v, H', J.os, J.bare, J.base, J.hok, rv, q⟩
  cases fl with
  | ret u =>
    obtain ⟨v, σ', H', J, rv, q⟩ := hs
    exact fin J rv q
  | next =>
    obtain ⟨σ', H', J, q⟩ := hs
    exact fin (v := V.non) (u := Value.none) J rfl q
  | brk =>
    obtain ⟨_, _, _, q⟩ := hs
    exact False.elim q
  | cont =>
    obtain ⟨_, _, _, q⟩ := hs
    exact False.elim q
end
end Lg

namespace Lg
open PySem PySem.Spec L2

/-! ### self.f = v within an own exception's __init__ -/
def putX (f : PySem.Str) (y : D) (n c : Nat) (S : Store) : Option Store := match S[n]? with
  | some (.exc c' none) => if c' = c then some ((S ++ [Ob.xd [(f, y)]]).set n (Ob.exc c (some S.length))) else none
  | some (.exc c' (some m)) => if c' = c then match S[m]? with
    | some (.xd fs) => if fs.length ≤ 900 then some (S.set m (.xd ((f, y) :: fs))) else none
    | _ => none
    else none
  | _ => none
def sFldX (c : Nat) (f : PySem.Str) (o a : EM) : SM := fun env S => (a env S).bindS fun y S1 => (o env S1).bindS fun d S2 => match d with
  | .loc n => match putX f y n c S2 with
    | some S3 => .next env S3
    | none => .stuck
  | _ => .stuck
theorem kv1 {g : G} {ρ : List Addr} {H : Hp} {f : PySem.Str} {v : V} {d : D} {fv : List (PySem.Str × V)} {fs : List (PySem.Str × D)} (r : RD g ρ H v d) (t : RKV g ρ H fv fs) : RKV g ρ H ((f, v) :: fv) ((f, d) :: fs) := .cons ⟨rfl, r⟩ t
section
variable {g : G} {E : XK} {K : PySem.W.Frag}
theorem sims_fldX {c : Nat} {f : PySem.Str} {to te : TE} {o a : EM} (T : OexC K (g.cls c)) (na : PySem.W.findIn K (.ref (g.cls c)) f = some none) (ho : SimE g E to o) (ha : SimE g E te a) : SimS g E (tOst K f to te) (sFldX c f o a) := by
  intro l D' σ H ρ S env re rs p
  refine ha.bindS re rs p fun y S1 ρ1 H1 v e1 rs1 ry re1 p1 => ?_
  refine ho.bindS re1 rs1 p1 fun d S2 ρ2 H2 u e2 rs2 rd re2 p2 => ?_
  cases rd with
  | @loc n ad hn =>
    dsimp only at p2
    unfold putX at p2
    cases e : S2[n]? with
    | none => rw [e] at p2; exact p2.elim
    | some ob =>
      rw [e] at p2
      have ob2 := rs2.ob n ad _ hn e
      refine ⟨ad, g.cls c, rfl, T, ?_⟩
      cases ob with
      | exc c' dd =>
        cases dd with
        | none =>
          by_cases q : c' = c
          · subst q
            simp only [if_true] at p2
            refine ⟨na, .inl ⟨ob2, fun dx hdx ne => ?_⟩⟩
            obtain ⟨e3, rs3⟩ := rs2.push (o := exd dx [(f, v)]) (ob := .xd [(f, y)]) hdx fun ρ' H' e' q' => ⟨[(f, v)], q', kv1 ((ry.mono e2).mono e') .nil⟩
            obtain ⟨e4, rs4⟩ := rs3.put (o := exo ad (g.cls c') (some dx)) (ob := .exc c' (some S2.length)) (e3.at hn) fun H' e' q' => ⟨dx, by rw [← rs2.len]; simp, q'⟩
            exact p2 _ _ σ (e3.trans e4) rs4 ((re2.mono e3).mono e4)
          · simp only [if_neg q] at p2; exact p2.elim
        | some m =>
          by_cases q : c' = c
          · subst q
            simp only [if_true] at p2
            obtain ⟨dx, hm, hx⟩ := ob2
            cases e5 : S2[m]? with
            | none => rw [e5] at p2; exact p2.elim
            | some ob5 =>
              rw [e5] at p2
              cases ob5 with
              | xd fs =>
                dsimp only at p2
                by_cases hz : fs.length ≤ 900
                · rw [if_pos hz] at p2
                  obtain ⟨fv, h1, h2⟩ := rs2.ob m dx _ hm e5
                  obtain ⟨e4, rs4⟩ := rs2.put (o := exd dx ((f, v) :: fv)) (ob := .xd ((f, y) :: fs)) hm fun H' e' q' => ⟨_, q', kv1 ((ry.mono e2).mono e') (h2.mono e')⟩
                  exact ⟨na, .inr ⟨dx, fv, hx, h1, by rw [h2.length]; exact hz, p2 _ _ σ e4 rs4 (re2.mono e4)⟩⟩
                · rw [if_neg hz] at p2; exact p2.elim
              | _ => exact p2.elim
          · simp only [if_neg q] at p2; exact p2.elim
      | _ => exact p2.elim
  | _ => exact p2.elim
end

/-! ### C(e, ..) as a value -/
def tMkV (C : Addr) (sp : Sp) (dvs : List V) (ta : TA) : TE := fun σ H Q => ta σ H fun vs H1 => vs.length ≤ 1000 ∧ ∀ a, H1 a = none → sp (.ref a :: (vs ++ dvs)) (upd H1 a (exo a C none)) (fun v H2 => v = .non ∧ Q (.ref a) H2) E0
def mMkX (c : Nat) (f : List D → Store → Res D) (dd : List D) (as : AM) : EM := fun env S => (as env S).bind fun ds S1 => if ds.length ≤ 1000 then match f (.loc S1.length :: (ds ++ dd)) (S1 ++ [.exc c none]) with
  | .ok .non S2 => .ok (.loc S1.length) S2
  | _ => .stuck
  else .stuck
section
variable {g : G} {E : XK} {K : PySem.W.Frag}
theorem sim_mkX {n c : Nat} {f : List D → Store → Res D} {tas : TA} {as : AM} {dvs : List V} {dd : List D} (hf : Ar n f) (hd : ∀ l ρ H, RDs (g.hide l) ρ H dvs dd) (has : SimA g E tas as) : SimE g E (tMkV (g.cls c) (spOf g n f) dvs tas) (mMkX c f dd as) := by
  intro l σ H Q ρ S env re rs p
  refine has.bind re rs p fun ds S1 ρ1 H1 vs e1 rs1 rx re1 p1 => ?_
  by_cases hz : ds.length ≤ 1000
  · rw [if_pos hz] at p1
    refine ⟨by rw [rx.length]; exact hz, fun a ha => ?_⟩
    obtain ⟨e3, rs3⟩ := rs1.push (o := exo a (g.cls c) none) (ob := .exc c none) ha fun ρ' H' e' q => q
    have rself : RD (g.hide l) (ρ1 ++ [a]) (upd H1 a (exo a (g.cls c) none)) (.ref a) (.loc S1.length) := .loc (by rw [← rs1.len]; simp)
    refine sp_go hf (.cons rself ((rx.mono e3).append (hd l _ _))) rs3 ?_
    have p2 := PostE.ex p1 e3
    split at p2
    · rename_i S2 e
      rw [e]
      intro ρ' H' u e4 rs4 ru
      cases ru with
      | non => exact ⟨rfl, p2 ρ' H' _ e4 rs4 (.loc (e4.at (by rw [← rs1.len]; simp)))⟩
    · exact p2.elim
  · rw [if_neg hz] at p1; exact p1.elim
end
section
variable {X : Cx} {x : PySem.Str} {e : Expr} {es : List Expr} {ta : TA} {p pos : Pos}
/-- the rule: positional -/
theorem pe_mkV {k : Nat} {C fI : Addr} {fd : FuncData} {ps : List PySem.Str} {sp : Sp} {ds : List Value} {dvs : List V} (T : OexC X.K C) (iC : PySem.W.findIn X.K (.ref C) "__init__" = some (some (.ref fI))) (tI : PySem.W.typeIn X.K (.ref fI) = some (.type "function"))
    (F1 : FnOk X.prog X.w X.K X.mg X.base (L2.CX X.prog X.w) k fI fd ps sp) (hr : Room (k + 1) X.A) (hb : Binds X.K fd ps ds) (hd : Vals dvs ds) (hg : Gl X x) (hm : X.mg x = some (.ref C)) (ha : PA X (e :: es) ta)
    (hdb : (x == ("__debug__" : PySem.Str)) = false := by decide) (he : starEach (e :: es) X.env = (false, eval e X.env) :: starEach es X.env := by rfl) (hpl : (backTo pos (starEach es X.env)).any (·.1) = false := by rfl) :
    PE X (.Call (.Name x p) (e :: es) [] pos) (tMkV C sp dvs ta) := by
  refine ⟨fun pins s σ H Q I h => ?_⟩
  obtain ⟨nm, q, N, bs, bm, sn, sub, ab, col, dd, k0, k1, k2, k3, k5, hC, hbm⟩ := T.cls
  refine wpAny_Call_Name_kw (ld_glob I hg hm ?_ hdb)
  refine PySem.W.callWith_K (h₀ := X.base) I.ok.mod.kin T.kC (thn (ha.run pos pins s σ H _ I h) fun us s1 ⟨vs, H1, I1, r1, hz, q1⟩ => ⟨I1.kIn, ?_⟩) he hpl
  show wpAny _ _ (call (.ref C) us) _ _ _
  obtain ⟨hp, gg, dr, tk, os⟩ := s1
  have hsz : hp.objs.size ≤ hp.objs.size + 1 := Nat.le_succ _
  have hq := q1 (hp.objs.size + 1) (I1.hok.fresh hsz)
  have kk : ∀ b o, hp.get? b = some o → ((hp.push (PySem.W.kdv_tup us)).push (PySem.HandSPX.excO C hp.objs.size)).get? b = some o := fun b o e => Heap.get?_push_of_some _ (Heap.get?_push_of_some _ e)
  have I2 : Inv X pins σ (upd H1 (hp.objs.size + 1) (exo (hp.objs.size + 1) C none)) ⟨(hp.push (PySem.W.kdv_tup us)).push (PySem.HandSPX.excO C hp.objs.size), gg, dr, tk, os⟩ :=
    I1.laid (t' := tk) kk hsz (exo_ok (t1 := hp.objs.size) (by heap_get))
  have r2 : Vals (V.ref (hp.objs.size + 1) :: (vs ++ dvs)) (Value.ref (hp.objs.size + 1) :: (us ++ ds)) := .cons rfl (r1.append hd)
  have hl : (Value.ref (hp.objs.size + 1) :: us ++ ds).length = ps.length := r2.length.symm.trans (F1.len _ _ _ _ hq)
  have hus : us.length ≤ sizeLine := by
    rw [← Paired.length r1, sizeLine_eq]
    omega
  refine wpAny_call (PySem.HandSPX.call_own F.excBase_ValueError (fun Y => PySem.HandSPX.refsVE_contains Y bm hbm) (I1.kIn _ _ hC) (PySem.W.looks_findIn I1.kIn iC) (fun self => PySem.W.bind_fn I1.kIn self tI) hus ?_)
  refine codeAny_mono (F1.run _ X.stack _ _ ⟨Value.ref (hp.objs.size + 1) :: us, []⟩ (Value.ref (hp.objs.size + 1) :: (us ++ ds)) _ _ E0 (hr.make C us []) (I2.env0.make C us []) (hb _ (Value.ref (hp.objs.size + 1) :: us) I2.kIn hl) r2 hq) fun r s' hq' => ?_
  cases r with
  | error er => exact passL pins σ _ _ er s' I2 hq'
  | ok fl =>
    cases fl with
    | ret u =>
      obtain ⟨v, H', I3, rv, ev, q3⟩ := I2.after hq'
      subst ev
      exact ⟨rv, ⟨V.ref (hp.objs.size + 1), H', I3, rfl, q3⟩⟩
    | next => exact False.elim hq'
    | brk => exact False.elim hq'
    | cont => exact False.elim hq'
end

/-! ### C(k = e, ..) -/
section
variable {prog : Program} {w : World} {A : Around} {E : Value → Shared → Prop} {M : Model} {R : Result → Shared → Prop} {h : Heap} {g : Array GenState} {d : Drawn} {t : Nat} {os : OsState}
variable {nm q : PySem.Str} {C N : Addr} {bs bm bmB : List Value} {hdct : Bool} {sn : List PySem.Str} {sub : List Value} {ab : Bool} {col : Option Bool} {dd : Option Addr} {k0 k1 k2 k3 k5 : Option Value} {B newId initId : String}
theorem newK_check (F : ExcBaseFacts B newId initId bmB) (hT : ∀ X : String, bm.contains (.type X) = bmB.contains (.type X)) {rest : List Value} {kw : List (PySem.Str × Value)} {Q : Unit → Shared → Prop}
    (hC : h.get? C = some (excClassObj nm q C N bs bm hdct sn sub ab col dd k0 k1 k2 k3 k5 newId)) (hq : Q () ⟨h, g, d, t, os⟩) : wpAny M A (checkBuiltinCall newId ⟨.ref C :: rest, kw⟩) Q E ⟨h, g, d, t, os⟩ := by
  have i1 : (Value.ref C :: bm).contains (.type B) = true := by rw [List.contains_cons, hT, F.hasB, Bool.or_true]
  have i2 := F.noStar
  simp only [checkBuiltinCall, F.newKind, F.newSplit, F.newRow]
  repeat (first
    | refine wpAny_loadPart_at hC ?_
    | (refine wpAny_isSubtype_exc hC ?_; rw [i1])
    | refine wpAny_staticBase_exc hC ?_
    | refine wpAny_madeBy_exc hC ?_
    | simp only [bne_self_eq_false, Bool.false_eq_true, if_false]
    | wp_step)
  all_goals exact hq
end
section
variable {prog : Program} {w : World} {A : Around} {E : Value → Shared → Prop} {R : Result → Shared → Prop} {h : Heap} {g : Array GenState} {d : Drawn} {t : Nat} {os : OsState}
variable {nm q : PySem.Str} {C N : Addr} {bs bm bmB : List Value} {hdct : Bool} {sn : List PySem.Str} {sub : List Value} {ab : Bool} {col : Option Bool} {dd : Option Addr} {k0 k1 k2 k3 k5 : Option Value} {B newId initId : String}
theorem newK_run (F : ExcBaseFacts B newId initId bmB) (hT : ∀ X : String, bm.contains (.type X) = bmB.contains (.type X)) {rest : List Value} {kw : List (PySem.Str × Value)}
    (hC : h.get? C = some (excClassObj nm q C N bs bm hdct sn sub ab col dd k0 k1 k2 k3 k5 newId)) (hz : rest.length ≤ sizeLine)
    (hq : R (.ok (.ret (.ref (h.objs.size + 1)))) ⟨(h.push (PySem.W.kdv_tup rest)).push (PySem.HandSPX.excO C h.objs.size), g, d, t, os⟩) :
    codeAny (model prog w) A (.builtin newId ⟨.ref C :: rest, kw⟩) R ⟨h, g, d, t, os⟩ := by
  have i0 := F.ends
  have i1 : (Value.ref C :: bm).contains (.type B) = true := by rw [List.contains_cons, hT, F.hasB, Bool.or_true]
  have i2 : (Value.ref C :: bm).contains (.type "AttributeError") = false := by rw [List.contains_cons, hT, F.noAttr] <;> rfl
  have i3 : (Value.ref C :: bm).contains (.type "NameError") = false := by rw [List.contains_cons, hT, F.noName] <;> rfl
  refine codeAny_builtinAt F.entry ?_
  unfold Builtin.«BaseException.__new__»
  refine wpAt_bind ?_
  show wpAt _ _ _ (stack >>= _) _ _ _
  refine wpAt_bind (wpAt_stack fun p below => wpAt_of_wpAny ?_)
  wp_walk
  refine wpAt_of_wpAny ?_
  rw [F.owner]
  repeat (first
    | with_reducible refine wpAny_madeHere_exc F.canon hC ?_
    | with_reducible refine wpAny_loadPart_at hC ?_
    | (with_reducible refine wpAny_isSubtype_exc hC ?_; first | rw [i1] | rw [i2] | rw [i3])
    | wp_step)
  show R _ _
  rw [Heap.size_push]
  exact hq
theorem tcK (F : ExcBaseFacts B newId initId bmB) (hT : ∀ X : String, bm.contains (.type X) = bmB.contains (.type X)) {rest : List Value} {kw : List (PySem.Str × Value)} {fI : Addr} {Q : Fin → Shared → Prop}
    (hC : h.get? C = some (excClassObj nm q C N bs bm hdct sn sub ab col dd k0 k1 k2 k3 k5 newId)) (hi : PySem.W.Looks (model prog w) h (typeLookup (.ref C) "__init__") (some (.ref fI)))
    (hb : ∀ self, PySem.W.Looks (model prog w) h (bindSpecial (.ref fI) self) (.ref fI, [self])) (hz : rest.length ≤ sizeLine)
    (hq : codeAny (model prog w) A (.call (.ref fI) ⟨.ref (h.objs.size + 1) :: rest, kw⟩)
      (fun r s' => match r with | .ok (.ret v) => v = .none ∧ Q (.done (.ret (.ref (h.objs.size + 1)))) s' | .ok _ => False | .error e => E e s')
      ⟨(h.push (PySem.W.kdv_tup rest)).push (PySem.HandSPX.excO C h.objs.size), g, d, t, os⟩) : wpAny (model prog w) A (Builtin.«type.__call__» ⟨.ref C :: rest, kw⟩) Q E ⟨h, g, d, t, os⟩ := by
  repeat (first
    | with_reducible refine wpAny_loadPart_at hC ?_
    | with_reducible refine wpAny_madeBy_exc hC ?_
    | wp_step)
  refine codeAny_call_builtin_code (Code.quiet_builtin _ F.quiet) (newK_check F hT hC ?_)
  refine newK_run F hT hC hz ?_
  show wpAny _ _ _ _ _ _
  have k : ∀ b o, h.get? b = some o → ((h.push (PySem.W.kdv_tup rest)).push (PySem.HandSPX.excO C h.objs.size)).get? b = some o := fun b o e => Heap.get?_push_of_some _ (Heap.get?_push_of_some _ e)
  have kC := k _ _ hC
  have kN : ((h.push (PySem.W.kdv_tup rest)).push (PySem.HandSPX.excO C h.objs.size)).get? (h.objs.size + 1) = some (PySem.HandSPX.excO C h.objs.size) := by heap_get
  have cC : (Value.ref C :: bm).contains (.ref C) = true := by simp
  unfold isInstance
  repeat (first
    | with_reducible refine wpAny_loadPart_at kN ?_
    | (with_reducible refine wpAny_isSubtype_exc kC ?_; rw [cC])
    | wp_step)
  show wpAny _ _ (typeLookup (.ref C) _) _ _ _
  refine (hi.keeps k).at ?_
  refine wpAny_holding (wpAny_bind (((hb (.ref (h.objs.size + 1))).keeps k).at ?_))
  refine wpAny_bind (wpAny_call (codeAny_mono hq fun r s' z => ?_))
  rcases r with e | (v | _ | _ | _) <;> first | exact z | exact z.elim | skip
  obtain ⟨rfl, z⟩ := z
  first
    | exact wpAny_pure (wpAny_pure z)
    | (wp_walk; exact z)
theorem tcK_check {M : Model} {rest : List Value} {kw : List (PySem.Str × Value)} {Q : Unit → Shared → Prop} (hC : h.get? C = some (excClassObj nm q C N bs bm hdct sn sub ab col dd k0 k1 k2 k3 k5 newId)) (hq : Q () ⟨h, g, d, t, os⟩) :
    wpAny M A (checkBuiltinCall "type.__call__" ⟨.ref C :: rest, kw⟩) Q E ⟨h, g, d, t, os⟩ := by
  have i1 := tc_sub
  have i2 : (⟨h, g, d, t, os⟩ : Shared).TypeIs (.ref C) "type" := ⟨_, hC, rfl⟩
  simp only [checkBuiltinCall, tc_kind, tc_split]
  repeat (any_goals (first
    | assumption
    | with_reducible refine wpAny_loadPart_at hC ?_
    | with_reducible refine wpAny_onRaise ?_
    | with_reducible refine wpAny_map ?_
    | wp_step))
theorem callK (F : ExcBaseFacts B newId initId bmB) (hT : ∀ X : String, bm.contains (.type X) = bmB.contains (.type X)) {rest : List Value} {kw : List (PySem.Str × Value)} {fI : Addr}
    (hC : h.get? C = some (excClassObj nm q C N bs bm hdct sn sub ab col dd k0 k1 k2 k3 k5 newId)) (hi : PySem.W.Looks (model prog w) h (typeLookup (.ref C) "__init__") (some (.ref fI)))
    (hb : ∀ self, PySem.W.Looks (model prog w) h (bindSpecial (.ref fI) self) (.ref fI, [self])) (hz : rest.length ≤ sizeLine)
    (hq : codeAny (model prog w) (A.under (.builtin "type.__call__" ⟨.ref C :: rest, kw⟩)) (.call (.ref fI) ⟨.ref (h.objs.size + 1) :: rest, kw⟩) (PySem.W.InitBack (h.objs.size + 1) R)
      ⟨(h.push (PySem.W.kdv_tup rest)).push (PySem.HandSPX.excO C h.objs.size), g, d, t, os⟩) : codeAny (model prog w) A (.call (.ref C) ⟨rest, kw⟩) R ⟨h, g, d, t, os⟩ := by
  have f1 := tc_lookup
  have f2 := tc_bind (.ref C)
  have hTy : (⟨h, g, d, t, os⟩ : Shared).TypeIs (.ref C) "type" := ⟨_, hC, rfl⟩
  refine codeAny_of_tree ?_
  show wpAny _ _ (callAny (.ref C) _) _ _ _
  repeat (any_goals (first | assumption | with_reducible refine wpAny_loadPart_at hC ?_ | wp_step))
  refine ⟨rfl, ?_⟩
  refine codeAny_call_builtin_at (Code.quiet_builtin _ (by decide +kernel)) entry_typeCall (tcK_check hC (tcK F hT hC hi hb hz ?_))
  refine codeAny_mono hq fun r s' z => ?_
  rcases r with e | (v | _ | _ | _) <;> exact z
end

def tMkVk (C : Addr) (m : Nat) (sp : Sp) (gV : List V → List V → List V) (tk : TA) : TE := fun σ H Q => tk σ H fun zs H1 => zs.length = m ∧ ∀ a, H1 a = none → sp (gV [.ref a] zs) (upd H1 a (exo a C none)) (fun v H2 => v = .non ∧ Q (.ref a) H2) E0
section
variable {X : Cx} {x : PySem.Str} {kws : List Keyword} {tk : TA} {p pos : Pos}
theorem pe_mkVk {k : Nat} {C fI : Addr} {fd : FuncData} {ps ks : List PySem.Str} {sp : Sp} {gg : List Value → List Value → List Value} {gV : List V → List V → List V} (T : OexC X.K C) (iC : PySem.W.findIn X.K (.ref C) "__init__" = some (some (.ref fI))) (tI : PySem.W.typeIn X.K (.ref fI) = some (.type "function"))
    (F1 : FnOk X.prog X.w X.K X.mg X.base (L2.CX X.prog X.w) k fI fd ps sp) (hr : Room (k + 1) X.A) (hb : KBn X.K fd ps 1 ks gg gV) (hg : Gl X x) (hm : X.mg x = some (.ref C)) (hkw : PK X kws tk)
    (hall : (backToKw pos (keywordEach kws X.env)).all (·.1.isSome) = true := by rfl) (hks : (backToKw pos (keywordEach kws X.env)).filterMap (·.1) = ks := by rfl)
    (hdb : (x == ("__debug__" : PySem.Str)) = false := by decide) (hpl : ((backTo pos (starEach [] X.env)).any (·.1) || (backToKw pos (keywordEach kws X.env)).any (·.1.isNone)) = false := by rfl) :
    PE X (.Call (.Name x p) [] kws pos) (tMkVk C ks.length sp gV tk) := by
  refine ⟨fun pins s σ H Q I h => ?_⟩
  obtain ⟨nm, q, N, bs, bm, sn, sub, ab, col, dd, k0, k1, k2, k3, k5, hC, hbm⟩ := T.cls
  refine wpAny_Call_Name_kw (ld_glob I hg hm ?_ hdb)
  refine PySem.W.callWith_KW0 (h₀ := X.base) I.ok.mod.kin T.kC hall (thn (hkw.run pos pins s σ H _ I h) fun ws s1 ⟨zs, H1, I1, r1, hz, q1⟩ => ⟨I1.kIn, ?_⟩) hpl
  rw [hks]
  show wpAny _ _ (call (.ref C) [] (ks.zip ws)) _ _ _
  obtain ⟨hp, gs, dr, tk, os⟩ := s1
  have hsz : hp.objs.size ≤ hp.objs.size + 1 := Nat.le_succ _
  have hq := q1 (hp.objs.size + 1) (I1.hok.fresh hsz)
  have kk : ∀ b o, hp.get? b = some o → ((hp.push (PySem.W.kdv_tup [])).push (PySem.HandSPX.excO C hp.objs.size)).get? b = some o := fun b o e => Heap.get?_push_of_some _ (Heap.get?_push_of_some _ e)
  have I2 : Inv X pins σ (upd H1 (hp.objs.size + 1) (exo (hp.objs.size + 1) C none)) ⟨(hp.push (PySem.W.kdv_tup [])).push (PySem.HandSPX.excO C hp.objs.size), gs, dr, tk, os⟩ :=
    I1.laid (t' := tk) kk hsz (exo_ok (t1 := hp.objs.size) (by heap_get))
  have rs : Vals [V.ref (hp.objs.size + 1)] [Value.ref (hp.objs.size + 1)] := .cons rfl .nil
  refine wpAny_call (callK F.excBase_ValueError (fun Y => PySem.HandSPX.refsVE_contains Y bm hbm) (I1.kIn _ _ hC) (PySem.W.looks_findIn I1.kIn iC) (fun self => PySem.W.bind_fn I1.kIn self tI) (Nat.zero_le _) ?_)
  refine codeAny_mono (F1.run _ X.stack _ _ ⟨[Value.ref (hp.objs.size + 1)], ks.zip ws⟩ (gg [Value.ref (hp.objs.size + 1)] ws) _ _ E0 (hr.make C [] (ks.zip ws)) (I2.env0.make C [] (ks.zip ws)) (hb.to _ [Value.ref (hp.objs.size + 1)] ws I2.kIn rfl (r1.length.symm.trans hz)) (hb.rel rs r1) hq) fun r s' hq' => ?_
  cases r with
  | error er => exact passL pins σ _ _ er s' I2 hq'
  | ok fl =>
    cases fl with
    | ret u =>
      obtain ⟨v, H', I3, rv, ev, q3⟩ := I2.after hq'
      subst ev
      exact ⟨rv, ⟨V.ref (hp.objs.size + 1), H', I3, rfl, q3⟩⟩
    | next => exact False.elim hq'
    | brk => exact False.elim hq'
    | cont => exact False.elim hq'
end
def mMkXk (c m : Nat) (f : List D → Store → Res D) (gD : List D → List D → List D) (as : AM) : EM := fun env S => (as env S).bind fun ds S1 => if ds.length = m then match f (gD [.loc S1.length] ds) (S1 ++ [.exc c none]) with
  | .ok .non S2 => .ok (.loc S1.length) S2
  | _ => .stuck
  else .stuck
theorem sim_mkXk {g : G} {E : XK} {n c m : Nat} {f : List D → Store → Res D} {tas : TA} {as : AM} {gV : List V → List V → List V} {gD : List D → List D → List D} (hf : Ar n f) (hrel : ∀ {l : List Addr} {ρ : List Addr} {H : Hp} {vs zs : List V} {ds es : List D}, RDs (g.hide l) ρ H vs ds → RDs (g.hide l) ρ H zs es → RDs (g.hide l) ρ H (gV vs zs) (gD ds es)) (has : SimA g E tas as) :
    SimE g E (tMkVk (g.cls c) m (spOf g n f) gV tas) (mMkXk c m f gD as) := by
  intro l σ H Q ρ S env re rs p
  refine has.bind re rs p fun ds S1 ρ1 H1 vs e1 rs1 rx re1 p1 => ?_
  by_cases hz : ds.length = m
  · rw [if_pos hz] at p1
    refine ⟨by rw [rx.length]; exact hz, fun a ha => ?_⟩
    obtain ⟨e3, rs3⟩ := rs1.push (o := exo a (g.cls c) none) (ob := .exc c none) ha fun ρ' H' e' q => q
    have rself : RD (g.hide l) (ρ1 ++ [a]) (upd H1 a (exo a (g.cls c) none)) (.ref a) (.loc S1.length) := .loc (by rw [← rs1.len]; simp)
    refine sp_go hf (hrel (.cons rself .nil) (rx.mono e3)) rs3 ?_
    have p2 := PostE.ex p1 e3
    split at p2
    · rename_i S2 e
      rw [e]
      intro ρ' H' u e4 rs4 ru
      cases ru with
      | non => exact ⟨rfl, p2 ρ' H' _ e4 rs4 (.loc (e4.at (by rw [← rs1.len]; simp)))⟩
    · exact p2.elim
  · rw [if_neg hz] at p1; exact p1.elim

/-! ### an exception class without an own __init__ -/
def mEx0 (c : Nat) (as : EM) : EM := fun env S => (as env S).bind fun _ S1 => .ok (.loc S1.length) (S1 ++ [.ex0 c])
theorem sim_ex0 {g : G} {E : XK} {c : Nat} {ta : TE} {a : EM} (ha : SimE g E ta a) : SimE g E (fun σ H Q => ta σ H fun _ H1 => ∀ a, H1 a = none → Q (.ref a) (upd H1 a (ExO (.ref (g.cls c)) a))) (mEx0 c a) := by
  intro l σ H Q ρ S env re rs p
  refine ha.bind re rs p fun d S1 ρ1 H1 v e1 rs1 rx re1 p1 => ?_
  intro a hn
  obtain ⟨e3, rs3⟩ := rs1.push (o := ExO (.ref (g.cls c)) a) (ob := .ex0 c) hn fun ρ' H' e' q => q
  exact p1 _ _ _ e3 rs3 (.loc (by rw [← rs1.len]; simp))

/-! ### e.f of an exception -/
def tXg (K : PySem.W.Frag) (f : PySem.Str) (te : TE) : TE := fun σ H Q => te σ H fun x H1 => ∃ (a C dx : Addr) (fs : List (PySem.Str × V)) (v : V), x = .ref a ∧ H1 a = some (exo a C (some dx)) ∧ H1 dx = some (exd dx fs) ∧ fs.lookup f = some v ∧ XfC K C ∧ PySem.W.findIn K (.ref C) f = some none ∧ Q v H1
theorem pe_xg {X : Cx} {e : Expr} {te : TE} {pos : Pos} {n : PySem.Str} (he : PE X e te) (hb : attributeBase e n X.env (eval e X.env) = eval e X.env := by rfl) : PE X (.Attribute e n pos) (tXg X.K n te) := by
  refine ⟨fun pins s σ H Q I h => ?_⟩
  refine attr_of hb (thn (he.run pins s σ H _ I h) fun u s1 hh => ?_)
  obtain ⟨x, H1, I1, rx, a, C, dx, fs, v, ex, ea, ed, l, T, hno, q⟩ := hh
  subst ex
  obtain rfl : u = Value.ref a := rx
  obtain ⟨t1, ho⟩ := exo_at I1.hok ea
  obtain ⟨mA, hns, hr⟩ := exd_at I1.hok ed
  obtain ⟨od, hod, hl⟩ := lookIn_ns hns
  obtain ⟨u, hu, ru⟩ := RelO.some_of (v := v) (o := mA n) (by rw [← l]; exact hr n)
  have J : PySem.W.InstAt s1.heap a { cls := .ref C, dict := some dx, data := .fields #[.ref t1, .none, .none, .none, .bool false, .none] } C (some od) := ⟨ho, rfl, rfl, hod⟩
  exact PySem.HandSPX.exc_get I1.kIn J T.ga T.gg T.exC (PySem.W.findObj_own T.hdC hno rfl (by rw [hl, hu])) (handed_of ru) ⟨v, H1, I1.tok _, ru, q⟩
def fldX (ok : Nat → Bool) (f : PySem.Str) (d : D) (S : Store) : Option D := match d with
  | .loc n => match S[n]? with
    | some (.exc c' (some m)) => if ok c' = true then match S[m]? with
      | some (.xd fs) => fs.lookup f
      | _ => none
      else none
    | _ => none
  | _ => none
def mXg (ok : Nat → Bool) (f : PySem.Str) (a : EM) : EM := fun env S => (a env S).bind fun d S1 => match fldX ok f d S1 with
  | some x => .ok x S1
  | none => .stuck
theorem sim_xg {g : G} {E : XK} {K : PySem.W.Frag} {ok : Nat → Bool} {f : PySem.Str} {te : TE} {a : EM} (T : ∀ c, ok c = true → XfC K (g.cls c) ∧ PySem.W.findIn K (.ref (g.cls c)) f = some none) (ha : SimE g E te a) : SimE g E (tXg K f te) (mXg ok f a) := by
  intro l σ H Q ρ S env re rs p
  refine ha.bind re rs p fun d S1 ρ1 H1 v e1 rs1 rx re1 p1 => ?_
  cases hF : fldX ok f d S1 with
  | none => rw [hF] at p1; exact p1.elim
  | some x =>
    rw [hF] at p1
    cases rx with
    | @loc n ad hn =>
      simp only [fldX] at hF
      split at hF
      · rename_i c' m e
        split at hF
        · rename_i q
          split at hF
          · rename_i fs e5
            obtain ⟨dx, hm, hx⟩ := rs1.ob n ad _ hn e
            obtain ⟨fv, h1, h2⟩ := rs1.ob m dx _ hm e5
            obtain ⟨y, h3, h4⟩ := (h2.lookup (f := f)).1 x hF
            exact ⟨ad, _, dx, fv, y, rfl, hx, h1, h3, (T _ q).1, (T _ q).2, p1 ρ1 H1 y Ex.refl rs1 h4⟩
          · cases hF
        · cases hF
      · cases hF
    | _ => cases hF

/-! ### isinstance of an exception -/
open PySem.W in
theorem getO {prog : Program} {w : World} {A : Around} {E : Value → Shared → Prop} {s : Shared} {K : Frag} {x D : Addr} {ox : Obj} {od : Option Obj} {Q : Option Value → Shared → Prop} (C : ExcC K D) (X : K.In s.heap) (I : InstAt s.heap x ox D od) (h : Q (some (.ref D)) { s with toks := s.toks + 1 }) :
    wpAny (model prog w) A (getAttr? (.ref x) "__class__") Q E s := by
  have hf : findObj K D od "__class__" = some (.bind (.builtin "getset_descriptor.__get__") (.builtin "object.__class__")) := by
    obtain ⟨cd, hc, _⟩ := any_some C.hd
    unfold findObj
    rw [hc, Option.bind_some, C.ha, Option.bind_some]
    simp [C.hn, C.ht]
  obtain ⟨hp, g, d, t, os⟩ := s
  have a0 := I.type (M := model prog w)
  have a3 := looks_find (M := model prog w) X I hf
  have b2 : (Value.builtin "BaseException.__getattribute__" == Value.builtin "object.__getattribute__") = false := by decide +kernel
  have b1 : (onTheHeap (Value.ref D) && Value.builtin "BaseException.__getattribute__" == Value.builtin "object.__getattribute__") = false := by rw [b2] <;> rfl
  unfold getAttr? getAttrBy? getAttrBy
  refine wpAny_bind (wpAny_mkText (wpAny_bind (wpAny_attempt (wpAny_holding (wpAny_bind (a0.at (wpAny_bind ((looks_findIn X C.hg).at ?_))))))))
  show wpAny _ _ (if (onTheHeap (Value.ref D) && Value.builtin "BaseException.__getattribute__" == Value.builtin "object.__getattribute__") = true then _ else _) _ _ _
  rw [b1, if_neg Bool.false_ne_true]
  unfold getAttrByItsOwn hookBefore
  refine wpAny_bind ?_
  rw [if_pos (show onTheHeap (Value.ref D) = true from rfl)]
  refine (looks_findIn X C.hk).at ?_
  refine wpAny_bind (wpAny_attempt (wpAny_holding ?_))
  unfold callGetattribute
  rw [show (false && onTheHeap (Value.builtin "BaseException.__getattribute__")) = false from rfl, if_neg Bool.false_ne_true]
  unfold boundAndCalled
  rw [PySem.F.excAttr_ValueError.ga.bind (.ref x)]
  refine wpAny_bind (wpAny_pure ?_)
  show wpAny _ _ (call (.builtin "BaseException.__getattribute__") [.ref x, .str "__class__" t]) _ _ _
  refine wpAny_call (codeAny_call_builtin PySem.F.excAttr_ValueError.ga.plain PySem.F.entry_bexc_ga ?_)
  refine @check_slot (model prog w) _ _ ⟨hp, g, d, t + 1, os⟩ "BaseException.__getattribute__" "BaseException" "__getattribute__" (.ref x) [.str "__class__" t] [] _ (by decide +kernel) (by decide +kernel) (a0.andThen (looks_subIn X C.hs)) (PySem.F.args_bexc_ga (.ref x) (.str "__class__" t)) ?_
  unfold Builtin.«object.__getattribute__»
  refine wpAny_bind (wpAny_of_eq (a := ((Value.ref x : Value), [Value.str "__class__" t])) (by first | rfl | (simp only [slotArgs]; rfl)) ?_)
  refine wpAny_bind (wpAny_pure (wpAny_bind (a0.at (wpAny_bind (a3.at ?_)))))
  show wpAny _ _ (holding [Value.builtin "object.__class__"] (call (.builtin "getset_descriptor.__get__") [.builtin "object.__class__", .ref x, .ref D]) >>= ret) _ _ _
  refine wpAny_bind (wpAny_holding (wpAny_call (class_get (s := ⟨hp, g, d, t + 1, os⟩) (ox := ox) (od := od) X I C.hm ?_)))
  refine wpAny_pure ?_
  show wpAny _ _ (handedOut (.ref D)) _ _ _
  rw [handedOut_of (v := .ref D) rfl]
  first
    | exact wpAny_pure (wpAny_pure h)
    | exact wpAny_pure h
    | exact wpAny_pure (wpAny_bind (wpAny_pure (wpAny_pure h)))
open PySem.W in
theorem kitO {K : Frag} {x D : Addr} (C : ExcC K D) : KitX K (.ref x) (.ref D) (fun h => ∃ ox od, InstAt h x ox D od) where
  ty := fun _ _ _ ⟨_, _, I⟩ => I.type
  it := fun _ _ X _ => by
    obtain ⟨cd, hc, _⟩ := any_some C.hd
    unfold clsIn at hc
    split at hc
    · rename_i ho
      exact fun A' Q' E' s' k q => wpAny_bind (wpAny_loadPart (k _ _ (X _ _ ho)) (wpAny_pure q))
    · cases hc
  ne := fun h tp dd its n sl X htp => by
    obtain ⟨cd, hc, _⟩ := any_some C.hd
    refine Bool.eq_false_iff.mpr fun q => ?_
    have e : D = tp := Value.ref.inj (beq_iff_eq.mp q)
    subst e
    unfold clsIn at hc
    split at hc
    · rename_i ho
      cases (X _ _ ho).symm.trans htp
    · cases hc
  ca := fun X ⟨_, _, I⟩ k => getO C X I k
/-- isinstance(e, c), e an exception of the store -/
def rIsX (K : PySem.W.Frag) : List V → Hp → VK → Prop := fun xs H Q => ∃ (a D : Addr) (c : V) (cv : Value) (b : Bool), xs = [.ref a, c] ∧ ((∃ d, H a = some (exo a D d) ∧ ∀ dx, d = some dx → ∃ fs, H dx = some (exd dx fs)) ∨ H a = some (ExO (.ref D) a)) ∧
  (∀ u, RelV c u → u = cv) ∧ ExcC K D ∧ PySem.W.kitOne K (.ref D) cv = some b ∧ Q (.bl b) H
theorem call_isX {X : Cx} : CallR X (.builtin "isinstance") (rIsX X.K) := by
  intro pins s σ H xs us Q I r h
  obtain ⟨a, D, c, cv, b, rfl, ha, hcv, C, e, q⟩ := h
  obtain ⟨u1, u2, rfl, r1, r2⟩ := vals2 r
  have e2 := hcv _ r2
  subst e2
  obtain rfl : u1 = Value.ref a := r1
  have J : ∃ ox od, PySem.W.InstAt s.heap a ox D od := by
    rcases ha with ⟨d, ha, hd⟩ | ha
    · obtain ⟨t1, ho⟩ := exo_at I.hok ha
      cases d with
      | none => exact ⟨_, none, ho, rfl, rfl, trivial⟩
      | some dx =>
        obtain ⟨fs, hx⟩ := hd dx rfl
        obtain ⟨mA, ⟨o, es, ep, hoo, _⟩, _⟩ := exd_at I.hok hx
        exact ⟨_, some o, ho, rfl, rfl, hoo⟩
    · obtain ⟨⟨oe, vs, ho, hz, hd, _⟩, _, _⟩ := I.hok a _ ha
      obtain ⟨oc, od, oda, osl⟩ := oe
      obtain ⟨h1, h2⟩ := hz
      dsimp only at h1 h2 hd
      subst h1 h2 hd
      exact ⟨_, none, ho, rfl, rfl, trivial⟩
  exact PySem.W.kia_one (kitO C) I.kIn J e (fun z => nomatch z) fun tk => ⟨.bl b, H, I.tok tk, rfl, q⟩
def excCls (d : D) (S : Store) : Option Nat := match d with
  | .loc n => match S[n]? with
    | some (.exc c none) => some c
    | some (.exc c (some m)) => match S[m]? with
      | some (.xd _) => some c
      | _ => none
    | some (.ex0 c) => some c
    | _ => none
  | _ => none
/-- isi: what isinstance says of the class c -/
def mIsX (isi : Nat → Option Bool) (a : EM) : EM := fun env S => (a env S).bind fun d S1 => match excCls d S1 with
  | some c => match isi c with
    | some b => .ok (.bl b) S1
    | none => .stuck
  | none => .stuck
theorem sim_isX {g : G} {E : XK} {K : PySem.W.Frag} {isi : Nat → Option Bool} {cv : V} {u0 : Value} {ta : TE} {a : EM} (hu : ∀ u, RelV cv u → u = u0) (hi : ∀ c b, isi c = some b → ExcC K (g.cls c) ∧ PySem.W.kitOne K (.ref (g.cls c)) u0 = some b) (ha : SimE g E ta a) :
    SimE g E (tCB (rIsX K) (tCons ta (tCons (tC cv) tNil))) (mIsX isi a) := by
  intro l σ H Q ρ S env re rs p
  refine ha.bind re rs p fun d S1 ρ1 H1 v e1 rs1 rx re1 p1 => ?_
  cases hc : excCls d S1 with
  | none => rw [hc] at p1; exact p1.elim
  | some c =>
    rw [hc] at p1
    dsimp only at p1
    cases hb : isi c with
    | none => rw [hb] at p1; exact p1.elim
    | some b =>
      rw [hb] at p1
      obtain ⟨i1, i2⟩ := hi c b hb
      cases rx with
      | @loc n ad hn =>
        simp only [excCls] at hc
        split at hc
        · rename_i c' e
          cases hc
          exact ⟨ad, _, cv, u0, b, rfl, .inl ⟨none, rs1.ob n ad _ hn e, fun dx z => by cases z⟩, hu, i1, i2, p1 ρ1 H1 _ Ex.refl rs1 (.bl _)⟩
        · rename_i c' m e
          split at hc
          · rename_i fs e5
            cases hc
            obtain ⟨dx, hm, hx⟩ := rs1.ob n ad _ hn e
            obtain ⟨fv, h1, h2⟩ := rs1.ob m dx _ hm e5
            exact ⟨ad, _, cv, u0, b, rfl, .inl ⟨some dx, hx, fun dx' z => by cases z; exact ⟨fv, h1⟩⟩, hu, i1, i2, p1 ρ1 H1 _ Ex.refl rs1 (.bl _)⟩
          · cases hc
        · rename_i c' e
          cases hc
          exact ⟨ad, _, cv, u0, b, rfl, .inr (rs1.ob n ad _ hn e), hu, i1, i2, p1 ρ1 H1 _ Ex.refl rs1 (.bl _)⟩
        · cases hc
      | _ => cases hc
end Lg

namespace Lg
open PySem PySem.Spec L2
section
variable {X : Cx} {pins : List (Addr × Obj)} {σ : L2.St} {H : Hp} {s : Shared}
theorem unsuiteP {a : Addr} {q : Addr × Obj} {pn' : List (Addr × Obj)} (I : Inv (X.suite a (q :: (X.pn ++ pins))) pn' σ H s) (ok : X.Ok) : Inv X (q :: pins) σ H s :=
  ⟨ok, I.os, I.bare, I.base, I.loc, I.cell, I.free, I.freeC, fun p hp => I.pin p (List.mem_append_left _ (by
    rcases List.mem_append.mp hp with m | m
    · exact List.mem_cons_of_mem _ (List.mem_append_left _ m)
    · rcases List.mem_cons.mp m with rfl | m
      · exact List.mem_cons_self
      · exact List.mem_cons_of_mem _ (List.mem_append_right _ m))), I.hok, I.len⟩
/-- the clause catches; its suite goes on with Nx -/
def wKeep (K : PySem.W.Frag) (c : Value) (i : Nat) (ts : Addr → Value → Option Addr → TS) (Nx : Addr → Value → Option Addr → L2.St → Hp → Prop) : WX := fun cls d σ H =>
  PySem.W.exmOne K cls c = some true ∧ ∀ a, H a = none → ts a cls d { nx := fun σ' H' => Nx a cls d (σ'.set i none) H', rt := fun _ _ => False, bk := fun _ _ => False, ct := fun _ _ => False } (σ.set i (some (.ref a))) H
def Kept (X : Cx) (pins : List (Addr × Obj)) (Nx : Addr → Value → Option Addr → L2.St → Hp → Prop) (f : Flow) (s' : Shared) : Prop :=
  f = .next ∧ ∃ a oe cls d σ H, Zc cls d oe ∧ (∃ vs, oe.data = .fields vs) ∧ Inv X ((a, oe) :: pins) σ H s' ∧ Nx a cls d σ H
theorem try_keep {x n : PySem.Str} {c : Value} {i : Nat} {body suite : List Stmt} {b₀ : Stmt} {np pos pos' : Pos} {tb : WX → TS} {ts : Addr → Value → Option Addr → TS} {Nx : Addr → Value → Option Addr → L2.St → Hp → Prop}
    (hs : X.stack = X.env :: X.outer) (hf : X.env.frame = some X.env.locals) (hN : X.N.Nodup) (hi : X.N[i]? = some n) (hln : X.env.kindOf n = some .local) (hc : Names X x c)
    (hb : ∀ (W : WX) (pn : List (Addr × Obj)) (xe : Value → Shared → Prop), Takes (X.tr pn xe) W → PassesOwn (model X.prog X.w) X.A X.env xe → PSs (X.tr pn xe) body (tb W))
    (hsu : ∀ (a : Addr) (oe : Obj) (cls : Value) (d : Option Addr) (pn : List (Addr × Obj)), Zc cls d oe → (∃ vs, oe.data = .fields vs) → PSs (X.suite a ((a, oe) :: pn)) (b₀ :: suite) (ts a cls d))
    (I : Inv X pins σ H s) (h : tb (wKeep X.K c i ts Nx) { nx := fun _ _ => False, rt := fun _ _ => False } σ H) :
    wpAny (model X.prog X.w) X.A (exec (.Try body [.ExceptHandler (some (.Name x np)) (some n) (b₀ :: suite) pos'] [] [] pos) X.env) (Kept X pins Nx) X.xe s := by
  have ok := I.ok
  have hfr : X.A.frames = some (X.env :: X.outer) := by rw [ok.frames, hs]
  refine wpAny_Try_except ?_
  refine wpAny_mono ((hb (wKeep X.K c i ts Nx) (X.pn ++ pins) (fun e s₁ => wpAny (model X.prog X.w) X.A (noteFrame e X.env) (fun _ s₂ => wpAny (model X.prog X.w) X.A (setFlight e none) (fun _ s₃ =>
    wpAny (model X.prog X.w) X.A (handleBy e X.env [.ExceptHandler (some (.Name x np)) (some n) (b₀ :: suite) pos']) (Kept X pins Nx) X.xe s₃) X.xe s₂) X.xe s₁) (fun u s' xx => ?_) PassesOwn.looking).run [] s σ H _ (I.toTry _) h) (fun f s1 hsp => ?_) (fun e s1 he => he)
  · obtain ⟨a, B, sI, pins', σ', H', cls, d, rfl, J', nb, up, sky, na, os, ag, hyes, go⟩ := xx
    have J : Inv X pins σ' H' sI := J'.ofTry ok
    have sky' : Sky B (X.env :: X.outer) a (Zc cls d) X.env.locals s'.heap := by rw [← hs]; exact sky
    show wpAny (model X.prog X.w) X.A (noteFrame (.ref a) X.env) _ _ _
    refine Sky.land Zc.steady hfr hf sky' fun h3 fl3 up3 => ?_
    have J3 : Inv X pins σ' H' { s' with heap := h3 } := J.landed nb fl3.1 (up.trans up3) os ag
    obtain ⟨oe3, vs3, he3, hz3, hd3⟩ := fl3.there
    have nfr : a ∉ frs (X.env :: X.outer) := fun hm => by
      obtain ⟨_, o', e', hnf⟩ := fl3.2.2.1.mem hm
      rw [he3] at e'; cases e'
      exact hnf _ hd3
    have nL : a ≠ X.env.locals := fun z => nfr (List.mem_filterMap.mpr ⟨X.env, List.mem_cons_self, by rw [hf, z]⟩)
    have nF : a ∉ X.fs := fun hm => by
      obtain ⟨e, he, q⟩ := List.mem_filterMap.mp hm
      exact nfr (List.mem_filterMap.mpr ⟨e, List.mem_cons_of_mem _ he, q⟩)
    have S3 := J3.suite he3 hd3 na nL nF
    refine wpAny_handleBy_cons (codeAny_handlers_test ?_) (by intro q; cases q)
    have LT : PySem.W.Looks (model X.prog X.w) h3 (typeOf (.ref a)) cls := fun A Q E s k q => wpAny_typeOf_ref (k _ _ he3) (by rw [hz3.1]; exact q)
    have LM := PySem.W.exm_one (M := model X.prog X.w) (J3.kIn) LT hyes
    have test : ∀ {Q : Value → Shared → Prop} {E : Value → Shared → Prop}, Q c { s' with heap := h3 } → wpAny (model X.prog X.w) (X.A.mark (some (.ref a))) (eval (.Name x np) X.env) Q E { s' with heap := h3 } := fun {Q E} q => by
      obtain ⟨hg, hdbg, hm | ⟨hm, hv, hnn⟩⟩ := hc
      · exact ld_glob (X := X.suite a ((a, oe3) :: (X.pn ++ pins))) S3 hg hm q hdbg
      · exact ld_blt (X := X.suite a ((a, oe3) :: (X.pn ++ pins))) S3 hg hm hv q hnn hdbg
    refine test (LM.here ?_)
    refine codeAny_handlers_suite_as ?_
    refine HandSPX.lands_againZ fl3 fun h4 fl4 up4 => ?_
    have J4 : Inv X pins σ' H' { s' with heap := h4 } := J.landed nb fl4.1 ((up.trans up3).trans up4) os ag
    obtain ⟨oe4, vs4, he4, hz4, hd4⟩ := fl4.there
    have S4 := J4.suite he4 hd4 na nL nF
    refine store_ok (X := X.suite a ((a, oe4) :: (X.pn ++ pins))) (v := .ref a) S4 hN hi (.inl hln) rfl (fun s5 S5 => ?_) (.inr hln)
    refine wpAny_mono ((hsu a oe4 cls d (X.pn ++ pins) hz4 ⟨_, hd4⟩).run [] s5 _ H' _ S5 (go a na)) (fun f s6 hsp => ?_) (fun _ _ z => False.elim z)
    cases f with
    | next =>
      obtain ⟨σ6, H6, S6, q6⟩ := hsp
      exact gone_ok (unsuiteP S6 ok) hN hi hln fun s7 J7 => ⟨rfl, a, oe4, cls, d, _, _, hz4, ⟨_, hd4⟩, J7, q6⟩
    | brk =>
      obtain ⟨_, _, _, q6⟩ := hsp
      exact False.elim q6
    | cont =>
      obtain ⟨_, _, _, q6⟩ := hsp
      exact False.elim q6
    | ret u =>
      obtain ⟨_, _, _, _, _, q6⟩ := hsp
      exact False.elim q6
  · cases f with
    | next =>
      obtain ⟨_, _, _, q⟩ := hsp
      exact False.elim q
    | brk =>
      obtain ⟨_, _, _, q⟩ := hsp
      exact False.elim q
    | cont =>
      obtain ⟨_, _, _, q⟩ := hsp
      exact False.elim q
    | ret u =>
      obtain ⟨_, _, _, _, _, q⟩ := hsp
      exact False.elim q
end

/-- behind the try the kept exception's field is given back -/
def NxF (C : Addr) (j : Nat) (f : PySem.Str) (D : Ends) : Addr → Value → Option Addr → L2.St → Hp → Prop := fun a cls d σ' H' => cls = .ref C ∧ σ'[j]? = some (some (.ref a)) ∧ ∃ (dd : Addr) (fs : List (PySem.Str × V)) (v : V), d = some dd ∧ H' dd = some (.xd fs) ∧ fs.lookup f = some v ∧ D.rt v H'
def tKeepF (K : PySem.W.Frag) (c : Value) (i j : Nat) (C : Addr) (f : PySem.Str) (tmk : L2.St → Hp → XK → Prop) : TS := fun D σ H => tmk σ H fun cls d H' => wKeep K c i (fun _ _ _ => tAsg (tVar i) (gName j)) (NxF C j f D) cls d σ H'
section
variable {X : Cx} {i j : Nat} {x n y f : PySem.Str} {c : Value} {C : Addr} {e : Expr} {b₀ : Stmt} {suite : List Stmt} {np p1 p2 p3 p4 pos pos' : Pos} {tmk : L2.St → Hp → XK → Prop}
theorem pss_keepF (hs : X.stack = X.env :: X.outer) (hf : X.env.frame = some X.env.locals) (hcalm : X.calm = true) (hN : X.N.Nodup) (hi : X.N[i]? = some n) (hln : X.env.kindOf n = some .local) (hj : X.N[j]? = some y) (hlj : X.env.kindOf y = some .local) (hc : Names X x c)
    (T : XfC X.K C) (hno : PySem.W.findIn X.K (.ref C) f = some none) (hmk : ∀ (pn : List (Addr × Obj)) (xe : Value → Shared → Prop), PMk (X.tr pn xe) e tmk) (hsu : ∀ (a : Addr) (oe : Obj) (pn : List (Addr × Obj)), PSs (X.suite a ((a, oe) :: pn)) (b₀ :: suite) (tAsg (tVar i) (gName j)))
    (hb : attributeBase (.Name y p3) f X.env (eval (.Name y p3) X.env) = eval (.Name y p3) X.env := by rfl) (hd1 : (y == ("__debug__" : PySem.Str)) = false := by decide) (hd2 : (y == ("__classdict__" : PySem.Str)) = false := by decide) :
    PSs X [.Try [.Raise (some e) none p1] [.ExceptHandler (some (.Name x np)) (some n) (b₀ :: suite) pos'] [] [] pos, .Return (some (.Attribute (.Name y p3) f p2)) p4] (tKeepF X.K c i j C f tmk) := by
  refine ⟨fun pins s σ H D I h => ?_⟩
  have W := try_keep (X := X) (body := [.Raise (some e) none p1]) (np := np) (pos := pos) (pos' := pos') (tb := fun W _ σ H => tmk σ H fun cls d H' => W cls d σ H') (ts := fun _ _ _ => tAsg (tVar i) (gName j)) (Nx := NxF C j f D) hs hf hN hi hln hc (fun W pn xe tk _ => pss_one (ps_raise hcalm tk (hmk pn xe))) (fun a oe cls d pn _ _ => hsu a oe pn) I h
  refine wpAny_execs_cons (wpAny_mono W (fun fl s1 hk => ?_) fun _ _ z => z)
  obtain ⟨rfl, a, oe, cls, d, σ1, H1, hz, ⟨vs, hd⟩, I1, rfl, hσ, dd, fs, v, rfl, ha, hl, q⟩ := hk
  refine wpAny_execs_cons (wpAny_Return_some (attr_of hb (thn ((pe_var (X := X) hj (.inl hlj) hd1 hd2).run _ s1 σ1 H1 (fun x H2 => x = .ref a ∧ H2 = H1) I1 ⟨.ref a, hσ, rfl, rfl⟩) fun u s2 hh => ?_)))
  obtain ⟨x2, H2, I2, rx, rfl, rfl⟩ := hh
  obtain rfl : u = Value.ref a := rx
  have hget := (I2.pin (a, oe) (List.mem_append_right _ List.mem_cons_self)).1
  have hx : ObjOk X.prog X.w H2 s2.heap dd (.xd fs) := I2.hok dd _ ha
  obtain ⟨mA, hns, hr⟩ := hx
  obtain ⟨od, ho, hlk⟩ := lookIn_ns hns
  obtain ⟨w, hw, rw'⟩ := RelO.some_of (v := v) (o := mA f) (by rw [← hl]; exact hr f)
  have J : PySem.W.InstAt s2.heap a oe C (some od) := ⟨hget, hz.1, by unfold PySem.W.notCls; rw [hd] <;> rfl, by rw [hz.2]; exact ho⟩
  refine PySem.HandSPX.exc_get I2.kIn J T.ga T.gg T.exC (PySem.W.findObj_own T.hdC hno rfl (by rw [hlk, hw])) (handed_of rw') ?_
  have I3 : Inv X pins σ1 H2 { s2 with toks := s2.toks + 1 } := (I2.tok _).pins_of (fun p hp => I2.pin p (List.mem_append_right _ (List.mem_cons_of_mem _ hp)))
  exact ⟨v, σ1, H2, I3, rw', q⟩
end

/-! ### letting the last objects of the store go -/
mutual
def D.und (n : Nat) : D → Bool
  | .loc m => decide (m < n)
  | .tup ds => unds n ds
  | .lst ds => unds n ds
  | _ => true
def unds (n : Nat) : List D → Bool
  | [] => true
  | d :: ds => d.und n && unds n ds
end
def undkv {κ : Type} (n : Nat) (l : List (κ × D)) : Bool := l.all fun p => p.2.und n
def Ob.und (n : Nat) : Ob → Bool
  | .lst ds => unds n ds
  | .dK kvs => undkv n kvs
  | .dT kvs => undkv n kvs
  | .ins _ fs => undkv n fs
  | .exc _ none => true
  | .exc _ (some m) => decide (m < n)
  | .xd fs => undkv n fs
  | .ex0 _ => true
section
variable {g : G} {ρ x : List Addr} {H H' : Hp}
theorem RD.cut (k : ∀ a, a ∉ x → H' a = H a) {v : V} {d : D} (r : RD g (ρ ++ x) H v d) : d.und ρ.length = true → RD g ρ H' v d := by
  have out : ∀ {a o}, H a = some o → Out g (ρ ++ x) a → H' a = some o ∧ Out g ρ a := fun {a o} h n => ⟨by rw [k a fun m => n.1 (List.mem_append_right _ m)]; exact h, fun m => n.1 (List.mem_append_left _ m), n.2⟩
  refine RD.rec (motive_1 := fun v d _ => d.und ρ.length = true → RD g ρ H' v d) (motive_2 := fun vs ds _ => unds ρ.length ds = true → RDs g ρ H' vs ds) (fun _ => .non) (fun b _ => .bl b) (fun i _ => .int i) (fun s _ => .str s) ?_ ?_ ?_ ?_ ?_ ?_ (fun _ => .nil) ?_ r
  · intro a vs ds h n _ ih u; exact .tup (out h n).1 (out h n).2 (ih (by simpa [D.und] using u))
  · intro a vs ds h n _ ih u; exact .lst (out h n).1 (out h n).2 (ih (by simpa [D.und] using u))
  · intro a ns n u
    refine .scr ?_
    rcases n with ⟨o, h, n⟩ | n
    · exact .inl ⟨o, (out h n).1, (out h n).2⟩
    · exact .inr n
  · intro n a h u
    have u : n < ρ.length := by simpa [D.und] using u
    exact .loc (by rw [List.getElem?_append_left u] at h; exact h)
  · intro a o h n u; exact .empF (out h n).1 (out h n).2
  · intro a h n u; exact .empU (out h n).1 (out h n).2
  · intro v d vs ds _ _ h t u
    simp only [unds, Bool.and_eq_true] at u
    exact .cons (h u.1) (t u.2)
theorem RDs.cut (k : ∀ a, a ∉ x → H' a = H a) : ∀ {vs : List V} {ds : List D}, RDs g (ρ ++ x) H vs ds → unds ρ.length ds = true → RDs g ρ H' vs ds
  | _, _, .nil, _ => .nil
  | _, _, .cons h t, u => by
    simp only [unds, Bool.and_eq_true] at u
    exact .cons (h.cut k u.1) (RDs.cut k t u.2)
theorem RKV.cut {κ : Type} (k : ∀ a, a ∉ x → H' a = H a) : ∀ {xs : List (κ × V)} {ys : List (κ × D)}, RKV g (ρ ++ x) H xs ys → undkv ρ.length ys = true → RKV g ρ H' xs ys
  | _, _, .nil, _ => .nil
  | _, _, .cons h t, u => by
    simp only [undkv, List.all_cons, Bool.and_eq_true] at u
    exact .cons ⟨h.1, h.2.cut k u.1⟩ (RKV.cut k t u.2)
theorem RO.cut (k : ∀ a, a ∉ x → H' a = H a) {a : Addr} (ha : H' a = H a) {ob : Ob} (r : RO g (ρ ++ x) H a ob) (u : ob.und ρ.length = true) : RO g ρ H' a ob := by
  cases ob with
  | lst ds => obtain ⟨vs, q1, q2⟩ := r; exact ⟨vs, ha ▸ q1, q2.cut k u⟩
  | dK ds => obtain ⟨vs, q1, q2⟩ := r; exact ⟨vs, ha ▸ q1, q2.cut k u⟩
  | dT ds => obtain ⟨vs, q1, q2⟩ := r; exact ⟨vs, ha ▸ q1, q2.cut k u⟩
  | ins c fs => obtain ⟨dx, fv, q1, q2⟩ := r; exact ⟨dx, fv, ha ▸ q1, q2.cut k u⟩
  | exc c d => cases d with
    | none => exact (ha ▸ r : H' a = some (exo a (g.cls c) none))
    | some n =>
      obtain ⟨dx, q1, q2⟩ := r
      have u : n < ρ.length := by simpa [Ob.und] using u
      exact ⟨dx, by rw [List.getElem?_append_left u] at q1; exact q1, ha ▸ q2⟩
  | xd fs => obtain ⟨fv, q1, q2⟩ := r; exact ⟨fv, ha ▸ q1, q2.cut k u⟩
  | ex0 c => exact (ha ▸ r : H' a = some (ExO (.ref (g.cls c)) a))
theorem RS.cut (k : ∀ a, a ∉ x → H' a = H a) {S : Store} (rs : RS g (ρ ++ x) S H) (u : (S.take ρ.length).all (Ob.und ρ.length) = true) : RS g ρ (S.take ρ.length) H' := by
  have hle : ρ.length ≤ S.length := by rw [← rs.len, List.length_append]; exact Nat.le_add_right _ _
  have nd := List.nodup_append.mp rs.nd
  refine ⟨by rw [List.length_take]; omega, nd.1, fun n a ob h1 h2 => ?_, fun a m => ?_⟩
  · have hn : n < ρ.length := (List.getElem?_eq_some_iff.mp h1).1
    rw [List.getElem?_take_of_lt hn] at h2
    have hx : a ∉ x := fun m => nd.2.2 a (List.mem_of_getElem? h1) a m rfl
    refine (rs.ob n a ob (by rw [List.getElem?_append_left hn]; exact h1) h2).cut k (k a hx) ?_
    exact List.all_eq_true.mp u ob (List.mem_of_getElem? (by rw [List.getElem?_take_of_lt hn]; exact h2))
  · obtain ⟨⟨o, h⟩, n⟩ := rs.hd a m
    exact ⟨⟨o, by rw [k a fun m => n (List.mem_append_right _ m)]; exact h⟩, fun m => n (List.mem_append_left _ m)⟩
end
def sKeepF (c i j : Nat) (fld : PySem.Str) (f : List D → Store → Res D) (as : AM) : SM := fun env S => (as env S).bindS fun ds S1 => match f (.loc S1.length :: ds) (S1 ++ [.exc c none]) with
  | .ok .non S2 => match S2[S1.length]?, S2[S1.length + 1]? with
    | some (.exc c' (some m)), some (.xd fs) => if ds.length ≤ 1000 ∧ S2.length = S1.length + 2 ∧ c' = c ∧ m = S1.length + 1 ∧ (S2.take S1.length).all (Ob.und S1.length) = true ∧ i < env.length ∧ j < env.length ∧ i ≠ j then match fs.lookup fld with
      | some d => if d.und S1.length = true then .ret d (S2.take S1.length) else .stuck
      | none => .stuck
      else .stuck
    | _, _ => .stuck
  | _ => .stuck
theorem sims_keepF {g : G} {E : XK} {K : PySem.W.Frag} {c n i j : Nat} {fld : PySem.Str} {f : List D → Store → Res D} {cv : Value} {tas : TA} {as : AM} (hf : Ar n f) (hex : PySem.W.exmOne K (.ref (g.cls c)) cv = some true) (has : SimA g E tas as) :
    SimS g E (tKeepF K cv i j (g.cls c) fld (tMkO (g.cls c) (spOf g n f) [] tas)) (sKeepF c i j fld f as) := by
  intro l D' σ H ρ S env re rs p
  refine has.bindS re rs p fun ds S1 ρ1 H1 vs e1 rs1 rx re1 p1 => ?_
  have lσ : σ.length = env.length := Paired.length re1
  cases ef : f (.loc S1.length :: ds) (S1 ++ [.exc c none]) with
  | err x S2 => rw [ef] at p1; exact p1.elim
  | stuck => rw [ef] at p1; exact p1.elim
  | ok v0 S2 =>
    rw [ef] at p1
    cases v0 with
    | non =>
      dsimp only at p1
      split at p1
      · rename_i c' m fs en en1
        split at p1
        · rename_i hc
          obtain ⟨hz, hl2, rfl, rfl, hu, hi, hj, hij⟩ := hc
          split at p1
          · rename_i d hfd
            split at p1
            · rename_i hdu
              refine ⟨by rw [rx.length]; exact hz, fun a ha => ?_⟩
              obtain ⟨e3, rs3⟩ := rs1.push (o := exo a (g.cls c') none) (ob := .exc c' none) ha fun ρ' H' e' q => q
              have rself : RD (g.hide l) (ρ1 ++ [a]) (upd H1 a (exo a (g.cls c') none)) (.ref a) (.loc S1.length) := .loc (by rw [← rs1.len]; simp)
              rw [List.append_nil]
              refine sp_go hf (.cons rself (rx.mono e3)) rs3 ?_
              rw [ef]
              intro ρ2 H2 u e4 rs4 ru
              cases ru
              refine ⟨rfl, ?_⟩
              obtain ⟨l2, rfl, hl⟩ := e4.new
              have ll : l2.length = 1 := by
                have := rs4.len
                rw [hl2, List.length_append, List.length_append, rs1.len] at this
                simp at this
                omega
              obtain ⟨dx, rfl⟩ := List.length_eq_one_iff.mp ll
              have an : (ρ1 ++ [a] ++ [dx])[S1.length]? = some a := by rw [← rs1.len]; simp
              have dn : (ρ1 ++ [a] ++ [dx])[S1.length + 1]? = some dx := by rw [← rs1.len]; simp
              obtain ⟨dx', q1, q2⟩ := rs4.ob _ a _ an en
              rw [dn] at q1; cases q1
              obtain ⟨fv, q3, q4⟩ := rs4.ob _ dx _ dn en1
              have hdx := (hl dx List.mem_cons_self).1
              have dxa : dx ≠ a := fun z => by rw [z, upd_same] at hdx; cases hdx
              have hdx1 : H1 dx = none := by rw [upd_ne dxa] at hdx; exact hdx
              refine ⟨dx, fv, q2, q3, hdx1, hex, fun a' _ => ?_⟩
              have kk : ∀ b, b ∉ [a, dx] → upd (del H2 a) dx (HO.xd fv) b = H2 b := fun b hb => by
                rw [upd_ne (fun z => hb (by simp [z])), del_ne (fun z => hb (by simp [z]))]
              have rs5 : RS (g.hide l) ρ1 (S2.take S1.length) (upd (del H2 a) dx (.xd fv)) := by
                have r := RS.cut (g := g.hide l) (ρ := ρ1) (x := [a, dx]) kk (S := S2) (by simpa using rs4) (by rw [rs1.len]; exact hu)
                rw [rs1.len] at r; exact r
              have e5 : Ex ρ1 H1 ρ1 (upd (del H2 a) dx (.xd fv)) := ⟨⟨[], by simp, by simp⟩, fun b o nb hb => by
                have ba : b ≠ a := ne_of_none hb ha
                have bd : b ≠ dx := ne_of_none hb hdx1
                rw [kk b (by simp [ba, bd])]
                exact e4.keep b o (by simp [nb, ba]) (by rw [upd_ne ba]; exact hb)⟩
              obtain ⟨y, h3, h4⟩ := (q4.lookup (f := fld)).1 d hfd
              have h5 : RD (g.hide l) ρ1 (upd (del H2 a) dx (.xd fv)) y d := RD.cut (x := [a, dx]) kk (by simpa using h4) (by rw [rs1.len]; exact hdu)
              refine ⟨.ref a', by rw [List.getElem?_set_self (by rw [lσ]; exact hi)], ?_⟩
              refine ⟨rfl, ?_, dx, fv, y, rfl, upd_same, h3, p1 ρ1 _ y e5 rs5 h5⟩
              rw [List.getElem?_set_ne hij, List.getElem?_set_self (by simp [lσ]; exact hj)]
            · exact p1.elim
          · exact p1.elim
        · exact p1.elim
      · exact p1.elim
    | _ => exact p1.elim
end Lg

namespace Lg
open PySem PySem.Spec L2

mutual
def D.pd : D → Option PyData
  | .non => some .none
  | .bl b => some (.bool b)
  | .int i => some (.int i)
  | .str s => some (.str s)
  | .tup ds => (pds ds).map .tuple
  | .lst ds => (pds ds).map .list
  | .emp _ => some (.dict [])
  | _ => none
def pds : List D → Option (List PyData)
  | [] => some []
  | d :: ds => match d.pd, pds ds with
    | some p, some ps => some (p :: ps)
    | _, _ => none
end
section
variable {X : Cx} {pins : List (Addr × Obj)} {σ : L2.St} {H : Hp} {s : Shared} {g : G} {ρ : List Addr}
def Trk (H : Hp) (as : List Addr) : Prop := ∀ b ∈ as, ∃ o, H b = some o
theorem empty_dict (I : Inv X pins σ H s) {a : Addr} {u : HO} (hk : ObjOk X.prog X.w H s.heap a (.dK [])) : Reads s.heap (.ref a) (.dict []) [a] := by
  obtain ⟨_, _, vs, kv, o, es, ep, ho, hx, hd, r⟩ := hk
  cases kv
  have he : es = #[] := by
    have l1 := r.2.1.length
    have : es.toList = [] := by simpa using l1
    exact Array.toList_eq_nil_iff.mp this
  subst he
  exact .dict (as := []) (bs := []) ho hx.1 hd .nil .nil
theorem reads_all (I : Inv X pins σ H s) {v : V} {d : D} (r : RD g ρ H v d) : ∀ p u, d.pd = some p → RelV v u → ∃ as, Reads s.heap u p as ∧ Trk H as := by
  refine RD.rec (motive_1 := fun v d _ => ∀ p u, d.pd = some p → RelV v u → ∃ as, Reads s.heap u p as ∧ Trk H as) (motive_2 := fun vs ds _ => ∀ ps us, pds ds = some ps → Vals vs us → ∃ as, ReadsAll s.heap us ps as ∧ Trk H as) ?_ ?_ ?_ ?_ ?_ ?_ ?_ ?_ ?_ ?_ ?_ ?_ r
  · intro p u e ru; cases e; cases (show u = Value.none from ru); exact ⟨[], .none, fun _ h => nomatch h⟩
  · intro b p u e ru; cases e; cases (show u = Value.bool b from ru); exact ⟨[], .bool b, fun _ h => nomatch h⟩
  · intro i p u e ru; cases e; obtain ⟨t, q⟩ := (show ∃ t, u = Value.int i t from ru); cases q; exact ⟨[], .int i t, fun _ h => nomatch h⟩
  · intro x p u e ru; cases e; obtain ⟨t, q⟩ := (show ∃ t, u = Value.str x t from ru); cases q; exact ⟨[], .str x t, fun _ h => nomatch h⟩
  · intro a vs ds h n _ ih p u e ru
    simp only [D.pd, Option.map_eq_some_iff] at e
    obtain ⟨ps, e1, rfl⟩ := e
    cases (show u = Value.ref a from ru)
    obtain ⟨_, its, rv, o, h1, h2, m, h3⟩ := (show ObjOk X.prog X.w H s.heap a (.tup vs) from I.hok a _ h)
    obtain ⟨as, q1, q2⟩ := ih ps its e1 rv
    exact ⟨as, .tuple h1 h2 h3 (by simpa using q1), q2⟩
  · intro a vs ds h n _ ih p u e ru
    simp only [D.pd, Option.map_eq_some_iff] at e
    obtain ⟨ps, e1, rfl⟩ := e
    cases (show u = Value.ref a from ru)
    obtain ⟨_, its, m, rv, h1⟩ := (show ObjOk X.prog X.w H s.heap a (.lst vs) from I.hok a _ h)
    obtain ⟨as, q1, q2⟩ := ih ps its e1 rv
    exact ⟨a :: as, .list h1 rfl rfl (by simpa using q1), fun b hb => (List.mem_cons.mp hb).elim (fun z => ⟨_, z ▸ h⟩) (q2 b)⟩
  · intro a ns n p u e ru; simp [D.pd] at e
  · intro n a h p u e ru; simp [D.pd] at e
  · intro a o h n p u e ru
    cases e
    cases (show u = Value.ref a from ru)
    exact ⟨[a], empty_dict (u := .dK []) I (show ObjOk X.prog X.w H s.heap a (.frz o (.dK [])) from I.hok a _ h).2, fun b hb => ⟨_, (List.mem_singleton.mp hb) ▸ h⟩⟩
  · intro a h n p u e ru
    cases e
    cases (show u = Value.ref a from ru)
    exact ⟨[a], empty_dict (u := .dK []) I (I.hok a _ h), fun b hb => ⟨_, (List.mem_singleton.mp hb) ▸ h⟩⟩
  · intro ps us e ru; simp [pds] at e; subst e; cases ru; exact ⟨[], .nil, fun _ h => nomatch h⟩
  · intro v d vs ds _ _ ih1 ih2 ps us e ru
    simp only [pds] at e
    split at e
    · rename_i p ps' e1 e2
      cases e
      cases ru with
      | cons r1 r2 =>
        obtain ⟨as, q1, q2⟩ := ih1 p _ e1 r1
        obtain ⟨bs, q3, q4⟩ := ih2 ps' _ e2 r2
        exact ⟨as ++ bs, .cons q1 q3, fun b hb => (List.mem_append.mp hb).elim (q2 b) (q4 b)⟩
    · cases e
end
/-- what the context must know for repr -/
structure Rg (X : Cx) : Prop where
  g : X.A.guards = some []
  sm : ∃ o, X.base.get? sysModules = some o
  u : X.A.units + 64 < cLine
/-- repr(x) -/
def rRepr : List V → Hp → VK → Prop := fun xs H Q => ∃ (v : V) (g : G) (ρ : List Addr) (d : D) (p : PyData), xs = [v] ∧ RD g ρ H v d ∧ d.pd = some p ∧ p.showable = true ∧ p.shown.length ≤ sizeLine ∧ p.depth ≤ 40 ∧ Q (.str p.shown) H
theorem call_repr {X : Cx} (R : Rg X) : CallR X (.builtin "repr") rRepr := by
  intro pins s σ H xs us Q I r h
  obtain ⟨v, g, ρ, d, p, rfl, rd, e, hs, hz, hd, q⟩ := h
  obtain ⟨u, rfl, ru⟩ := vals1 r
  obtain ⟨as, rr, tr⟩ := reads_all I rd p u e ru
  obtain ⟨o1, h1⟩ := R.sm
  have ns : sysModules ∉ as := fun m => by
    obtain ⟨o, ho⟩ := tr _ m
    rw [(I.bs _ _ h1).2] at ho
    cases ho
  cases u with
  | ref a =>
    exact repr_of_reads' rr hs (fun _ => ns) R.g (by have := R.u; omega) (fun _ _ e => e) (fun h' u tk hk => ⟨.str _, H, I.kept (t' := tk) hk, ⟨_, rfl⟩, q⟩) hz
  | none => cases rr; exact PySem.P.repr_of_none ⟨.str _, H, I.tok _, ⟨_, rfl⟩, q⟩
  | bool b => cases rr; exact PySem.P.repr_of_bool ⟨.str _, H, I.tok _, ⟨_, rfl⟩, q⟩
  | int i t => cases rr; exact PySem.P.repr_of_int (of_decide_eq_true hs) ⟨.str _, H, I.tok _, ⟨_, rfl⟩, q⟩
  | str x t => cases rr; exact PySem.P.repr_of_str ⟨.str _, H, I.tok _, ⟨_, rfl⟩, q⟩ hz
  | _ => cases rr
def cRepr (ds : List D) (S : Store) : Res D := match ds with
  | [d] => match d.pd with
    | some p => if p.showable = true ∧ p.shown.length ≤ sizeLine ∧ p.depth ≤ 40 then .ok (.str p.shown) S else .stuck
    | none => .stuck
  | _ => .stuck
theorem sim_repr {g : G} {E : XK} : CallSim g E rRepr cRepr := by
  intro l xs H Q ρ S ds rx rs p
  unfold cRepr at p
  split at p
  · rename_i d
    split at p
    · rename_i pp e
      split at p
      · rename_i h
        obtain ⟨v, rfl, r⟩ := rx.one
        exact ⟨v, _, ρ, d, pp, rfl, r, e, h.1, h.2.1, h.2.2, p ρ H _ Ex.refl rs (.str _)⟩
      · exact p.elim
    · exact p.elim
  · exact p.elim

/-! ### defs that are called with nothing guarded -/
structure FnG (P : Program) (w : World) (K : PySem.W.Frag) (mg : PySem.Str → Option Value) (base : Heap) (k : Nat) (f : Addr) (fd : FuncData) (ps : List PySem.Str) (sp : Sp) : Prop where
  len : ∀ vs H Q E, sp vs H Q E → vs.length = ps.length
  run : ∀ (A : Around) (outer : List Env) (s : Shared) (H : Hp) (args : Args) (us : List Value) (vs : List V) (Q : VK) (E : XK), Room k A → A.guards = some [] → Env0 P w K mg base A outer s H → BindsTo s fd args (ps.zip us) → Vals vs us → sp vs H Q E →
    codeAny (model P w) A (.call (.ref f) args) (CR (L2.CX P w) outer P w H s Q E) s
section
variable {X : Cx} {k : Nat} {f : Addr} {fd : FuncData} {ps : List PySem.Str} {sp : Sp} {dvs : List V} {ds : List Value} {E : XK} {x : PySem.Str} {p pos : Pos} {e : Expr} {es : List Expr} {t : TA}
theorem pe_callG (F : FnG X.prog X.w X.K X.mg X.base k f fd ps sp) (gg : X.A.guards = some []) (hr : Room k X.A) (hg : Gl X x) (hm : X.mg x = some (.ref f)) (hk : PySem.W.keepIn X.K (.ref f) = true) (hb : Binds X.K fd ps ds) (hd : Vals dvs ds) (hx : Passes (L2.CX X.prog X.w) X E)
    (ha : PA X (e :: es) t) (hdb : (x == ("__debug__" : PySem.Str)) = false := by decide) (he : starEach (e :: es) X.env = (false, eval e X.env) :: starEach es X.env := by rfl) (hpl : (backTo pos (starEach es X.env)).any (·.1) = false := by rfl) :
    PE X (.Call (.Name x p) (e :: es) [] pos) (tCall sp dvs E t) := by
  refine ⟨fun pins s σ H Q I h => ?_⟩
  refine wpAny_Call_Name_kw (ld_glob I hg hm ?_ hdb)
  refine PySem.W.callWith_K (h₀ := X.base) I.ok.mod.kin hk (thn (ha.run pos pins s σ H _ I h) fun us s1 ⟨vs, H1, I1, r, q⟩ => ⟨I1.kIn, ?_⟩) he hpl
  have r2 : Vals (vs ++ dvs) (us ++ ds) := r.append hd
  refine wpAny_call (codeAny_mono (F.run X.A X.stack s1 H1 ⟨us, []⟩ (us ++ ds) (vs ++ dvs) Q E hr gg I1.env0 (hb s1 us I1.kIn (r2.length.symm.trans (F.len _ _ _ _ q))) r2 q) fun r s' hq => ?_)
  cases r with
  | error e => exact hx pins σ H1 s1 e s' I1 hq
  | ok fl =>
    cases fl with
    | ret u => exact I1.after hq
    | next => exact False.elim hq
    | brk => exact False.elim hq
    | cont => exact False.elim hq
end
section
variable {P : Program} {w : World} {K : PySem.W.Frag} {mg : PySem.Str → Option Value} {base : Heap} {g : G}
theorem fn_simG {x qual : PySem.Str} {st : Stmt} {f : Addr} {fd : FuncData} {N ps : List PySem.Str} {k : Nat} {m : SM} (F : Fun K x qual st f fd) (S : FnScope N ps (defScope st)) (sm : ∃ o, base.get? sysModules = some o)
    (hb : ∀ (cdv : Value) (A : Around) (outer : List Env) (s : Shared) (H : Hp) (E : XK), Room k (A.deeper (PyProof.Rows.envOfC qual (defScope st) s.heap.objs.size f cdv)) → Rg (cxOf (L2.CX P w) P w K mg base N qual (defScope st) f cdv A outer s H E) →
      ∃ t, PSs (cxOf (L2.CX P w) P w K mg base N qual (defScope st) f cdv A outer s H E) (defBody st) t ∧ SimS g E t m) :
    FnG P w K mg base (k + 1) f fd ps (spOf g ps.length (mDef N.length ps.length m)) := by
  obtain ⟨oc, od, kV, doc, pm, an, cdv, ct, osl, rfl, lk, hcd⟩ := F.ex
  refine ⟨fun vs H Q E h => by obtain ⟨l, ρ, S, ds, hl, _⟩ := h; exact hl, fun A outer s H args us vs Q E hr gg e0 hbd r hsp => ?_⟩
  obtain ⟨l, ρ, S0, ds, hl, rd, rs, p⟩ := hsp
  have KX : K.In s.heap := e0.mod.kin.keeps fun b o e => (e0.bs b o e).1
  have lim : s.heap.NoLimit := e0.mod.nolimit.keeps fun b o e => (e0.bs b o e).1
  refine codeAny_call_function hr.depth (KX _ _ lk) rfl S.co S.gen rfl (PySem.W.codeRec_of KX hcd) (hbd _ _ _ _ ?_)
  refine wpAny_newFunctionEnv_cells S.kind (fun ⟨n, v⟩ hy => ?_) fun env he s1 xx => ?_
  · rcases S.par n (List.of_mem_zip hy).1 with q | q
    · exact .inl q
    · exact .inr ⟨q, PySem.W.cellsFrom_some _ _ _ (.inl q)⟩
  subst he
  refine ⟨lim.keeps xx.toInCall.keep, codeAny_func ?_⟩
  have hr2 := hr.deeper (PyProof.Rows.envOfC qual (defScope st) s.heap.objs.size f cdv)
  obtain ⟨t, ht, hs⟩ := hb cdv A outer s H E hr2 ⟨gg, sm, hr2.units⟩
  have hq : t { nx := fun _ H' => Q .non H', rt := Q } (L2.start N vs) H := by
    refine hs l _ _ H ρ S0 (startE N.length ds) (re_start rd) rs ?_
    unfold mDef at p
    rw [if_pos (by rw [← rd.length]; exact hl)] at p
    cases e : m (startE N.length ds) S0 with
    | ret d S' => rw [e] at p; exact p
    | next env' S' => rw [e] at p; exact fun ρ' H' σ' e1 rs1 re1 => p ρ' H' .non e1 rs1 .non
    | err x S' => rw [e] at p; exact p
    | brk env' S' => rw [e] at p; exact p.elim
    | cont env' S' => rw [e] at p; exact p.elim
    | stuck => rw [e] at p; exact p.elim
  have I : Inv (cxOf (L2.CX P w) P w K mg base N qual (defScope st) f cdv A outer s H E) [] (L2.start N vs) H s1 := inv_start S hr.hd e0 hl r xx
  refine wpAny_mono (ht.run [] s1 (L2.start N vs) H _ I hq) (fun fl s' hs => ?_) fun e s' hs => hs
  cases fl with
  | ret u =>
    obtain ⟨v, σ', H', J, rv, q⟩ := hs
    exact ⟨v, H', J.os, J.bare, J.base, J.hok, rv, q⟩
  | next =>
    obtain ⟨σ', H', J, q⟩ := hs
    exact ⟨.non, H', J.os, J.bare, J.base, J.hok, rfl, q⟩
  | brk =>
    obtain ⟨_, _, _, q⟩ := hs
    exact False.elim q
  | cont =>
    obtain ⟨_, _, _, q⟩ := hs
    exact False.elim q
end
end Lg

namespace Lg
open PySem PySem.Spec L2
def tDNewF : TE := fun _ H Q => ∀ p o, H p = none → Q (.ref p) (upd H p (.frz o (.dK [])))
theorem pe_dnewF {X : Cx} {pos : Pos} : PE X (.Dict [] [] pos) tDNewF := ⟨fun pins s σ H Q I h =>
  wpAny_Dict_empty ⟨.ref s.heap.objs.size, _, I.laid (a := s.heap.objs.size) (o := .frz { cls := .type "dict", data := .dict #[] } (.dK [])) (t' := s.toks) (fun _ _ q => Heap.get?_push_of_some _ q) (Nat.le_refl _) ⟨Heap.get?_push_size _ rfl, dk_empty s.heap I.big⟩, rfl, h _ _ (I.hok.fresh (Nat.le_refl _))⟩⟩
def mEmp : EM := fun _ S => .ok (.emp true) S
theorem sim_emp {g : G} {E : XK} : SimE g E tDNewF mEmp := by
  intro l σ H Q ρ S env re rs p q o hq
  exact p ρ _ _ (Ex.new1 hq) (rs.aside hq) (.empF upd_same (rs.fresh hq))
/-- {k: v for .. in d.items()}, d the empty dict -/
def mDc0 (a : EM) : EM := fun env S => (a env S).bind fun d S1 => match d with
  | .emp true => .ok (.emp false) S1
  | _ => .stuck
theorem sim_dc0 {g : G} {E : XK} {te : TE} {a : EM} {gt : TG} {tt : TT} {tk tv : TE} {vs : List Nat} (ha : SimE g E te a) : SimE g E (tDc (iItems te) gt tt tk tv vs) (mDc0 a) := by
  intro l σ H Q ρ S env re rs p
  refine ha.bind re rs p fun d S1 ρ1 H1 v e1 rs1 rx re1 p1 => ?_
  cases rx with
  | @empF ad o h n =>
    refine ⟨ad, o, [], rfl, h, fun D hD => ?_⟩
    refine ⟨fun i _ H' => i = 0 ∧ H' = upd H1 D (.dK []), ⟨0, rfl, rfl⟩, ?_⟩
    rintro i m H' ⟨rfl, rfl⟩
    exact .inl ⟨⟨by rw [upd_ne (ne_of_none h hD)]; exact h, Nat.le_refl _⟩, p1 ρ1 _ _ (Ex.new1 hD) (rs1.aside hD) (.empU upd_same (rs1.fresh hD))⟩
  | _ => exact p1.elim

/-! ### signs repeated -/
instance (x : PySem.Str) (n : Int) : Decidable (MulOk x n) := by unfold MulOk; infer_instance
def rMulS : R2 := fun x y H Q => ∃ (a : PySem.Str) (n : Int), x = .str a ∧ y = .int n ∧ MulOk a n ∧ Q (.str (Txt.mul a n)) H
theorem op_mulS {X : Cx} : OpR X (binaryOp .Mult) rMulS := by
  intro pins s σ H x y v u Q I rx ry h
  obtain ⟨a, n, rfl, rfl, ok, q⟩ := h
  obtain ⟨t, e⟩ := (show ∃ t, v = Value.str a t from rx)
  obtain ⟨t', e'⟩ := (show ∃ t, u = Value.int n t from ry)
  cases e; cases e'
  exact SB.mul ok fun t'' k => ⟨.str _, H, I.tok k, ⟨_, rfl⟩, q⟩
def dMulS (x y : D) (S : Store) : Res D := match x, y with
  | .str a, .int n => if MulOk a n then .ok (.str (Txt.mul a n)) S else .stuck
  | _, _ => .stuck
theorem sim_mulS {g : G} {E : XK} : OpSim g E rMulS dMulS := by
  intro l x y H Q ρ S dx dy rx ry rs p
  unfold dMulS at p
  split at p
  · cases rx; cases ry
    split at p
    · rename_i h
      exact ⟨_, _, rfl, rfl, h, p ρ H _ Ex.refl rs (.str _)⟩
    · exact p.elim
  · exact p.elim

/-! ### == with texts of any signs -/
def rEqA (K : PySem.W.Frag) : R2 := fun x y H Q => rEqD K x y H Q ∨ ∃ a b : PySem.Str, x = .str a ∧ y = .str b ∧ Q (.bl (decide (a = b))) H
def rNeA (K : PySem.W.Frag) : R2 := fun x y H Q => rNeD K x y H Q ∨ ∃ a b : PySem.Str, x = .str a ∧ y = .str b ∧ Q (.bl (!decide (a = b))) H
theorem op_eqT {X : Cx} : OpR X (compareOp .Eq) (fun x y H Q => ∃ a b : PySem.Str, x = .str a ∧ y = .str b ∧ Q (.bl (decide (a = b))) H) := by
  intro pins s σ H x y v u Q I rx ry h
  obtain ⟨a, b, rfl, rfl, q⟩ := h
  refine op_eq pins s σ H _ _ v u Q I rx ry ⟨rfl, ?_⟩
  rw [show decide (V.str a = V.str b) = decide (a = b) by simp]
  exact q
theorem op_neT {X : Cx} : OpR X (compareOp .NotEq) (fun x y H Q => ∃ a b : PySem.Str, x = .str a ∧ y = .str b ∧ Q (.bl (!decide (a = b))) H) := by
  intro pins s σ H x y v u Q I rx ry h
  obtain ⟨a, b, rfl, rfl, q⟩ := h
  refine op_ne pins s σ H _ _ v u Q I rx ry ⟨rfl, ?_⟩
  rw [show decide (V.str a = V.str b) = decide (a = b) by simp]
  exact q
theorem op_eqA {X : Cx} (hu : X.A.units + 64 < cLine) : OpR X (compareOp .Eq) (rEqA X.K) := (op_eqD hu).or op_eqT
theorem op_neA {X : Cx} (hu : X.A.units + 64 < cLine) : OpR X (compareOp .NotEq) (rNeA X.K) := (op_neD hu).or op_neT
def dEqA (x y : D) (S : Store) : Res D := match x, y with
  | .str a, .str b => .ok (.bl (decide (a = b))) S
  | x, y => dEq x y S
def dNeA (x y : D) (S : Store) : Res D := match x, y with
  | .str a, .str b => .ok (.bl (!decide (a = b))) S
  | x, y => dNe x y S
theorem sim_eqA {g : G} {E : XK} {K : PySem.W.Frag} : OpSim g E (rEqA K) dEqA := by
  intro l x y H Q ρ S dx dy rx ry rs p
  unfold dEqA at p
  split at p
  · cases rx; cases ry
    exact .inr ⟨_, _, rfl, rfl, p ρ H _ Ex.refl rs (.bl _)⟩
  · exact .inl (sim_eq l x y H Q ρ S dx dy rx ry rs p)
theorem sim_neA {g : G} {E : XK} {K : PySem.W.Frag} : OpSim g E (rNeA K) dNeA := by
  intro l x y H Q ρ S dx dy rx ry rs p
  unfold dNeA at p
  split at p
  · cases rx; cases ry
    exact .inr ⟨_, _, rfl, rfl, p ρ H _ Ex.refl rs (.bl _)⟩
  · exact .inl (sim_ne l x y H Q ρ S dx dy rx ry rs p)
end Lg

namespace Lg
open PySem PySem.Spec L2
def mInit (c n np : Nat) (m : SM) (ds : List D) (S : Store) : Res D := match ds with
  | .loc i :: _ => match S[i]? with
    | some (.exc c' none) => if c' = c then mDef n np m ds S else .stuck
    | _ => .stuck
  | _ => .stuck
theorem ar_init {c n np : Nat} {m : SM} : Ar np (mInit c n np m) := fun ds S h => by
  unfold mInit
  split
  · split
    · split
      · exact mDef_len h
      · rfl
    · rfl
  · rfl
section
variable {P : Program} {w : World} {K : PySem.W.Frag} {mg : PySem.Str → Option Value} {base : Heap} {N : List PySem.Str} {qual : PySem.Str} {scope : Scope} {f cda cc : Addr} {A : Around} {outer : List Env} {s : Shared} {H : Hp} {E : XK}
theorem pS : Passes (L2.CX P w) (cxS P w K mg base N qual scope f cda cc A outer s H E) E := passes_call (takes_of rfl rfl rfl rfl) (fun _ _ _ _ h => h)
end
/-- an own exception class with its own __init__, as it stands behind the top; st: the def's statement -/
structure XI (K : PySem.W.Frag) (prog : Program) (mg : PySem.Str → Option Value) (n qual : PySem.Str) (st : Stmt) (C fI cda cc : Addr) (fd : FuncData) : Prop where
  ex : ∃ (oc : Value) (od : Option Addr) (kV doc pm : Value) (an : Option Addr) (ct : Value) (osl : Array (Option Value)), fd = PySem.W.ksFn "__init__" qual (defArgs st) (defBody st) (defScope st) .none kV doc pm an (.ref cda) ct cc ∧ K.lookup fI = some ⟨oc, od, .func fd, osl⟩
  cd : PySem.W.codeIn K (.ref cda) qual = true
  U : SupC K prog C cda cc
  m : mg n = some (.ref C)
  su : mg "super" = none
  iC : PySem.W.findIn K (.ref C) "__init__" = some (some (.ref fI))
  tI : PySem.W.typeIn K (.ref fI) = some (.type "function")
section
variable {P : Program} {w : World} {K : PySem.W.Frag} {mg : PySem.Str → Option Value} {base : Heap} {g : G}
theorem fn_init {n qual z : PySem.Str} {st : Stmt} {C fI cda cc : Addr} {fd : FuncData} {N ps : List PySem.Str} {k c j : Nat} {m : SM} {p0 p1 p2 p3 p4 p5 : Pos} {rest : List Stmt} {ar : Arg} {pl : Shared → Sem Bool}
    (F : XI K P mg n qual st C fI cda cc fd) (hc : g.cls c = C) (hst : defBody st = .Expr (.Call (.Attribute (.Call (.Name "super" p0) [] [] p1) "__init__" p2) [.Constant (.str z) j p3] [] p4) p5 :: rest) (S : ScS N ps (defScope st)) (hp : ((defArgs st).posonlyargs ++ (defArgs st).args).head? = some ar) (hps : ps.head? = some ar.arg)
    (hev : ∀ s : Shared, eval (.Call (.Attribute (.Call (.Name "super" p0) [] [] p1) "__init__" p2) [.Constant (.str z) j p3] [] p4) (sEnv qual (defScope st) s fI cda cc) = (do
      let ov ← attributeBase (.Call (.Name "super" p0) [] [] p1) "__init__" (sEnv qual (defScope st) s fI cda cc) (eval (.Call (.Name "super" p0) [] [] p1) (sEnv qual (defScope st) s fI cda cc))
      standAt p2.atName
      let (g, first) ← holding [ov] (getMethod ov "__init__" (pl s))
      callWith p4 g first (backTo p4 (starEach [.Constant (.str z) j p3] (sEnv qual (defScope st) s fI cda cc))) []))
    (hb : ∀ (A : Around) (outer : List Env) (s : Shared) (H : Hp) (E : XK), Room k (A.deeper (sEnv qual (defScope st) s fI cda cc)) → ∃ t, PSs (cxS P w K mg base N qual (defScope st) fI cda cc A outer s H E) rest t ∧ SimS g E t m) :
    FnOk P w K mg base (L2.CX P w) (k + 1) fI fd ps (spOf g ps.length (mInit c N.length ps.length m)) := by
  obtain ⟨oc, od, kV, doc, pm, an, ct, osl, rfl, lk⟩ := F.ex
  rw [hst] at lk ⊢
  subst hc
  refine fn_super (C := g.cls c) (pl := pl) lk F.cd S F.U F.su hp hev hps (fun vs H Q E h => ?_) (fun vs H Q E h => ?_) fun A outer s H vs Q E hr h => ?_
  · obtain ⟨l, ρ, S, ds, hl, _⟩ := h
    exact hl
  · obtain ⟨l, ρ, S, ds, hl, rd, rs, p⟩ := h
    unfold mInit at p
    split at p
    · rename_i i ds'
      split at p
      · rename_i c' e
        split at p
        · rename_i q
          subst q
          cases rd with
          | cons r t =>
            cases r with
            | loc hn => exact ⟨_, _, rfl, rs.ob i _ _ hn e⟩
        · exact p.elim
      · exact p.elim
    · exact p.elim
  · obtain ⟨l, ρ, S, ds, hl, rd, rs, p⟩ := h
    obtain ⟨t, ht, hs⟩ := hb A outer s H E hr
    refine ⟨t, ht, hs l _ _ H ρ S (startE N.length ds) (re_start rd) rs ?_⟩
    unfold mInit at p
    split at p
    · split at p
      · split at p
        · unfold mDef at p
          rw [if_pos (by rw [← rd.length]; exact hl)] at p
          split at p
          · rename_i d S' e; rw [e]; exact p
          · rename_i env' S' e; rw [e]; exact fun ρ' H' σ' e1 rs1 re1 => p ρ' H' .non e1 rs1 .non
          · rename_i x S' e; rw [e]; exact p
          · exact p.elim
        · exact p.elim
      · exact p.elim
    · exact p.elim
end
theorem RDs.reverse {g : G} {ρ : List Addr} {H : Hp} : ∀ {vs : List V} {ds : List D}, RDs g ρ H vs ds → RDs g ρ H vs.reverse ds.reverse
  | _, _, .nil => .nil
  | _, _, .cons h t => by rw [List.reverse_cons, List.reverse_cons]; exact (RDs.reverse t).append (.cons h .nil)
end Lg

namespace Lg
open PySem PySem.Spec L2 PyProof.Rows
section
variable {P : Program} {w : World} {K : PySem.W.Frag} {mg mb : PySem.Str → Option Value} {k : Nat} {fa a : Addr} {fd : FuncData} {x : PySem.Str} {f : List D → Store → Res D} {g : G} {s₁ : Shared} {vs : List Value} {ns : List Int}
theorem law_callG (KX : K.In s₁.heap) (hns : s₁.heap.Ns mainGlobals mg) (hb : s₁.heap.Ns builtinsNs mb) (hbb : ∀ x : PySem.Str, x ≠ "__name__" → mb x = bootBuiltins x) (hlim : s₁.heap.NoLimit) (hsm : ∃ mm, s₁.heap.Ns sysModules mm) (hg : s₁.gens = #[])
    (ha : s₁.heap.get? a = some { cls := .type "list", data := .seq vs.toArray }) (hi : IntsAre vs ns) (hl : ns.length ≤ sizeLine) (hr : Room k callerA) (gK : g.K = K)
    (F : ∀ base : Heap, K.In base → base.Ns mainGlobals mg → (∃ o, base.get? sysModules = some o) → FnG P w K mg base k fa fd [x] (spOf g 1 f)) (hbind : ∀ (s : Shared) (u : Value), BindsTo s fd ⟨[u], []⟩ [(x, u)]) {S' : Store} (hf : f [.scr ns] [] = .ok (.bl true) S') :
    codeAny (model P w) callerA (.call (.ref fa) ⟨[.ref a], []⟩) (fun r s' => r = .ok (.ret (.bool true)) ∧ OldK s₁.heap s'.heap ∧ s'.os = s₁.os ∧ AllBare s'.gens) s₁ := by
  have rv := vals_ints hi
  have lenV := hi.length
  obtain ⟨mm, osm, esm, epm, hsm1, hsm2, _⟩ := hsm
  have core : ∀ H : Hp, (∀ b u, H b = some u → b = a ∧ K.lookup a = none ∧ ∃ o, u = .frz o (.lst (ns.map V.int))) → ((∃ o, H a = some (.frz o (.lst (ns.map V.int)))) ∨ ∀ H', SqL K H' a (ns.map V.int)) → HOk P w H s₁.heap →
      codeAny (model P w) callerA (.call (.ref fa) ⟨[.ref a], []⟩) (fun r s' => r = .ok (.ret (.bool true)) ∧ OldK s₁.heap s'.heap ∧ s'.os = s₁.os ∧ AllBare s'.gens) s₁ := by
    intro H hA hS hok
    have keep : ∀ {b : Addr} {o : Obj}, s₁.heap.get? b = some o → H b = none → (hidT s₁.heap H).get? b = some o := fun e n => hidT_get e n
    have dictFree : ∀ {b : Addr} {o : Obj} {es : Array DictEntry} {ep : Nat}, s₁.heap.get? b = some o → o.data = .dict es ep → H b = none := fun {b o es ep} e d => by
      cases q : H b with
      | none => rfl
      | some u =>
        rw [(hA b u q).1, ha] at e
        cases e
        cases (show Data.seq vs.toArray _ = Data.dict es ep from d)
    have nsK : ∀ {b : Addr} {m : PySem.Str → Option Value}, s₁.heap.Ns b m → (hidT s₁.heap H).Ns b m := fun {b m} ⟨o, es, ep, e, d, r⟩ => ⟨o, es, ep, keep e (dictFree e d), d, r⟩
    have inK : K.In (hidT s₁.heap H) := fun b o e => keep (KX b o e) (by
      cases q : H b with
      | none => rfl
      | some u =>
        obtain ⟨rfl, z, _⟩ := hA b u q
        rw [z] at e; cases e)
    have hM : Mod K mg (hidT s₁.heap H) := ⟨inK, nsK hns, ⟨mb, nsK hb, hbb⟩, let ⟨mc, h1, h2⟩ := hlim; ⟨mc, nsK h1, h2⟩⟩
    have e0 : Env0 P w K mg (hidT s₁.heap H) callerA [] s₁ H := ⟨rfl, hM, fun b o e => of_hidT e, Nat.le_of_eq (hidT_size _ _), trivial, fun b hb => absurd (show b ∈ ([] : List Addr) from hb) (by simp), hok, .of_eq hg⟩
    have FF := F _ inK (nsK hns) ⟨osm, keep hsm1 (dictFree hsm1 hsm2)⟩
    have rs : RS (g.hide []) [] [] H := ⟨rfl, List.nodup_nil, fun n a o h => by simp at h, fun b m => absurd (show b ∈ ([] : List Addr) from m) (by simp)⟩
    have rd : RD (g.hide []) [] H (.ref a) (.scr ns) := .scr (by
      rcases hS with ⟨o, h⟩ | h
      · exact .inl ⟨o, h, by simp, fun m => absurd (show a ∈ ([] : List Addr) from m) (by simp)⟩
      · exact .inr fun H' => by
          have : (g.hide []).K = K := gK
          rw [this]; exact h H')
    refine codeAny_mono (FF.run callerA [] s₁ H ⟨[.ref a], []⟩ [.ref a] [.ref a] (fun v _ => v = .bl true) (fun _ _ _ => False) hr rfl e0 (hbind s₁ (.ref a)) (.cons rfl .nil) ⟨[], [], [], [.scr ns], rfl, .cons rd .nil, rs, ?_⟩) fun r s' h => ?_
    · rw [hf]
      intro ρ' H' v _ _ rv'
      cases rv'
      rfl
    cases r with
    | error e =>
      obtain ⟨_, _, _, _, _, _, _, _, _, _, _, _, z⟩ := h
      exact z.elim
    | ok fl =>
      cases fl with
      | next => exact False.elim h
      | brk => exact False.elim h
      | cont => exact False.elim h
      | ret u =>
        obtain ⟨v, H', os, bare, un, hok', r', q⟩ := h
        obtain rfl : v = .bl true := q
        obtain rfl : u = Value.bool true := r'
        refine ⟨rfl, OldK.of_keep fun b o e => ?_, os, bare⟩
        cases q : H b with
        | none => exact un.keep b o e q (by intro z; exact absurd (show b ∈ ([] : List Addr) from z) (by simp)) (by simp)
        | some u =>
          obtain ⟨_, _, ob, rfl⟩ := hA b u q
          obtain ⟨e1, _⟩ := hok b _ q
          obtain ⟨e2, _⟩ := hok' b _ (un.frzs b ob _ q)
          rw [e] at e1; cases e1
          exact e2
  cases hk : K.lookup a with
  | some o =>
    have e := KX a o hk
    rw [ha] at e
    cases e
    exact core (fun _ => none) (fun b u z => nomatch z) (.inr fun H' => .inr ⟨_, vs.toArray, _, hk, rfl, rfl, rfl, by rw [List.size_toArray, lenV]; exact hl, by simpa using rv⟩) (fun b u z => nomatch z)
  | none =>
    refine core (fun b => if b = a then some (.frz { cls := .type "list", data := .seq vs.toArray } (.lst (ns.map V.int))) else none) (fun b u z => ?_) (.inl ⟨_, if_pos rfl⟩) (fun b u z => ?_)
    · by_cases hb : b = a
      · have z' := (if_pos hb).symm.trans z
        cases z'
        exact ⟨hb, hk, _, rfl⟩
      · cases (if_neg hb).symm.trans z
    · by_cases hb : b = a
      · have z' := (if_pos hb).symm.trans z
        cases z'
        subst hb
        exact ⟨ha, by rw [List.length_map]; exact hl, vs, _, rv, ha⟩
      · cases (if_neg hb).symm.trans z
end

theorem walkG {l : PySem.W.OpenLaw} {n k : Nat} {q : Program} {loose : List PySem.Str} {XP : (PySem.Str → Option Value) → Heap → Prop} {YP : World → Heap → Prop} {d : DefRec} {K : Params → PySem.W.Frag} {x : PySem.Str} {f : List D → Store → Res D}
    (hn : l.most = some n) (hn2 : n ≤ sizeLine) (hdf : d.params.defaults = []) (hr : Room k callerA) (hin : importsNone q = true) (hY : ∀ (w : World) (h : Heap), YP w h → (K w.params).In h)
    (F : ∀ (w : World) (mg : PySem.Str → Option Value) (fa : Addr) (h : Heap), (K w.params).In h → h.Ns mainGlobals mg → mg d.name = some (.ref fa) →
      ∃ (fd : FuncData) (g : G), g.K = K w.params ∧ (∀ (s : Shared) (u : Value), BindsTo s fd ⟨[u], []⟩ [(x, u)]) ∧
        ∀ base : Heap, (K w.params).In base → base.Ns mainGlobals mg → (∃ o, base.get? sysModules = some o) → FnG l.prog w (K w.params) mg base k fa fd [x] (spOf g 1 f))
    (hf : ∀ ns : List Int, ns.length ≤ n → (∀ z ∈ ns, Builtin.Int.intBits z ≤ 1048576) → ∃ S', f [.scr ns] [] = .ok (.bl true) S') :
    PySem.W.WalkO q loose XP YP l.row.toRowW d [] (fun f vs => PySem.call f vs) := by
  refine Att.attach_callB hn hdf fun w s₀ s₁ mg mb fa o pm cd doc a vs ns G Y ho hd hcd hmg hobj hints hlen hbits hg => ?_
  have KX := hY w _ Y
  obtain ⟨fd, g, gK, hb, hF⟩ := F w mg fa _ KX G.T.g hmg
  obtain ⟨S', e⟩ := hf ns hlen hbits
  obtain ⟨mm, hm, _⟩ := (G.T.seer hin).mods
  exact law_callG KX G.T.g G.T.b G.T.builtins G.T.nolimit ⟨mm, hm⟩ hg hobj hints (Nat.le_trans hlen hn2) hr gK hF hb e
end Lg

namespace Lg
open PySem PySem.Spec L2
section
variable {K : PySem.W.Frag} {P : Program} {C fI cda cc : Addr}
def ecB (K : PySem.W.Frag) (C : Addr) : Bool := match K.lookup C with
  | some ⟨.type t, _, .cls cd, sl⟩ => (match cd.mro, sl.toList with
    | .ref C' :: bm, [_, _, _, _, some (.builtin n), _] => decide (t = "type") && decide (C' = C) && decide (n = "ValueError.__new__") && !cd.hasDel && cd.hasDict && PySem.HandSPX.refsVE bm
    | _, _ => false)
  | _ => false
theorem ec_of (h : ecB K C = true) : ∃ nm q N bs bm sn sub ab col dd k0 k1 k2 k3 k5, K.lookup C = some (excClassObj nm q C N bs bm true sn sub ab col dd k0 k1 k2 k3 k5 "ValueError.__new__") ∧ PySem.HandSPX.refsVE bm = true := by
  unfold ecB at h
  split at h
  · rename_i t dd cd sl ho
    split at h
    · rename_i C' bm k0 k1 k2 k3 n k5 hm hs
      simp only [Bool.and_eq_true, decide_eq_true_eq, Bool.not_eq_true'] at h
      obtain ⟨⟨⟨⟨⟨rfl, rfl⟩, rfl⟩, hdel⟩, hh⟩, ht⟩ := h
      obtain ⟨nm, bs, mro, ns, qn, hd, sn, sub, ab, col, del⟩ := cd
      dsimp only at hm hdel hh
      subst hm hdel hh
      have hsl : sl = #[k0, k1, k2, k3, some (.builtin "ValueError.__new__"), k5] := by
        obtain ⟨l⟩ := sl
        simp only at hs
        rw [hs]
      subst hsl
      exact ⟨nm, qn, ns, bs, bm, sn, sub, ab, col, dd, k0, k1, k2, k3, k5, ho, ht⟩
    · cases h
  · cases h
def oexB (K : PySem.W.Frag) (C : Addr) : Bool := ecB K C && decide (PySem.W.findIn K (.ref C) "__setattr__" = some (some (.builtin "object.__setattr__"))) && decide (PySem.W.subIn K (.ref C) (.type "BaseException") = some true) && decide (PySem.W.typeIn K (.ref C) = some (.type "type")) && PySem.W.keepIn K (.ref C)
theorem oex_of (h : oexB K C = true) : OexC K C := by
  unfold oexB at h
  simp only [Bool.and_eq_true, decide_eq_true_eq] at h
  obtain ⟨⟨⟨⟨h1, h2⟩, h3⟩, h4⟩, h5⟩ := h
  exact ⟨ec_of h1, h2, h3, h4, h5⟩
def codeB (K : PySem.W.Frag) (P : Program) (cda : Addr) : Bool := match K.lookup cda with
  | some ⟨_, _, .fields vs, _⟩ => (match (vs : Array Value)[2]? with
    | some (Value.str file _) => (P.main.file : PySem.Str) == file
    | _ => false)
  | _ => false
def cellB (K : PySem.W.Frag) (C cc : Addr) : Bool := match K.lookup cc with
  | some ⟨_, _, .cell (some (.ref D)), _⟩ => decide (D = C)
  | _ => false
def supB (K : PySem.W.Frag) (P : Program) (C cda cc : Addr) : Bool := oexB K C && decide (PySem.W.ks_superIn K C C "__init__" = some (some (.builtin "ValueError.__init__"))) && decide (PySem.W.subIn K (.ref C) (.type "ValueError") = some true) && decide (PySem.W.mroIn K C (.ref C) = some true) &&
  decide (PySem.W.nsIn K cStatics "thirdparty.any" = some none) && codeB K P cda && cellB K C cc && !(P.main.scope.names.lookup ("super" : PySem.Str)).isSome
theorem sup_of (h : supB K P C cda cc = true) : SupC K P C cda cc := by
  unfold supB at h
  simp only [Bool.and_eq_true, decide_eq_true_eq, Bool.not_eq_true'] at h
  obtain ⟨⟨⟨⟨⟨⟨⟨h1, h2⟩, h3⟩, h4⟩, h5⟩, h6⟩, h7⟩, h8⟩ := h
  refine ⟨oex_of h1, h2, h3, h4, h5, ?_, ?_, h8⟩
  · unfold codeB at h6
    split at h6
    · rename_i a b vs c ho
      split at h6
      · rename_i file tk hv
        exact ⟨a, b, vs, c, file, tk, ho, hv, h6⟩
      · cases h6
    · cases h6
  · unfold cellB at h7
    split at h7
    · rename_i a b D c ho
      have e := of_decide_eq_true h7
      subst e
      exact ⟨a, b, c, ho⟩
    · cases h7
def excCB (K : PySem.W.Frag) (D : Addr) : Bool := decide (PySem.W.findIn K (.ref D) "__getattribute__" = some (some (.builtin "BaseException.__getattribute__"))) && decide (PySem.W.findIn K (.ref D) "__getattr__" = some none) && decide (PySem.W.subIn K (.ref D) (.type "BaseException") = some true) && PySem.W.hasDictIn K D &&
  decide (PySem.W.findIn K (.ref D) "__class__" = some (some (.builtin "object.__class__"))) && decide (PySem.W.specialIn K (.builtin "object.__class__") "__get__" = some (some (.builtin "getset_descriptor.__get__"))) && decide (PySem.W.takesIn K (.builtin "object.__class__") = some true) && decide (PySem.W.mroIn K D (.type "object") = some true)
theorem excC_of (h : excCB K C = true) : ExcC K C := by
  unfold excCB at h
  simp only [Bool.and_eq_true, decide_eq_true_eq] at h
  obtain ⟨⟨⟨⟨⟨⟨⟨h1, h2⟩, h3⟩, h4⟩, h5⟩, h6⟩, h7⟩, h8⟩ := h
  exact ⟨h1, h2, h3, h4, h5, h6, h7, h8⟩
/-- what isinstance says of the classes 0 .. n - 1 -/
def isiB (K : PySem.W.Frag) (Cs : List Addr) (n : Nat) (u : Value) (t : Nat → Option Bool) : Bool := (List.range n).all fun c => decide (PySem.W.kitOne K (.ref (Cs.getD c 0)) u = t c)
theorem isi_of {Cs : List Addr} {n : Nat} {u : Value} {t : Nat → Option Bool} (hx : ((List.range n).all fun c => excCB K (Cs.getD c 0)) = true) (h : isiB K Cs n u t = true) (ht : ∀ c b, t c = some b → c < n) : ∀ c b, t c = some b → ExcC K (Cs.getD c 0) ∧ PySem.W.kitOne K (.ref (Cs.getD c 0)) u = some b := by
  intro c b e
  have hc := List.mem_range.mpr (ht c b e)
  refine ⟨excC_of (List.all_eq_true.mp hx c hc), ?_⟩
  rw [← e]
  exact of_decide_eq_true (List.all_eq_true.mp h c hc)
def flB (K : PySem.W.Frag) (Cs : List Addr) (cs : List Nat) (f : PySem.Str) : Bool := cs.all fun c => xfB K (Cs.getD c 0) && decide (PySem.W.findIn K (.ref (Cs.getD c 0)) f = some none)
theorem fl_of {Cs : List Addr} {cs : List Nat} {f : PySem.Str} (h : flB K Cs cs f = true) : ∀ c, cs.contains c = true → XfC K (Cs.getD c 0) ∧ PySem.W.findIn K (.ref (Cs.getD c 0)) f = some none := by
  intro c hc
  have := List.all_eq_true.mp h c (by simpa using hc)
  simp only [Bool.and_eq_true, decide_eq_true_eq] at this
  exact ⟨xfB_ok this.1, this.2⟩
theorem xi_of {mg : PySem.Str → Option Value} {n qual : PySem.Str} {st : Stmt} {oc kV doc pm ct : Value} {od an : Option Addr} {osl : Array (Option Value)} (lk : K.lookup fI = some ⟨oc, od, .func (PySem.W.ksFn "__init__" qual (defArgs st) (defBody st) (defScope st) .none kV doc pm an (.ref cda) ct cc), osl⟩)
    (cd : PySem.W.codeIn K (.ref cda) qual = true) (U : supB K P C cda cc = true) (m : mg n = some (.ref C)) (su : mg "super" = none) (iC : PySem.W.findIn K (.ref C) "__init__" = some (some (.ref fI))) (tI : PySem.W.typeIn K (.ref fI) = some (.type "function")) :
    XI K P mg n qual st C fI cda cc (PySem.W.ksFn "__init__" qual (defArgs st) (defBody st) (defScope st) .none kV doc pm an (.ref cda) ct cc) :=
  ⟨⟨oc, od, kV, doc, pm, an, ct, osl, rfl, lk⟩, cd, sup_of U, m, su, iC, tI⟩
theorem kbn_of {fd : FuncData} {p : PySem.Str} {ps ks : List PySem.Str} {g : List Value → List Value → List Value} {gV : List V → List V → List V} (hrel : ∀ {vs : List V} {us : List Value} {zs : List V} {ws : List Value}, Vals vs us → Vals zs ws → Vals (gV vs zs) (g us ws))
    (h : ∀ (a : Value) (ws : List Value), ws.length = ks.length → bindArgs fd ⟨[a], ks.zip ws⟩ = pure ((p :: ps).zip (g [a] ws))) : KBn K fd (p :: ps) 1 ks g gV :=
  ⟨fun s us ws X l1 l2 => by
    obtain ⟨a, rfl⟩ := List.length_eq_one_iff.mp l1
    exact .of_eq (h a ws l2), hrel⟩
theorem vals_rev : ∀ {zs : List V} {ws : List Value}, Vals zs ws → Vals zs.reverse ws.reverse
  | _, _, .nil => .nil
  | _, _, .cons h t => by rw [List.reverse_cons, List.reverse_cons]; exact (vals_rev t).append (.cons h .nil)
end
end Lg

namespace Lw
open PySem L2 Lg
def top (i : Nat) : Stmt := PySem.Challenge.pw_lotgivers_k08_refusals_made.main.body.getD i (.Pass ⟨0, 0, 0, 0⟩)
def clsSt (st : Stmt) (i : Nat) : Stmt := match st with
  | .ClassDef (body := b) .. => b.getD i (.Pass ⟨0, 0, 0, 0⟩)
  | _ => .Pass ⟨0, 0, 0, 0⟩
def ok_fl_name (c : Nat) : Bool := [0, 5].contains c
def ok_fl_thing (c : Nat) : Bool := [1].contains c
def ok_fl_lot (c : Nat) : Bool := [2].contains c
def ok_fl_number (c : Nat) : Bool := [3].contains c
def ok_fl_many (c : Nat) : Bool := [4].contains c
def ok_fl_giver (c : Nat) : Bool := [7].contains c
def ok_fl_taker (c : Nat) : Bool := [7].contains c
def ok_fl_row (c : Nat) : Bool := [6].contains c
def isi_NoMember (c : Nat) : Option Bool := if c < 11 then some (c == 0) else none
def isi_NoDrawing (c : Nat) : Option Bool := if c < 11 then some (c == 1) else none
def isi_TooFew (c : Nat) : Option Bool := if c < 11 then some (c == 2) else none
def isi_NoNumber (c : Nat) : Option Bool := if c < 11 then some (c == 3) else none
def isi_TooMany (c : Nat) : Option Bool := if c < 11 then some (c == 4) else none
def isi_Twice (c : Nat) : Option Bool := if c < 11 then some (c == 5) else none
def isi_NoText (c : Nat) : Option Bool := if c < 11 then some (c == 6) else none
def isi_NoBar (c : Nat) : Option Bool := if c < 11 then some (c == 7) else none
def isi_NoYear (c : Nat) : Option Bool := if c < 11 then some (c == 8) else none
def isi_NoBack (c : Nat) : Option Bool := if c < 11 then some (c == 9) else none
def isi_NoRow (c : Nat) : Option Bool := if c < 11 then some (c == 10) else none
def isi_ValueError (c : Nat) : Option Bool := if c < 11 then some true else none
def isi_LotError (c : Nat) : Option Bool := if c < 11 then some true else none
abbrev s_copied : Stmt := top 1
abbrev N_copied : List PySem.Str := ["thing", "part", "key", "worth"]
theorem sc_copied : FnScope N_copied ["thing"] (defScope s_copied) := ⟨rfl, rfl, rfl, by decide +kernel, rfl, by decide +kernel, by decide +kernel⟩
def mm_copied (f : List D → Store → Res D) : List D → Store → Res D := mDef 4 1 (sSeq (sIf (bVal (mIsi "list" (mVar 0))) (sRet (mLc (itSeq (mVar 0)) (gmName 1) bYes (mCall f (mCons (mVar 1) mNil)) [1])) sNext) (sSeq (sIf (bVal (mIsi "tuple" (mVar 0))) (sRet (mCall cTuple (mCons (mLc (itSeq (mVar 0)) (gmName 1) bYes (mCall f (mCons (mVar 1) mNil)) [1]) mNil))) sNext) (sSeq (sIf (bVal (mIsi "dict" (mVar 0))) (sRet (mDc0 (mVar 0))) sNext) (sRet (mVar 0)))))
def m_copied : Nat → List D → Store → Res D
  | 0 => fun _ _ => .stuck
  | k + 1 => mm_copied (m_copied k)
theorem ar_copied : ∀ k, Ar 1 (m_copied k)
  | 0 => fun _ _ _ => rfl
  | _ + 1 => ar_def
abbrev s_i_NoMember : Stmt := clsSt (top 4) 0
abbrev N_i_NoMember : List PySem.Str := ["self", "name"]
theorem sc_i_NoMember : ScS N_i_NoMember ["self", "name"] (defScope s_i_NoMember) := ⟨rfl, rfl, rfl, by decide +kernel, rfl, by decide +kernel, by decide +kernel, by decide +kernel, rfl, rfl⟩
def m_i_NoMember : List D → Store → Res D := mInit 0 2 2 (sFldX 0 "name" (mVar 0) (mCall (m_copied 4) (mCons (mVar 1) mNil)))
abbrev s_i_NoDrawing : Stmt := clsSt (top 5) 0
abbrev N_i_NoDrawing : List PySem.Str := ["self", "thing"]
theorem sc_i_NoDrawing : ScS N_i_NoDrawing ["self", "thing"] (defScope s_i_NoDrawing) := ⟨rfl, rfl, rfl, by decide +kernel, rfl, by decide +kernel, by decide +kernel, by decide +kernel, rfl, rfl⟩
def m_i_NoDrawing : List D → Store → Res D := mInit 1 2 2 (sFldX 1 "thing" (mVar 0) (mCall (m_copied 4) (mCons (mVar 1) mNil)))
abbrev s_i_TooFew : Stmt := clsSt (top 6) 0
abbrev N_i_TooFew : List PySem.Str := ["self", "lot"]
theorem sc_i_TooFew : ScS N_i_TooFew ["self", "lot"] (defScope s_i_TooFew) := ⟨rfl, rfl, rfl, by decide +kernel, rfl, by decide +kernel, by decide +kernel, by decide +kernel, rfl, rfl⟩
def m_i_TooFew : List D → Store → Res D := mInit 2 2 2 (sFldX 2 "lot" (mVar 0) (mCall (m_copied 4) (mCons (mVar 1) mNil)))
abbrev s_i_NoNumber : Stmt := clsSt (top 7) 0
abbrev N_i_NoNumber : List PySem.Str := ["self", "number"]
theorem sc_i_NoNumber : ScS N_i_NoNumber ["self", "number"] (defScope s_i_NoNumber) := ⟨rfl, rfl, rfl, by decide +kernel, rfl, by decide +kernel, by decide +kernel, by decide +kernel, rfl, rfl⟩
def m_i_NoNumber : List D → Store → Res D := mInit 3 2 2 (sFldX 3 "number" (mVar 0) (mCall (m_copied 4) (mCons (mVar 1) mNil)))
abbrev s_i_TooMany : Stmt := clsSt (top 8) 0
abbrev N_i_TooMany : List PySem.Str := ["self", "many"]
theorem sc_i_TooMany : ScS N_i_TooMany ["self", "many"] (defScope s_i_TooMany) := ⟨rfl, rfl, rfl, by decide +kernel, rfl, by decide +kernel, by decide +kernel, by decide +kernel, rfl, rfl⟩
def m_i_TooMany : List D → Store → Res D := mInit 4 2 2 (sFldX 4 "many" (mVar 0) (mCall (m_copied 4) (mCons (mVar 1) mNil)))
abbrev s_i_Twice : Stmt := clsSt (top 9) 0
abbrev N_i_Twice : List PySem.Str := ["self", "name"]
theorem sc_i_Twice : ScS N_i_Twice ["self", "name"] (defScope s_i_Twice) := ⟨rfl, rfl, rfl, by decide +kernel, rfl, by decide +kernel, by decide +kernel, by decide +kernel, rfl, rfl⟩
def m_i_Twice : List D → Store → Res D := mInit 5 2 2 (sFldX 5 "name" (mVar 0) (mCall (m_copied 4) (mCons (mVar 1) mNil)))
abbrev s_i_NoBar : Stmt := clsSt (top 10) 0
abbrev N_i_NoBar : List PySem.Str := ["self", "giver", "taker"]
theorem sc_i_NoBar : ScS N_i_NoBar ["self", "giver", "taker"] (defScope s_i_NoBar) := ⟨rfl, rfl, rfl, by decide +kernel, rfl, by decide +kernel, by decide +kernel, by decide +kernel, rfl, rfl⟩
def m_i_NoBar : List D → Store → Res D := mInit 7 3 3 (sSeq (sFldX 7 "giver" (mVar 0) (mCall (m_copied 4) (mCons (mVar 1) mNil))) (sFldX 7 "taker" (mVar 0) (mCall (m_copied 4) (mCons (mVar 2) mNil))))
abbrev s_i_NoText : Stmt := clsSt (top 11) 0
abbrev N_i_NoText : List PySem.Str := ["self", "row"]
theorem sc_i_NoText : ScS N_i_NoText ["self", "row"] (defScope s_i_NoText) := ⟨rfl, rfl, rfl, by decide +kernel, rfl, by decide +kernel, by decide +kernel, by decide +kernel, rfl, rfl⟩
def m_i_NoText : List D → Store → Res D := mInit 6 2 2 (sFldX 6 "row" (mVar 0) (mCall (m_copied 4) (mCons (mVar 1) mNil)))
abbrev s__law_blend : Stmt := top 16
abbrev N__law_blend : List PySem.Str := ["_law_sown", "_law_turn", "_law_seed", "_law_once"]
theorem sc__law_blend : FnScope N__law_blend ["_law_sown", "_law_turn"] (defScope s__law_blend) := ⟨rfl, rfl, rfl, by decide +kernel, rfl, by decide +kernel, by decide +kernel⟩
def m__law_blend : List D → Store → Res D := mDef 4 2 (sSeq (sAsg (mOp dAdd (mOp dAdd (mOp dAdd (mOp dMod (mVar 0) (mC (.int 2305843009213693951))) (mOp dMul (mOp dMul (mC (.int 104729)) (mVar 1)) (mVar 1))) (mOp dMul (mC (.int 17)) (mVar 1))) (mC (.int 5))) (gmName 2)) (sSeq (sAsg (mOp dMod (mOp dMul (mVar 2) (mC (.int 48271))) (mC (.int 2305843009213693921))) (gmName 3)) (sRet (mOp dMod (mOp dAdd (mOp dMul (mVar 3) (mOp dAdd (mOp dMod (mVar 3) (mC (.int 1000003))) (mOp dMul (mC (.int 99991)) (mVar 1)))) (mOp dDiv (mVar 3) (mC (.int 11)))) (mC (.int 2305843009213693907))))))
abbrev s__law_pot : Stmt := top 17
abbrev N__law_pot : List PySem.Str := ["_law_script"]
theorem sc__law_pot : FnScope N__law_pot ["_law_script"] (defScope s__law_pot) := ⟨rfl, rfl, rfl, by decide +kernel, rfl, by decide +kernel, by decide +kernel⟩
def m__law_pot : List D → Store → Res D := mDef 1 1 (sRet (mLstL (mCons (mCall cListL (mCons (mVar 0) mNil)) (mCons (mC (.int 0)) (mCons (mC (.int 3)) (mCons (mC (.int 0)) mNil))))))
abbrev s__law_draw : Stmt := top 18
abbrev N__law_draw : List PySem.Str := ["_law_pot_here", "_law_size", "_law_cell", "_law_digit"]
theorem sc__law_draw : FnScope N__law_draw ["_law_pot_here", "_law_size"] (defScope s__law_draw) := ⟨rfl, rfl, rfl, by decide +kernel, rfl, by decide +kernel, by decide +kernel⟩
def m__law_draw : List D → Store → Res D := mDef 4 2 (sSeq (sAsg (mOp dAdd (mOp dIx (mVar 0) (mC (.int 3))) (mC (.int 1))) (gmSub (mVar 0) (mC (.int 3)) dSet)) (sSeq (sIf (bAnd (bVal (mOp dEqA (mOp dIx (mVar 0) (mC (.int 1))) (mC (.int 0)))) (bVal (mOp dNeA (mOp dIx (mVar 0) (mC (.int 0))) (mLst mNil)))) (sSeq (sAsg (mBMt "list" qPopAt (mOp dIx (mVar 0) (mC (.int 0))) (mCons (mC (.int 0)) mNil)) (gmName 2)) (sSeq (sAsg (mCall m__law_blend (mCons (mOp dAdd (mOp dIx (mVar 0) (mC (.int 2))) (mVar 2)) (mCons (mCall cLen (mCons (mOp dIx (mVar 0) (mC (.int 0))) mNil)) mNil))) (gmSub (mVar 0) (mC (.int 2)) dSet)) (sIf (bVal (mOp dGe (mCall cAbs (mCons (mVar 2) mNil)) (mOp dPow (mC (.int 10)) (mC (.int 18))))) (sAsg (mCall cAbs (mCons (mVar 2) mNil)) (gmSub (mVar 0) (mC (.int 1)) dSet)) sNext))) sNext) (sSeq (sIf (bVal (mOp dGt (mOp dIx (mVar 0) (mC (.int 1))) (mC (.int 0)))) (sSeq (sAsg (mOp dMod (mOp dIx (mVar 0) (mC (.int 1))) (mVar 1)) (gmName 3)) (sSeq (sAsg (mOp dDiv (mOp dIx (mVar 0) (mC (.int 1))) (mVar 1)) (gmSub (mVar 0) (mC (.int 1)) dSet)) (sRet (mVar 3)))) sNext) (sRet (mOp dMod (mOp dDiv (mCall m__law_blend (mCons (mOp dIx (mVar 0) (mC (.int 2))) (mCons (mOp dIx (mVar 0) (mC (.int 3))) mNil))) (mC (.int 7))) (mVar 1))))))
abbrev s__law_pick : Stmt := top 19
abbrev N__law_pick : List PySem.Str := ["_law_pot_here", "_law_some"]
theorem sc__law_pick : FnScope N__law_pick ["_law_pot_here", "_law_some"] (defScope s__law_pick) := ⟨rfl, rfl, rfl, by decide +kernel, rfl, by decide +kernel, by decide +kernel⟩
def m__law_pick : List D → Store → Res D := mDef 2 2 (sRet (mOp dIx (mVar 1) (mCall m__law_draw (mCons (mVar 0) (mCons (mCall cLen (mCons (mVar 1) mNil)) mNil)))))
abbrev s__law_things : Stmt := top 20
abbrev N__law_things : List PySem.Str := ["_law_pot_here", "_law_digit", "_law_some"]
theorem sc__law_things : FnScope N__law_things ["_law_pot_here"] (defScope s__law_things) := ⟨rfl, rfl, rfl, by decide +kernel, rfl, by decide +kernel, by decide +kernel⟩
def m__law_things : List D → Store → Res D := mDef 3 1 (sSeq (sAsg (mCall m__law_draw (mCons (mVar 0) (mCons (mOp dPow (mC (.int 10)) (mC (.int 20))) mNil))) (gmName 1)) (sSeq (sAsg (mLst (mCons (mC .non) (mCons (mC (.bl true)) (mCons (mVar 1) (mCons (mC (.str "")) (mCons (mOp dMulS (mC (.str "a")) (mOp dMod (mVar 1) (mC (.int 13)))) (mCons (mTup mNil) (mCons (mTup (mCons (mC (.str "a")) (mCons (mC (.str "b")) mNil))) (mCons (mTup (mCons (mVar 1) (mCons (mC (.str "x")) mNil))) (mCons (mLst (mCons (mC (.str "a")) mNil)) mNil)))))))))) (gmName 2)) (sRet (mCall m__law_pick (mCons (mVar 0) (mCons (mOp dAdd (mVar 2) (mLst (mCons mEmp (mCons (mC (.str "abc")) (mCons (mTup (mCons (mTup (mCons (mC (.str "a")) (mCons (mC (.str "b")) mNil))) mNil)) mNil))))) mNil))))))
abbrev s__law_made : Stmt := top 21
abbrev N__law_made : List PySem.Str := ["_law_way", "_law_held", "_law_by_name"]
theorem sc__law_made : FnScope N__law_made ["_law_way", "_law_held", "_law_by_name"] (defScope s__law_made) := ⟨rfl, rfl, rfl, by decide +kernel, rfl, by decide +kernel, by decide +kernel⟩
def m__law_made : List D → Store → Res D := mDef 3 3 (sSeq (sIf (bVal (mOp dEqA (mVar 0) (mC (.int 0)))) (sRet (mIf (bVal (mVar 2)) (mMkXk 0 1 m_i_NoMember (fun ds es => ds ++ es) (mCons (mVar 1) mNil)) (mMkX 0 m_i_NoMember [] (mCons (mVar 1) mNil)))) sNext) (sSeq (sIf (bVal (mOp dEqA (mVar 0) (mC (.int 1)))) (sRet (mIf (bVal (mVar 2)) (mMkXk 1 1 m_i_NoDrawing (fun ds es => ds ++ es) (mCons (mVar 1) mNil)) (mMkX 1 m_i_NoDrawing [] (mCons (mVar 1) mNil)))) sNext) (sSeq (sIf (bVal (mOp dEqA (mVar 0) (mC (.int 2)))) (sRet (mIf (bVal (mVar 2)) (mMkXk 2 1 m_i_TooFew (fun ds es => ds ++ es) (mCons (mVar 1) mNil)) (mMkX 2 m_i_TooFew [] (mCons (mVar 1) mNil)))) sNext) (sSeq (sIf (bVal (mOp dEqA (mVar 0) (mC (.int 3)))) (sRet (mIf (bVal (mVar 2)) (mMkXk 3 1 m_i_NoNumber (fun ds es => ds ++ es) (mCons (mVar 1) mNil)) (mMkX 3 m_i_NoNumber [] (mCons (mVar 1) mNil)))) sNext) (sSeq (sIf (bVal (mOp dEqA (mVar 0) (mC (.int 4)))) (sRet (mIf (bVal (mVar 2)) (mMkXk 4 1 m_i_TooMany (fun ds es => ds ++ es) (mCons (mVar 1) mNil)) (mMkX 4 m_i_TooMany [] (mCons (mVar 1) mNil)))) sNext) (sSeq (sIf (bVal (mOp dEqA (mVar 0) (mC (.int 5)))) (sRet (mIf (bVal (mVar 2)) (mMkXk 5 1 m_i_Twice (fun ds es => ds ++ es) (mCons (mVar 1) mNil)) (mMkX 5 m_i_Twice [] (mCons (mVar 1) mNil)))) sNext) (sRet (mIf (bVal (mVar 2)) (mMkXk 6 1 m_i_NoText (fun ds es => ds ++ es) (mCons (mVar 1) mNil)) (mMkX 6 m_i_NoText [] (mCons (mVar 1) mNil))))))))))
abbrev s__law_kept : Stmt := top 22
abbrev N__law_kept : List PySem.Str := ["_law_way", "_law_made_here"]
theorem sc__law_kept : FnScope N__law_kept ["_law_way", "_law_made_here"] (defScope s__law_kept) := ⟨rfl, rfl, rfl, by decide +kernel, rfl, by decide +kernel, by decide +kernel⟩
def m__law_kept : List D → Store → Res D := mDef 2 2 (sSeq (sIf (bOr (bVal (mOp dEqA (mVar 0) (mC (.int 0)))) (bVal (mOp dEqA (mVar 0) (mC (.int 5))))) (sRet (mXg ok_fl_name "name" (mVar 1))) sNext) (sSeq (sIf (bVal (mOp dEqA (mVar 0) (mC (.int 1)))) (sRet (mXg ok_fl_thing "thing" (mVar 1))) sNext) (sSeq (sIf (bVal (mOp dEqA (mVar 0) (mC (.int 2)))) (sRet (mXg ok_fl_lot "lot" (mVar 1))) sNext) (sSeq (sIf (bVal (mOp dEqA (mVar 0) (mC (.int 3)))) (sRet (mXg ok_fl_number "number" (mVar 1))) sNext) (sRet (mIf (bVal (mOp dEqA (mVar 0) (mC (.int 4)))) (mXg ok_fl_many "many" (mVar 1)) (mXg ok_fl_row "row" (mVar 1))))))))
abbrev s__law_classes : Stmt := top 23
abbrev N__law_classes : List PySem.Str := ["_law_made_here", "_law_found"]
theorem sc__law_classes : FnScope N__law_classes ["_law_made_here"] (defScope s__law_classes) := ⟨rfl, rfl, rfl, by decide +kernel, rfl, by decide +kernel, by decide +kernel⟩
def m__law_classes : List D → Store → Res D := mDef 2 1 (sSeq (sAsg (mLst (mCons (mIsX isi_NoMember (mVar 0)) (mCons (mIsX isi_NoDrawing (mVar 0)) (mCons (mIsX isi_TooFew (mVar 0)) mNil)))) (gmName 1)) (sSeq (sAsg (mOp dAdd (mVar 1) (mLst (mCons (mIsX isi_NoNumber (mVar 0)) (mCons (mIsX isi_TooMany (mVar 0)) (mCons (mIsX isi_Twice (mVar 0)) mNil))))) (gmName 1)) (sSeq (sAsg (mOp dAdd (mVar 1) (mLst (mCons (mIsX isi_NoText (mVar 0)) (mCons (mIsX isi_NoBar (mVar 0)) (mCons (mIsX isi_NoYear (mVar 0)) mNil))))) (gmName 1)) (sRet (mOp dAdd (mVar 1) (mLst (mCons (mIsX isi_NoBack (mVar 0)) (mCons (mIsX isi_NoRow (mVar 0)) mNil))))))))
abbrev s__law_raised : Stmt := top 24
abbrev N__law_raised : List PySem.Str := ["_law_held", "_law_caught", "e"]
theorem sc__law_raised : FnScope N__law_raised ["_law_held"] (defScope s__law_raised) := ⟨rfl, rfl, rfl, by decide +kernel, rfl, by decide +kernel, by decide +kernel⟩
def m__law_raised : List D → Store → Res D := mDef 3 1 (sSeq (sAsg (mC .non) (gmName 1)) (sKeepF 2 2 1 "lot" m_i_TooFew (mCons (mVar 0) mNil)))
abbrev s__law_right : Stmt := top 25
abbrev N__law_right : List PySem.Str := ["_law_way", "_law_one", "_law_other", "_law_first", "_law_second", "_law_k"]
theorem sc__law_right : FnScope N__law_right ["_law_way", "_law_one", "_law_other"] (defScope s__law_right) := ⟨rfl, rfl, rfl, by decide +kernel, rfl, by decide +kernel, by decide +kernel⟩
def m__law_right : List D → Store → Res D := mDef 6 3 (sSeq (sPar 3 4 (mCons (mCall m__law_made (mCons (mVar 0) (mCons (mVar 1) (mCons (mC (.bl false)) mNil)))) (mCons (mCall m__law_made (mCons (mVar 0) (mCons (mVar 2) (mCons (mC (.bl true)) mNil)))) mNil))) (sSeq (sIf (bOr (bVal (mOp dNeA (mCall cRepr (mCons (mCall m__law_kept (mCons (mVar 0) (mCons (mVar 3) mNil))) mNil)) (mCall cRepr (mCons (mVar 1) mNil)))) (bVal (mOp dNeA (mCall cRepr (mCons (mCall m__law_kept (mCons (mVar 0) (mCons (mVar 4) mNil))) mNil)) (mCall cRepr (mCons (mVar 2) mNil))))) (sRet (mC (.bl false))) sNext) (sSeq (sIf (bOr (bVal (mOp dNeA (mCall m__law_classes (mCons (mVar 3) mNil)) (mLc (itRange1 (mCons (mC (.int 11)) mNil)) (gmName 5) bYes (mOp dEqA (mVar 5) (mVar 0)) [5]))) (bNot (bVal (mIsX isi_ValueError (mVar 3))))) (sRet (mC (.bl false))) sNext) (sRet (mAndV (mIsX isi_LotError (mVar 3)) (mOp dEqA (mCall cRepr (mCons (mCall m__law_kept (mCons (mVar 0) (mCons (mVar 3) mNil))) mNil)) (mCall cRepr (mCons (mVar 1) mNil))))))))
abbrev s_law : Stmt := top 26
abbrev N_law : List PySem.Str := ["_law_script", "_law_pot_here", "_law_one", "_law_other", "_law_first", "_law_second", "_law_way", "_law_made_here", "_law_k"]
theorem sc_law : FnScope N_law ["_law_script"] (defScope s_law) := ⟨rfl, rfl, rfl, by decide +kernel, rfl, by decide +kernel, by decide +kernel⟩
def m_law : List D → Store → Res D := mDef 9 1 (sSeq (sAsg (mCall m__law_pot (mCons (mVar 0) mNil)) (gmName 1)) (sSeq (sAsg (mTup (mCons (mCall m__law_things (mCons (mVar 1) mNil)) (mCons (mCall m__law_things (mCons (mVar 1) mNil)) mNil))) (gmTup 2 (gmCons (gmName 2) (gmCons (gmName 3) gmNil)))) (sSeq (sIf (bOr (bNot (bVal (mCall cAll (mCons (mLc (itRange1 (mCons (mC (.int 7)) mNil)) (gmName 6) bYes (mCall m__law_right (mCons (mVar 6) (mCons (mVar 2) (mCons (mVar 3) mNil)))) [6]) mNil)))) (bVal (mOp dNeA (mCall cRepr (mCons (mCall m__law_raised (mCons (mVar 2) mNil)) mNil)) (mCall cRepr (mCons (mVar 2) mNil))))) (sRet (mC (.bl false))) sNext) (sSeq (sPar 4 5 (mCons (mMkX 7 m_i_NoBar [] (mCons (mVar 2) (mCons (mVar 3) mNil))) (mCons (mMkXk 7 2 m_i_NoBar (fun ds es => ds ++ es.reverse) (mCons (mVar 2) (mCons (mVar 3) mNil))) mNil))) (sSeq (sIf (bVal (mOp dNeA (mCall cRepr (mCons (mLst (mCons (mXg ok_fl_giver "giver" (mVar 4)) (mCons (mXg ok_fl_taker "taker" (mVar 4)) (mCons (mXg ok_fl_giver "giver" (mVar 5)) (mCons (mXg ok_fl_taker "taker" (mVar 5)) mNil))))) mNil)) (mCall cRepr (mCons (mLst (mCons (mVar 2) (mCons (mVar 3) (mCons (mVar 3) (mCons (mVar 2) mNil))))) mNil)))) (sRet (mC (.bl false))) sNext) (sSeq (sForI (itSeq (mTup (mCons (mTup (mCons (mC (.int 7)) (mCons (mVar 4) mNil))) (mCons (mTup (mCons (mC (.int 8)) (mCons (mEx0 8 (mC (.str "no year"))) mNil))) (mCons (mTup (mCons (mC (.int 9)) (mCons (mEx0 9 (mC (.str "none"))) mNil))) (mCons (mTup (mCons (mC (.int 10)) (mCons (mEx0 10 (mC (.str "no row"))) mNil))) mNil)))))) (gmTup 2 (gmCons (gmName 6) (gmCons (gmName 7) gmNil))) (sSeq (sIf (bVal (mOp dNeA (mCall m__law_classes (mCons (mVar 7) mNil)) (mLc (itRange1 (mCons (mC (.int 11)) mNil)) (gmName 8) bYes (mOp dEqA (mVar 8) (mVar 6)) [8]))) (sRet (mC (.bl false))) sNext) (sIf (bOr (bNot (bVal (mIsX isi_LotError (mVar 7)))) (bNot (bVal (mIsX isi_ValueError (mVar 7))))) (sRet (mC (.bl false))) sNext))) (sRet (mC (.bl true)))))))))
abbrev vmro : List Value := [.type "ValueError", .type "Exception", .type "BaseException", .type "object"]
structure DefAt (K : PySem.W.Frag) (mg : PySem.Str → Option Value) (n : PySem.Str) (st : Stmt) (ps : List PySem.Str) (f : Addr) (fd : FuncData) : Prop where
  F : Fun K n n st f fd
  m : mg n = some (.ref f)
  b : Binds K fd ps []
structure Tx (K : PySem.W.Frag) (P : Program) (mg : PySem.Str → Option Value) where
  Cs : List Addr
  L : Addr
  a_copied : Addr
  fd_copied : FuncData
  d_copied : DefAt K mg "copied" s_copied ["thing"] a_copied fd_copied
  a__law_blend : Addr
  fd__law_blend : FuncData
  d__law_blend : DefAt K mg "_law_blend" s__law_blend ["_law_sown", "_law_turn"] a__law_blend fd__law_blend
  a__law_pot : Addr
  fd__law_pot : FuncData
  d__law_pot : DefAt K mg "_law_pot" s__law_pot ["_law_script"] a__law_pot fd__law_pot
  a__law_draw : Addr
  fd__law_draw : FuncData
  d__law_draw : DefAt K mg "_law_draw" s__law_draw ["_law_pot_here", "_law_size"] a__law_draw fd__law_draw
  a__law_pick : Addr
  fd__law_pick : FuncData
  d__law_pick : DefAt K mg "_law_pick" s__law_pick ["_law_pot_here", "_law_some"] a__law_pick fd__law_pick
  a__law_things : Addr
  fd__law_things : FuncData
  d__law_things : DefAt K mg "_law_things" s__law_things ["_law_pot_here"] a__law_things fd__law_things
  a__law_made : Addr
  fd__law_made : FuncData
  d__law_made : DefAt K mg "_law_made" s__law_made ["_law_way", "_law_held", "_law_by_name"] a__law_made fd__law_made
  a__law_kept : Addr
  fd__law_kept : FuncData
  d__law_kept : DefAt K mg "_law_kept" s__law_kept ["_law_way", "_law_made_here"] a__law_kept fd__law_kept
  a__law_classes : Addr
  fd__law_classes : FuncData
  d__law_classes : DefAt K mg "_law_classes" s__law_classes ["_law_made_here"] a__law_classes fd__law_classes
  a__law_raised : Addr
  fd__law_raised : FuncData
  d__law_raised : DefAt K mg "_law_raised" s__law_raised ["_law_held"] a__law_raised fd__law_raised
  a__law_right : Addr
  fd__law_right : FuncData
  d__law_right : DefAt K mg "_law_right" s__law_right ["_law_way", "_law_one", "_law_other"] a__law_right fd__law_right
  a_law : Addr
  fd_law : FuncData
  d_law : DefAt K mg "law" s_law ["_law_script"] a_law fd_law
  fI_NoMember : Addr
  cda_NoMember : Addr
  cc_NoMember : Addr
  fd_NoMember : FuncData
  x_NoMember : XI K P mg "NoMember" "NoMember.__init__" s_i_NoMember (Cs.getD 0 0) fI_NoMember cda_NoMember cc_NoMember fd_NoMember
  b_NoMember : Binds K fd_NoMember ["self", "name"] []
  kb_NoMember : KBn K fd_NoMember ["self", "name"] 1 ["name"] (fun us ws => us ++ ws) (fun us ws => us ++ ws)
  fI_NoDrawing : Addr
  cda_NoDrawing : Addr
  cc_NoDrawing : Addr
  fd_NoDrawing : FuncData
  x_NoDrawing : XI K P mg "NoDrawing" "NoDrawing.__init__" s_i_NoDrawing (Cs.getD 1 0) fI_NoDrawing cda_NoDrawing cc_NoDrawing fd_NoDrawing
  b_NoDrawing : Binds K fd_NoDrawing ["self", "thing"] []
  kb_NoDrawing : KBn K fd_NoDrawing ["self", "thing"] 1 ["thing"] (fun us ws => us ++ ws) (fun us ws => us ++ ws)
  fI_TooFew : Addr
  cda_TooFew : Addr
  cc_TooFew : Addr
  fd_TooFew : FuncData
  x_TooFew : XI K P mg "TooFew" "TooFew.__init__" s_i_TooFew (Cs.getD 2 0) fI_TooFew cda_TooFew cc_TooFew fd_TooFew
  b_TooFew : Binds K fd_TooFew ["self", "lot"] []
  kb_TooFew : KBn K fd_TooFew ["self", "lot"] 1 ["lot"] (fun us ws => us ++ ws) (fun us ws => us ++ ws)
  fI_NoNumber : Addr
  cda_NoNumber : Addr
  cc_NoNumber : Addr
  fd_NoNumber : FuncData
  x_NoNumber : XI K P mg "NoNumber" "NoNumber.__init__" s_i_NoNumber (Cs.getD 3 0) fI_NoNumber cda_NoNumber cc_NoNumber fd_NoNumber
  b_NoNumber : Binds K fd_NoNumber ["self", "number"] []
  kb_NoNumber : KBn K fd_NoNumber ["self", "number"] 1 ["number"] (fun us ws => us ++ ws) (fun us ws => us ++ ws)
  fI_TooMany : Addr
  cda_TooMany : Addr
  cc_TooMany : Addr
  fd_TooMany : FuncData
  x_TooMany : XI K P mg "TooMany" "TooMany.__init__" s_i_TooMany (Cs.getD 4 0) fI_TooMany cda_TooMany cc_TooMany fd_TooMany
  b_TooMany : Binds K fd_TooMany ["self", "many"] []
  kb_TooMany : KBn K fd_TooMany ["self", "many"] 1 ["many"] (fun us ws => us ++ ws) (fun us ws => us ++ ws)
  fI_Twice : Addr
  cda_Twice : Addr
  cc_Twice : Addr
  fd_Twice : FuncData
  x_Twice : XI K P mg "Twice" "Twice.__init__" s_i_Twice (Cs.getD 5 0) fI_Twice cda_Twice cc_Twice fd_Twice
  b_Twice : Binds K fd_Twice ["self", "name"] []
  kb_Twice : KBn K fd_Twice ["self", "name"] 1 ["name"] (fun us ws => us ++ ws) (fun us ws => us ++ ws)
  fI_NoBar : Addr
  cda_NoBar : Addr
  cc_NoBar : Addr
  fd_NoBar : FuncData
  x_NoBar : XI K P mg "NoBar" "NoBar.__init__" s_i_NoBar (Cs.getD 7 0) fI_NoBar cda_NoBar cc_NoBar fd_NoBar
  b_NoBar : Binds K fd_NoBar ["self", "giver", "taker"] []
  kb_NoBar : KBn K fd_NoBar ["self", "giver", "taker"] 1 ["taker", "giver"] (fun us ws => us ++ ws.reverse) (fun us ws => us ++ ws.reverse)
  fI_NoText : Addr
  cda_NoText : Addr
  cc_NoText : Addr
  fd_NoText : FuncData
  x_NoText : XI K P mg "NoText" "NoText.__init__" s_i_NoText (Cs.getD 6 0) fI_NoText cda_NoText cc_NoText fd_NoText
  b_NoText : Binds K fd_NoText ["self", "row"] []
  kb_NoText : KBn K fd_NoText ["self", "row"] 1 ["row"] (fun us ws => us ++ ws) (fun us ws => us ++ ws)
  fl_name : ∀ c, ok_fl_name c = true → XfC K (Cs.getD c 0) ∧ PySem.W.findIn K (.ref (Cs.getD c 0)) "name" = some none
  fl_thing : ∀ c, ok_fl_thing c = true → XfC K (Cs.getD c 0) ∧ PySem.W.findIn K (.ref (Cs.getD c 0)) "thing" = some none
  fl_lot : ∀ c, ok_fl_lot c = true → XfC K (Cs.getD c 0) ∧ PySem.W.findIn K (.ref (Cs.getD c 0)) "lot" = some none
  fl_number : ∀ c, ok_fl_number c = true → XfC K (Cs.getD c 0) ∧ PySem.W.findIn K (.ref (Cs.getD c 0)) "number" = some none
  fl_many : ∀ c, ok_fl_many c = true → XfC K (Cs.getD c 0) ∧ PySem.W.findIn K (.ref (Cs.getD c 0)) "many" = some none
  fl_giver : ∀ c, ok_fl_giver c = true → XfC K (Cs.getD c 0) ∧ PySem.W.findIn K (.ref (Cs.getD c 0)) "giver" = some none
  fl_taker : ∀ c, ok_fl_taker c = true → XfC K (Cs.getD c 0) ∧ PySem.W.findIn K (.ref (Cs.getD c 0)) "taker" = some none
  fl_row : ∀ c, ok_fl_row c = true → XfC K (Cs.getD c 0) ∧ PySem.W.findIn K (.ref (Cs.getD c 0)) "row" = some none
  isi_NoMember : ∀ c b, Lw.isi_NoMember c = some b → ExcC K (Cs.getD c 0) ∧ PySem.W.kitOne K (.ref (Cs.getD c 0)) (.ref (Cs.getD 0 0)) = some b
  isi_NoDrawing : ∀ c b, Lw.isi_NoDrawing c = some b → ExcC K (Cs.getD c 0) ∧ PySem.W.kitOne K (.ref (Cs.getD c 0)) (.ref (Cs.getD 1 0)) = some b
  isi_TooFew : ∀ c b, Lw.isi_TooFew c = some b → ExcC K (Cs.getD c 0) ∧ PySem.W.kitOne K (.ref (Cs.getD c 0)) (.ref (Cs.getD 2 0)) = some b
  isi_NoNumber : ∀ c b, Lw.isi_NoNumber c = some b → ExcC K (Cs.getD c 0) ∧ PySem.W.kitOne K (.ref (Cs.getD c 0)) (.ref (Cs.getD 3 0)) = some b
  isi_TooMany : ∀ c b, Lw.isi_TooMany c = some b → ExcC K (Cs.getD c 0) ∧ PySem.W.kitOne K (.ref (Cs.getD c 0)) (.ref (Cs.getD 4 0)) = some b
  isi_Twice : ∀ c b, Lw.isi_Twice c = some b → ExcC K (Cs.getD c 0) ∧ PySem.W.kitOne K (.ref (Cs.getD c 0)) (.ref (Cs.getD 5 0)) = some b
  isi_NoText : ∀ c b, Lw.isi_NoText c = some b → ExcC K (Cs.getD c 0) ∧ PySem.W.kitOne K (.ref (Cs.getD c 0)) (.ref (Cs.getD 6 0)) = some b
  isi_NoBar : ∀ c b, Lw.isi_NoBar c = some b → ExcC K (Cs.getD c 0) ∧ PySem.W.kitOne K (.ref (Cs.getD c 0)) (.ref (Cs.getD 7 0)) = some b
  isi_NoYear : ∀ c b, Lw.isi_NoYear c = some b → ExcC K (Cs.getD c 0) ∧ PySem.W.kitOne K (.ref (Cs.getD c 0)) (.ref (Cs.getD 8 0)) = some b
  isi_NoBack : ∀ c b, Lw.isi_NoBack c = some b → ExcC K (Cs.getD c 0) ∧ PySem.W.kitOne K (.ref (Cs.getD c 0)) (.ref (Cs.getD 9 0)) = some b
  isi_NoRow : ∀ c b, Lw.isi_NoRow c = some b → ExcC K (Cs.getD c 0) ∧ PySem.W.kitOne K (.ref (Cs.getD c 0)) (.ref (Cs.getD 10 0)) = some b
  isi_ValueError : ∀ c b, Lw.isi_ValueError c = some b → ExcC K (Cs.getD c 0) ∧ PySem.W.kitOne K (.ref (Cs.getD c 0)) (.type "ValueError") = some b
  isi_LotError : ∀ c b, Lw.isi_LotError c = some b → ExcC K (Cs.getD c 0) ∧ PySem.W.kitOne K (.ref (Cs.getD c 0)) (.ref L) = some b
  c_NoMember : mg "NoMember" = some (.ref (Cs.getD 0 0))
  c_NoDrawing : mg "NoDrawing" = some (.ref (Cs.getD 1 0))
  c_TooFew : mg "TooFew" = some (.ref (Cs.getD 2 0))
  c_NoNumber : mg "NoNumber" = some (.ref (Cs.getD 3 0))
  c_TooMany : mg "TooMany" = some (.ref (Cs.getD 4 0))
  c_Twice : mg "Twice" = some (.ref (Cs.getD 5 0))
  c_NoText : mg "NoText" = some (.ref (Cs.getD 6 0))
  c_NoBar : mg "NoBar" = some (.ref (Cs.getD 7 0))
  c_NoYear : mg "NoYear" = some (.ref (Cs.getD 8 0))
  c_NoBack : mg "NoBack" = some (.ref (Cs.getD 9 0))
  c_NoRow : mg "NoRow" = some (.ref (Cs.getD 10 0))
  c_LotError : mg "LotError" = some (.ref L)
  q_NoYear : PySem.W.excIn K (Cs.getD 8 0) vmro "ValueError.__new__" = true
  k_NoYear : PySem.W.keepIn K (.ref (Cs.getD 8 0)) = true
  q_NoBack : PySem.W.excIn K (Cs.getD 9 0) vmro "ValueError.__new__" = true
  k_NoBack : PySem.W.keepIn K (.ref (Cs.getD 9 0)) = true
  q_NoRow : PySem.W.excIn K (Cs.getD 10 0) vmro "ValueError.__new__" = true
  k_NoRow : PySem.W.keepIn K (.ref (Cs.getD 10 0)) = true
  ex_2 : PySem.W.exmOne K (.ref (Cs.getD 2 0)) (.ref L) = some true
  ValueError : mg "ValueError" = none
  abs : mg "abs" = none
  all : mg "all" = none
  dict : mg "dict" = none
  isinstance : mg "isinstance" = none
  len : mg "len" = none
  list : mg "list" = none
  range : mg "range" = none
  repr : mg "repr" = none
  tuple : mg "tuple" = none
def gOf {K : PySem.W.Frag} {P : Program} {mg : PySem.Str → Option Value} (T : Tx K P mg) : G := ⟨K, fun i => T.Cs.getD i 0, []⟩
section
variable {P : Program} {w : World} {K : PySem.W.Frag} {mg : PySem.Str → Option Value} {base : Heap}
theorem ok_copied (T : Tx K P mg) : ∀ k, FnOk P w K mg base (L2.CX P w) (k + 1) T.a_copied T.fd_copied ["thing"] (spOf (gOf T) 1 (m_copied k))
  | 0 => ⟨fun _ _ _ _ h => by obtain ⟨_, _, _, _, hl, _⟩ := h; exact hl, fun _ _ _ _ _ _ _ _ _ _ _ _ _ h => by obtain ⟨_, _, _, _, _, _, _, p⟩ := h; exact p.elim⟩
  | k + 1 => by
    have G_copied := ok_copied T k
    refine fn_sim (N := N_copied) T.d_copied.F sc_copied fun cdv A outer s H E hr => ?_
    have nd := sc_copied.nd
    refine ⟨_, (pss_cons (ps_if (pt_val (pe_callB call_isi (by rfl) T.isinstance (by decide +kernel) (pa_cons (pv 0) (pa_cons (pe_bltn (v := .ty "list") (by rfl) T.list (by decide +kernel) rfl) pa_nil)))) (pss_one (ps_ret (pe_lc (own := [("part", 1)]) rfl nd (pi_seq (pv 0)) (blkOk_by (N := N_copied) (sc := defScope s_copied) (by decide +kernel)) (fun _ _ _ _ _ => pg_name (i := 1) nd rfl (Or.inl rfl) (.inr rfl)) (fun _ _ _ _ _ => pts_nil) (fun _ _ _ _ _ => (pe_call G_copied (hr.mono (by omega)) rfl T.d_copied.m T.d_copied.F.kp T.d_copied.b .nil passL (pa_cons (pv 1) pa_nil)))))) pss_nil) (pss_cons (ps_if (pt_val (pe_callB call_isi (by rfl) T.isinstance (by decide +kernel) (pa_cons (pv 0) (pa_cons (pe_bltn (v := .ty "tuple") (by rfl) T.tuple (by decide +kernel) rfl) pa_nil)))) (pss_one (ps_ret (pe_callTy call_tuple_of (by rfl) T.tuple (by decide +kernel) (pa_cons (pe_lc (own := [("part", 1)]) rfl nd (pi_seq (pv 0)) (blkOk_by (N := N_copied) (sc := defScope s_copied) (by decide +kernel)) (fun _ _ _ _ _ => pg_name (i := 1) nd rfl (Or.inl rfl) (.inr rfl)) (fun _ _ _ _ _ => pts_nil) (fun _ _ _ _ _ => (pe_call G_copied (hr.mono (by omega)) rfl T.d_copied.m T.d_copied.F.kp T.d_copied.b .nil passL (pa_cons (pv 1) pa_nil)))) pa_nil)))) pss_nil) (pss_cons (ps_if (pt_val (pe_callB call_isi (by rfl) T.isinstance (by decide +kernel) (pa_cons (pv 0) (pa_cons (pe_bltn (v := .ty "dict") (by rfl) T.dict (by decide +kernel) rfl) pa_nil)))) (pss_one (ps_ret (pe_dc (own := [("key", 2), ("worth", 3)]) rfl nd (pi_items (pv 0)) (blkOk_by (N := N_copied) (sc := defScope s_copied) (by decide +kernel)) (fun _ _ _ _ _ => (show PG _ _ (gTup K 2 _) from pg_tup rfl (pgs_cons (pg_name (i := 2) nd rfl (Or.inl rfl) (.inr rfl)) (pgs_cons (pg_name (i := 3) nd rfl (Or.inl rfl) (.inr rfl)) pgs_nil)))) (fun _ _ _ _ _ => pts_nil) (fun _ _ _ _ _ => (pv 2)) (fun _ _ _ _ _ => (pe_call G_copied (hr.mono (by omega)) rfl T.d_copied.m T.d_copied.F.kp T.d_copied.b .nil passL (pa_cons (pv 3) pa_nil)))))) pss_nil) (pss_one (ps_ret (pv 0)))))), ?_⟩
    exact (sims_seq (sims_if (simt_tB (sim_isi (sim_var 0))) (sims_ret (sim_lc (simi_seq (sim_var 0)) (simg_name 1) (own_name (by decide)) simt_yes (sim_call (ar_copied _) (sim_cons (sim_var 1) sim_nil)))) sims_next) (sims_seq (sims_if (simt_tB (sim_isi (sim_var 0))) (sims_ret (sim_cb sim_tuple (sim_cons (sim_lc (simi_seq (sim_var 0)) (simg_name 1) (own_name (by decide)) simt_yes (sim_call (ar_copied _) (sim_cons (sim_var 1) sim_nil))) sim_nil))) sims_next) (sims_seq (sims_if (simt_tB (sim_isi (sim_var 0))) (sims_ret (sim_dc0 (sim_var 0))) sims_next) (sims_ret (sim_var 0)))))
theorem ok_i_NoMember (T : Tx K P mg) : FnOk P w K mg base (L2.CX P w) 6 T.fI_NoMember T.fd_NoMember ["self", "name"] (spOf (gOf T) 2 m_i_NoMember) := by
  have G_copied := ok_copied (w := w) (base := base) T 4
  refine fn_init (N := N_i_NoMember) (c := 0) (k := 5) T.x_NoMember rfl rfl sc_i_NoMember rfl rfl (fun _ => rfl) fun A outer s H E hr => ?_
  have nd := sc_i_NoMember.nd
  refine ⟨_, (pss_one (ps_ost (pv 0) (pe_call G_copied (hr.mono (by decide)) rfl T.d_copied.m T.d_copied.F.kp T.d_copied.b .nil pS (pa_cons (pv 1) pa_nil)))), ?_⟩
  exact (sims_fldX T.x_NoMember.U.T (T.fl_name 0 rfl).2 (sim_var 0) (sim_call (ar_copied _) (sim_cons (sim_var 1) sim_nil)))
theorem ok_i_NoDrawing (T : Tx K P mg) : FnOk P w K mg base (L2.CX P w) 6 T.fI_NoDrawing T.fd_NoDrawing ["self", "thing"] (spOf (gOf T) 2 m_i_NoDrawing) := by
  have G_copied := ok_copied (w := w) (base := base) T 4
  refine fn_init (N := N_i_NoDrawing) (c := 1) (k := 5) T.x_NoDrawing rfl rfl sc_i_NoDrawing rfl rfl (fun _ => rfl) fun A outer s H E hr => ?_
  have nd := sc_i_NoDrawing.nd
  refine ⟨_, (pss_one (ps_ost (pv 0) (pe_call G_copied (hr.mono (by decide)) rfl T.d_copied.m T.d_copied.F.kp T.d_copied.b .nil pS (pa_cons (pv 1) pa_nil)))), ?_⟩
  exact (sims_fldX T.x_NoDrawing.U.T (T.fl_thing 1 rfl).2 (sim_var 0) (sim_call (ar_copied _) (sim_cons (sim_var 1) sim_nil)))
theorem ok_i_TooFew (T : Tx K P mg) : FnOk P w K mg base (L2.CX P w) 6 T.fI_TooFew T.fd_TooFew ["self", "lot"] (spOf (gOf T) 2 m_i_TooFew) := by
  have G_copied := ok_copied (w := w) (base := base) T 4
  refine fn_init (N := N_i_TooFew) (c := 2) (k := 5) T.x_TooFew rfl rfl sc_i_TooFew rfl rfl (fun _ => rfl) fun A outer s H E hr => ?_
  have nd := sc_i_TooFew.nd
  refine ⟨_, (pss_one (ps_ost (pv 0) (pe_call G_copied (hr.mono (by decide)) rfl T.d_copied.m T.d_copied.F.kp T.d_copied.b .nil pS (pa_cons (pv 1) pa_nil)))), ?_⟩
  exact (sims_fldX T.x_TooFew.U.T (T.fl_lot 2 rfl).2 (sim_var 0) (sim_call (ar_copied _) (sim_cons (sim_var 1) sim_nil)))
theorem ok_i_NoNumber (T : Tx K P mg) : FnOk P w K mg base (L2.CX P w) 6 T.fI_NoNumber T.fd_NoNumber ["self", "number"] (spOf (gOf T) 2 m_i_NoNumber) := by
  have G_copied := ok_copied (w := w) (base := base) T 4
  refine fn_init (N := N_i_NoNumber) (c := 3) (k := 5) T.x_NoNumber rfl rfl sc_i_NoNumber rfl rfl (fun _ => rfl) fun A outer s H E hr => ?_
  have nd := sc_i_NoNumber.nd
  refine ⟨_, (pss_one (ps_ost (pv 0) (pe_call G_copied (hr.mono (by decide)) rfl T.d_copied.m T.d_copied.F.kp T.d_copied.b .nil pS (pa_cons (pv 1) pa_nil)))), ?_⟩
  exact (sims_fldX T.x_NoNumber.U.T (T.fl_number 3 rfl).2 (sim_var 0) (sim_call (ar_copied _) (sim_cons (sim_var 1) sim_nil)))
theorem ok_i_TooMany (T : Tx K P mg) : FnOk P w K mg base (L2.CX P w) 6 T.fI_TooMany T.fd_TooMany ["self", "many"] (spOf (gOf T) 2 m_i_TooMany) := by
  have G_copied := ok_copied (w := w) (base := base) T 4
  refine fn_init (N := N_i_TooMany) (c := 4) (k := 5) T.x_TooMany rfl rfl sc_i_TooMany rfl rfl (fun _ => rfl) fun A outer s H E hr => ?_
  have nd := sc_i_TooMany.nd
  refine ⟨_, (pss_one (ps_ost (pv 0) (pe_call G_copied (hr.mono (by decide)) rfl T.d_copied.m T.d_copied.F.kp T.d_copied.b .nil pS (pa_cons (pv 1) pa_nil)))), ?_⟩
  exact (sims_fldX T.x_TooMany.U.T (T.fl_many 4 rfl).2 (sim_var 0) (sim_call (ar_copied _) (sim_cons (sim_var 1) sim_nil)))
theorem ok_i_Twice (T : Tx K P mg) : FnOk P w K mg base (L2.CX P w) 6 T.fI_Twice T.fd_Twice ["self", "name"] (spOf (gOf T) 2 m_i_Twice) := by
  have G_copied := ok_copied (w := w) (base := base) T 4
  refine fn_init (N := N_i_Twice) (c := 5) (k := 5) T.x_Twice rfl rfl sc_i_Twice rfl rfl (fun _ => rfl) fun A outer s H E hr => ?_
  have nd := sc_i_Twice.nd
  refine ⟨_, (pss_one (ps_ost (pv 0) (pe_call G_copied (hr.mono (by decide)) rfl T.d_copied.m T.d_copied.F.kp T.d_copied.b .nil pS (pa_cons (pv 1) pa_nil)))), ?_⟩
  exact (sims_fldX T.x_Twice.U.T (T.fl_name 5 rfl).2 (sim_var 0) (sim_call (ar_copied _) (sim_cons (sim_var 1) sim_nil)))
theorem ok_i_NoBar (T : Tx K P mg) : FnOk P w K mg base (L2.CX P w) 6 T.fI_NoBar T.fd_NoBar ["self", "giver", "taker"] (spOf (gOf T) 3 m_i_NoBar) := by
  have G_copied := ok_copied (w := w) (base := base) T 4
  refine fn_init (N := N_i_NoBar) (c := 7) (k := 5) T.x_NoBar rfl rfl sc_i_NoBar rfl rfl (fun _ => rfl) fun A outer s H E hr => ?_
  have nd := sc_i_NoBar.nd
  refine ⟨_, (pss_cons (ps_ost (pv 0) (pe_call G_copied (hr.mono (by decide)) rfl T.d_copied.m T.d_copied.F.kp T.d_copied.b .nil pS (pa_cons (pv 1) pa_nil))) (pss_one (ps_ost (pv 0) (pe_call G_copied (hr.mono (by decide)) rfl T.d_copied.m T.d_copied.F.kp T.d_copied.b .nil pS (pa_cons (pv 2) pa_nil))))), ?_⟩
  exact (sims_seq (sims_fldX T.x_NoBar.U.T (T.fl_giver 7 rfl).2 (sim_var 0) (sim_call (ar_copied _) (sim_cons (sim_var 1) sim_nil))) (sims_fldX T.x_NoBar.U.T (T.fl_taker 7 rfl).2 (sim_var 0) (sim_call (ar_copied _) (sim_cons (sim_var 2) sim_nil))))
theorem ok_i_NoText (T : Tx K P mg) : FnOk P w K mg base (L2.CX P w) 6 T.fI_NoText T.fd_NoText ["self", "row"] (spOf (gOf T) 2 m_i_NoText) := by
  have G_copied := ok_copied (w := w) (base := base) T 4
  refine fn_init (N := N_i_NoText) (c := 6) (k := 5) T.x_NoText rfl rfl sc_i_NoText rfl rfl (fun _ => rfl) fun A outer s H E hr => ?_
  have nd := sc_i_NoText.nd
  refine ⟨_, (pss_one (ps_ost (pv 0) (pe_call G_copied (hr.mono (by decide)) rfl T.d_copied.m T.d_copied.F.kp T.d_copied.b .nil pS (pa_cons (pv 1) pa_nil)))), ?_⟩
  exact (sims_fldX T.x_NoText.U.T (T.fl_row 6 rfl).2 (sim_var 0) (sim_call (ar_copied _) (sim_cons (sim_var 1) sim_nil)))
theorem ok__law_blend (T : Tx K P mg) : FnOk P w K mg base (L2.CX P w) 1 T.a__law_blend T.fd__law_blend ["_law_sown", "_law_turn"] (spOf (gOf T) 2 m__law_blend) := by
  refine fn_sim (N := N__law_blend) T.d__law_blend.F sc__law_blend fun cdv A outer s H E hr => ?_
  have nd := sc__law_blend.nd
  refine ⟨_, (pss_cons (ps_set (i := 2) nd rfl (Or.inl rfl) (pe_op op_addA (pe_op op_addA (pe_op op_addA (pe_op op_mod (pv 0) pe_int) (pe_op op_mulW (pe_op op_mulW pe_int (pv 1)) (pv 1))) (pe_op op_mulW pe_int (pv 1))) pe_int)) (pss_cons (ps_set (i := 3) nd rfl (Or.inl rfl) (pe_op op_mod (pe_op op_mulW (pv 2) pe_int) pe_int)) (pss_one (ps_ret (pe_op op_mod (pe_op op_addA (pe_op op_mulW (pv 3) (pe_op op_addA (pe_op op_mod (pv 3) pe_int) (pe_op op_mulW pe_int (pv 1)))) (pe_op op_fdivW (pv 3) pe_int)) pe_int))))), ?_⟩
  exact (sims_seq (sims_asg (sim_op sim_add (sim_op sim_add (sim_op sim_add (sim_op sim_mod (sim_var 0) (sim_c fun _ _ _ => .int _)) (sim_op sim_mul (sim_op sim_mul (sim_c fun _ _ _ => .int _) (sim_var 1)) (sim_var 1))) (sim_op sim_mul (sim_c fun _ _ _ => .int _) (sim_var 1))) (sim_c fun _ _ _ => .int _)) (simg_name 2)) (sims_seq (sims_asg (sim_op sim_mod (sim_op sim_mul (sim_var 2) (sim_c fun _ _ _ => .int _)) (sim_c fun _ _ _ => .int _)) (simg_name 3)) (sims_ret (sim_op sim_mod (sim_op sim_add (sim_op sim_mul (sim_var 3) (sim_op sim_add (sim_op sim_mod (sim_var 3) (sim_c fun _ _ _ => .int _)) (sim_op sim_mul (sim_c fun _ _ _ => .int _) (sim_var 1)))) (sim_op sim_div (sim_var 3) (sim_c fun _ _ _ => .int _))) (sim_c fun _ _ _ => .int _)))))
theorem ok__law_pot (T : Tx K P mg) : FnOk P w K mg base (L2.CX P w) 1 T.a__law_pot T.fd__law_pot ["_law_script"] (spOf (gOf T) 1 m__law_pot) := by
  refine fn_sim (N := N__law_pot) T.d__law_pot.F sc__law_pot fun cdv A outer s H E hr => ?_
  have nd := sc__law_pot.nd
  refine ⟨_, (pss_one (ps_ret (pe_lst (pa_cons (pe_callTy call_list_of (by rfl) T.list (by decide +kernel) (pa_cons (pv 0) pa_nil)) (pa_cons pe_int (pa_cons pe_int (pa_cons pe_int pa_nil))))))), ?_⟩
  exact (sims_ret (sim_lstL (sim_cons (sim_cb sim_listL (sim_cons (sim_var 0) sim_nil)) (sim_cons (sim_c fun _ _ _ => .int _) (sim_cons (sim_c fun _ _ _ => .int _) (sim_cons (sim_c fun _ _ _ => .int _) sim_nil))))))
theorem ok__law_draw (T : Tx K P mg) : FnOk P w K mg base (L2.CX P w) 2 T.a__law_draw T.fd__law_draw ["_law_pot_here", "_law_size"] (spOf (gOf T) 2 m__law_draw) := by
  have G__law_blend := ok__law_blend (w := w) (base := base) T
  refine fn_sim (N := N__law_draw) T.d__law_draw.F sc__law_draw fun cdv A outer s H E hr => ?_
  have nd := sc__law_draw.nd
  refine ⟨_, (pss_cons (ps_asg (pe_op op_addA (pe_ix ix_seq (pv 0) pe_int (fun _ _ => rfl)) pe_int) (pg_sub (pv 0) pe_int set_list)) (pss_cons (ps_if (PW.pt (pw_and (pt_cmpR (op_eqA hr.units) (pe_ix ix_seq (pv 0) pe_int (fun _ _ => rfl)) pe_int (nomark _)) (pw_and1 (pt_cmpR (op_neA hr.units) (pe_ix ix_seq (pv 0) pe_int (fun _ _ => rfl)) (pe_lst pa_nil) (nomark _))))) (pss_cons (ps_set (i := 2) nd rfl (Or.inl rfl) (pe_bm PySem.F.plainAttrs_list PySem.F.slot_list_pop PySem.F.type_list_pop mt_popAt (pe_ix ix_seq (pv 0) pe_int (fun _ _ => rfl)) (pa_cons pe_int pa_nil))) (pss_cons (ps_asg (pe_call G__law_blend (hr.mono (by decide)) rfl T.d__law_blend.m T.d__law_blend.F.kp T.d__law_blend.b .nil pD (pa_cons (pe_op op_addA (pe_ix ix_seq (pv 0) pe_int (fun _ _ => rfl)) (pv 2)) (pa_cons (pe_callB call_len (by rfl) T.len PySem.boot_len (pa_cons (pe_ix ix_seq (pv 0) pe_int (fun _ _ => rfl)) pa_nil)) pa_nil))) (pg_sub (pv 0) pe_int set_list)) (pss_one (ps_if (pt_cmpR op_ge (pe_callB call_abs (by rfl) T.abs (by decide +kernel) (pa_cons (pv 2) pa_nil)) (pe_op op_pow pe_int pe_int) (nomark _)) (pss_one (ps_asg (pe_callB call_abs (by rfl) T.abs (by decide +kernel) (pa_cons (pv 2) pa_nil)) (pg_sub (pv 0) pe_int set_list))) pss_nil)))) pss_nil) (pss_cons (ps_if (pt_cmpR op_gt (pe_ix ix_seq (pv 0) pe_int (fun _ _ => rfl)) pe_int (nomark _)) (pss_cons (ps_set (i := 3) nd rfl (Or.inl rfl) (pe_op op_mod (pe_ix ix_seq (pv 0) pe_int (fun _ _ => rfl)) (pv 1))) (pss_cons (ps_asg (pe_op op_fdivW (pe_ix ix_seq (pv 0) pe_int (fun _ _ => rfl)) (pv 1)) (pg_sub (pv 0) pe_int set_list)) (pss_one (ps_ret (pv 3))))) pss_nil) (pss_one (ps_ret (pe_op op_mod (pe_op op_fdivW (pe_call G__law_blend (hr.mono (by decide)) rfl T.d__law_blend.m T.d__law_blend.F.kp T.d__law_blend.b .nil pD (pa_cons (pe_ix ix_seq (pv 0) pe_int (fun _ _ => rfl)) (pa_cons (pe_ix ix_seq (pv 0) pe_int (fun _ _ => rfl)) pa_nil))) pe_int) (pv 1))))))), ?_⟩
  exact (sims_seq (sims_asg (sim_op sim_add (sim_op sim_ix (sim_var 0) (sim_c fun _ _ _ => .int _)) (sim_c fun _ _ _ => .int _)) (simg_sub (sim_var 0) (sim_c fun _ _ _ => .int _) sim_set)) (sims_seq (sims_if (simt_and (simt_test (sim_op sim_eqA (sim_op sim_ix (sim_var 0) (sim_c fun _ _ _ => .int _)) (sim_c fun _ _ _ => .int _))) (simt_test (sim_op sim_neA (sim_op sim_ix (sim_var 0) (sim_c fun _ _ _ => .int _)) (sim_lst sim_nil)))) (sims_seq (sims_asg (sim_bm sim_popAt (sim_op sim_ix (sim_var 0) (sim_c fun _ _ _ => .int _)) (sim_cons (sim_c fun _ _ _ => .int _) sim_nil)) (simg_name 2)) (sims_seq (sims_asg (sim_call ar_def (sim_cons (sim_op sim_add (sim_op sim_ix (sim_var 0) (sim_c fun _ _ _ => .int _)) (sim_var 2)) (sim_cons (sim_cb sim_len (sim_cons (sim_op sim_ix (sim_var 0) (sim_c fun _ _ _ => .int _)) sim_nil)) sim_nil))) (simg_sub (sim_var 0) (sim_c fun _ _ _ => .int _) sim_set)) (sims_if (simt_test (sim_op sim_ge (sim_cb sim_abs (sim_cons (sim_var 2) sim_nil)) (sim_op sim_pow (sim_c fun _ _ _ => .int _) (sim_c fun _ _ _ => .int _)))) (sims_asg (sim_cb sim_abs (sim_cons (sim_var 2) sim_nil)) (simg_sub (sim_var 0) (sim_c fun _ _ _ => .int _) sim_set)) sims_next))) sims_next) (sims_seq (sims_if (simt_test (sim_op sim_gt (sim_op sim_ix (sim_var 0) (sim_c fun _ _ _ => .int _)) (sim_c fun _ _ _ => .int _))) (sims_seq (sims_asg (sim_op sim_mod (sim_op sim_ix (sim_var 0) (sim_c fun _ _ _ => .int _)) (sim_var 1)) (simg_name 3)) (sims_seq (sims_asg (sim_op sim_div (sim_op sim_ix (sim_var 0) (sim_c fun _ _ _ => .int _)) (sim_var 1)) (simg_sub (sim_var 0) (sim_c fun _ _ _ => .int _) sim_set)) (sims_ret (sim_var 3)))) sims_next) (sims_ret (sim_op sim_mod (sim_op sim_div (sim_call ar_def (sim_cons (sim_op sim_ix (sim_var 0) (sim_c fun _ _ _ => .int _)) (sim_cons (sim_op sim_ix (sim_var 0) (sim_c fun _ _ _ => .int _)) sim_nil))) (sim_c fun _ _ _ => .int _)) (sim_var 1))))))
theorem ok__law_pick (T : Tx K P mg) : FnOk P w K mg base (L2.CX P w) 3 T.a__law_pick T.fd__law_pick ["_law_pot_here", "_law_some"] (spOf (gOf T) 2 m__law_pick) := by
  have G__law_draw := ok__law_draw (w := w) (base := base) T
  refine fn_sim (N := N__law_pick) T.d__law_pick.F sc__law_pick fun cdv A outer s H E hr => ?_
  have nd := sc__law_pick.nd
  refine ⟨_, (pss_one (ps_ret (pe_ix ix_seq (pv 1) (pe_call G__law_draw (hr.mono (by decide)) rfl T.d__law_draw.m T.d__law_draw.F.kp T.d__law_draw.b .nil pD (pa_cons (pv 0) (pa_cons (pe_callB call_len (by rfl) T.len PySem.boot_len (pa_cons (pv 1) pa_nil)) pa_nil))) (fun _ _ => rfl)))), ?_⟩
  exact (sims_ret (sim_op sim_ix (sim_var 1) (sim_call ar_def (sim_cons (sim_var 0) (sim_cons (sim_cb sim_len (sim_cons (sim_var 1) sim_nil)) sim_nil)))))
theorem ok__law_things (T : Tx K P mg) : FnOk P w K mg base (L2.CX P w) 4 T.a__law_things T.fd__law_things ["_law_pot_here"] (spOf (gOf T) 1 m__law_things) := by
  have G__law_draw := ok__law_draw (w := w) (base := base) T
  have G__law_pick := ok__law_pick (w := w) (base := base) T
  refine fn_sim (N := N__law_things) T.d__law_things.F sc__law_things fun cdv A outer s H E hr => ?_
  have nd := sc__law_things.nd
  refine ⟨_, (pss_cons (ps_set (i := 1) nd rfl (Or.inl rfl) (pe_call G__law_draw (hr.mono (by decide)) rfl T.d__law_draw.m T.d__law_draw.F.kp T.d__law_draw.b .nil pD (pa_cons (pv 0) (pa_cons (pe_op op_pow pe_int pe_int) pa_nil)))) (pss_cons (ps_set (i := 2) nd rfl (Or.inl rfl) (pe_lst (pa_cons pe_non (pa_cons pe_bl (pa_cons (pv 1) (pa_cons pe_str (pa_cons (pe_op op_mulS pe_str (pe_op op_mod (pv 1) pe_int)) (pa_cons (pe_tup pa_nil) (pa_cons (pe_tup (pa_cons pe_str (pa_cons pe_str pa_nil))) (pa_cons (pe_tup (pa_cons (pv 1) (pa_cons pe_str pa_nil))) (pa_cons (pe_lst (pa_cons pe_str pa_nil)) pa_nil))))))))))) (pss_one (ps_ret (pe_call G__law_pick (hr.mono (by decide)) rfl T.d__law_pick.m T.d__law_pick.F.kp T.d__law_pick.b .nil pD (pa_cons (pv 0) (pa_cons (pe_op op_addA (pv 2) (pe_lst (pa_cons pe_dnewF (pa_cons pe_str (pa_cons (pe_tup (pa_cons (pe_tup (pa_cons pe_str (pa_cons pe_str pa_nil))) pa_nil)) pa_nil))))) pa_nil))))))), ?_⟩
  exact (sims_seq (sims_asg (sim_call ar_def (sim_cons (sim_var 0) (sim_cons (sim_op sim_pow (sim_c fun _ _ _ => .int _) (sim_c fun _ _ _ => .int _)) sim_nil))) (simg_name 1)) (sims_seq (sims_asg (sim_lst (sim_cons (sim_c fun _ _ _ => .non) (sim_cons (sim_c fun _ _ _ => .bl _) (sim_cons (sim_var 1) (sim_cons (sim_c fun _ _ _ => .str _) (sim_cons (sim_op sim_mulS (sim_c fun _ _ _ => .str _) (sim_op sim_mod (sim_var 1) (sim_c fun _ _ _ => .int _))) (sim_cons (sim_tup sim_nil) (sim_cons (sim_tup (sim_cons (sim_c fun _ _ _ => .str _) (sim_cons (sim_c fun _ _ _ => .str _) sim_nil))) (sim_cons (sim_tup (sim_cons (sim_var 1) (sim_cons (sim_c fun _ _ _ => .str _) sim_nil))) (sim_cons (sim_lst (sim_cons (sim_c fun _ _ _ => .str _) sim_nil)) sim_nil)))))))))) (simg_name 2)) (sims_ret (sim_call ar_def (sim_cons (sim_var 0) (sim_cons (sim_op sim_add (sim_var 2) (sim_lst (sim_cons sim_emp (sim_cons (sim_c fun _ _ _ => .str _) (sim_cons (sim_tup (sim_cons (sim_tup (sim_cons (sim_c fun _ _ _ => .str _) (sim_cons (sim_c fun _ _ _ => .str _) sim_nil))) sim_nil)) sim_nil))))) sim_nil))))))
theorem ok__law_made (T : Tx K P mg) : FnOk P w K mg base (L2.CX P w) 8 T.a__law_made T.fd__law_made ["_law_way", "_law_held", "_law_by_name"] (spOf (gOf T) 3 m__law_made) := by
  have G_i_NoMember := ok_i_NoMember (w := w) (base := base) T
  have G_i_NoDrawing := ok_i_NoDrawing (w := w) (base := base) T
  have G_i_TooFew := ok_i_TooFew (w := w) (base := base) T
  have G_i_NoNumber := ok_i_NoNumber (w := w) (base := base) T
  have G_i_TooMany := ok_i_TooMany (w := w) (base := base) T
  have G_i_Twice := ok_i_Twice (w := w) (base := base) T
  have G_i_NoText := ok_i_NoText (w := w) (base := base) T
  refine fn_sim (N := N__law_made) T.d__law_made.F sc__law_made fun cdv A outer s H E hr => ?_
  have nd := sc__law_made.nd
  refine ⟨_, (pss_cons (ps_if (pt_cmpR (op_eqA hr.units) (pv 0) pe_int (nomark _)) (pss_one (ps_ret (pe_ifExp (pt_val (pv 2)) (pe_mkVk T.x_NoMember.U.T T.x_NoMember.iC T.x_NoMember.tI G_i_NoMember (hr.mono (by decide)) T.kb_NoMember (by rfl) T.x_NoMember.m (pk_cons (pv 1) pk_nil)) (pe_mkV T.x_NoMember.U.T T.x_NoMember.iC T.x_NoMember.tI G_i_NoMember (hr.mono (by decide)) T.b_NoMember .nil (by rfl) T.x_NoMember.m (pa_cons (pv 1) pa_nil))))) pss_nil) (pss_cons (ps_if (pt_cmpR (op_eqA hr.units) (pv 0) pe_int (nomark _)) (pss_one (ps_ret (pe_ifExp (pt_val (pv 2)) (pe_mkVk T.x_NoDrawing.U.T T.x_NoDrawing.iC T.x_NoDrawing.tI G_i_NoDrawing (hr.mono (by decide)) T.kb_NoDrawing (by rfl) T.x_NoDrawing.m (pk_cons (pv 1) pk_nil)) (pe_mkV T.x_NoDrawing.U.T T.x_NoDrawing.iC T.x_NoDrawing.tI G_i_NoDrawing (hr.mono (by decide)) T.b_NoDrawing .nil (by rfl) T.x_NoDrawing.m (pa_cons (pv 1) pa_nil))))) pss_nil) (pss_cons (ps_if (pt_cmpR (op_eqA hr.units) (pv 0) pe_int (nomark _)) (pss_one (ps_ret (pe_ifExp (pt_val (pv 2)) (pe_mkVk T.x_TooFew.U.T T.x_TooFew.iC T.x_TooFew.tI G_i_TooFew (hr.mono (by decide)) T.kb_TooFew (by rfl) T.x_TooFew.m (pk_cons (pv 1) pk_nil)) (pe_mkV T.x_TooFew.U.T T.x_TooFew.iC T.x_TooFew.tI G_i_TooFew (hr.mono (by decide)) T.b_TooFew .nil (by rfl) T.x_TooFew.m (pa_cons (pv 1) pa_nil))))) pss_nil) (pss_cons (ps_if (pt_cmpR (op_eqA hr.units) (pv 0) pe_int (nomark _)) (pss_one (ps_ret (pe_ifExp (pt_val (pv 2)) (pe_mkVk T.x_NoNumber.U.T T.x_NoNumber.iC T.x_NoNumber.tI G_i_NoNumber (hr.mono (by decide)) T.kb_NoNumber (by rfl) T.x_NoNumber.m (pk_cons (pv 1) pk_nil)) (pe_mkV T.x_NoNumber.U.T T.x_NoNumber.iC T.x_NoNumber.tI G_i_NoNumber (hr.mono (by decide)) T.b_NoNumber .nil (by rfl) T.x_NoNumber.m (pa_cons (pv 1) pa_nil))))) pss_nil) (pss_cons (ps_if (pt_cmpR (op_eqA hr.units) (pv 0) pe_int (nomark _)) (pss_one (ps_ret (pe_ifExp (pt_val (pv 2)) (pe_mkVk T.x_TooMany.U.T T.x_TooMany.iC T.x_TooMany.tI G_i_TooMany (hr.mono (by decide)) T.kb_TooMany (by rfl) T.x_TooMany.m (pk_cons (pv 1) pk_nil)) (pe_mkV T.x_TooMany.U.T T.x_TooMany.iC T.x_TooMany.tI G_i_TooMany (hr.mono (by decide)) T.b_TooMany .nil (by rfl) T.x_TooMany.m (pa_cons (pv 1) pa_nil))))) pss_nil) (pss_cons (ps_if (pt_cmpR (op_eqA hr.units) (pv 0) pe_int (nomark _)) (pss_one (ps_ret (pe_ifExp (pt_val (pv 2)) (pe_mkVk T.x_Twice.U.T T.x_Twice.iC T.x_Twice.tI G_i_Twice (hr.mono (by decide)) T.kb_Twice (by rfl) T.x_Twice.m (pk_cons (pv 1) pk_nil)) (pe_mkV T.x_Twice.U.T T.x_Twice.iC T.x_Twice.tI G_i_Twice (hr.mono (by decide)) T.b_Twice .nil (by rfl) T.x_Twice.m (pa_cons (pv 1) pa_nil))))) pss_nil) (pss_one (ps_ret (pe_ifExp (pt_val (pv 2)) (pe_mkVk T.x_NoText.U.T T.x_NoText.iC T.x_NoText.tI G_i_NoText (hr.mono (by decide)) T.kb_NoText (by rfl) T.x_NoText.m (pk_cons (pv 1) pk_nil)) (pe_mkV T.x_NoText.U.T T.x_NoText.iC T.x_NoText.tI G_i_NoText (hr.mono (by decide)) T.b_NoText .nil (by rfl) T.x_NoText.m (pa_cons (pv 1) pa_nil))))))))))), ?_⟩
  exact (sims_seq (sims_if (simt_test (sim_op sim_eqA (sim_var 0) (sim_c fun _ _ _ => .int _))) (sims_ret (sim_if (simt_tB (sim_var 2)) (sim_mkXk ar_init (fun a b => RDs.append a b) (sim_cons (sim_var 1) sim_nil)) (sim_mkX ar_init (fun _ _ _ => .nil) (sim_cons (sim_var 1) sim_nil)))) sims_next) (sims_seq (sims_if (simt_test (sim_op sim_eqA (sim_var 0) (sim_c fun _ _ _ => .int _))) (sims_ret (sim_if (simt_tB (sim_var 2)) (sim_mkXk ar_init (fun a b => RDs.append a b) (sim_cons (sim_var 1) sim_nil)) (sim_mkX ar_init (fun _ _ _ => .nil) (sim_cons (sim_var 1) sim_nil)))) sims_next) (sims_seq (sims_if (simt_test (sim_op sim_eqA (sim_var 0) (sim_c fun _ _ _ => .int _))) (sims_ret (sim_if (simt_tB (sim_var 2)) (sim_mkXk ar_init (fun a b => RDs.append a b) (sim_cons (sim_var 1) sim_nil)) (sim_mkX ar_init (fun _ _ _ => .nil) (sim_cons (sim_var 1) sim_nil)))) sims_next) (sims_seq (sims_if (simt_test (sim_op sim_eqA (sim_var 0) (sim_c fun _ _ _ => .int _))) (sims_ret (sim_if (simt_tB (sim_var 2)) (sim_mkXk ar_init (fun a b => RDs.append a b) (sim_cons (sim_var 1) sim_nil)) (sim_mkX ar_init (fun _ _ _ => .nil) (sim_cons (sim_var 1) sim_nil)))) sims_next) (sims_seq (sims_if (simt_test (sim_op sim_eqA (sim_var 0) (sim_c fun _ _ _ => .int _))) (sims_ret (sim_if (simt_tB (sim_var 2)) (sim_mkXk ar_init (fun a b => RDs.append a b) (sim_cons (sim_var 1) sim_nil)) (sim_mkX ar_init (fun _ _ _ => .nil) (sim_cons (sim_var 1) sim_nil)))) sims_next) (sims_seq (sims_if (simt_test (sim_op sim_eqA (sim_var 0) (sim_c fun _ _ _ => .int _))) (sims_ret (sim_if (simt_tB (sim_var 2)) (sim_mkXk ar_init (fun a b => RDs.append a b) (sim_cons (sim_var 1) sim_nil)) (sim_mkX ar_init (fun _ _ _ => .nil) (sim_cons (sim_var 1) sim_nil)))) sims_next) (sims_ret (sim_if (simt_tB (sim_var 2)) (sim_mkXk ar_init (fun a b => RDs.append a b) (sim_cons (sim_var 1) sim_nil)) (sim_mkX ar_init (fun _ _ _ => .nil) (sim_cons (sim_var 1) sim_nil))))))))))
theorem ok__law_kept (T : Tx K P mg) : FnOk P w K mg base (L2.CX P w) 1 T.a__law_kept T.fd__law_kept ["_law_way", "_law_made_here"] (spOf (gOf T) 2 m__law_kept) := by
  refine fn_sim (N := N__law_kept) T.d__law_kept.F sc__law_kept fun cdv A outer s H E hr => ?_
  have nd := sc__law_kept.nd
  refine ⟨_, (pss_cons (ps_if (PW.pt (pw_or (pt_cmpR (op_eqA hr.units) (pv 0) pe_int (nomark _)) (pw_or1 (pt_cmpR (op_eqA hr.units) (pv 0) pe_int (nomark _))))) (pss_one (ps_ret (pe_xg (pv 1)))) pss_nil) (pss_cons (ps_if (pt_cmpR (op_eqA hr.units) (pv 0) pe_int (nomark _)) (pss_one (ps_ret (pe_xg (pv 1)))) pss_nil) (pss_cons (ps_if (pt_cmpR (op_eqA hr.units) (pv 0) pe_int (nomark _)) (pss_one (ps_ret (pe_xg (pv 1)))) pss_nil) (pss_cons (ps_if (pt_cmpR (op_eqA hr.units) (pv 0) pe_int (nomark _)) (pss_one (ps_ret (pe_xg (pv 1)))) pss_nil) (pss_one (ps_ret (pe_ifExp (pt_cmpR (op_eqA hr.units) (pv 0) pe_int (nomark _)) (pe_xg (pv 1)) (pe_xg (pv 1))))))))), ?_⟩
  exact (sims_seq (sims_if (simt_or (simt_test (sim_op sim_eqA (sim_var 0) (sim_c fun _ _ _ => .int _))) (simt_test (sim_op sim_eqA (sim_var 0) (sim_c fun _ _ _ => .int _)))) (sims_ret (sim_xg T.fl_name (sim_var 1))) sims_next) (sims_seq (sims_if (simt_test (sim_op sim_eqA (sim_var 0) (sim_c fun _ _ _ => .int _))) (sims_ret (sim_xg T.fl_thing (sim_var 1))) sims_next) (sims_seq (sims_if (simt_test (sim_op sim_eqA (sim_var 0) (sim_c fun _ _ _ => .int _))) (sims_ret (sim_xg T.fl_lot (sim_var 1))) sims_next) (sims_seq (sims_if (simt_test (sim_op sim_eqA (sim_var 0) (sim_c fun _ _ _ => .int _))) (sims_ret (sim_xg T.fl_number (sim_var 1))) sims_next) (sims_ret (sim_if (simt_test (sim_op sim_eqA (sim_var 0) (sim_c fun _ _ _ => .int _))) (sim_xg T.fl_many (sim_var 1)) (sim_xg T.fl_row (sim_var 1))))))))
theorem ok__law_classes (T : Tx K P mg) : FnOk P w K mg base (L2.CX P w) 1 T.a__law_classes T.fd__law_classes ["_law_made_here"] (spOf (gOf T) 1 m__law_classes) := by
  refine fn_sim (N := N__law_classes) T.d__law_classes.F sc__law_classes fun cdv A outer s H E hr => ?_
  have nd := sc__law_classes.nd
  refine ⟨_, (pss_cons (ps_set (i := 1) nd rfl (Or.inl rfl) (pe_lst (pa_cons (pe_callB call_isX (by rfl) T.isinstance (by decide +kernel) (pa_cons (pv 0) (pa_cons (pe_glob (v := .ref (T.Cs.getD 0 0)) (by rfl) T.c_NoMember rfl) pa_nil))) (pa_cons (pe_callB call_isX (by rfl) T.isinstance (by decide +kernel) (pa_cons (pv 0) (pa_cons (pe_glob (v := .ref (T.Cs.getD 1 0)) (by rfl) T.c_NoDrawing rfl) pa_nil))) (pa_cons (pe_callB call_isX (by rfl) T.isinstance (by decide +kernel) (pa_cons (pv 0) (pa_cons (pe_glob (v := .ref (T.Cs.getD 2 0)) (by rfl) T.c_TooFew rfl) pa_nil))) pa_nil))))) (pss_cons (ps_set (i := 1) nd rfl (Or.inl rfl) (pe_op op_addA (pv 1) (pe_lst (pa_cons (pe_callB call_isX (by rfl) T.isinstance (by decide +kernel) (pa_cons (pv 0) (pa_cons (pe_glob (v := .ref (T.Cs.getD 3 0)) (by rfl) T.c_NoNumber rfl) pa_nil))) (pa_cons (pe_callB call_isX (by rfl) T.isinstance (by decide +kernel) (pa_cons (pv 0) (pa_cons (pe_glob (v := .ref (T.Cs.getD 4 0)) (by rfl) T.c_TooMany rfl) pa_nil))) (pa_cons (pe_callB call_isX (by rfl) T.isinstance (by decide +kernel) (pa_cons (pv 0) (pa_cons (pe_glob (v := .ref (T.Cs.getD 5 0)) (by rfl) T.c_Twice rfl) pa_nil))) pa_nil)))))) (pss_cons (ps_set (i := 1) nd rfl (Or.inl rfl) (pe_op op_addA (pv 1) (pe_lst (pa_cons (pe_callB call_isX (by rfl) T.isinstance (by decide +kernel) (pa_cons (pv 0) (pa_cons (pe_glob (v := .ref (T.Cs.getD 6 0)) (by rfl) T.c_NoText rfl) pa_nil))) (pa_cons (pe_callB call_isX (by rfl) T.isinstance (by decide +kernel) (pa_cons (pv 0) (pa_cons (pe_glob (v := .ref (T.Cs.getD 7 0)) (by rfl) T.c_NoBar rfl) pa_nil))) (pa_cons (pe_callB call_isX (by rfl) T.isinstance (by decide +kernel) (pa_cons (pv 0) (pa_cons (pe_glob (v := .ref (T.Cs.getD 8 0)) (by rfl) T.c_NoYear rfl) pa_nil))) pa_nil)))))) (pss_one (ps_ret (pe_op op_addA (pv 1) (pe_lst (pa_cons (pe_callB call_isX (by rfl) T.isinstance (by decide +kernel) (pa_cons (pv 0) (pa_cons (pe_glob (v := .ref (T.Cs.getD 9 0)) (by rfl) T.c_NoBack rfl) pa_nil))) (pa_cons (pe_callB call_isX (by rfl) T.isinstance (by decide +kernel) (pa_cons (pv 0) (pa_cons (pe_glob (v := .ref (T.Cs.getD 10 0)) (by rfl) T.c_NoRow rfl) pa_nil))) pa_nil))))))))), ?_⟩
  exact (sims_seq (sims_asg (sim_lst (sim_cons (sim_isX (fun _ h => h) T.isi_NoMember (sim_var 0)) (sim_cons (sim_isX (fun _ h => h) T.isi_NoDrawing (sim_var 0)) (sim_cons (sim_isX (fun _ h => h) T.isi_TooFew (sim_var 0)) sim_nil)))) (simg_name 1)) (sims_seq (sims_asg (sim_op sim_add (sim_var 1) (sim_lst (sim_cons (sim_isX (fun _ h => h) T.isi_NoNumber (sim_var 0)) (sim_cons (sim_isX (fun _ h => h) T.isi_TooMany (sim_var 0)) (sim_cons (sim_isX (fun _ h => h) T.isi_Twice (sim_var 0)) sim_nil))))) (simg_name 1)) (sims_seq (sims_asg (sim_op sim_add (sim_var 1) (sim_lst (sim_cons (sim_isX (fun _ h => h) T.isi_NoText (sim_var 0)) (sim_cons (sim_isX (fun _ h => h) T.isi_NoBar (sim_var 0)) (sim_cons (sim_isX (fun _ h => h) T.isi_NoYear (sim_var 0)) sim_nil))))) (simg_name 1)) (sims_ret (sim_op sim_add (sim_var 1) (sim_lst (sim_cons (sim_isX (fun _ h => h) T.isi_NoBack (sim_var 0)) (sim_cons (sim_isX (fun _ h => h) T.isi_NoRow (sim_var 0)) sim_nil))))))))
theorem ok__law_raised (T : Tx K P mg) : FnOk P w K mg base (L2.CX P w) 8 T.a__law_raised T.fd__law_raised ["_law_held"] (spOf (gOf T) 1 m__law_raised) := by
  have G_i_TooFew := ok_i_TooFew (w := w) (base := base) T
  refine fn_sim (N := N__law_raised) T.d__law_raised.F sc__law_raised fun cdv A outer s H E hr => ?_
  have nd := sc__law_raised.nd
  refine ⟨_, (pss_cons (ps_set (i := 1) nd rfl (Or.inl rfl) pe_non) (pss_keepF (i := 2) (j := 1) rfl rfl rfl nd rfl rfl rfl rfl ⟨rfl, by decide, .inl T.c_LotError⟩ (T.fl_lot 2 rfl).1 (T.fl_lot 2 rfl).2 (fun pn xe => pmk_oex T.x_TooFew.U.T T.x_TooFew.iC T.x_TooFew.tI G_i_TooFew (hr.mono (by decide)) T.b_TooFew .nil passL (by rfl) T.x_TooFew.m (pa_cons (pv 0) pa_nil)) (fun a oe pn => pss_one (ps_set (i := 1) nd rfl (Or.inl rfl) (pv 2))))), ?_⟩
  exact (sims_seq (sims_asg (sim_c fun _ _ _ => .non) (simg_name 1)) (sims_keepF ar_init T.ex_2 (sim_cons (sim_var 0) sim_nil)))
theorem ok__law_right (T : Tx K P mg) (sm : ∃ o, base.get? sysModules = some o) : FnG P w K mg base 9 T.a__law_right T.fd__law_right ["_law_way", "_law_one", "_law_other"] (spOf (gOf T) 3 m__law_right) := by
  have G__law_made := ok__law_made (w := w) (base := base) T
  have G__law_kept := ok__law_kept (w := w) (base := base) T
  have G__law_classes := ok__law_classes (w := w) (base := base) T
  refine fn_simG (N := N__law_right) T.d__law_right.F sc__law_right sm fun cdv A outer s H E hr Rr => ?_
  have nd := sc__law_right.nd
  refine ⟨_, (pss_cons (ps_par (i := 3) (j := 4) rfl nd rfl rfl (by decide) rfl rfl (pa_cons (pe_call G__law_made (hr.mono (by decide)) rfl T.d__law_made.m T.d__law_made.F.kp T.d__law_made.b .nil pD (pa_cons (pv 0) (pa_cons (pv 1) (pa_cons pe_bl pa_nil)))) (pa_cons (pe_call G__law_made (hr.mono (by decide)) rfl T.d__law_made.m T.d__law_made.F.kp T.d__law_made.b .nil pD (pa_cons (pv 0) (pa_cons (pv 2) (pa_cons pe_bl pa_nil)))) pa_nil)) rfl) (pss_cons (ps_if (PW.pt (pw_or (pt_cmpR (op_neA hr.units) (pe_callB (call_repr Rr) (by rfl) T.repr (by decide +kernel) (pa_cons (pe_call G__law_kept (hr.mono (by decide)) rfl T.d__law_kept.m T.d__law_kept.F.kp T.d__law_kept.b .nil pD (pa_cons (pv 0) (pa_cons (pv 3) pa_nil))) pa_nil)) (pe_callB (call_repr Rr) (by rfl) T.repr (by decide +kernel) (pa_cons (pv 1) pa_nil)) (nomark _)) (pw_or1 (pt_cmpR (op_neA hr.units) (pe_callB (call_repr Rr) (by rfl) T.repr (by decide +kernel) (pa_cons (pe_call G__law_kept (hr.mono (by decide)) rfl T.d__law_kept.m T.d__law_kept.F.kp T.d__law_kept.b .nil pD (pa_cons (pv 0) (pa_cons (pv 4) pa_nil))) pa_nil)) (pe_callB (call_repr Rr) (by rfl) T.repr (by decide +kernel) (pa_cons (pv 2) pa_nil)) (nomark _))))) (pss_one (ps_ret pe_bl)) pss_nil) (pss_cons (ps_if (PW.pt (pw_or (pt_cmpR (op_neA hr.units) (pe_call G__law_classes (hr.mono (by decide)) rfl T.d__law_classes.m T.d__law_classes.F.kp T.d__law_classes.b .nil pD (pa_cons (pv 3) pa_nil)) (pe_lc (own := [("_law_k", 5)]) rfl nd (pi_range1 rfl T.range (pa_cons pe_int pa_nil)) (blkOk_by (N := N__law_right) (sc := defScope s__law_right) (by decide +kernel)) (fun _ _ _ _ _ => pg_name (i := 5) nd rfl (Or.inl rfl) (.inr rfl)) (fun _ _ _ _ _ => pts_nil) (fun _ _ _ _ _ => (pe_cmpR (show OpR _ _ (rEqA K) from (op_eqA hr.units)) (pv 5) (pv 0) (nomark _)))) (nomark _)) (pw_or1 (pt_not (pt_val (pe_callB call_isX (by rfl) T.isinstance (by decide +kernel) (pa_cons (pv 3) (pa_cons (pe_bltn (v := .ty "ValueError") (by rfl) T.ValueError (by decide +kernel) rfl) pa_nil)))))))) (pss_one (ps_ret pe_bl)) pss_nil) (pss_one (ps_ret (pe_and (pe_callB call_isX (by rfl) T.isinstance (by decide +kernel) (pa_cons (pv 3) (pa_cons (pe_glob (v := .ref T.L) (by rfl) T.c_LotError rfl) pa_nil))) (pe_one (pe_cmpR (op_eqA hr.units) (pe_callB (call_repr Rr) (by rfl) T.repr (by decide +kernel) (pa_cons (pe_call G__law_kept (hr.mono (by decide)) rfl T.d__law_kept.m T.d__law_kept.F.kp T.d__law_kept.b .nil pD (pa_cons (pv 0) (pa_cons (pv 3) pa_nil))) pa_nil)) (pe_callB (call_repr Rr) (by rfl) T.repr (by decide +kernel) (pa_cons (pv 1) pa_nil)) (nomark _))))))))), ?_⟩
  exact (sims_seq (sims_par (sim_cons (sim_call ar_def (sim_cons (sim_var 0) (sim_cons (sim_var 1) (sim_cons (sim_c fun _ _ _ => .bl _) sim_nil)))) (sim_cons (sim_call ar_def (sim_cons (sim_var 0) (sim_cons (sim_var 2) (sim_cons (sim_c fun _ _ _ => .bl _) sim_nil)))) sim_nil))) (sims_seq (sims_if (simt_or (simt_test (sim_op sim_neA (sim_cb sim_repr (sim_cons (sim_call ar_def (sim_cons (sim_var 0) (sim_cons (sim_var 3) sim_nil))) sim_nil)) (sim_cb sim_repr (sim_cons (sim_var 1) sim_nil)))) (simt_test (sim_op sim_neA (sim_cb sim_repr (sim_cons (sim_call ar_def (sim_cons (sim_var 0) (sim_cons (sim_var 4) sim_nil))) sim_nil)) (sim_cb sim_repr (sim_cons (sim_var 2) sim_nil))))) (sims_ret (sim_c fun _ _ _ => .bl _)) sims_next) (sims_seq (sims_if (simt_or (simt_test (sim_op sim_neA (sim_call ar_def (sim_cons (sim_var 3) sim_nil)) (sim_lc (simi_range1 (sim_cons (sim_c fun _ _ _ => .int _) sim_nil)) (simg_name 5) (own_name (by decide)) simt_yes (sim_op sim_eqA (sim_var 5) (sim_var 0))))) (simt_not (simt_tB (sim_isX (fun _ h => h) T.isi_ValueError (sim_var 3))))) (sims_ret (sim_c fun _ _ _ => .bl _)) sims_next) (sims_ret (sim_and (sim_isX (fun _ h => h) T.isi_LotError (sim_var 3)) (sim_op sim_eqA (sim_cb sim_repr (sim_cons (sim_call ar_def (sim_cons (sim_var 0) (sim_cons (sim_var 3) sim_nil))) sim_nil)) (sim_cb sim_repr (sim_cons (sim_var 1) sim_nil))))))))
theorem ok_law (T : Tx K P mg) (sm : ∃ o, base.get? sysModules = some o) : FnG P w K mg base 10 T.a_law T.fd_law ["_law_script"] (spOf (gOf T) 1 m_law) := by
  have G__law_pot := ok__law_pot (w := w) (base := base) T
  have G__law_things := ok__law_things (w := w) (base := base) T
  have G__law_right := ok__law_right (w := w) (base := base) T sm
  have G__law_raised := ok__law_raised (w := w) (base := base) T
  have G_i_NoBar := ok_i_NoBar (w := w) (base := base) T
  have G__law_classes := ok__law_classes (w := w) (base := base) T
  refine fn_simG (N := N_law) T.d_law.F sc_law sm fun cdv A outer s H E hr Rr => ?_
  have nd := sc_law.nd
  refine ⟨_, (pss_cons (ps_set (i := 1) nd rfl (Or.inl rfl) (pe_call G__law_pot (hr.mono (by decide)) rfl T.d__law_pot.m T.d__law_pot.F.kp T.d__law_pot.b .nil pD (pa_cons (pv 0) pa_nil))) (pss_cons (ps_asg (pe_tup (pa_cons (pe_call G__law_things (hr.mono (by decide)) rfl T.d__law_things.m T.d__law_things.F.kp T.d__law_things.b .nil pD (pa_cons (pv 1) pa_nil)) (pa_cons (pe_call G__law_things (hr.mono (by decide)) rfl T.d__law_things.m T.d__law_things.F.kp T.d__law_things.b .nil pD (pa_cons (pv 1) pa_nil)) pa_nil))) (pg_tup rfl (pgs_cons (pg_name (i := 2) nd rfl (Or.inr rfl)) (pgs_cons (pg_name (i := 3) nd rfl (Or.inr rfl)) pgs_nil)))) (pss_cons (ps_if (PW.pt (pw_or (pt_not (pt_val (pe_callB (cr_all rfl) (by rfl) T.all (by decide +kernel) (pa_cons (pe_lc (own := [("_law_way", 6)]) rfl nd (pi_range1 rfl T.range (pa_cons pe_int pa_nil)) (blkOk_by (N := N_law) (sc := defScope s_law) (by decide +kernel)) (fun _ _ _ _ _ => pg_name (i := 6) nd rfl (Or.inl rfl) (.inr rfl)) (fun _ _ _ _ _ => pts_nil) (fun _ _ _ _ _ => (pe_callG G__law_right Rr.g (hr.mono (by decide)) rfl T.d__law_right.m T.d__law_right.F.kp T.d__law_right.b .nil passL (pa_cons (pv 6) (pa_cons (pv 2) (pa_cons (pv 3) pa_nil)))))) pa_nil)))) (pw_or1 (pt_cmpR (op_neA hr.units) (pe_callB (call_repr Rr) (by rfl) T.repr (by decide +kernel) (pa_cons (pe_call G__law_raised (hr.mono (by decide)) rfl T.d__law_raised.m T.d__law_raised.F.kp T.d__law_raised.b .nil pD (pa_cons (pv 2) pa_nil)) pa_nil)) (pe_callB (call_repr Rr) (by rfl) T.repr (by decide +kernel) (pa_cons (pv 2) pa_nil)) (nomark _))))) (pss_one (ps_ret pe_bl)) pss_nil) (pss_cons (ps_par (i := 4) (j := 5) rfl nd rfl rfl (by decide) rfl rfl (pa_cons (pe_mkV T.x_NoBar.U.T T.x_NoBar.iC T.x_NoBar.tI G_i_NoBar (hr.mono (by decide)) T.b_NoBar .nil (by rfl) T.x_NoBar.m (pa_cons (pv 2) (pa_cons (pv 3) pa_nil))) (pa_cons (pe_mkVk T.x_NoBar.U.T T.x_NoBar.iC T.x_NoBar.tI G_i_NoBar (hr.mono (by decide)) T.kb_NoBar (by rfl) T.x_NoBar.m (pk_cons (pv 2) (pk_cons (pv 3) pk_nil))) pa_nil)) rfl) (pss_cons (ps_if (pt_cmpR (op_neA hr.units) (pe_callB (call_repr Rr) (by rfl) T.repr (by decide +kernel) (pa_cons (pe_lst (pa_cons (pe_xg (pv 4)) (pa_cons (pe_xg (pv 4)) (pa_cons (pe_xg (pv 5)) (pa_cons (pe_xg (pv 5)) pa_nil))))) pa_nil)) (pe_callB (call_repr Rr) (by rfl) T.repr (by decide +kernel) (pa_cons (pe_lst (pa_cons (pv 2) (pa_cons (pv 3) (pa_cons (pv 3) (pa_cons (pv 2) pa_nil))))) pa_nil)) (nomark _)) (pss_one (ps_ret pe_bl)) pss_nil) (pss_cons (ps_for (passes_of rfl) rfl (pi_seq (pe_tup (pa_cons (pe_tup (pa_cons pe_int (pa_cons (pv 4) pa_nil))) (pa_cons (pe_tup (pa_cons pe_int (pa_cons (pe_exc1 F.excBase_ValueError T.q_NoYear T.c_NoYear T.k_NoYear (by rfl) pe_str) pa_nil))) (pa_cons (pe_tup (pa_cons pe_int (pa_cons (pe_exc1 F.excBase_ValueError T.q_NoBack T.c_NoBack T.k_NoBack (by rfl) pe_str) pa_nil))) (pa_cons (pe_tup (pa_cons pe_int (pa_cons (pe_exc1 F.excBase_ValueError T.q_NoRow T.c_NoRow T.k_NoRow (by rfl) pe_str) pa_nil))) pa_nil)))))) (pg_tup rfl (pgs_cons (pg_name (i := 6) nd rfl (Or.inr rfl)) (pgs_cons (pg_name (i := 7) nd rfl (Or.inl rfl)) pgs_nil))) (pss_cons (ps_if (pt_cmpR (op_neA hr.units) (pe_call G__law_classes (hr.mono (by decide)) rfl T.d__law_classes.m T.d__law_classes.F.kp T.d__law_classes.b .nil pD (pa_cons (pv 7) pa_nil)) (pe_lc (own := [("_law_k", 8)]) rfl nd (pi_range1 rfl T.range (pa_cons pe_int pa_nil)) (blkOk_by (N := N_law) (sc := defScope s_law) (by decide +kernel)) (fun _ _ _ _ _ => pg_name (i := 8) nd rfl (Or.inl rfl) (.inr rfl)) (fun _ _ _ _ _ => pts_nil) (fun _ _ _ _ _ => (pe_cmpR (show OpR _ _ (rEqA K) from (op_eqA hr.units)) (pv 8) (pv 6) (nomark _)))) (nomark _)) (pss_one (ps_ret pe_bl)) pss_nil) (pss_one (ps_if (PW.pt (pw_or (pt_not (pt_val (pe_callB call_isX (by rfl) T.isinstance (by decide +kernel) (pa_cons (pv 7) (pa_cons (pe_glob (v := .ref T.L) (by rfl) T.c_LotError rfl) pa_nil))))) (pw_or1 (pt_not (pt_val (pe_callB call_isX (by rfl) T.isinstance (by decide +kernel) (pa_cons (pv 7) (pa_cons (pe_bltn (v := .ty "ValueError") (by rfl) T.ValueError (by decide +kernel) rfl) pa_nil)))))))) (pss_one (ps_ret pe_bl)) pss_nil)))) (pss_one (ps_ret pe_bl)))))))), ?_⟩
  exact (sims_seq (sims_asg (sim_call ar_def (sim_cons (sim_var 0) sim_nil)) (simg_name 1)) (sims_seq (sims_asg (sim_tup (sim_cons (sim_call ar_def (sim_cons (sim_var 1) sim_nil)) (sim_cons (sim_call ar_def (sim_cons (sim_var 1) sim_nil)) sim_nil))) (simg_tup (simg_cons (simg_name 2) (simg_cons (simg_name 3) simg_nil)))) (sims_seq (sims_if (simt_or (simt_not (simt_tB (sim_cb sim_all (sim_cons (sim_lc (simi_range1 (sim_cons (sim_c fun _ _ _ => .int _) sim_nil)) (simg_name 6) (own_name (by decide)) simt_yes (sim_call ar_def (sim_cons (sim_var 6) (sim_cons (sim_var 2) (sim_cons (sim_var 3) sim_nil))))) sim_nil)))) (simt_test (sim_op sim_neA (sim_cb sim_repr (sim_cons (sim_call ar_def (sim_cons (sim_var 2) sim_nil)) sim_nil)) (sim_cb sim_repr (sim_cons (sim_var 2) sim_nil))))) (sims_ret (sim_c fun _ _ _ => .bl _)) sims_next) (sims_seq (sims_par (sim_cons (sim_mkX ar_init (fun _ _ _ => .nil) (sim_cons (sim_var 2) (sim_cons (sim_var 3) sim_nil))) (sim_cons (sim_mkXk ar_init (fun a b => RDs.append a (RDs.reverse b)) (sim_cons (sim_var 2) (sim_cons (sim_var 3) sim_nil))) sim_nil))) (sims_seq (sims_if (simt_test (sim_op sim_neA (sim_cb sim_repr (sim_cons (sim_lst (sim_cons (sim_xg T.fl_giver (sim_var 4)) (sim_cons (sim_xg T.fl_taker (sim_var 4)) (sim_cons (sim_xg T.fl_giver (sim_var 5)) (sim_cons (sim_xg T.fl_taker (sim_var 5)) sim_nil))))) sim_nil)) (sim_cb sim_repr (sim_cons (sim_lst (sim_cons (sim_var 2) (sim_cons (sim_var 3) (sim_cons (sim_var 3) (sim_cons (sim_var 2) sim_nil))))) sim_nil)))) (sims_ret (sim_c fun _ _ _ => .bl _)) sims_next) (sims_seq (sims_for (simi_seq (sim_tup (sim_cons (sim_tup (sim_cons (sim_c fun _ _ _ => .int _) (sim_cons (sim_var 4) sim_nil))) (sim_cons (sim_tup (sim_cons (sim_c fun _ _ _ => .int _) (sim_cons (sim_ex0 (sim_c fun _ _ _ => .str _)) sim_nil))) (sim_cons (sim_tup (sim_cons (sim_c fun _ _ _ => .int _) (sim_cons (sim_ex0 (sim_c fun _ _ _ => .str _)) sim_nil))) (sim_cons (sim_tup (sim_cons (sim_c fun _ _ _ => .int _) (sim_cons (sim_ex0 (sim_c fun _ _ _ => .str _)) sim_nil))) sim_nil)))))) (simg_tup (simg_cons (simg_name 6) (simg_cons (simg_name 7) simg_nil))) (sims_seq (sims_if (simt_test (sim_op sim_neA (sim_call ar_def (sim_cons (sim_var 7) sim_nil)) (sim_lc (simi_range1 (sim_cons (sim_c fun _ _ _ => .int _) sim_nil)) (simg_name 8) (own_name (by decide)) simt_yes (sim_op sim_eqA (sim_var 8) (sim_var 6))))) (sims_ret (sim_c fun _ _ _ => .bl _)) sims_next) (sims_if (simt_or (simt_not (simt_tB (sim_isX (fun _ h => h) T.isi_LotError (sim_var 7)))) (simt_not (simt_tB (sim_isX (fun _ h => h) T.isi_ValueError (sim_var 7))))) (sims_ret (sim_c fun _ _ _ => .bl _)) sims_next))) (sims_ret (sim_c fun _ _ _ => .bl _))))))))
end
theorem all_mk {P : Program} {w : World} {K : PySem.W.Frag} {h : Heap} {mg : PySem.Str → Option Value} {fa : Addr} (X : K.In h) (GG : h.Ns mainGlobals mg) (hfa : mg "law" = some (.ref fa))
    {Lx C0 C1 C2 C3 C4 C5 C6 C7 C8 C9 C10 acopied a_law_blend a_law_pot a_law_draw a_law_pick a_law_things a_law_made a_law_kept a_law_classes a_law_raised a_law_right alaw fi_NoMember cai_NoMember cci_NoMember fi_NoDrawing cai_NoDrawing cci_NoDrawing fi_TooFew cai_TooFew cci_TooFew fi_NoNumber cai_NoNumber cci_NoNumber fi_TooMany cai_TooMany cci_TooMany fi_Twice cai_Twice cci_Twice fi_NoBar cai_NoBar cci_NoBar fi_NoText cai_NoText cci_NoText : Addr} {odcopied ancopied od_law_blend an_law_blend od_law_pot an_law_pot od_law_draw an_law_draw od_law_pick an_law_pick od_law_things an_law_things od_law_made an_law_made od_law_kept an_law_kept od_law_classes an_law_classes od_law_raised an_law_raised od_law_right an_law_right odlaw anlaw odi_NoMember ani_NoMember odi_NoDrawing ani_NoDrawing odi_TooFew ani_TooFew odi_NoNumber ani_NoNumber odi_TooMany ani_TooMany odi_Twice ani_Twice odi_NoBar ani_NoBar odi_NoText ani_NoText : Option Addr} {slcopied sl_law_blend sl_law_pot sl_law_draw sl_law_pick sl_law_things sl_law_made sl_law_kept sl_law_classes sl_law_raised sl_law_right sllaw sli_NoMember sli_NoDrawing sli_TooFew sli_NoNumber sli_TooMany sli_Twice sli_NoBar sli_NoText : Array (Option Value)} {occopied kVcopied dccopied pmcopied cdcopied ctcopied oc_law_blend kV_law_blend dc_law_blend pm_law_blend cd_law_blend ct_law_blend oc_law_pot kV_law_pot dc_law_pot pm_law_pot cd_law_pot ct_law_pot oc_law_draw kV_law_draw dc_law_draw pm_law_draw cd_law_draw ct_law_draw oc_law_pick kV_law_pick dc_law_pick pm_law_pick cd_law_pick ct_law_pick oc_law_things kV_law_things dc_law_things pm_law_things cd_law_things ct_law_things oc_law_made kV_law_made dc_law_made pm_law_made cd_law_made ct_law_made oc_law_kept kV_law_kept dc_law_kept pm_law_kept cd_law_kept ct_law_kept oc_law_classes kV_law_classes dc_law_classes pm_law_classes cd_law_classes ct_law_classes oc_law_raised kV_law_raised dc_law_raised pm_law_raised cd_law_raised ct_law_raised oc_law_right kV_law_right dc_law_right pm_law_right cd_law_right ct_law_right oclaw kVlaw dclaw pmlaw cdlaw ctlaw oci_NoMember kVi_NoMember dci_NoMember pmi_NoMember cti_NoMember oci_NoDrawing kVi_NoDrawing dci_NoDrawing pmi_NoDrawing cti_NoDrawing oci_TooFew kVi_TooFew dci_TooFew pmi_TooFew cti_TooFew oci_NoNumber kVi_NoNumber dci_NoNumber pmi_NoNumber cti_NoNumber oci_TooMany kVi_TooMany dci_TooMany pmi_TooMany cti_TooMany oci_Twice kVi_Twice dci_Twice pmi_Twice cti_Twice oci_NoBar kVi_NoBar dci_NoBar pmi_NoBar cti_NoBar oci_NoText kVi_NoText dci_NoText pmi_NoText cti_NoText : Value}
    (n_NoMember : PySem.W.nsIn K mainGlobals "NoMember" = some (some (.ref C0)))
    (n_NoDrawing : PySem.W.nsIn K mainGlobals "NoDrawing" = some (some (.ref C1)))
    (n_TooFew : PySem.W.nsIn K mainGlobals "TooFew" = some (some (.ref C2)))
    (n_NoNumber : PySem.W.nsIn K mainGlobals "NoNumber" = some (some (.ref C3)))
    (n_TooMany : PySem.W.nsIn K mainGlobals "TooMany" = some (some (.ref C4)))
    (n_Twice : PySem.W.nsIn K mainGlobals "Twice" = some (some (.ref C5)))
    (n_NoText : PySem.W.nsIn K mainGlobals "NoText" = some (some (.ref C6)))
    (n_NoBar : PySem.W.nsIn K mainGlobals "NoBar" = some (some (.ref C7)))
    (n_NoYear : PySem.W.nsIn K mainGlobals "NoYear" = some (some (.ref C8)))
    (n_NoBack : PySem.W.nsIn K mainGlobals "NoBack" = some (some (.ref C9)))
    (n_NoRow : PySem.W.nsIn K mainGlobals "NoRow" = some (some (.ref C10)))
    (n_LotError : PySem.W.nsIn K mainGlobals "LotError" = some (some (.ref Lx)))
    (ncopied : PySem.W.nsIn K mainGlobals "copied" = some (some (.ref acopied)))
    (lcopied : K.lookup acopied = some ⟨occopied, odcopied, .func (PySem.W.fnOf "copied" "copied" (defArgs s_copied) (defBody s_copied) (defScope s_copied) .none kVcopied dccopied pmcopied ancopied cdcopied ctcopied), slcopied⟩)
    (ccopied : PySem.W.codeIn K cdcopied "copied" = true)
    (kcopied : PySem.W.keepIn K (.ref acopied) = true)
    (n_law_blend : PySem.W.nsIn K mainGlobals "_law_blend" = some (some (.ref a_law_blend)))
    (l_law_blend : K.lookup a_law_blend = some ⟨oc_law_blend, od_law_blend, .func (PySem.W.fnOf "_law_blend" "_law_blend" (defArgs s__law_blend) (defBody s__law_blend) (defScope s__law_blend) .none kV_law_blend dc_law_blend pm_law_blend an_law_blend cd_law_blend ct_law_blend), sl_law_blend⟩)
    (c_law_blend : PySem.W.codeIn K cd_law_blend "_law_blend" = true)
    (k_law_blend : PySem.W.keepIn K (.ref a_law_blend) = true)
    (n_law_pot : PySem.W.nsIn K mainGlobals "_law_pot" = some (some (.ref a_law_pot)))
    (l_law_pot : K.lookup a_law_pot = some ⟨oc_law_pot, od_law_pot, .func (PySem.W.fnOf "_law_pot" "_law_pot" (defArgs s__law_pot) (defBody s__law_pot) (defScope s__law_pot) .none kV_law_pot dc_law_pot pm_law_pot an_law_pot cd_law_pot ct_law_pot), sl_law_pot⟩)
    (c_law_pot : PySem.W.codeIn K cd_law_pot "_law_pot" = true)
    (k_law_pot : PySem.W.keepIn K (.ref a_law_pot) = true)
    (n_law_draw : PySem.W.nsIn K mainGlobals "_law_draw" = some (some (.ref a_law_draw)))
    (l_law_draw : K.lookup a_law_draw = some ⟨oc_law_draw, od_law_draw, .func (PySem.W.fnOf "_law_draw" "_law_draw" (defArgs s__law_draw) (defBody s__law_draw) (defScope s__law_draw) .none kV_law_draw dc_law_draw pm_law_draw an_law_draw cd_law_draw ct_law_draw), sl_law_draw⟩)
    (c_law_draw : PySem.W.codeIn K cd_law_draw "_law_draw" = true)
    (k_law_draw : PySem.W.keepIn K (.ref a_law_draw) = true)
    (n_law_pick : PySem.W.nsIn K mainGlobals "_law_pick" = some (some (.ref a_law_pick)))
    (l_law_pick : K.lookup a_law_pick = some ⟨oc_law_pick, od_law_pick, .func (PySem.W.fnOf "_law_pick" "_law_pick" (defArgs s__law_pick) (defBody s__law_pick) (defScope s__law_pick) .none kV_law_pick dc_law_pick pm_law_pick an_law_pick cd_law_pick ct_law_pick), sl_law_pick⟩)
    (c_law_pick : PySem.W.codeIn K cd_law_pick "_law_pick" = true)
    (k_law_pick : PySem.W.keepIn K (.ref a_law_pick) = true)
    (n_law_things : PySem.W.nsIn K mainGlobals "_law_things" = some (some (.ref a_law_things)))
    (l_law_things : K.lookup a_law_things = some ⟨oc_law_things, od_law_things, .func (PySem.W.fnOf "_law_things" "_law_things" (defArgs s__law_things) (defBody s__law_things) (defScope s__law_things) .none kV_law_things dc_law_things pm_law_things an_law_things cd_law_things ct_law_things), sl_law_things⟩)
    (c_law_things : PySem.W.codeIn K cd_law_things "_law_things" = true)
    (k_law_things : PySem.W.keepIn K (.ref a_law_things) = true)
    (n_law_made : PySem.W.nsIn K mainGlobals "_law_made" = some (some (.ref a_law_made)))
    (l_law_made : K.lookup a_law_made = some ⟨oc_law_made, od_law_made, .func (PySem.W.fnOf "_law_made" "_law_made" (defArgs s__law_made) (defBody s__law_made) (defScope s__law_made) .none kV_law_made dc_law_made pm_law_made an_law_made cd_law_made ct_law_made), sl_law_made⟩)
    (c_law_made : PySem.W.codeIn K cd_law_made "_law_made" = true)
    (k_law_made : PySem.W.keepIn K (.ref a_law_made) = true)
    (n_law_kept : PySem.W.nsIn K mainGlobals "_law_kept" = some (some (.ref a_law_kept)))
    (l_law_kept : K.lookup a_law_kept = some ⟨oc_law_kept, od_law_kept, .func (PySem.W.fnOf "_law_kept" "_law_kept" (defArgs s__law_kept) (defBody s__law_kept) (defScope s__law_kept) .none kV_law_kept dc_law_kept pm_law_kept an_law_kept cd_law_kept ct_law_kept), sl_law_kept⟩)
    (c_law_kept : PySem.W.codeIn K cd_law_kept "_law_kept" = true)
    (k_law_kept : PySem.W.keepIn K (.ref a_law_kept) = true)
    (n_law_classes : PySem.W.nsIn K mainGlobals "_law_classes" = some (some (.ref a_law_classes)))
    (l_law_classes : K.lookup a_law_classes = some ⟨oc_law_classes, od_law_classes, .func (PySem.W.fnOf "_law_classes" "_law_classes" (defArgs s__law_classes) (defBody s__law_classes) (defScope s__law_classes) .none kV_law_classes dc_law_classes pm_law_classes an_law_classes cd_law_classes ct_law_classes), sl_law_classes⟩)
    (c_law_classes : PySem.W.codeIn K cd_law_classes "_law_classes" = true)
    (k_law_classes : PySem.W.keepIn K (.ref a_law_classes) = true)
    (n_law_raised : PySem.W.nsIn K mainGlobals "_law_raised" = some (some (.ref a_law_raised)))
    (l_law_raised : K.lookup a_law_raised = some ⟨oc_law_raised, od_law_raised, .func (PySem.W.fnOf "_law_raised" "_law_raised" (defArgs s__law_raised) (defBody s__law_raised) (defScope s__law_raised) .none kV_law_raised dc_law_raised pm_law_raised an_law_raised cd_law_raised ct_law_raised), sl_law_raised⟩)
    (c_law_raised : PySem.W.codeIn K cd_law_raised "_law_raised" = true)
    (k_law_raised : PySem.W.keepIn K (.ref a_law_raised) = true)
    (n_law_right : PySem.W.nsIn K mainGlobals "_law_right" = some (some (.ref a_law_right)))
    (l_law_right : K.lookup a_law_right = some ⟨oc_law_right, od_law_right, .func (PySem.W.fnOf "_law_right" "_law_right" (defArgs s__law_right) (defBody s__law_right) (defScope s__law_right) .none kV_law_right dc_law_right pm_law_right an_law_right cd_law_right ct_law_right), sl_law_right⟩)
    (c_law_right : PySem.W.codeIn K cd_law_right "_law_right" = true)
    (k_law_right : PySem.W.keepIn K (.ref a_law_right) = true)
    (nlaw : PySem.W.nsIn K mainGlobals "law" = some (some (.ref alaw)))
    (llaw : K.lookup alaw = some ⟨oclaw, odlaw, .func (PySem.W.fnOf "law" "law" (defArgs s_law) (defBody s_law) (defScope s_law) .none kVlaw dclaw pmlaw anlaw cdlaw ctlaw), sllaw⟩)
    (claw : PySem.W.codeIn K cdlaw "law" = true)
    (klaw : PySem.W.keepIn K (.ref alaw) = true)
    (ii_NoMember : PySem.W.findIn K (.ref C0) "__init__" = some (some (.ref fi_NoMember)))
    (li_NoMember : K.lookup fi_NoMember = some ⟨oci_NoMember, odi_NoMember, .func (PySem.W.ksFn "__init__" "NoMember.__init__" (defArgs s_i_NoMember) (defBody s_i_NoMember) (defScope s_i_NoMember) .none kVi_NoMember dci_NoMember pmi_NoMember ani_NoMember (.ref cai_NoMember) cti_NoMember cci_NoMember), sli_NoMember⟩)
    (ci_NoMember : PySem.W.codeIn K (.ref cai_NoMember) "NoMember.__init__" = true)
    (ti_NoMember : PySem.W.typeIn K (.ref fi_NoMember) = some (.type "function"))
    (ui_NoMember : supB K P C0 cai_NoMember cci_NoMember = true)
    (ii_NoDrawing : PySem.W.findIn K (.ref C1) "__init__" = some (some (.ref fi_NoDrawing)))
    (li_NoDrawing : K.lookup fi_NoDrawing = some ⟨oci_NoDrawing, odi_NoDrawing, .func (PySem.W.ksFn "__init__" "NoDrawing.__init__" (defArgs s_i_NoDrawing) (defBody s_i_NoDrawing) (defScope s_i_NoDrawing) .none kVi_NoDrawing dci_NoDrawing pmi_NoDrawing ani_NoDrawing (.ref cai_NoDrawing) cti_NoDrawing cci_NoDrawing), sli_NoDrawing⟩)
    (ci_NoDrawing : PySem.W.codeIn K (.ref cai_NoDrawing) "NoDrawing.__init__" = true)
    (ti_NoDrawing : PySem.W.typeIn K (.ref fi_NoDrawing) = some (.type "function"))
    (ui_NoDrawing : supB K P C1 cai_NoDrawing cci_NoDrawing = true)
    (ii_TooFew : PySem.W.findIn K (.ref C2) "__init__" = some (some (.ref fi_TooFew)))
    (li_TooFew : K.lookup fi_TooFew = some ⟨oci_TooFew, odi_TooFew, .func (PySem.W.ksFn "__init__" "TooFew.__init__" (defArgs s_i_TooFew) (defBody s_i_TooFew) (defScope s_i_TooFew) .none kVi_TooFew dci_TooFew pmi_TooFew ani_TooFew (.ref cai_TooFew) cti_TooFew cci_TooFew), sli_TooFew⟩)
    (ci_TooFew : PySem.W.codeIn K (.ref cai_TooFew) "TooFew.__init__" = true)
    (ti_TooFew : PySem.W.typeIn K (.ref fi_TooFew) = some (.type "function"))
    (ui_TooFew : supB K P C2 cai_TooFew cci_TooFew = true)
    (ii_NoNumber : PySem.W.findIn K (.ref C3) "__init__" = some (some (.ref fi_NoNumber)))
    (li_NoNumber : K.lookup fi_NoNumber = some ⟨oci_NoNumber, odi_NoNumber, .func (PySem.W.ksFn "__init__" "NoNumber.__init__" (defArgs s_i_NoNumber) (defBody s_i_NoNumber) (defScope s_i_NoNumber) .none kVi_NoNumber dci_NoNumber pmi_NoNumber ani_NoNumber (.ref cai_NoNumber) cti_NoNumber cci_NoNumber), sli_NoNumber⟩)
    (ci_NoNumber : PySem.W.codeIn K (.ref cai_NoNumber) "NoNumber.__init__" = true)
    (ti_NoNumber : PySem.W.typeIn K (.ref fi_NoNumber) = some (.type "function"))
    (ui_NoNumber : supB K P C3 cai_NoNumber cci_NoNumber = true)
    (ii_TooMany : PySem.W.findIn K (.ref C4) "__init__" = some (some (.ref fi_TooMany)))
    (li_TooMany : K.lookup fi_TooMany = some ⟨oci_TooMany, odi_TooMany, .func (PySem.W.ksFn "__init__" "TooMany.__init__" (defArgs s_i_TooMany) (defBody s_i_TooMany) (defScope s_i_TooMany) .none kVi_TooMany dci_TooMany pmi_TooMany ani_TooMany (.ref cai_TooMany) cti_TooMany cci_TooMany), sli_TooMany⟩)
    (ci_TooMany : PySem.W.codeIn K (.ref cai_TooMany) "TooMany.__init__" = true)
    (ti_TooMany : PySem.W.typeIn K (.ref fi_TooMany) = some (.type "function"))
    (ui_TooMany : supB K P C4 cai_TooMany cci_TooMany = true)
    (ii_Twice : PySem.W.findIn K (.ref C5) "__init__" = some (some (.ref fi_Twice)))
    (li_Twice : K.lookup fi_Twice = some ⟨oci_Twice, odi_Twice, .func (PySem.W.ksFn "__init__" "Twice.__init__" (defArgs s_i_Twice) (defBody s_i_Twice) (defScope s_i_Twice) .none kVi_Twice dci_Twice pmi_Twice ani_Twice (.ref cai_Twice) cti_Twice cci_Twice), sli_Twice⟩)
    (ci_Twice : PySem.W.codeIn K (.ref cai_Twice) "Twice.__init__" = true)
    (ti_Twice : PySem.W.typeIn K (.ref fi_Twice) = some (.type "function"))
    (ui_Twice : supB K P C5 cai_Twice cci_Twice = true)
    (ii_NoBar : PySem.W.findIn K (.ref C7) "__init__" = some (some (.ref fi_NoBar)))
    (li_NoBar : K.lookup fi_NoBar = some ⟨oci_NoBar, odi_NoBar, .func (PySem.W.ksFn "__init__" "NoBar.__init__" (defArgs s_i_NoBar) (defBody s_i_NoBar) (defScope s_i_NoBar) .none kVi_NoBar dci_NoBar pmi_NoBar ani_NoBar (.ref cai_NoBar) cti_NoBar cci_NoBar), sli_NoBar⟩)
    (ci_NoBar : PySem.W.codeIn K (.ref cai_NoBar) "NoBar.__init__" = true)
    (ti_NoBar : PySem.W.typeIn K (.ref fi_NoBar) = some (.type "function"))
    (ui_NoBar : supB K P C7 cai_NoBar cci_NoBar = true)
    (ii_NoText : PySem.W.findIn K (.ref C6) "__init__" = some (some (.ref fi_NoText)))
    (li_NoText : K.lookup fi_NoText = some ⟨oci_NoText, odi_NoText, .func (PySem.W.ksFn "__init__" "NoText.__init__" (defArgs s_i_NoText) (defBody s_i_NoText) (defScope s_i_NoText) .none kVi_NoText dci_NoText pmi_NoText ani_NoText (.ref cai_NoText) cti_NoText cci_NoText), sli_NoText⟩)
    (ci_NoText : PySem.W.codeIn K (.ref cai_NoText) "NoText.__init__" = true)
    (ti_NoText : PySem.W.typeIn K (.ref fi_NoText) = some (.type "function"))
    (ui_NoText : supB K P C6 cai_NoText cci_NoText = true)
    (hx : ((List.range 11).all fun c => excCB K ([C0, C1, C2, C3, C4, C5, C6, C7, C8, C9, C10].getD c 0)) = true)
    (flname : flB K [C0, C1, C2, C3, C4, C5, C6, C7, C8, C9, C10] [0, 5] "name" = true)
    (flthing : flB K [C0, C1, C2, C3, C4, C5, C6, C7, C8, C9, C10] [1] "thing" = true)
    (fllot : flB K [C0, C1, C2, C3, C4, C5, C6, C7, C8, C9, C10] [2] "lot" = true)
    (flnumber : flB K [C0, C1, C2, C3, C4, C5, C6, C7, C8, C9, C10] [3] "number" = true)
    (flmany : flB K [C0, C1, C2, C3, C4, C5, C6, C7, C8, C9, C10] [4] "many" = true)
    (flgiver : flB K [C0, C1, C2, C3, C4, C5, C6, C7, C8, C9, C10] [7] "giver" = true)
    (fltaker : flB K [C0, C1, C2, C3, C4, C5, C6, C7, C8, C9, C10] [7] "taker" = true)
    (flrow : flB K [C0, C1, C2, C3, C4, C5, C6, C7, C8, C9, C10] [6] "row" = true)
    (isNoMember : isiB K [C0, C1, C2, C3, C4, C5, C6, C7, C8, C9, C10] 11 (.ref C0) isi_NoMember = true)
    (isNoDrawing : isiB K [C0, C1, C2, C3, C4, C5, C6, C7, C8, C9, C10] 11 (.ref C1) isi_NoDrawing = true)
    (isTooFew : isiB K [C0, C1, C2, C3, C4, C5, C6, C7, C8, C9, C10] 11 (.ref C2) isi_TooFew = true)
    (isNoNumber : isiB K [C0, C1, C2, C3, C4, C5, C6, C7, C8, C9, C10] 11 (.ref C3) isi_NoNumber = true)
    (isTooMany : isiB K [C0, C1, C2, C3, C4, C5, C6, C7, C8, C9, C10] 11 (.ref C4) isi_TooMany = true)
    (isTwice : isiB K [C0, C1, C2, C3, C4, C5, C6, C7, C8, C9, C10] 11 (.ref C5) isi_Twice = true)
    (isNoText : isiB K [C0, C1, C2, C3, C4, C5, C6, C7, C8, C9, C10] 11 (.ref C6) isi_NoText = true)
    (isNoBar : isiB K [C0, C1, C2, C3, C4, C5, C6, C7, C8, C9, C10] 11 (.ref C7) isi_NoBar = true)
    (isNoYear : isiB K [C0, C1, C2, C3, C4, C5, C6, C7, C8, C9, C10] 11 (.ref C8) isi_NoYear = true)
    (isNoBack : isiB K [C0, C1, C2, C3, C4, C5, C6, C7, C8, C9, C10] 11 (.ref C9) isi_NoBack = true)
    (isNoRow : isiB K [C0, C1, C2, C3, C4, C5, C6, C7, C8, C9, C10] 11 (.ref C10) isi_NoRow = true)
    (isValueError : isiB K [C0, C1, C2, C3, C4, C5, C6, C7, C8, C9, C10] 11 (.type "ValueError") isi_ValueError = true)
    (isLotError : isiB K [C0, C1, C2, C3, C4, C5, C6, C7, C8, C9, C10] 11 (.ref Lx) isi_LotError = true)
    (qNoYear : PySem.W.excIn K C8 vmro "ValueError.__new__" = true)
    (kpNoYear : PySem.W.keepIn K (.ref C8) = true)
    (qNoBack : PySem.W.excIn K C9 vmro "ValueError.__new__" = true)
    (kpNoBack : PySem.W.keepIn K (.ref C9) = true)
    (qNoRow : PySem.W.excIn K C10 vmro "ValueError.__new__" = true)
    (kpNoRow : PySem.W.keepIn K (.ref C10) = true)
    (ex : PySem.W.exmOne K (.ref C2) (.ref Lx) = some true)
    (zValueError : PySem.W.nsIn K mainGlobals "ValueError" = some none)
    (zabs : PySem.W.nsIn K mainGlobals "abs" = some none)
    (zall : PySem.W.nsIn K mainGlobals "all" = some none)
    (zdict : PySem.W.nsIn K mainGlobals "dict" = some none)
    (zisinstance : PySem.W.nsIn K mainGlobals "isinstance" = some none)
    (zlen : PySem.W.nsIn K mainGlobals "len" = some none)
    (zlist : PySem.W.nsIn K mainGlobals "list" = some none)
    (zrange : PySem.W.nsIn K mainGlobals "range" = some none)
    (zrepr : PySem.W.nsIn K mainGlobals "repr" = some none)
    (ztuple : PySem.W.nsIn K mainGlobals "tuple" = some none)
    (zsuper : PySem.W.nsIn K mainGlobals "super" = some none) :
    ∃ (fd : FuncData) (g : G), g.K = K ∧ (∀ (s : Shared) (u : Value), BindsTo s fd ⟨[u], []⟩ [("_law_script", u)]) ∧ ∀ base : Heap, K.In base → base.Ns mainGlobals mg → (∃ o, base.get? sysModules = some o) → FnG P w K mg base 10 fa fd ["_law_script"] (spOf g 1 m_law) := by
  have e := hfa.symm.trans (PySem.W.mg_of X GG nlaw)
  cases e
  have Fcopied := fun_mk (st := s_copied) lcopied ccopied kcopied
  have Dcopied : DefAt K mg "copied" s_copied ["thing"] _ _ := ⟨Fcopied, PySem.W.mg_of X GG ncopied, Fcopied.binds (ps := ["thing"]) fun _ _ _ _ _ _ us hl => match us, hl with | [_], _ => rfl⟩
  have F_law_blend := fun_mk (st := s__law_blend) l_law_blend c_law_blend k_law_blend
  have D_law_blend : DefAt K mg "_law_blend" s__law_blend ["_law_sown", "_law_turn"] _ _ := ⟨F_law_blend, PySem.W.mg_of X GG n_law_blend, F_law_blend.binds (ps := ["_law_sown", "_law_turn"]) fun _ _ _ _ _ _ us hl => match us, hl with | [_, _], _ => rfl⟩
  have F_law_pot := fun_mk (st := s__law_pot) l_law_pot c_law_pot k_law_pot
  have D_law_pot : DefAt K mg "_law_pot" s__law_pot ["_law_script"] _ _ := ⟨F_law_pot, PySem.W.mg_of X GG n_law_pot, F_law_pot.binds (ps := ["_law_script"]) fun _ _ _ _ _ _ us hl => match us, hl with | [_], _ => rfl⟩
  have F_law_draw := fun_mk (st := s__law_draw) l_law_draw c_law_draw k_law_draw
  have D_law_draw : DefAt K mg "_law_draw" s__law_draw ["_law_pot_here", "_law_size"] _ _ := ⟨F_law_draw, PySem.W.mg_of X GG n_law_draw, F_law_draw.binds (ps := ["_law_pot_here", "_law_size"]) fun _ _ _ _ _ _ us hl => match us, hl with | [_, _], _ => rfl⟩
  have F_law_pick := fun_mk (st := s__law_pick) l_law_pick c_law_pick k_law_pick
  have D_law_pick : DefAt K mg "_law_pick" s__law_pick ["_law_pot_here", "_law_some"] _ _ := ⟨F_law_pick, PySem.W.mg_of X GG n_law_pick, F_law_pick.binds (ps := ["_law_pot_here", "_law_some"]) fun _ _ _ _ _ _ us hl => match us, hl with | [_, _], _ => rfl⟩
  have F_law_things := fun_mk (st := s__law_things) l_law_things c_law_things k_law_things
  have D_law_things : DefAt K mg "_law_things" s__law_things ["_law_pot_here"] _ _ := ⟨F_law_things, PySem.W.mg_of X GG n_law_things, F_law_things.binds (ps := ["_law_pot_here"]) fun _ _ _ _ _ _ us hl => match us, hl with | [_], _ => rfl⟩
  have F_law_made := fun_mk (st := s__law_made) l_law_made c_law_made k_law_made
  have D_law_made : DefAt K mg "_law_made" s__law_made ["_law_way", "_law_held", "_law_by_name"] _ _ := ⟨F_law_made, PySem.W.mg_of X GG n_law_made, F_law_made.binds (ps := ["_law_way", "_law_held", "_law_by_name"]) fun _ _ _ _ _ _ us hl => match us, hl with | [_, _, _], _ => rfl⟩
  have F_law_kept := fun_mk (st := s__law_kept) l_law_kept c_law_kept k_law_kept
  have D_law_kept : DefAt K mg "_law_kept" s__law_kept ["_law_way", "_law_made_here"] _ _ := ⟨F_law_kept, PySem.W.mg_of X GG n_law_kept, F_law_kept.binds (ps := ["_law_way", "_law_made_here"]) fun _ _ _ _ _ _ us hl => match us, hl with | [_, _], _ => rfl⟩
  have F_law_classes := fun_mk (st := s__law_classes) l_law_classes c_law_classes k_law_classes
  have D_law_classes : DefAt K mg "_law_classes" s__law_classes ["_law_made_here"] _ _ := ⟨F_law_classes, PySem.W.mg_of X GG n_law_classes, F_law_classes.binds (ps := ["_law_made_here"]) fun _ _ _ _ _ _ us hl => match us, hl with | [_], _ => rfl⟩
  have F_law_raised := fun_mk (st := s__law_raised) l_law_raised c_law_raised k_law_raised
  have D_law_raised : DefAt K mg "_law_raised" s__law_raised ["_law_held"] _ _ := ⟨F_law_raised, PySem.W.mg_of X GG n_law_raised, F_law_raised.binds (ps := ["_law_held"]) fun _ _ _ _ _ _ us hl => match us, hl with | [_], _ => rfl⟩
  have F_law_right := fun_mk (st := s__law_right) l_law_right c_law_right k_law_right
  have D_law_right : DefAt K mg "_law_right" s__law_right ["_law_way", "_law_one", "_law_other"] _ _ := ⟨F_law_right, PySem.W.mg_of X GG n_law_right, F_law_right.binds (ps := ["_law_way", "_law_one", "_law_other"]) fun _ _ _ _ _ _ us hl => match us, hl with | [_, _, _], _ => rfl⟩
  have Flaw := fun_mk (st := s_law) llaw claw klaw
  have Dlaw : DefAt K mg "law" s_law ["_law_script"] _ _ := ⟨Flaw, PySem.W.mg_of X GG nlaw, Flaw.binds (ps := ["_law_script"]) fun _ _ _ _ _ _ us hl => match us, hl with | [_], _ => rfl⟩
  have Xi_NoMember : XI K P mg "NoMember" "NoMember.__init__" s_i_NoMember ([C0, C1, C2, C3, C4, C5, C6, C7, C8, C9, C10].getD 0 0) _ _ _ _ := xi_of (st := s_i_NoMember) li_NoMember ci_NoMember ui_NoMember (PySem.W.mg_of X GG n_NoMember) (PySem.W.mg_none_of X GG zsuper) ii_NoMember ti_NoMember
  have Xi_NoDrawing : XI K P mg "NoDrawing" "NoDrawing.__init__" s_i_NoDrawing ([C0, C1, C2, C3, C4, C5, C6, C7, C8, C9, C10].getD 1 0) _ _ _ _ := xi_of (st := s_i_NoDrawing) li_NoDrawing ci_NoDrawing ui_NoDrawing (PySem.W.mg_of X GG n_NoDrawing) (PySem.W.mg_none_of X GG zsuper) ii_NoDrawing ti_NoDrawing
  have Xi_TooFew : XI K P mg "TooFew" "TooFew.__init__" s_i_TooFew ([C0, C1, C2, C3, C4, C5, C6, C7, C8, C9, C10].getD 2 0) _ _ _ _ := xi_of (st := s_i_TooFew) li_TooFew ci_TooFew ui_TooFew (PySem.W.mg_of X GG n_TooFew) (PySem.W.mg_none_of X GG zsuper) ii_TooFew ti_TooFew
  have Xi_NoNumber : XI K P mg "NoNumber" "NoNumber.__init__" s_i_NoNumber ([C0, C1, C2, C3, C4, C5, C6, C7, C8, C9, C10].getD 3 0) _ _ _ _ := xi_of (st := s_i_NoNumber) li_NoNumber ci_NoNumber ui_NoNumber (PySem.W.mg_of X GG n_NoNumber) (PySem.W.mg_none_of X GG zsuper) ii_NoNumber ti_NoNumber
  have Xi_TooMany : XI K P mg "TooMany" "TooMany.__init__" s_i_TooMany ([C0, C1, C2, C3, C4, C5, C6, C7, C8, C9, C10].getD 4 0) _ _ _ _ := xi_of (st := s_i_TooMany) li_TooMany ci_TooMany ui_TooMany (PySem.W.mg_of X GG n_TooMany) (PySem.W.mg_none_of X GG zsuper) ii_TooMany ti_TooMany
  have Xi_Twice : XI K P mg "Twice" "Twice.__init__" s_i_Twice ([C0, C1, C2, C3, C4, C5, C6, C7, C8, C9, C10].getD 5 0) _ _ _ _ := xi_of (st := s_i_Twice) li_Twice ci_Twice ui_Twice (PySem.W.mg_of X GG n_Twice) (PySem.W.mg_none_of X GG zsuper) ii_Twice ti_Twice
  have Xi_NoBar : XI K P mg "NoBar" "NoBar.__init__" s_i_NoBar ([C0, C1, C2, C3, C4, C5, C6, C7, C8, C9, C10].getD 7 0) _ _ _ _ := xi_of (st := s_i_NoBar) li_NoBar ci_NoBar ui_NoBar (PySem.W.mg_of X GG n_NoBar) (PySem.W.mg_none_of X GG zsuper) ii_NoBar ti_NoBar
  have Xi_NoText : XI K P mg "NoText" "NoText.__init__" s_i_NoText ([C0, C1, C2, C3, C4, C5, C6, C7, C8, C9, C10].getD 6 0) _ _ _ _ := xi_of (st := s_i_NoText) li_NoText ci_NoText ui_NoText (PySem.W.mg_of X GG n_NoText) (PySem.W.mg_none_of X GG zsuper) ii_NoText ti_NoText
  let T : Tx K P mg := {
    Cs := [C0, C1, C2, C3, C4, C5, C6, C7, C8, C9, C10],
    L := Lx,
    a_copied := _, fd_copied := _, d_copied := Dcopied,
    a__law_blend := _, fd__law_blend := _, d__law_blend := D_law_blend,
    a__law_pot := _, fd__law_pot := _, d__law_pot := D_law_pot,
    a__law_draw := _, fd__law_draw := _, d__law_draw := D_law_draw,
    a__law_pick := _, fd__law_pick := _, d__law_pick := D_law_pick,
    a__law_things := _, fd__law_things := _, d__law_things := D_law_things,
    a__law_made := _, fd__law_made := _, d__law_made := D_law_made,
    a__law_kept := _, fd__law_kept := _, d__law_kept := D_law_kept,
    a__law_classes := _, fd__law_classes := _, d__law_classes := D_law_classes,
    a__law_raised := _, fd__law_raised := _, d__law_raised := D_law_raised,
    a__law_right := _, fd__law_right := _, d__law_right := D_law_right,
    a_law := _, fd_law := _, d_law := Dlaw,
    fI_NoMember := _, cda_NoMember := _, cc_NoMember := _, fd_NoMember := _, x_NoMember := Xi_NoMember, b_NoMember := .all fun us hl => match us, hl with | [_, _], _ => rfl,
    kb_NoMember := kbn_of (fun a b => a.append b) fun a ws hl => match ws, hl with | [_], _ => rfl,
    fI_NoDrawing := _, cda_NoDrawing := _, cc_NoDrawing := _, fd_NoDrawing := _, x_NoDrawing := Xi_NoDrawing, b_NoDrawing := .all fun us hl => match us, hl with | [_, _], _ => rfl,
    kb_NoDrawing := kbn_of (fun a b => a.append b) fun a ws hl => match ws, hl with | [_], _ => rfl,
    fI_TooFew := _, cda_TooFew := _, cc_TooFew := _, fd_TooFew := _, x_TooFew := Xi_TooFew, b_TooFew := .all fun us hl => match us, hl with | [_, _], _ => rfl,
    kb_TooFew := kbn_of (fun a b => a.append b) fun a ws hl => match ws, hl with | [_], _ => rfl,
    fI_NoNumber := _, cda_NoNumber := _, cc_NoNumber := _, fd_NoNumber := _, x_NoNumber := Xi_NoNumber, b_NoNumber := .all fun us hl => match us, hl with | [_, _], _ => rfl,
    kb_NoNumber := kbn_of (fun a b => a.append b) fun a ws hl => match ws, hl with | [_], _ => rfl,
    fI_TooMany := _, cda_TooMany := _, cc_TooMany := _, fd_TooMany := _, x_TooMany := Xi_TooMany, b_TooMany := .all fun us hl => match us, hl with | [_, _], _ => rfl,
    kb_TooMany := kbn_of (fun a b => a.append b) fun a ws hl => match ws, hl with | [_], _ => rfl,
    fI_Twice := _, cda_Twice := _, cc_Twice := _, fd_Twice := _, x_Twice := Xi_Twice, b_Twice := .all fun us hl => match us, hl with | [_, _], _ => rfl,
    kb_Twice := kbn_of (fun a b => a.append b) fun a ws hl => match ws, hl with | [_], _ => rfl,
    fI_NoBar := _, cda_NoBar := _, cc_NoBar := _, fd_NoBar := _, x_NoBar := Xi_NoBar, b_NoBar := .all fun us hl => match us, hl with | [_, _, _], _ => rfl,
    kb_NoBar := kbn_of (fun a b => a.append (vals_rev b)) fun a ws hl => match ws, hl with | [_, _], _ => rfl,
    fI_NoText := _, cda_NoText := _, cc_NoText := _, fd_NoText := _, x_NoText := Xi_NoText, b_NoText := .all fun us hl => match us, hl with | [_, _], _ => rfl,
    kb_NoText := kbn_of (fun a b => a.append b) fun a ws hl => match ws, hl with | [_], _ => rfl,
    fl_name := fl_of flname,
    fl_thing := fl_of flthing,
    fl_lot := fl_of fllot,
    fl_number := fl_of flnumber,
    fl_many := fl_of flmany,
    fl_giver := fl_of flgiver,
    fl_taker := fl_of fltaker,
    fl_row := fl_of flrow,
    isi_NoMember := isi_of hx isNoMember (fun c b h => by unfold isi_NoMember at h; split at h <;> first | assumption | cases h),
    isi_NoDrawing := isi_of hx isNoDrawing (fun c b h => by unfold isi_NoDrawing at h; split at h <;> first | assumption | cases h),
    isi_TooFew := isi_of hx isTooFew (fun c b h => by unfold isi_TooFew at h; split at h <;> first | assumption | cases h),
    isi_NoNumber := isi_of hx isNoNumber (fun c b h => by unfold isi_NoNumber at h; split at h <;> first | assumption | cases h),
    isi_TooMany := isi_of hx isTooMany (fun c b h => by unfold isi_TooMany at h; split at h <;> first | assumption | cases h),
    isi_Twice := isi_of hx isTwice (fun c b h => by unfold isi_Twice at h; split at h <;> first | assumption | cases h),
    isi_NoText := isi_of hx isNoText (fun c b h => by unfold isi_NoText at h; split at h <;> first | assumption | cases h),
    isi_NoBar := isi_of hx isNoBar (fun c b h => by unfold isi_NoBar at h; split at h <;> first | assumption | cases h),
    isi_NoYear := isi_of hx isNoYear (fun c b h => by unfold isi_NoYear at h; split at h <;> first | assumption | cases h),
    isi_NoBack := isi_of hx isNoBack (fun c b h => by unfold isi_NoBack at h; split at h <;> first | assumption | cases h),
    isi_NoRow := isi_of hx isNoRow (fun c b h => by unfold isi_NoRow at h; split at h <;> first | assumption | cases h),
    isi_ValueError := isi_of hx isValueError (fun c b h => by unfold isi_ValueError at h; split at h <;> first | assumption | cases h),
    isi_LotError := isi_of hx isLotError (fun c b h => by unfold isi_LotError at h; split at h <;> first | assumption | cases h),
    c_NoMember := PySem.W.mg_of X GG n_NoMember,
    c_NoDrawing := PySem.W.mg_of X GG n_NoDrawing,
    c_TooFew := PySem.W.mg_of X GG n_TooFew,
    c_NoNumber := PySem.W.mg_of X GG n_NoNumber,
    c_TooMany := PySem.W.mg_of X GG n_TooMany,
    c_Twice := PySem.W.mg_of X GG n_Twice,
    c_NoText := PySem.W.mg_of X GG n_NoText,
    c_NoBar := PySem.W.mg_of X GG n_NoBar,
    c_NoYear := PySem.W.mg_of X GG n_NoYear,
    c_NoBack := PySem.W.mg_of X GG n_NoBack,
    c_NoRow := PySem.W.mg_of X GG n_NoRow,
    c_LotError := PySem.W.mg_of X GG n_LotError,
    q_NoYear := qNoYear, k_NoYear := kpNoYear,
    q_NoBack := qNoBack, k_NoBack := kpNoBack,
    q_NoRow := qNoRow, k_NoRow := kpNoRow,
    ex_2 := ex,
    ValueError := PySem.W.mg_none_of X GG zValueError,
    abs := PySem.W.mg_none_of X GG zabs,
    all := PySem.W.mg_none_of X GG zall,
    dict := PySem.W.mg_none_of X GG zdict,
    isinstance := PySem.W.mg_none_of X GG zisinstance,
    len := PySem.W.mg_none_of X GG zlen,
    list := PySem.W.mg_none_of X GG zlist,
    range := PySem.W.mg_none_of X GG zrange,
    repr := PySem.W.mg_none_of X GG zrepr,
    tuple := PySem.W.mg_none_of X GG ztuple }
  exact ⟨_, gOf T, rfl, fun s v => .of_eq rfl, fun base _ _ sm => ok_law T sm⟩
end Lw

namespace Lw
open PySem L2 Lg
/-! ### constructors -/
theorem init1 {c : Nat} {f : PySem.Str} {h : List D → Store → Res D} {d d' : D} (hg : ∀ S, h [d] S = .ok d' S) (S : Store) :
    mInit c 2 2 (sFldX c f (mVar 0) (mCall h (mCons (mVar 1) mNil))) [.loc S.length, d] (S ++ [.exc c none]) = .ok .non (S ++ [.exc c (some (S.length + 1)), .xd [(f, d')]]) := by
  simp [mInit, mDef, sFldX, startE, mVar, mCall, mCons, mNil, Res.bind, Res.bindS, putX, hg]
theorem mk1 {c i : Nat} {f : PySem.Str} {h : List D → Store → Res D} {d d' : D} (hg : ∀ S, h [d] S = .ok d' S) {env : En} (he : env[i]? = some (some d)) (S : Store) :
    mMkX c (mInit c 2 2 (sFldX c f (mVar 0) (mCall h (mCons (mVar 1) mNil)))) [] (mCons (mVar i) mNil) env S = .ok (.loc S.length) (S ++ [.exc c (some (S.length + 1)), .xd [(f, d')]]) := by
  have := init1 (c := c) (f := f) hg S
  simp [mMkX, mCons, mNil, mVar, Res.bind, he, this]
theorem mk1k {c i : Nat} {f : PySem.Str} {h : List D → Store → Res D} {d d' : D} (hg : ∀ S, h [d] S = .ok d' S) {env : En} (he : env[i]? = some (some d)) (S : Store) :
    mMkXk c 1 (mInit c 2 2 (sFldX c f (mVar 0) (mCall h (mCons (mVar 1) mNil)))) (fun ds es => ds ++ es) (mCons (mVar i) mNil) env S = .ok (.loc S.length) (S ++ [.exc c (some (S.length + 1)), .xd [(f, d')]]) := by
  have := init1 (c := c) (f := f) hg S
  simp [mMkXk, mCons, mNil, mVar, Res.bind, he, this]
def fnm (w : Nat) : PySem.Str := match w with
  | 0 => "name" | 1 => "thing" | 2 => "lot" | 3 => "number" | 4 => "many" | 5 => "name" | _ => "row"
/-- copied without a change of the store -/
def Cp (d d' : D) : Prop := ∀ S, m_copied 4 [d] S = .ok d' S
theorem made {w : Nat} (hw : w < 7) {d d' : D} (hc : Cp d d') (b : Bool) (S : Store) : m__law_made [.int w, d, .bl b] S = .ok (.loc S.length) (S ++ [.exc w (some (S.length + 1)), .xd [(fnm w, d')]]) := by
  have e : ∀ (i j : Int) S, dEqA (.int i) (.int j) S = .ok (.bl (decide (i = j))) S := fun i j S => by
    show dEq (.int i) (.int j) S = _
    have h1 : SeqAt.shaped (.int i) = true := rfl
    have h2 : SeqAt.shaped (.int j) = true := rfl
    simp [dEq, dEqB, pyOf, D.py, h1, h2, PyData.eqv]; by_cases q : i = j <;> simp [q]
  have hw' : w = 0 ∨ w = 1 ∨ w = 2 ∨ w = 3 ∨ w = 4 ∨ w = 5 ∨ w = 6 := by omega
  rcases hw' with rfl | rfl | rfl | rfl | rfl | rfl | rfl <;> cases b <;>
  simp [m__law_made, mDef, sSeq, sIf, sRet, sNext, bVal, mIf, mOp, mVar, mC, startE, Res.bind, Res.bindS, FRes.seq, e, m_i_NoMember, m_i_NoDrawing, m_i_TooFew, m_i_NoNumber, m_i_TooMany, m_i_Twice, m_i_NoText, mk1 hc, mk1k hc, fnm]

theorem eqI (i j : Int) (S : Store) : dEqA (.int i) (.int j) S = .ok (.bl (decide (i = j))) S := by
  show dEq (.int i) (.int j) S = _
  have h1 : SeqAt.shaped (.int i) = true := rfl
  have h2 : SeqAt.shaped (.int j) = true := rfl
  simp [dEq, dEqB, pyOf, D.py, h1, h2, PyData.eqv]; by_cases q : i = j <;> simp [q]
theorem kept {w : Nat} (hw : w < 7) {n m : Nat} {d' : D} {S : Store} (h1 : S[n]? = some (.exc w (some m))) (h2 : S[m]? = some (.xd [(fnm w, d')])) : m__law_kept [.int w, .loc n] S = .ok d' S := by
  have hw' : w = 0 ∨ w = 1 ∨ w = 2 ∨ w = 3 ∨ w = 4 ∨ w = 5 ∨ w = 6 := by omega
  rcases hw' with rfl | rfl | rfl | rfl | rfl | rfl | rfl <;>
  simp [m__law_kept, mDef, sSeq, sIf, sRet, sNext, bVal, bOr, mIf, mOp, mVar, mC, startE, Res.bind, Res.bindS, FRes.seq, eqI, mXg, fldX, h1, h2, fnm, ok_fl_name, ok_fl_thing, ok_fl_lot, ok_fl_number, ok_fl_many, ok_fl_row, List.lookup]
def row11 (c : Nat) : List D := (List.range 11).map fun i => .bl (decide ((c : Nat) = i))
theorem classes {c : Nat} (hc : c < 11) {n : Nat} {S : Store} (h : excCls (.loc n) S = some c) : m__law_classes [.loc n] S = .ok (.lst (row11 c)) S := by
  have hw' : c = 0 ∨ c = 1 ∨ c = 2 ∨ c = 3 ∨ c = 4 ∨ c = 5 ∨ c = 6 ∨ c = 7 ∨ c = 8 ∨ c = 9 ∨ c = 10 := by omega
  rcases hw' with rfl | rfl | rfl | rfl | rfl | rfl | rfl | rfl | rfl | rfl | rfl <;>
  simp [m__law_classes, mDef, sSeq, sAsg, sRet, gmName, mOp, mVar, mC, mLst, mCons, mNil, startE, Res.bind, Res.bindS, FRes.seq, mIsX, h, isi_NoMember, isi_NoDrawing, isi_TooFew, isi_NoNumber, isi_TooMany, isi_Twice, isi_NoText, isi_NoBar, isi_NoYear, isi_NoBack, isi_NoRow, dAdd, asL, sizeLine, row11, List.range, List.range.loop]
theorem rowEq (i : Nat) {n k : Nat} {env : En} (hk : k < env.length) (hn : env[n]? = some (some (.int i))) (hkn : k ≠ n) (S : Store) :
    mLc (itRange1 (mCons (mC (.int 11)) mNil)) (gmName k) bYes (mOp dEqA (mVar k) (mVar n)) [k] env S = .ok (.lst (row11 i)) S := by
  have e1 : ∀ x, (((env.set k none).set k (some x)))[k]? = some (some x) := fun x => by rw [List.getElem?_set_self (by simpa using hk)]
  have e2 : ∀ x, (((env.set k none).set k (some x)))[n]? = some (some (.int i)) := fun x => by rw [List.getElem?_set_ne hkn, List.getElem?_set_ne hkn, hn]
  have step : ∀ (j : Int) (S : Store), mOp dEqA (mVar k) (mVar n) ((env.set k none).set k (some (.int j))) S = .ok (.bl (decide (j = (i : Int)))) S := fun j S => by
    simp only [mOp, mVar, e1, e2, Res.bind, eqI]
  have go : ∀ (js : List Int) (acc : List D) (S : Store), acc.length + js.length < 1000 → mLcGo (gmName k) bYes (mOp dEqA (mVar k) (mVar n)) (env.set k none) (js.map D.int) acc S = .ok (acc ++ js.map fun j => .bl (decide (j = (i : Int)))) S := by
    intro js
    induction js with
    | nil => intro acc S _; simp [mLcGo]
    | cons j js ih =>
      intro acc S hl
      simp only [List.length_cons] at hl
      simp only [List.map_cons, mLcGo, gmName, bYes, step]
      rw [if_pos (by show acc.length < 2 ^ 24; omega), ih _ _ (by simp; omega)]
      simp
  have hr : (itRange1 (mCons (mC (.int 11)) mNil)) env S = .ok (([0, 1, 2, 3, 4, 5, 6, 7, 8, 9, 10] : List Int).map D.int) S := rfl
  show ((itRange1 (mCons (mC (.int 11)) mNil)) env S).bind _ = _
  rw [hr]
  show (mLcGo (gmName k) bYes (mOp dEqA (mVar k) (mVar n)) (wipeE env [k]) _ [] S).bind _ = _
  rw [show wipeE env [k] = env.set k none from rfl, go _ _ _ (by decide)]
  show Res.ok (D.lst _) S = _
  congr 2
  simp [row11, List.range, List.range.loop, eq_comm]
  omega
theorem rowNe {c : Nat} (hc : c < 11) (S : Store) : dNeA (.lst (row11 c)) (.lst (row11 c)) S = .ok (.bl false) S := by
  have hw' : c = 0 ∨ c = 1 ∨ c = 2 ∨ c = 3 ∨ c = 4 ∨ c = 5 ∨ c = 6 ∨ c = 7 ∨ c = 8 ∨ c = 9 ∨ c = 10 := by omega
  rcases hw' with rfl | rfl | rfl | rfl | rfl | rfl | rfl | rfl | rfl | rfl | rfl <;> rfl
/-- a thing that the law takes: it is copied, told as it is -/
structure Good (d d' : D) (p : PyData) : Prop where
  pd : d.pd = some p
  cp : Cp d d'
  pd' : d'.pd = some p
  un : ∀ n, d'.und n = true
  ok : p.showable = true
  len : p.shown.length ≤ 200
  dep : p.depth ≤ 10
theorem Good.r {d d' : D} {p : PyData} (g : Good d d' p) (S : Store) : cRepr [d] S = .ok (.str p.shown) S := by
  have h1 : p.shown.length ≤ 2 ^ 24 := Nat.le_trans g.len (by decide)
  have h2 : p.depth ≤ 40 := Nat.le_trans g.dep (by decide)
  unfold cRepr
  simp only [g.pd]
  rw [if_pos ⟨g.ok, h1, h2⟩]
theorem Good.r' {d d' : D} {p : PyData} (g : Good d d' p) (S : Store) : cRepr [d'] S = .ok (.str p.shown) S := by
  have h1 : p.shown.length ≤ 2 ^ 24 := Nat.le_trans g.len (by decide)
  have h2 : p.depth ≤ 40 := Nat.le_trans g.dep (by decide)
  unfold cRepr
  simp only [g.pd']
  rw [if_pos ⟨g.ok, h1, h2⟩]
def two (w : Nat) (S : Store) (d d' : D) : Store := S ++ [.exc w (some (S.length + 1)), .xd [(fnm w, d)]] ++ [.exc w (some (S.length + 3)), .xd [(fnm w, d')]]
theorem right {w : Nat} (hw : w < 7) {d1 d1' d2 d2' : D} {p1 p2 : PyData} (g1 : Good d1 d1' p1) (g2 : Good d2 d2' p2) (S : Store) : m__law_right [.int w, d1, d2] S = .ok (.bl true) (two w S d1' d2') := by
  have a1 := made hw g1.cp false S
  have a2 := made hw g2.cp true (S ++ [.exc w (some (S.length + 1)), .xd [(fnm w, d1')]])
  rw [show (S ++ [Ob.exc w (some (S.length + 1)), Ob.xd [(fnm w, d1')]]).length = S.length + 2 by simp] at a2
  have k1 : ∀ S', S' = two w S d1' d2' → m__law_kept [.int w, .loc S.length] S' = .ok d1' S' := fun S' e => by
    subst e
    refine kept hw (m := S.length + 1) ?_ ?_ <;> simp [two]
  have k2 : ∀ S', S' = two w S d1' d2' → m__law_kept [.int w, .loc (S.length + 2)] S' = .ok d2' S' := fun S' e => by
    subst e
    refine kept hw (m := S.length + 3) ?_ ?_ <;> simp [two]
  have c1 : ∀ S', S' = two w S d1' d2' → m__law_classes [.loc S.length] S' = .ok (.lst (row11 w)) S' := fun S' e => by
    subst e
    exact classes (by omega) (by simp [excCls, two])
  have x1 : excCls (.loc S.length) (two w S d1' d2') = some w := by simp [excCls, two]
  have iv : isi_ValueError w = some true := by unfold isi_ValueError; rw [if_pos (by omega)]
  have il : isi_LotError w = some true := by unfold isi_LotError; rw [if_pos (by omega)]
  have e2 : S ++ [Ob.exc w (some (S.length + 1)), Ob.xd [(fnm w, d1')]] ++ [Ob.exc w (some (S.length + 2 + 1)), Ob.xd [(fnm w, d2')]] = two w S d1' d2' := rfl
  rw [e2] at a2
  generalize two w S d1' d2' = T at *
  have rn : dNe (.lst (row11 w)) (.lst (row11 w)) T = .ok (.bl false) T := rowNe (by omega) T
  have row : ∀ (x y : Option D), mLc (itRange1 (mCons (mC (.int 11)) mNil)) (gmName 5) bYes (mOp dEqA (mVar 5) (mVar 0)) [5] [some (.int w), x, y, some (.loc S.length), some (.loc (S.length + 2)), none] T = .ok (.lst (row11 w)) T := fun x y => rowEq w (by simp) rfl (by decide) T
  simp [m__law_right, mDef, sSeq, sPar, sIf, sRet, sNext, bVal, bOr, bNot, mAndV, mOp, mVar, mC, mCall, mCons, mNil, startE, Res.bind, Res.bindS, FRes.seq, a1, a2, k1, k2, c1, g1.r, g2.r, g1.r', g2.r', dNeA, dEqA, row, rn, mIsX, x1, iv, il]

/-- nothing of the store speaks of what is not there -/
def US (S : Store) : Prop := ∀ n, S.length ≤ n → S.all (Ob.und n) = true
theorem us_two {S : Store} (u : US S) {w : Nat} {d d' : D} (h : ∀ n, d.und n = true) (h' : ∀ n, d'.und n = true) : US (two w S d d') := by
  intro n hn
  simp only [two, List.length_append, List.length_cons, List.length_nil] at hn
  have := u n (by omega)
  simp [two, List.all_append, this, Ob.und, undkv, h, h']
  omega
theorem rights {d1 d1' d2 d2' : D} {p1 p2 : PyData} (g1 : Good d1 d1' p1) (g2 : Good d2 d2' p2) {env : En} (hl : 6 < env.length) (e2 : env[2]? = some (some d1)) (e3 : env[3]? = some (some d2)) :
    ∀ (js : List Nat) (acc : List D) (S : Store), (∀ w ∈ js, w < 7) → acc.length + js.length < 1000 → US S → ∃ S', mLcGo (gmName 6) bYes (mCall m__law_right (mCons (mVar 6) (mCons (mVar 2) (mCons (mVar 3) mNil)))) (env.set 6 none) (js.map fun (w : Nat) => D.int w) acc S = .ok (acc ++ js.map fun _ => .bl true) S' ∧ US S'
  | [], acc, S, _, _, u => ⟨S, by simp [mLcGo], u⟩
  | w :: js, acc, S, hw, hz, u => by
    have x6 : ((env.set 6 none).set 6 (some (D.int w)))[6]? = some (some (.int w)) := by rw [List.getElem?_set_self (by simpa using hl)]
    have x2 : ((env.set 6 none).set 6 (some (D.int w)))[2]? = some (some d1) := by rw [List.getElem?_set_ne (by decide), List.getElem?_set_ne (by decide), e2]
    have x3 : ((env.set 6 none).set 6 (some (D.int w)))[3]? = some (some d2) := by rw [List.getElem?_set_ne (by decide), List.getElem?_set_ne (by decide), e3]
    have r := right (hw w List.mem_cons_self) g1 g2 S
    simp only [List.length_cons] at hz
    obtain ⟨S', i1, i2⟩ := rights g1 g2 hl e2 e3 js (acc ++ [.bl true]) (two w S d1' d2') (fun x hx => hw x (List.mem_cons_of_mem _ hx)) (by simp; omega) (us_two u g1.un g2.un)
    refine ⟨S', ?_, i2⟩
    have st : mCall m__law_right (mCons (mVar 6) (mCons (mVar 2) (mCons (mVar 3) mNil))) ((env.set 6 none).set 6 (some (D.int w))) S = .ok (.bl true) (two w S d1' d2') := by
      simp only [mCall, mCons, mNil, mVar, x6, x2, x3, Res.bind, r]
    simp only [List.map_cons, mLcGo, gmName, bYes, st]
    rw [if_pos (by show acc.length < 2 ^ 24; omega), i1]
    simp
theorem raised {d d' : D} {p : PyData} (g : Good d d' p) {S : Store} (u : US S) : m__law_raised [d] S = .ok d' S := by
  have i := init1 (c := 2) (f := "lot") g.cp S
  have un := u S.length (Nat.le_refl _)
  simp only [m__law_raised, mDef, sSeq, sAsg, gmName, mC, startE, List.length_cons, List.length_nil, Res.bindS, FRes.seq, List.map_cons, List.map_nil, if_true]
  simp [sKeepF, mCons, mNil, mVar, Res.bind, Res.bindS, m_i_TooFew, i, un, List.take_left', g.un, List.lookup]

theorem bar1 {d1 d1' d2 d2' : D} (c1 : Cp d1 d1') (c2 : Cp d2 d2') (S : Store) :
    m_i_NoBar [.loc S.length, d1, d2] (S ++ [.exc 7 none]) = .ok .non (S ++ [.exc 7 (some (S.length + 1)), .xd [("taker", d2'), ("giver", d1')]]) := by
  have h1 : ∀ S, m_copied 4 [d1] S = .ok d1' S := c1
  have h2 : ∀ S, m_copied 4 [d2] S = .ok d2' S := c2
  simp [m_i_NoBar, mInit, mDef, sSeq, FRes.seq, sFldX, startE, mVar, mCall, mCons, mNil, Res.bind, Res.bindS, putX, h1, h2]
theorem lists {d1 d1' d2 d2' : D} {p1 p2 : PyData} (g1 : Good d1 d1' p1) (g2 : Good d2 d2' p2) (S : Store) :
    ∃ z, cRepr [.lst [d1', d2', d2', d1']] S = .ok (.str z) S ∧ cRepr [.lst [d1, d2, d2, d1]] S = .ok (.str z) S := by
  have hz : (PyData.list [p1, p2, p2, p1]).shown.length ≤ 2 ^ 24 := by
    have a := g1.len
    have b := g2.len
    simp only [PyData.shown, PyData.shownAll, listText, textFrom, strLen_append]
    have e1 : (((if (0 : Nat) > 0 then ", " else "" : String) : PySem.Str)).length ≤ 2 := by decide +kernel
    have e2 : (((if (0 + 1 : Nat) > 0 then ", " else "" : String) : PySem.Str)).length ≤ 2 := by decide +kernel
    have e3 : (((if (0 + 1 + 1 : Nat) > 0 then ", " else "" : String) : PySem.Str)).length ≤ 2 := by decide +kernel
    have e4 : (((if (0 + 1 + 1 + 1 : Nat) > 0 then ", " else "" : String) : PySem.Str)).length ≤ 2 := by decide +kernel
    have e5 : (PySem.Str.ofString "[").length ≤ 2 := by decide +kernel
    have e6 : (PySem.Str.ofString "]").length ≤ 2 := by decide +kernel
    omega
  have hs : (PyData.list [p1, p2, p2, p1]).showable = true := by simp [PyData.showable, PyData.showableAll, g1.ok, g2.ok]
  have hd : (PyData.list [p1, p2, p2, p1]).depth ≤ 40 := by
    have a := g1.dep
    have b := g2.dep
    simp only [PyData.depth, PyData.depthAll]
    omega
  refine ⟨(PyData.list [p1, p2, p2, p1]).shown, ?_, ?_⟩
  · unfold cRepr
    simp only [D.pd, pds, g1.pd', g2.pd', Option.map_some]
    rw [if_pos ⟨hs, hz, hd⟩]
  · unfold cRepr
    simp only [D.pd, pds, g1.pd, g2.pd, Option.map_some]
    rw [if_pos ⟨hs, hz, hd⟩]

theorem sq {a b : SM} {env env' : En} {S S' : Store} (h : a env S = .next env' S') : sSeq a b env S = b env' S' := by unfold sSeq; rw [h]; rfl
theorem turn {c : Nat} (hc : c < 11) {env : En} (hl : env.length = 9) {n : Nat} {S : Store} (hx : excCls (.loc n) S = some c) (w : D) (hw : w = .tup [.int c, .loc n]) {b : SM}
    (hb : b = (sSeq (sIf (bVal (mOp dNeA (mCall m__law_classes (mCons (mVar 7) mNil)) (mLc (itRange1 (mCons (mC (.int 11)) mNil)) (gmName 8) bYes (mOp dEqA (mVar 8) (mVar 6)) [8]))) (sRet (mC (.bl false))) sNext) (sIf (bOr (bNot (bVal (mIsX isi_LotError (mVar 7)))) (bNot (bVal (mIsX isi_ValueError (mVar 7))))) (sRet (mC (.bl false))) sNext)))
    (ds : List D) : sFor (gmTup 2 (gmCons (gmName 6) (gmCons (gmName 7) gmNil))) b (w :: ds) env S = sFor (gmTup 2 (gmCons (gmName 6) (gmCons (gmName 7) gmNil))) b ds ((env.set 6 (some (.int c))).set 7 (some (.loc n))) S := by
  subst hw
  have e7 : ((env.set 6 (some (.int c))).set 7 (some (.loc n)))[7]? = some (some (.loc n)) := List.getElem?_set_self (by simp [hl])
  have e6 : ((env.set 6 (some (.int c))).set 7 (some (.loc n)))[6]? = some (some (.int c)) := by rw [List.getElem?_set_ne (by decide), List.getElem?_set_self (by simp [hl])]
  have row := rowEq c (n := 6) (k := 8) (env := (env.set 6 (some (.int c))).set 7 (some (.loc n))) (by simp [hl]) e6 (by decide) S
  have rn := rowNe hc S
  have cl := classes hc hx
  have iv : isi_ValueError c = some true := by unfold isi_ValueError; rw [if_pos hc]
  have il : isi_LotError c = some true := by unfold isi_LotError; rw [if_pos hc]
  have bd : b ((env.set 6 (some (.int c))).set 7 (some (.loc n))) S = .next ((env.set 6 (some (.int c))).set 7 (some (.loc n))) S := by
    subst hb
    generalize (env.set 6 (some (.int c))).set 7 (some (.loc n)) = e at *
    have v7 : ∀ S, mVar 7 e S = .ok (.loc n) S := fun S => by simp [mVar, e7]
    simp [sSeq, sIf, bVal, bOr, bNot, mOp, mCall, mCons, mNil, Res.bind, Res.bindS, FRes.seq, v7, cl, row, rn, mIsX, hx, iv, il, sNext]
  show (match b ((env.set 6 (some (.int c))).set 7 (some (.loc n))) S with
    | .next env2 S2 => sFor _ b ds env2 S2
    | .cont env2 S2 => sFor _ b ds env2 S2
    | .brk env2 S2 => .next env2 S2
    | q => q) = _
  rw [bd]

theorem law_all {ns : List Int} {S0 S1 S2 : Store} {d1 d1' d2 d2' : D} {p1 p2 : PyData} (g1 : Good d1 d1' p1) (g2 : Good d2 d2' p2) (h0 : m__law_pot [.scr ns] [] = .ok (.loc 1) S0) (h1 : m__law_things [.loc 1] S0 = .ok d1 S1) (h2 : m__law_things [.loc 1] S1 = .ok d2 S2) (u : US S2) :
    ∃ S', m_law [.scr ns] [] = .ok (.bl true) S' := by
  let E2 : En := [some (.scr ns), some (.loc 1), some d1, some d2, none, none, none, none, none]
  obtain ⟨S3, r3, u3⟩ := rights g1 g2 (env := E2) (by simp [E2]) rfl rfl [0, 1, 2, 3, 4, 5, 6] [] S2 (by decide) (by decide) u
  have rz := raised g1 u3
  have lc : mLc (itRange1 (mCons (mC (.int 7)) mNil)) (gmName 6) bYes (mCall m__law_right (mCons (mVar 6) (mCons (mVar 2) (mCons (mVar 3) mNil)))) [6] E2 S2 = .ok (.lst ([] ++ ([0, 1, 2, 3, 4, 5, 6] : List Nat).map fun _ => .bl true)) S3 := by
    have hr : (itRange1 (mCons (mC (.int 7)) mNil)) E2 S2 = .ok (([0, 1, 2, 3, 4, 5, 6] : List Nat).map fun (w : Nat) => D.int w) S2 := rfl
    show ((itRange1 (mCons (mC (.int 7)) mNil)) E2 S2).bind _ = _
    rw [hr]
    show (mLcGo (gmName 6) bYes _ (wipeE E2 [6]) _ [] S2).bind _ = _
    rw [show wipeE E2 [6] = E2.set 6 none from rfl, r3]
    rfl
  have q1 := g1.r
  have q1' := g1.r'
  -- the two bars
  have b1 := bar1 g1.cp g2.cp S3
  have b2 := bar1 g2.cp g1.cp (S3 ++ [.exc 7 (some (S3.length + 1)), .xd [("taker", d2'), ("giver", d1')]])
  rw [show (S3 ++ [Ob.exc 7 (some (S3.length + 1)), Ob.xd [("taker", d2'), ("giver", d1')]]).length = S3.length + 2 by simp] at b2
  generalize hS4 : S3 ++ [Ob.exc 7 (some (S3.length + 1)), Ob.xd [("taker", d2'), ("giver", d1')]] = S4 at b1 b2
  have l4 : S4.length = S3.length + 2 := by rw [← hS4]; simp
  generalize hS5 : S4 ++ [Ob.exc 7 (some (S3.length + 2 + 1)), Ob.xd [("taker", d1'), ("giver", d2')]] = S5 at b2
  have l5 : S5.length = S3.length + 4 := by rw [← hS5]; simp [l4]
  have z1 : S5[S3.length]? = some (.exc 7 (some (S3.length + 1))) := by rw [← hS5, ← hS4]; simp
  have z2 : S5[S3.length + 1]? = some (.xd [("taker", d2'), ("giver", d1')]) := by rw [← hS5, ← hS4]; simp
  have z3 : S5[S3.length + 2]? = some (.exc 7 (some (S3.length + 3))) := by rw [← hS5]; simp [← l4]
  have z4 : S5[S3.length + 3]? = some (.xd [("taker", d1'), ("giver", d2')]) := by rw [← hS5, show S3.length + 3 = S4.length + 1 by omega]; simp
  obtain ⟨z, w1, w2⟩ := lists g1 g2 S5
  let E1 : En := [some (.scr ns), some (.loc 1), none, none, none, none, none, none, none]
  let E3 : En := [some (.scr ns), some (.loc 1), some d1, some d2, some (.loc S3.length), some (.loc (S3.length + 2)), none, none, none]
  have s1 : sAsg (mCall m__law_pot (mCons (mVar 0) mNil)) (gmName 1) (startE 9 [.scr ns]) [] = .next E1 S0 := by
    simp [sAsg, mCall, mCons, mNil, mVar, startE, Res.bind, Res.bindS, gmName, h0, E1, List.replicate]
  have s2 : sAsg (mTup (mCons (mCall m__law_things (mCons (mVar 1) mNil)) (mCons (mCall m__law_things (mCons (mVar 1) mNil)) mNil))) (gmTup 2 (gmCons (gmName 2) (gmCons (gmName 3) gmNil))) E1 S0 = .next E2 S2 := by
    simp [sAsg, mTup, mCall, mCons, mNil, mVar, Res.bind, Res.bindS, gmTup, gmCons, gmNil, gmName, h1, h2, E1, E2, sizeLine]
  have v2 : ∀ S, mVar 2 E2 S = .ok d1 S := fun _ => rfl
  have v3 : ∀ S, mVar 3 E2 S = .ok d2 S := fun _ => rfl
  have s3 : sIf (bOr (bNot (bVal (mCall cAll (mCons (mLc (itRange1 (mCons (mC (.int 7)) mNil)) (gmName 6) bYes (mCall m__law_right (mCons (mVar 6) (mCons (mVar 2) (mCons (mVar 3) mNil)))) [6]) mNil)))) (bVal (mOp dNeA (mCall cRepr (mCons (mCall m__law_raised (mCons (mVar 2) mNil)) mNil)) (mCall cRepr (mCons (mVar 2) mNil))))) (sRet (mC (.bl false))) sNext E2 S2 = .next E2 S3 := by
    have ca : cAll [.lst ([] ++ ([0, 1, 2, 3, 4, 5, 6] : List Nat).map fun _ => .bl true)] S3 = .ok (.bl true) S3 := rfl
    have x1 : mCall cAll (mCons (mLc (itRange1 (mCons (mC (.int 7)) mNil)) (gmName 6) bYes (mCall m__law_right (mCons (mVar 6) (mCons (mVar 2) (mCons (mVar 3) mNil)))) [6]) mNil) E2 S2 = .ok (.bl true) S3 := by
      simp only [mCall, mCons, mNil] at lc ⊢
      simp only [lc, Res.bind]
      exact ca
    have x2 : mOp dNeA (mCall cRepr (mCons (mCall m__law_raised (mCons (mVar 2) mNil)) mNil)) (mCall cRepr (mCons (mVar 2) mNil)) E2 S3 = .ok (.bl false) S3 := by
      simp [mOp, mCall, mCons, mNil, v2, Res.bind, rz, q1, q1', dNeA]
    simp [sIf, bOr, bNot, bVal, x1, x2, Res.bind, Res.bindS, sNext]
  have s4 : sPar 4 5 (mCons (mMkX 7 m_i_NoBar [] (mCons (mVar 2) (mCons (mVar 3) mNil))) (mCons (mMkXk 7 2 m_i_NoBar (fun ds es => ds ++ es.reverse) (mCons (mVar 2) (mCons (mVar 3) mNil))) mNil)) E2 S3 = .next E3 S5 := by
    have y1 : mMkX 7 m_i_NoBar [] (mCons (mVar 2) (mCons (mVar 3) mNil)) E2 S3 = .ok (.loc S3.length) S4 := by
      simp [mMkX, mCons, mNil, v2, v3, Res.bind, b1]
    have y2 : mMkXk 7 2 m_i_NoBar (fun ds es => ds ++ es.reverse) (mCons (mVar 2) (mCons (mVar 3) mNil)) E2 S4 = .ok (.loc (S3.length + 2)) S5 := by
      simp [mMkXk, mCons, mNil, v2, v3, Res.bind, b2, l4]
    simp [sPar, mCons, mNil, y1, y2, Res.bind, Res.bindS, E2, E3]
  have v4 : ∀ S, mVar 4 E3 S = .ok (.loc S3.length) S := fun _ => rfl
  have v5 : ∀ S, mVar 5 E3 S = .ok (.loc (S3.length + 2)) S := fun _ => rfl
  have v2' : ∀ S, mVar 2 E3 S = .ok d1 S := fun _ => rfl
  have v3' : ∀ S, mVar 3 E3 S = .ok d2 S := fun _ => rfl
  have s5 : sIf (bVal (mOp dNeA (mCall cRepr (mCons (mLst (mCons (mXg ok_fl_giver "giver" (mVar 4)) (mCons (mXg ok_fl_taker "taker" (mVar 4)) (mCons (mXg ok_fl_giver "giver" (mVar 5)) (mCons (mXg ok_fl_taker "taker" (mVar 5)) mNil))))) mNil)) (mCall cRepr (mCons (mLst (mCons (mVar 2) (mCons (mVar 3) (mCons (mVar 3) (mCons (mVar 2) mNil))))) mNil)))) (sRet (mC (.bl false))) sNext E3 S5 = .next E3 S5 := by
    have f1 : fldX ok_fl_giver "giver" (.loc S3.length) S5 = some d1' := by simp [fldX, z1, z2, ok_fl_giver]; rfl
    have f2 : fldX ok_fl_taker "taker" (.loc S3.length) S5 = some d2' := by simp [fldX, z1, z2, ok_fl_taker]
    have f3 : fldX ok_fl_giver "giver" (.loc (S3.length + 2)) S5 = some d2' := by simp [fldX, z3, z4, ok_fl_giver]; rfl
    have f4 : fldX ok_fl_taker "taker" (.loc (S3.length + 2)) S5 = some d1' := by simp [fldX, z3, z4, ok_fl_taker]
    simp [sIf, bVal, mOp, mCall, mCons, mNil, mLst, mXg, v4, v5, v2', v3', f1, f2, f3, f4, sizeLine, w1, w2, Res.bind, Res.bindS, dNeA, sNext]
  let S8 : Store := S5 ++ [.ex0 8] ++ [.ex0 9] ++ [.ex0 10]
  have t : (itSeq (mTup (mCons (mTup (mCons (mC (.int 7)) (mCons (mVar 4) mNil))) (mCons (mTup (mCons (mC (.int 8)) (mCons (mEx0 8 (mC (.str "no year"))) mNil))) (mCons (mTup (mCons (mC (.int 9)) (mCons (mEx0 9 (mC (.str "none"))) mNil))) (mCons (mTup (mCons (mC (.int 10)) (mCons (mEx0 10 (mC (.str "no row"))) mNil))) mNil)))))) E3 S5 =
      .ok [.tup [.int (7 : Nat), .loc S3.length], .tup [.int (8 : Nat), .loc S5.length], .tup [.int (9 : Nat), .loc (S5.length + 1)], .tup [.int (10 : Nat), .loc (S5.length + 2)]] S8 := by
    simp [itSeq, mTup, mCons, mNil, mC, v4, mEx0, Res.bind, sizeLine, S8]
  have x7 : excCls (.loc S3.length) S8 = some 7 := by
    have a1 : S8[S3.length]? = some (.exc 7 (some (S3.length + 1))) := by
      simp only [S8, List.append_assoc]
      rw [List.getElem?_append_left (by omega), z1]
    have a2 : S8[S3.length + 1]? = some (.xd [("taker", d2'), ("giver", d1')]) := by
      simp only [S8, List.append_assoc]
      rw [List.getElem?_append_left (by omega), z2]
    simp [excCls, a1, a2]
  have x8 : excCls (.loc S5.length) S8 = some 8 := by simp [excCls, S8]
  have x9 : excCls (.loc (S5.length + 1)) S8 = some 9 := by simp [excCls, S8]
  have x10 : excCls (.loc (S5.length + 2)) S8 = some 10 := by simp [excCls, S8]
  refine ⟨S8, ?_⟩
  have s6 : ∃ E4, sForI (itSeq (mTup (mCons (mTup (mCons (mC (.int 7)) (mCons (mVar 4) mNil))) (mCons (mTup (mCons (mC (.int 8)) (mCons (mEx0 8 (mC (.str "no year"))) mNil))) (mCons (mTup (mCons (mC (.int 9)) (mCons (mEx0 9 (mC (.str "none"))) mNil))) (mCons (mTup (mCons (mC (.int 10)) (mCons (mEx0 10 (mC (.str "no row"))) mNil))) mNil)))))) (gmTup 2 (gmCons (gmName 6) (gmCons (gmName 7) gmNil)))
      (sSeq (sIf (bVal (mOp dNeA (mCall m__law_classes (mCons (mVar 7) mNil)) (mLc (itRange1 (mCons (mC (.int 11)) mNil)) (gmName 8) bYes (mOp dEqA (mVar 8) (mVar 6)) [8]))) (sRet (mC (.bl false))) sNext) (sIf (bOr (bNot (bVal (mIsX isi_LotError (mVar 7)))) (bNot (bVal (mIsX isi_ValueError (mVar 7))))) (sRet (mC (.bl false))) sNext)) E3 S5 = .next E4 S8 := by
    unfold sForI
    rw [t]
    simp only [Res.bindS]
    rw [turn (c := 7) (by decide) (by simp [E3]) x7 _ rfl rfl, turn (c := 8) (by decide) (by simp [E3]) x8 _ rfl rfl, turn (c := 9) (by decide) (by simp [E3]) x9 _ rfl rfl, turn (c := 10) (by decide) (by simp [E3]) x10 _ rfl rfl]
    exact ⟨_, rfl⟩
  obtain ⟨E4, s6⟩ := s6
  unfold m_law mDef
  rw [if_pos (by rfl)]
  rw [sq s1, sq s2, sq s3, sq s4, sq s5, sq s6]
  rfl
end Lw

namespace Lw
open PySem L2 Lg
theorem lg {x : Int} {k : Nat} (h0 : 0 ≤ x) (h : x < 2 ^ k) (hk : 0 < k) : x.natAbs.log2 < k := by
  have h1 : x.natAbs < 2 ^ k := by
    have : (x.natAbs : Int) = x := Int.natAbs_of_nonneg h0
    have h2 : ((x.natAbs : Nat) : Int) < ((2 ^ k : Nat) : Int) := by rw [this]; simpa using h
    exact_mod_cast h2
  by_cases z : x.natAbs = 0
  · rw [z]; simpa using hk
  · exact (Nat.log2_lt z).mpr h1
theorem cm {i j : Int} (hi0 : 0 ≤ i) (hi : i < 2 ^ 200) (hj0 : 0 ≤ j) (hj : j < 2 ^ 200) : CMulW i j := by
  have a := lg hi0 hi (by decide)
  have b := lg hj0 hj (by decide)
  unfold CMulW
  omega
theorem blend (sown turn : Int) (h0 : 0 ≤ turn) (h1 : turn ≤ 100) (S : Store) : ∃ r : Int, m__law_blend [.int sown, .int turn] S = .ok (.int r) S ∧ 0 ≤ r ∧ r < 2305843009213693907 := by
  have t2 : turn * turn ≤ 100 * 100 := Int.mul_le_mul h1 h1 h0 (by decide)
  have t3 : 0 ≤ turn * turn := Int.mul_nonneg h0 h0
  have e1 : 104729 * turn * turn = 104729 * (turn * turn) := by rw [Int.mul_assoc]
  have m1 := Int.emod_nonneg sown (show (2305843009213693951 : Int) ≠ 0 by decide)
  have m2 := Int.emod_lt_of_pos sown (show (0 : Int) < 2305843009213693951 by decide)
  have b : (1000000000000000000000 : Int) < 2 ^ 200 := by decide
  have c1 : CMulW 104729 turn := cm (by decide) (by decide) h0 (by omega)
  have c2 : CMulW (104729 * turn) turn := cm (by omega) (by omega) h0 (by omega)
  have c3 : CMulW 17 turn := cm (by decide) (by decide) h0 (by omega)
  generalize hs : sown % 2305843009213693951 + 104729 * turn * turn + 17 * turn + 5 = seed
  have s1 : 0 ≤ seed ∧ seed < 10000000000000000000 := by omega
  have c4 : CMulW seed 48271 := cm s1.1 (by omega) (by decide) (by decide)
  generalize ho : seed * 48271 % 2305843009213693921 = once
  have o1 : 0 ≤ once ∧ once < 2305843009213693921 := by
    rw [← ho]; exact ⟨Int.emod_nonneg _ (by decide), Int.emod_lt_of_pos _ (by decide)⟩
  have c5 : CMulW 99991 turn := cm (by decide) (by decide) h0 (by omega)
  have m3 := Int.emod_nonneg once (show (1000003 : Int) ≠ 0 by decide)
  have m4 := Int.emod_lt_of_pos once (show (0 : Int) < 1000003 by decide)
  have c6 : CMulW once (once % 1000003 + 99991 * turn) := cm o1.1 (by omega) (by omega) (by omega)
  have c7 : CDivW once 11 := by unfold CDivW; decide
  refine ⟨(once * (once % 1000003 + 99991 * turn) + once / 11) % 2305843009213693907, ?_, Int.emod_nonneg _ (by decide), Int.emod_lt_of_pos _ (by decide)⟩
  have p1 : (0 : Int) < 2305843009213693951 := by decide
  have p2 : (0 : Int) < 2305843009213693921 := by decide
  have p3 : (0 : Int) < 1000003 := by decide
  have p4 : (0 : Int) < 2305843009213693907 := by decide
  simp only [m__law_blend, mDef, startE, sSeq, sAsg, sRet, mOp, mVar, mC, gmName, Res.bind, Res.bindS, FRes.seq, dInt, dAdd, List.length_cons, List.length_nil, List.map_cons, List.map_nil, List.replicate, List.cons_append, List.nil_append, List.append_nil, List.getElem?_cons_zero, List.getElem?_cons_succ, List.set, if_true, p1, p2, p3, p4, c1, c2, c3, hs, c4, ho, c5, c6, c7, Nat.reduceAdd, Nat.reduceSub]

def Pot (cells : List Int) (big seed turn : Int) : Store := [.lst (cells.map D.int), .lst [.loc 0, .int big, .int seed, .int turn]]
theorem pys_ints : ∀ l : List Int, pys (l.map D.int) = some (l.map PyData.int)
  | [] => rfl
  | x :: l => by simp [pys, D.py, pys_ints l]
theorem lay_ints : ∀ l : List Int, PyData.canLayAll0 (l.map PyData.int) = true
  | [] => rfl
  | x :: l => by simp [PyData.canLayAll0, PyData.canLay0, lay_ints l]
theorem dep_ints : ∀ l : List Int, PyData.depthAll (l.map PyData.int) = 0
  | [] => rfl
  | x :: l => by simp [PyData.depthAll, PyData.depth, dep_ints l]
theorem ne0 (cells : List Int) (big seed turn : Int) : dNeA (.loc 0) (.lst []) (Pot cells big seed turn) = .ok (.bl (!cells.isEmpty)) (Pot cells big seed turn) := by
  show dNe _ _ _ = _
  have h1 : SeqAt.shaped (.list (cells.map PyData.int)) = true := by
    unfold SeqAt.shaped
    simp [PyData.canLay0, PyData.depth, lay_ints, dep_ints]
  have h2 : SeqAt.shaped (.list []) = true := rfl
  have e1 : pyOf (.loc 0) (Pot cells big seed turn) = some (.list (cells.map PyData.int)) := by simp [pyOf, Pot, pys_ints]
  have e2 : pyOf (.lst []) (Pot cells big seed turn) = some (.list []) := rfl
  unfold dNe dEqB
  rw [e1, e2]
  simp only [h1, h2, and_self, if_true]
  cases cells <;> rfl
theorem op_ok {f : D → D → Store → Res D} {a b : EM} {env : En} {S S1 S2 : Store} {x y : D} (ha : a env S = .ok x S1) (hb : b env S1 = .ok y S2) : mOp f a b env S = f x y S2 := by
  show (a env S).bind (fun x S1 => (b env S1).bind fun y S2 => f x y S2) = _
  rw [ha]
  show (b env S1).bind _ = _
  rw [hb]
  rfl
theorem cons_ok {a : EM} {b : AM} {env : En} {S S1 S2 : Store} {x : D} {xs : List D} (ha : a env S = .ok x S1) (hb : b env S1 = .ok xs S2) : mCons a b env S = .ok (x :: xs) S2 := by
  show (a env S).bind (fun x S1 => (b env S1).bind fun y S2 => .ok (x :: y) S2) = _
  rw [ha]
  show (b env S1).bind _ = _
  rw [hb]
  rfl
theorem call_ok {f : List D → Store → Res D} {a : AM} {env : En} {S S1 : Store} {xs : List D} (ha : a env S = .ok xs S1) : mCall f a env S = f xs S1 := by
  show (a env S).bind f = _
  rw [ha]
  rfl
theorem val_ok {a : EM} {env : En} {S S1 : Store} {b : Bool} (ha : a env S = .ok (.bl b) S1) : bVal a env S = .ok b S1 := by
  unfold bVal
  rw [ha]
  rfl
theorem draw {cells : List Int} {big seed turn size : Int} (hb : 0 ≤ big) (hc : cells.length ≤ 63) (ht0 : 0 ≤ turn) (ht : turn ≤ 50) (hs0 : 0 < size) (hs : size < 2 ^ 200) :
    ∃ (r : Int) (cells' : List Int) (big' seed' : Int), m__law_draw [.loc 1, .int size] (Pot cells big seed turn) = .ok (.int r) (Pot cells' big' seed' (turn + 1)) ∧ 0 ≤ r ∧ r < size ∧ 0 ≤ big' ∧ cells'.length ≤ 63 := by
  have dv : ∀ i, CDivW i size := fun i => ⟨hs0, Nat.lt_of_lt_of_le (lg (Int.le_of_lt hs0) hs (by decide)) (by decide)⟩
  have d7 : ∀ i, CDivW i 7 := fun i => by unfold CDivW; decide
  have p18 : CPow 10 18 := by unfold CPow; decide
  -- the last part
  have last : ∀ (x y : Option D) (cells : List Int) (big seed : Int), 0 ≤ big → cells.length ≤ 63 → ∃ (r : Int) (big' : Int), (sSeq (sIf (bVal (mOp dGt (mOp dIx (mVar 0) (mC (.int 1))) (mC (.int 0)))) (sSeq (sAsg (mOp dMod (mOp dIx (mVar 0) (mC (.int 1))) (mVar 1)) (gmName 3)) (sSeq (sAsg (mOp dDiv (mOp dIx (mVar 0) (mC (.int 1))) (mVar 1)) (gmSub (mVar 0) (mC (.int 1)) dSet)) (sRet (mVar 3)))) sNext) (sRet (mOp dMod (mOp dDiv (mCall m__law_blend (mCons (mOp dIx (mVar 0) (mC (.int 2))) (mCons (mOp dIx (mVar 0) (mC (.int 3))) mNil))) (mC (.int 7))) (mVar 1)))) [some (.loc 1), some (.int size), x, y] (Pot cells big seed (turn + 1)) = .ret (.int r) (Pot cells big' seed (turn + 1)) ∧ 0 ≤ r ∧ r < size ∧ 0 ≤ big' := by
    intro x y cells big seed hb hc
    obtain ⟨q, hq, q0, q1⟩ := blend seed (turn + 1) (by omega) (by omega) (Pot cells big seed (turn + 1))
    by_cases hz : 0 < big
    · refine ⟨big % size, big / size, ?_, Int.emod_nonneg _ (by omega), Int.emod_lt_of_pos _ hs0, Int.ediv_nonneg hb (by omega)⟩
      simp [sSeq, sIf, sAsg, sRet, bVal, mOp, mVar, mC, gmName, gmSub, Res.bind, Res.bindS, FRes.seq, dInt, dIx, asL, atI, ixN, dSet, Pot, hz, hs0, dv]
    · refine ⟨q / 7 % size, big, ?_, Int.emod_nonneg _ (by omega), Int.emod_lt_of_pos _ hs0, hb⟩
      have hq' := hq
      simp only [Pot] at hq'
      simp [sSeq, sIf, sAsg, sRet, sNext, bVal, mOp, mVar, mC, mCall, mCons, mNil, gmName, gmSub, Res.bind, Res.bindS, FRes.seq, dInt, dIx, asL, atI, ixN, dSet, Pot, hz, hs0, dv, hq', d7]
  have sA : sAsg (mOp dAdd (mOp dIx (mVar 0) (mC (.int 3))) (mC (.int 1))) (gmSub (mVar 0) (mC (.int 3)) dSet) (startE 4 [.loc 1, .int size]) (Pot cells big seed turn) = .next [some (.loc 1), some (.int size), none, none] (Pot cells big seed (turn + 1)) := by
    simp [sAsg, mOp, mVar, mC, gmSub, startE, Res.bind, Res.bindS, dAdd, dIx, asL, atI, ixN, dSet, Pot, List.replicate]
  have mid : ∃ (x : Option D) (cells' : List Int) (big' seed' : Int), (sIf (bAnd (bVal (mOp dEqA (mOp dIx (mVar 0) (mC (.int 1))) (mC (.int 0)))) (bVal (mOp dNeA (mOp dIx (mVar 0) (mC (.int 0))) (mLst mNil)))) (sSeq (sAsg (mBMt "list" qPopAt (mOp dIx (mVar 0) (mC (.int 0))) (mCons (mC (.int 0)) mNil)) (gmName 2)) (sSeq (sAsg (mCall m__law_blend (mCons (mOp dAdd (mOp dIx (mVar 0) (mC (.int 2))) (mVar 2)) (mCons (mCall cLen (mCons (mOp dIx (mVar 0) (mC (.int 0))) mNil)) mNil))) (gmSub (mVar 0) (mC (.int 2)) dSet)) (sIf (bVal (mOp dGe (mCall cAbs (mCons (mVar 2) mNil)) (mOp dPow (mC (.int 10)) (mC (.int 18))))) (sAsg (mCall cAbs (mCons (mVar 2) mNil)) (gmSub (mVar 0) (mC (.int 1)) dSet)) sNext))) sNext) [some (.loc 1), some (.int size), none, none] (Pot cells big seed (turn + 1)) =
      .next [some (.loc 1), some (.int size), x, none] (Pot cells' big' seed' (turn + 1)) ∧ 0 ≤ big' ∧ cells'.length ≤ 63 := by
    have i0 : ∀ (cells : List Int) (b sd : Int) (x : Option D), mOp dIx (mVar 0) (mC (.int 0)) [some (.loc 1), some (.int size), x, none] (Pot cells b sd (turn + 1)) = .ok (.loc 0) (Pot cells b sd (turn + 1)) := fun _ _ _ _ => by simp [mOp, mVar, mC, Res.bind, dIx, asL, atI, ixN, Pot]
    have i1 : mOp dIx (mVar 0) (mC (.int 1)) [some (.loc 1), some (.int size), none, none] (Pot cells big seed (turn + 1)) = .ok (.int big) (Pot cells big seed (turn + 1)) := by simp [mOp, mVar, mC, Res.bind, dIx, asL, atI, ixN, Pot]
    have c1 : bVal (mOp dEqA (mOp dIx (mVar 0) (mC (.int 1))) (mC (.int 0))) [some (.loc 1), some (.int size), none, none] (Pot cells big seed (turn + 1)) = .ok (decide (big = 0)) (Pot cells big seed (turn + 1)) := by
      exact val_ok ((op_ok i1 rfl).trans (eqI _ _ _))
    have c2 : bVal (mOp dNeA (mOp dIx (mVar 0) (mC (.int 0))) (mLst mNil)) [some (.loc 1), some (.int size), none, none] (Pot cells big seed (turn + 1)) = .ok (!cells.isEmpty) (Pot cells big seed (turn + 1)) := by
      exact val_ok ((op_ok (i0 cells big seed none) rfl).trans (ne0 _ _ _ _))
    by_cases hz : big = 0
    · subst hz
      cases cells with
      | nil => exact ⟨none, [], 0, seed, by simp [sIf, bAnd, c1, c2, Res.bind, Res.bindS, sNext], hb, hc⟩
      | cons c cs =>
        have hl : cs.length ≤ 62 := by simpa using hc
        obtain ⟨q, hq, q0, q1⟩ := blend (seed + c) (cs.length : Int) (by omega) (by omega) (Pot cs 0 seed (turn + 1))
        have pop : mBMt "list" qPopAt (mOp dIx (mVar 0) (mC (.int 0))) (mCons (mC (.int 0)) mNil) [some (.loc 1), some (.int size), none, none] (Pot (c :: cs) 0 seed (turn + 1)) = .ok (.int c) (Pot cs 0 seed (turn + 1)) := by
          have j := i0 (c :: cs) 0 seed none
          simp only [mBMt, j, Res.bind]
          simp [mCons, mNil, mC, Res.bind, tyD, qPopAt, Pot, seqIndex?]
        have e2 : mOp dIx (mVar 0) (mC (.int 2)) [some (.loc 1), some (.int size), some (.int c), none] (Pot cs 0 seed (turn + 1)) = .ok (.int seed) (Pot cs 0 seed (turn + 1)) := by simp [mOp, mVar, mC, Res.bind, dIx, asL, atI, ixN, Pot]
        have ln : mCall cLen (mCons (mOp dIx (mVar 0) (mC (.int 0))) mNil) [some (.loc 1), some (.int size), some (.int c), none] (Pot cs 0 seed (turn + 1)) = .ok (.int cs.length) (Pot cs 0 seed (turn + 1)) := by
          have j := i0 cs 0 seed (some (.int c))
          rw [call_ok (cons_ok j rfl)]
          simp [cLen, asL, Pot]
        have st : sAsg (mCall m__law_blend (mCons (mOp dAdd (mOp dIx (mVar 0) (mC (.int 2))) (mVar 2)) (mCons (mCall cLen (mCons (mOp dIx (mVar 0) (mC (.int 0))) mNil)) mNil))) (gmSub (mVar 0) (mC (.int 2)) dSet) [some (.loc 1), some (.int size), some (.int c), none] (Pot cs 0 seed (turn + 1)) = .next [some (.loc 1), some (.int size), some (.int c), none] (Pot cs 0 q (turn + 1)) := by
          have ad : mOp dAdd (mOp dIx (mVar 0) (mC (.int 2))) (mVar 2) [some (.loc 1), some (.int size), some (.int c), none] (Pot cs 0 seed (turn + 1)) = .ok (.int (seed + c)) (Pot cs 0 seed (turn + 1)) := by
            exact (op_ok e2 (show mVar 2 _ _ = .ok (.int c) _ from rfl)).trans rfl
          have cl : mCall m__law_blend (mCons (mOp dAdd (mOp dIx (mVar 0) (mC (.int 2))) (mVar 2)) (mCons (mCall cLen (mCons (mOp dIx (mVar 0) (mC (.int 0))) mNil)) mNil)) [some (.loc 1), some (.int size), some (.int c), none] (Pot cs 0 seed (turn + 1)) = .ok (.int q) (Pot cs 0 seed (turn + 1)) := by
            exact (call_ok (cons_ok ad (cons_ok ln rfl))).trans hq
          simp only [sAsg, cl, Res.bindS]
          simp [gmSub, mVar, mC, Res.bind, dSet, ixN, Pot]
        by_cases hg : (1000000000000000000 : Int) ≤ (if c < 0 then -c else c)
        · refine ⟨some (.int c), cs, (if c < 0 then -c else c), q, ?_, by omega, by omega⟩
          simp only [sIf, bAnd, c1, c2, Res.bind, Res.bindS, eq_self, decide_true, if_true, List.isEmpty_cons, Bool.not_false]
          have pop' : sAsg (mBMt "list" qPopAt (mOp dIx (mVar 0) (mC (.int 0))) (mCons (mC (.int 0)) mNil)) (gmName 2) [some (.loc 1), some (.int size), none, none] (Pot (c :: cs) 0 seed (turn + 1)) = .next [some (.loc 1), some (.int size), some (.int c), none] (Pot cs 0 seed (turn + 1)) := by
            simp only [sAsg, pop, Res.bindS, gmName]
            rfl
          rw [sq pop', sq st]
          simp [sIf, bVal, mOp, mCall, mCons, mNil, mVar, mC, cAbs, dInt, p18, hg, sAsg, gmSub, dSet, ixN, Pot, Res.bind, Res.bindS]
        · refine ⟨some (.int c), cs, 0, q, ?_, hb, by omega⟩
          simp only [sIf, bAnd, c1, c2, Res.bind, Res.bindS, eq_self, decide_true, if_true, List.isEmpty_cons, Bool.not_false]
          have pop' : sAsg (mBMt "list" qPopAt (mOp dIx (mVar 0) (mC (.int 0))) (mCons (mC (.int 0)) mNil)) (gmName 2) [some (.loc 1), some (.int size), none, none] (Pot (c :: cs) 0 seed (turn + 1)) = .next [some (.loc 1), some (.int size), some (.int c), none] (Pot cs 0 seed (turn + 1)) := by
            simp only [sAsg, pop, Res.bindS, gmName]
            rfl
          rw [sq pop', sq st]
          simp [sIf, bVal, mOp, mCall, mCons, mNil, mVar, mC, cAbs, dInt, p18, hg, sNext, Res.bind, Res.bindS]
    · exact ⟨none, cells, big, seed, by simp [sIf, bAnd, c1, Res.bind, Res.bindS, hz, sNext], hb, hc⟩
  obtain ⟨x, cells', big', seed', m1, m2, m3⟩ := mid
  obtain ⟨r, big'', l1, l2, l3, l4⟩ := last x none cells' big' seed' m2 m3
  refine ⟨r, cells', big'', seed', ?_, l2, l3, l4, m3⟩
  unfold m__law_draw mDef
  rw [if_pos (by rfl), sq sA, sq m1, l1]
end Lw

namespace Lw
open PySem L2 Lg
theorem kb : kitB "NoneType" "list" = some false ∧ kitB "NoneType" "tuple" = some false ∧ kitB "NoneType" "dict" = some false ∧ kitB "bool" "list" = some false ∧ kitB "bool" "tuple" = some false ∧ kitB "bool" "dict" = some false ∧ kitB "int" "list" = some false ∧ kitB "int" "tuple" = some false ∧ kitB "int" "dict" = some false ∧
    kitB "str" "list" = some false ∧ kitB "str" "tuple" = some false ∧ kitB "str" "dict" = some false ∧ kitB "tuple" "list" = some false ∧ kitB "tuple" "tuple" = some true ∧ kitB "list" "list" = some true ∧ kitB "dict" "list" = some false ∧ kitB "dict" "tuple" = some false ∧ kitB "dict" "dict" = some true := by decide +kernel
theorem cNon (k : Nat) (S : Store) : m_copied (k + 1) [.non] S = .ok .non S := by
  obtain ⟨h1, h2, h3, _⟩ := kb
  simp [m_copied, mm_copied, mDef, sSeq, sIf, sRet, sNext, bVal, mIsX, mIsi, kindD, mVar, startE, Res.bind, Res.bindS, FRes.seq, h1, h2, h3]
theorem cBl (b : Bool) (k : Nat) (S : Store) : m_copied (k + 1) [.bl b] S = .ok (.bl b) S := by
  obtain ⟨_, _, _, h1, h2, h3, _⟩ := kb
  simp [m_copied, mm_copied, mDef, sSeq, sIf, sRet, sNext, bVal, mIsi, kindD, mVar, startE, Res.bind, Res.bindS, FRes.seq, h1, h2, h3]
theorem cInt (i : Int) (k : Nat) (S : Store) : m_copied (k + 1) [.int i] S = .ok (.int i) S := by
  obtain ⟨_, _, _, _, _, _, h1, h2, h3, _⟩ := kb
  simp [m_copied, mm_copied, mDef, sSeq, sIf, sRet, sNext, bVal, mIsi, kindD, mVar, startE, Res.bind, Res.bindS, FRes.seq, h1, h2, h3]
theorem cStr (i : PySem.Str) (k : Nat) (S : Store) : m_copied (k + 1) [.str i] S = .ok (.str i) S := by
  obtain ⟨_, _, _, _, _, _, _, _, _, h1, h2, h3, _⟩ := kb
  simp [m_copied, mm_copied, mDef, sSeq, sIf, sRet, sNext, bVal, mIsi, kindD, mVar, startE, Res.bind, Res.bindS, FRes.seq, h1, h2, h3]
theorem cEmp (k : Nat) (S : Store) : m_copied (k + 1) [.emp true] S = .ok (.emp false) S := by
  obtain ⟨_, _, _, _, _, _, _, _, _, _, _, _, _, _, _, h1, h2, h3⟩ := kb
  simp [m_copied, mm_copied, mDef, sSeq, sIf, sRet, sNext, bVal, mIsi, kindD, mVar, mDc0, startE, Res.bind, Res.bindS, FRes.seq, h1, h2, h3]
/-- the parts of a list, of a tuple, one by one -/
theorem cGo {k : Nat} {e : En} (he : 1 < e.length) : ∀ (ds acc : List D) (S : Store), (∀ d ∈ ds, ∀ S, m_copied k [d] S = .ok d S) → acc.length + ds.length < 1000 → mLcGo (gmName 1) bYes (mCall (m_copied k) (mCons (mVar 1) mNil)) e ds acc S = .ok (acc ++ ds) S
  | [], acc, S, _, _ => by simp [mLcGo]
  | d :: ds, acc, S, h, hz => by
    simp only [List.length_cons] at hz
    have x1 : (e.set 1 (some d))[1]? = some (some d) := List.getElem?_set_self he
    have st : mCall (m_copied k) (mCons (mVar 1) mNil) (e.set 1 (some d)) S = .ok d S := by
      rw [call_ok (cons_ok (show mVar 1 _ S = .ok d S by simp [mVar, x1]) rfl)]
      exact h d List.mem_cons_self S
    simp only [mLcGo, gmName, bYes, st]
    rw [if_pos (by show acc.length < 2 ^ 24; omega), cGo he ds (acc ++ [d]) S (fun x hx => h x (List.mem_cons_of_mem _ hx)) (by simp; omega)]
    simp
theorem cLc {k : Nat} {d : D} {ds : List D} (hd : d = .tup ds ∨ d = .lst ds) (h : ∀ d ∈ ds, ∀ S, m_copied k [d] S = .ok d S) (hz : ds.length < 100) (S : Store) :
    mLc (itSeq (mVar 0)) (gmName 1) bYes (mCall (m_copied k) (mCons (mVar 1) mNil)) [1] [some d, none, none, none] S = .ok (.lst ds) S := by
  have g := cGo (k := k) (e := [some d, none, none, none]) (by simp) ds [] S h (by simp; omega)
  have hr : (itSeq (mVar 0)) [some d, none, none, none] S = .ok ds S := by rcases hd with rfl | rfl <;> rfl
  show ((itSeq (mVar 0)) [some d, none, none, none] S).bind _ = _
  rw [hr]
  show (mLcGo (gmName 1) bYes _ [some d, none, none, none] ds [] S).bind _ = _
  rw [g]
  rfl
theorem cTup {k : Nat} {ds : List D} (h : ∀ d ∈ ds, ∀ S, m_copied k [d] S = .ok d S) (hz : ds.length < 100) (S : Store) : m_copied (k + 1) [.tup ds] S = .ok (.tup ds) S := by
  obtain ⟨_, _, _, _, _, _, _, _, _, _, _, _, h1, h2, _⟩ := kb
  have x : mCall cTuple (mCons (mLc (itSeq (mVar 0)) (gmName 1) bYes (mCall (m_copied k) (mCons (mVar 1) mNil)) [1]) mNil) [some (.tup ds), none, none, none] S = .ok (.tup ds) S := (call_ok (cons_ok (cLc (.inl rfl) h hz S) rfl)).trans rfl
  simp [m_copied, mm_copied, mDef, sSeq, sIf, sRet, sNext, bVal, mIsi, kindD, mVar, startE, Res.bind, Res.bindS, FRes.seq, h1, h2, List.replicate, x]
theorem cLst {k : Nat} {ds : List D} (h : ∀ d ∈ ds, ∀ S, m_copied k [d] S = .ok d S) (hz : ds.length < 100) (S : Store) : m_copied (k + 1) [.lst ds] S = .ok (.lst ds) S := by
  obtain ⟨_, _, _, _, _, _, _, _, _, _, _, _, _, _, h1, _⟩ := kb
  have x := cLc (d := .lst ds) (.inr rfl) h hz S
  simp [m_copied, mm_copied, mDef, sSeq, sIf, sRet, sNext, bVal, mIsi, kindD, mVar, startE, Res.bind, Res.bindS, FRes.seq, h1, List.replicate, x]
theorem shI {i : Int} (h0 : 0 ≤ i) (h : i < 10 ^ 20) : (PyData.int i).showable = true ∧ (PyData.int i).shown.length ≤ 21 := by
  have l := lg (k := 70) h0 (by have : (10 ^ 20 : Int) < 2 ^ 70 := by decide
                                omega) (by decide)
  have hn : i.natAbs < 10 ^ 20 := by omega
  refine ⟨?_, ?_⟩
  · simp only [PyData.showable, decide_eq_true_eq]; omega
  · have e := int_text_length_le10 (a := i) (k := 20) (by decide) hn
    show (PySem.Str.ofString (toString i)).length ≤ 21
    rw [ofString_length]
    exact e

theorem same {d : D} {p : PyData} (h : ∀ k S, m_copied (k + 3) [d] S = .ok d S) (h1 : d.pd = some p) (h2 : ∀ n, d.und n = true) (h3 : p.showable = true) (h4 : p.shown.length ≤ 200) (h5 : p.depth ≤ 10) : Good d d p := ⟨h1, fun S => h 1 S, h1, h2, h3, h4, h5⟩
def mulA (k : Int) : PySem.Str := Txt.mul "a" k
theorem mulL : ∀ k : Nat, k < 13 → (reprText (mulA k)).length ≤ 200 ∧ MulOk "a" (k : Int) := by decide +kernel
def nine (r : Int) : List D := [.non, .bl true, .int r, .str "", .str (mulA (r % 13)), .tup [], .tup [.str "a", .str "b"], .tup [.int r, .str "x"], .lst [.str "a"]]
def three : List D := [.emp true, .str "abc", .tup [.tup [.str "a", .str "b"]]]
theorem cAB (k : Nat) (S : Store) : m_copied (k + 2) [.tup [.str "a", .str "b"]] S = .ok (.tup [.str "a", .str "b"]) S := cTup (k := k + 1) (fun d hd S => by
  rcases List.mem_cons.mp hd with rfl | hd
  · exact cStr _ _ _
  · rw [List.mem_singleton.mp hd]; exact cStr _ _ _) (by decide) S
theorem menu {r : Int} (h0 : 0 ≤ r) (h1 : r < 10 ^ 20) : ∀ d ∈ nine r ++ three, ∃ d' p, Good d d' p := by
  obtain ⟨i1, i2⟩ := shI h0 h1
  have hm : r % 13 = ((r % 13).toNat : Int) := (Int.toNat_of_nonneg (Int.emod_nonneg _ (by decide))).symm
  have hk : (r % 13).toNat < 13 := by have := Int.emod_lt_of_pos r (show (0 : Int) < 13 by decide); omega
  intro d hd
  simp only [nine, three, List.cons_append, List.nil_append, List.mem_cons, List.not_mem_nil, or_false] at hd
  rcases hd with rfl | rfl | rfl | rfl | rfl | rfl | rfl | rfl | rfl | rfl | rfl | rfl
  · exact ⟨_, _, same (fun k S => cNon _ _) rfl (fun _ => rfl) rfl (by decide +kernel) (by decide +kernel)⟩
  · exact ⟨_, _, same (fun k S => cBl _ _ _) rfl (fun _ => rfl) rfl (by decide +kernel) (by decide +kernel)⟩
  · exact ⟨_, _, same (fun k S => cInt _ _ _) rfl (fun _ => rfl) i1 (by omega) (by simp [PyData.depth])⟩
  · exact ⟨_, _, same (fun k S => cStr _ _ _) rfl (fun _ => rfl) rfl (by decide +kernel) (by decide +kernel)⟩
  · refine ⟨_, _, same (fun k S => cStr _ _ _) rfl (fun _ => rfl) rfl ?_ (Nat.zero_le _)⟩
    rw [hm]
    exact (mulL _ hk).1
  · exact ⟨_, _, same (fun k S => cTup (k := k + 2) (fun d hd => by simp at hd) (by decide) S) rfl (fun _ => rfl) rfl (by decide +kernel) (by decide +kernel)⟩
  · exact ⟨_, _, same (fun k S => cAB _ _) rfl (fun _ => rfl) rfl (by decide +kernel) (by decide +kernel)⟩
  · refine ⟨_, .tuple [.int r, .str "x"], same (fun k S => cTup (k := k + 2) (fun d hd S => by
      rcases List.mem_cons.mp hd with rfl | hd
      · exact cInt _ _ _
      · rw [List.mem_singleton.mp hd]; exact cStr _ _ _) (by simp) S) rfl (fun _ => rfl) (by simp only [PyData.showable, PyData.showableAll, Bool.and_true] at i1 ⊢; exact i1) ?_ (by simp [PyData.depth, PyData.depthAll])⟩
    have e1 : (tupleText [(PyData.int r).shown, (PyData.str "x").shown]).length ≤ piled [(PyData.int r).shown, (PyData.str "x").shown] + 2 := fmt_text _
    have e2 : (PyData.str "x").shown.length ≤ 10 := by decide +kernel
    show (tupleText [(PyData.int r).shown, (PyData.str "x").shown]).length ≤ 200
    simp only [piled, List.map_cons, List.map_nil, List.sum_cons, List.sum_nil] at e1
    omega
  · exact ⟨_, _, same (fun k S => cLst (k := k + 2) (fun d hd S => by rw [List.mem_singleton.mp hd]; exact cStr _ _ _) (by decide) S) rfl (fun _ => rfl) rfl (by decide +kernel) (by decide +kernel)⟩
  · exact ⟨.emp false, .dict [], rfl, fun S => cEmp 3 S, rfl, fun _ => rfl, rfl, by decide +kernel, by decide +kernel⟩
  · exact ⟨_, _, same (fun k S => cStr _ _ _) rfl (fun _ => rfl) rfl (by decide +kernel) (by decide +kernel)⟩
  · exact ⟨_, _, same (fun k S => cTup (k := k + 2) (fun d hd S => by rw [List.mem_singleton.mp hd]; exact cAB _ _) (by decide) S) rfl (fun _ => rfl) rfl (by decide +kernel) (by decide +kernel)⟩
end Lw

namespace Lw
open PySem L2 Lg
theorem things {cells : List Int} {big seed turn : Int} (hb : 0 ≤ big) (hc : cells.length ≤ 63) (ht0 : 0 ≤ turn) (ht : turn ≤ 40) :
    ∃ (d d' : D) (p : PyData) (cells' : List Int) (big' seed' : Int), m__law_things [.loc 1] (Pot cells big seed turn) = .ok d (Pot cells' big' seed' (turn + 1 + 1)) ∧ Good d d' p ∧ 0 ≤ big' ∧ cells'.length ≤ 63 := by
  obtain ⟨r, c1, b1, s1, h1, r0, r1, hb1, hc1⟩ := draw (size := 10 ^ 20) (seed := seed) hb hc ht0 (by omega) (by decide) (by decide)
  obtain ⟨j, c2, b2, s2, h2, j0, j1, hb2, hc2⟩ := draw (size := 12) (seed := s1) hb1 hc1 (by omega : 0 ≤ turn + 1) (by omega) (by decide) (by decide)
  have hlen : (nine r ++ three).length = 12 := rfl
  have hj : j.toNat < (nine r ++ three).length := by omega
  obtain ⟨d', p, g⟩ := menu r0 r1 (nine r ++ three)[j.toNat] (List.getElem_mem hj)
  refine ⟨(nine r ++ three)[j.toNat], d', p, c2, b2, s2, ?_, g, hb2, hc2⟩
  have hm : r % 13 = ((r % 13).toNat : Int) := (Int.toNat_of_nonneg (Int.emod_nonneg _ (by decide))).symm
  have hk : (r % 13).toNat < 13 := by have := Int.emod_lt_of_pos r (show (0 : Int) < 13 by decide); omega
  have mo : MulOk "a" (r % 13) := by rw [hm]; exact (mulL _ hk).2
  have p20 : CPow 10 20 := by unfold CPow; decide
  have pw : ∀ (env : En) S, mOp dPow (mC (.int 10)) (mC (.int 20)) env S = .ok (.int (10 ^ 20)) S := fun env S => by
    rw [op_ok (show mC _ env S = .ok (.int 10) S from rfl) (show mC _ env S = .ok (.int 20) S from rfl)]
    show (match (if CPow 10 20 then some (D.int (10 ^ (20 : Int).toNat)) else none) with | some d => Res.ok d S | none => .stuck) = _
    rw [if_pos p20]
    rfl
  have sA : sAsg (mCall m__law_draw (mCons (mVar 0) (mCons (mOp dPow (mC (.int 10)) (mC (.int 20))) mNil))) (gmName 1) (startE 3 [.loc 1]) (Pot cells big seed turn) = .next [some (.loc 1), some (.int r), none] (Pot c1 b1 s1 (turn + 1)) := by
    have x : mCall m__law_draw (mCons (mVar 0) (mCons (mOp dPow (mC (.int 10)) (mC (.int 20))) mNil)) (startE 3 [.loc 1]) (Pot cells big seed turn) = .ok (.int r) (Pot c1 b1 s1 (turn + 1)) :=
      (call_ok (cons_ok (show mVar 0 _ _ = .ok (.loc 1) _ from rfl) (cons_ok (pw _ _) rfl))).trans h1
    simp only [sAsg, x, Res.bindS, gmName]
    rfl
  have sB : sAsg (mLst (mCons (mC .non) (mCons (mC (.bl true)) (mCons (mVar 1) (mCons (mC (.str "")) (mCons (mOp dMulS (mC (.str "a")) (mOp dMod (mVar 1) (mC (.int 13)))) (mCons (mTup mNil) (mCons (mTup (mCons (mC (.str "a")) (mCons (mC (.str "b")) mNil))) (mCons (mTup (mCons (mVar 1) (mCons (mC (.str "x")) mNil))) (mCons (mLst (mCons (mC (.str "a")) mNil)) mNil)))))))))) (gmName 2) [some (.loc 1), some (.int r), none] (Pot c1 b1 s1 (turn + 1)) = .next [some (.loc 1), some (.int r), some (.lst (nine r))] (Pot c1 b1 s1 (turn + 1)) := by
    simp [sAsg, mLst, mTup, mCons, mNil, mC, mVar, mOp, dMulS, dInt, mo, Res.bind, Res.bindS, gmName, sizeLine, nine, mulA]
  have pk : m__law_pick [.loc 1, .lst (nine r ++ three)] (Pot c1 b1 s1 (turn + 1)) = .ok (nine r ++ three)[j.toNat] (Pot c2 b2 s2 (turn + 1 + 1)) := by
    have x : mCall m__law_draw (mCons (mVar 0) (mCons (mCall cLen (mCons (mVar 1) mNil)) mNil)) [some (.loc 1), some (.lst (nine r ++ three))] (Pot c1 b1 s1 (turn + 1)) = .ok (.int j) (Pot c2 b2 s2 (turn + 1 + 1)) :=
      (call_ok (cons_ok (show mVar 0 _ _ = .ok (.loc 1) _ from rfl) (cons_ok ((call_ok (cons_ok (show mVar 1 _ _ = .ok (.lst (nine r ++ three)) _ from rfl) rfl)).trans (show cLen _ _ = .ok (.int 12) _ from rfl)) rfl))).trans h2
    have y : mOp dIx (mVar 1) (mCall m__law_draw (mCons (mVar 0) (mCons (mCall cLen (mCons (mVar 1) mNil)) mNil))) [some (.loc 1), some (.lst (nine r ++ three))] (Pot c1 b1 s1 (turn + 1)) = .ok (nine r ++ three)[j.toNat] (Pot c2 b2 s2 (turn + 1 + 1)) := by
      rw [op_ok (show mVar 1 _ _ = .ok (.lst (nine r ++ three)) _ from rfl) x]
      have at1 : atI (nine r ++ three) j = some (nine r ++ three)[j.toNat] := by
        unfold atI ixN
        rw [hlen, if_pos j0, if_pos (by simpa using j1)]
        exact List.getElem?_eq_getElem hj
      simp only [dIx, asL, at1]
    unfold m__law_pick mDef
    rw [if_pos (by rfl)]
    show (match sRet _ [some (.loc 1), some (.lst (nine r ++ three))] _ with | .ret d S' => Res.ok d S' | .next _ S' => .ok .non S' | .err x S' => .err x S' | _ => .stuck) = _
    unfold sRet
    rw [y]
    rfl
  have sC : mCall m__law_pick (mCons (mVar 0) (mCons (mOp dAdd (mVar 2) (mLst (mCons mEmp (mCons (mC (.str "abc")) (mCons (mTup (mCons (mTup (mCons (mC (.str "a")) (mCons (mC (.str "b")) mNil))) mNil)) mNil))))) mNil)) [some (.loc 1), some (.int r), some (.lst (nine r))] (Pot c1 b1 s1 (turn + 1)) = .ok (nine r ++ three)[j.toNat] (Pot c2 b2 s2 (turn + 1 + 1)) := by
    have ad : mOp dAdd (mVar 2) (mLst (mCons mEmp (mCons (mC (.str "abc")) (mCons (mTup (mCons (mTup (mCons (mC (.str "a")) (mCons (mC (.str "b")) mNil))) mNil)) mNil)))) [some (.loc 1), some (.int r), some (.lst (nine r))] (Pot c1 b1 s1 (turn + 1)) = .ok (.lst (nine r ++ three)) (Pot c1 b1 s1 (turn + 1)) := by
      simp [mLst, mTup, mCons, mNil, mC, mVar, mOp, mEmp, dAdd, asL, Res.bind, sizeLine, three, nine]
    exact (call_ok (cons_ok (show mVar 0 _ _ = .ok (.loc 1) _ from rfl) (cons_ok ad rfl))).trans pk
  unfold m__law_things mDef
  rw [if_pos (by rfl), sq sA, sq sB]
  unfold sRet
  rw [sC]
  rfl
theorem us_pot (cells : List Int) (big seed turn : Int) : US (Pot cells big seed turn) := by
  intro n hn
  have h2 : 2 ≤ n := hn
  have e : ∀ l : List Int, unds n (l.map D.int) = true := by
    intro l
    induction l with
    | nil => rfl
    | cons x l ih => simp [unds, D.und, ih]
  simp [Pot, Ob.und, e, unds, D.und]
  omega
theorem law_true : ∀ ns : List Int, ns.length ≤ 63 → (∀ z ∈ ns, Builtin.Int.intBits z ≤ 1048576) → ∃ S', m_law [.scr ns] [] = .ok (.bl true) S' := by
  intro ns hn _
  have h0 : m__law_pot [.scr ns] [] = .ok (.loc 1) (Pot ns 0 3 0) := by
    simp [m__law_pot, mDef, sRet, mLstL, mCall, mCons, mNil, mC, mVar, cListL, asSeq, startE, Res.bind, Res.bindS, sizeLine, Pot]
  obtain ⟨d1, d1', p1, c1, b1, s1, h1, g1, hb1, hc1⟩ := things (cells := ns) (big := 0) (seed := 3) (turn := 0) (by decide) hn (by decide) (by decide)
  obtain ⟨d2, d2', p2, c2, b2, s2, h2, g2, _, _⟩ := things (cells := c1) (big := b1) (seed := s1) (turn := 0 + 1 + 1) hb1 hc1 (by decide) (by decide)
  exact law_all g1 g2 h0 h1 h2 (us_pot _ _ _ _)
end Lw

open PySem PySem.W PyProof.Rows in
set_option maxRecDepth 100000 in
set_option maxHeartbeats 0 in
theorem PySem.Challenge.cw_lotgivers_k08_refusals_made_holds : PySem.Challenge.rw_lotgivers_k08_refusals_made.Holds := by
  w_on; o_law; k_head; (case hw => w_witness2)
  k_fill
  refine Lg.walkG (l := PySem.Challenge.rw_lotgivers_k08_refusals_made) (n := 63) (k := 10) (x := "_law_script") (f := Lw.m_law) rfl (by decide) rfl ⟨rfl, by decide, by decide⟩ (by first | rfl | kernel_rfl) (fun w h Y => PySem.W.kIn_of Y) ?F Lw.law_true
  case F =>
    intro w mg fa h KX G hmg
    refine' Lw.all_mk KX G hmg ?n_NoMember ?n_NoDrawing ?n_TooFew ?n_NoNumber ?n_TooMany ?n_Twice ?n_NoText ?n_NoBar ?n_NoYear ?n_NoBack ?n_NoRow ?n_LotError ?ncopied ?lcopied ?ccopied ?kcopied ?n_law_blend ?l_law_blend ?c_law_blend ?k_law_blend ?n_law_pot ?l_law_pot ?c_law_pot ?k_law_pot ?n_law_draw ?l_law_draw ?c_law_draw ?k_law_draw ?n_law_pick ?l_law_pick ?c_law_pick ?k_law_pick ?n_law_things ?l_law_things ?c_law_things ?k_law_things ?n_law_made ?l_law_made ?c_law_made ?k_law_made ?n_law_kept ?l_law_kept ?c_law_kept ?k_law_kept ?n_law_classes ?l_law_classes ?c_law_classes ?k_law_classes ?n_law_raised ?l_law_raised ?c_law_raised ?k_law_raised ?n_law_right ?l_law_right ?c_law_right ?k_law_right ?nlaw ?llaw ?claw ?klaw ?ii_NoMember ?li_NoMember ?ci_NoMember ?ti_NoMember ?ui_NoMember ?ii_NoDrawing ?li_NoDrawing ?ci_NoDrawing ?ti_NoDrawing ?ui_NoDrawing ?ii_TooFew ?li_TooFew ?ci_TooFew ?ti_TooFew ?ui_TooFew ?ii_NoNumber ?li_NoNumber ?ci_NoNumber ?ti_NoNumber ?ui_NoNumber ?ii_TooMany ?li_TooMany ?ci_TooMany ?ti_TooMany ?ui_TooMany ?ii_Twice ?li_Twice ?ci_Twice ?ti_Twice ?ui_Twice ?ii_NoBar ?li_NoBar ?ci_NoBar ?ti_NoBar ?ui_NoBar ?ii_NoText ?li_NoText ?ci_NoText ?ti_NoText ?ui_NoText ?hx ?flname ?flthing ?fllot ?flnumber ?flmany ?flgiver ?fltaker ?flrow ?isNoMember ?isNoDrawing ?isTooFew ?isNoNumber ?isTooMany ?isTwice ?isNoText ?isNoBar ?isNoYear ?isNoBack ?isNoRow ?isValueError ?isLotError ?qNoYear ?kpNoYear ?qNoBack ?kpNoBack ?qNoRow ?kpNoRow ?ex ?zValueError ?zabs ?zall ?zdict ?zisinstance ?zlen ?zlist ?zrange ?zrepr ?ztuple ?zsuper
    (case n_NoMember => k_is)
    (case n_NoDrawing => k_is)
    (case n_TooFew => k_is)
    (case n_NoNumber => k_is)
    (case n_TooMany => k_is)
    (case n_Twice => k_is)
    (case n_NoText => k_is)
    (case n_NoBar => k_is)
    (case n_NoYear => k_is)
    (case n_NoBack => k_is)
    (case n_NoRow => k_is)
    (case n_LotError => k_is)
    (case ncopied => k_is)
    (case lcopied => k_is)
    (case ccopied => k_is)
    (case kcopied => k_is)
    (case n_law_blend => k_is)
    (case l_law_blend => k_is)
    (case c_law_blend => k_is)
    (case k_law_blend => k_is)
    (case n_law_pot => k_is)
    (case l_law_pot => k_is)
    (case c_law_pot => k_is)
    (case k_law_pot => k_is)
    (case n_law_draw => k_is)
    (case l_law_draw => k_is)
    (case c_law_draw => k_is)
    (case k_law_draw => k_is)
    (case n_law_pick => k_is)
    (case l_law_pick => k_is)
    (case c_law_pick => k_is)
    (case k_law_pick => k_is)
    (case n_law_things => k_is)
    (case l_law_things => k_is)
    (case c_law_things => k_is)
    (case k_law_things => k_is)
    (case n_law_made => k_is)
    (case l_law_made => k_is)
    (case c_law_made => k_is)
    (case k_law_made => k_is)
    (case n_law_kept => k_is)
    (case l_law_kept => k_is)
    (case c_law_kept => k_is)
    (case k_law_kept => k_is)
    (case n_law_classes => k_is)
    (case l_law_classes => k_is)
    (case c_law_classes => k_is)
    (case k_law_classes => k_is)
    (case n_law_raised => k_is)
    (case l_law_raised => k_is)
    (case c_law_raised => k_is)
    (case k_law_raised => k_is)
    (case n_law_right => k_is)
    (case l_law_right => k_is)
    (case c_law_right => k_is)
    (case k_law_right => k_is)
    (case nlaw => k_is)
    (case llaw => k_is)
    (case claw => k_is)
    (case klaw => k_is)
    (case ii_NoMember => k_is)
    (case li_NoMember => k_is)
    (case ci_NoMember => k_is)
    (case ti_NoMember => k_is)
    (case ui_NoMember => kernel_rfl)
    (case ii_NoDrawing => k_is)
    (case li_NoDrawing => k_is)
    (case ci_NoDrawing => k_is)
    (case ti_NoDrawing => k_is)
    (case ui_NoDrawing => kernel_rfl)
    (case ii_TooFew => k_is)
    (case li_TooFew => k_is)
    (case ci_TooFew => k_is)
    (case ti_TooFew => k_is)
    (case ui_TooFew => kernel_rfl)
    (case ii_NoNumber => k_is)
    (case li_NoNumber => k_is)
    (case ci_NoNumber => k_is)
    (case ti_NoNumber => k_is)
    (case ui_NoNumber => kernel_rfl)
    (case ii_TooMany => k_is)
    (case li_TooMany => k_is)
    (case ci_TooMany => k_is)
    (case ti_TooMany => k_is)
    (case ui_TooMany => kernel_rfl)
    (case ii_Twice => k_is)
    (case li_Twice => k_is)
    (case ci_Twice => k_is)
    (case ti_Twice => k_is)
    (case ui_Twice => kernel_rfl)
    (case ii_NoBar => k_is)
    (case li_NoBar => k_is)
    (case ci_NoBar => k_is)
    (case ti_NoBar => k_is)
    (case ui_NoBar => kernel_rfl)
    (case ii_NoText => k_is)
    (case li_NoText => k_is)
    (case ci_NoText => k_is)
    (case ti_NoText => k_is)
    (case ui_NoText => kernel_rfl)
    (case hx => kernel_rfl)
    (case flname => kernel_rfl)
    (case flthing => kernel_rfl)
    (case fllot => kernel_rfl)
    (case flnumber => kernel_rfl)
    (case flmany => kernel_rfl)
    (case flgiver => kernel_rfl)
    (case fltaker => kernel_rfl)
    (case flrow => kernel_rfl)
    (case isNoMember => kernel_rfl)
    (case isNoDrawing => kernel_rfl)
    (case isTooFew => kernel_rfl)
    (case isNoNumber => kernel_rfl)
    (case isTooMany => kernel_rfl)
    (case isTwice => kernel_rfl)
    (case isNoText => kernel_rfl)
    (case isNoBar => kernel_rfl)
    (case isNoYear => kernel_rfl)
    (case isNoBack => kernel_rfl)
    (case isNoRow => kernel_rfl)
    (case isValueError => kernel_rfl)
    (case isLotError => kernel_rfl)
    (case qNoYear => kernel_rfl)
    (case kpNoYear => k_is)
    (case qNoBack => kernel_rfl)
    (case kpNoBack => k_is)
    (case qNoRow => kernel_rfl)
    (case kpNoRow => k_is)
    (case ex => kernel_rfl)
    (case zValueError => k_is)
    (case zabs => k_is)
    (case zall => k_is)
    (case zdict => k_is)
    (case zisinstance => k_is)
    (case zlen => k_is)
    (case zlist => k_is)
    (case zrange => k_is)
    (case zrepr => k_is)
    (case ztuple => k_is)
    (case zsuper => k_is)
