import PyProof.Rows.All
import Wide.All
import OpenK.AllK
import Wide.FinOn
import HandS.ForMost
import HandS.ForExc
import HandS.ExcInit
import HandS.Defaults
import HandS.Evl
import HandS.IsInst
import HandS.Style
import HandS.Wide
import HandS.Gcd
import HandS.FStr
import HandS.Walk
import HandS.HeadHook1
import HandS.ExcField
import HandS.HeadHook4
import HandS.Deep
import HandS.Zip
import HandS.TupAny
import HandS.Strs
import HandS.Star
import KE.GoesEnum
import HandS.TupSets
import HandS.SetBool
import HandS.Comp
import HandS.More
import HandS.SortOrd
import HandS.SortRule
import HandS.TryMany
import HandS.ExcOwn
import PyProof.ExcBaseAll.ValueError
import HandS.TryOnly
import HandS.List
import PyProof.P3In
import HandS.Conv
import HandS.DictComp
import PySem.Challenge.RW_neverbare_k03_whole_cells_refused
import KE.KDictDisplayH
import HandS.Head0
import HandS.Head1
import HandS.Head2
import HandS.HeadEnd
import HandS.HeadHook2
import HandS.HeadHook3
import KE.KStateDown
set_option Elab.async false
set_option linter.all false
set_option maxRecDepth 100000
set_option maxHeartbeats 2000000
/-! Data told without the heap: what a value reads as, states of slots, what expressions and statements do to them. -/
namespace My
open PySem L2
open Evl (Ex)

/-! ### data -/
inductive Dt where
  | non | bl (b : Bool) | int (i : Int) | str (s : Str) | lst (ds : List Dt) | tup (ds : List Dt)
  /-- a tuple of which it is known that it has no dict -/
  | tupN (ds : List Dt)
  /-- a list that is tracked and changed no more -/
  | lstN (ds : List Dt)
  | obj (C : Addr) (ns : List Str) (ds : List Dt)
  /-- a dict with nothing in it -/
  | dct0
  /-- a dict that nothing looks into -/
  | dctX
/-- a tracked dict -/
def IsDk (H : Hp) (a : Addr) : Prop := (∃ kvs, H a = some (.dK kvs)) ∨ ∃ kvs, H a = some (.dT kvs)
mutual
inductive Has (K : PySem.W.Frag) (H : Hp) : V → Dt → Prop
  | non : Has K H .non .non
  | bl (b : Bool) : Has K H (.bl b) (.bl b)
  | int (i : Int) : Has K H (.int i) (.int i)
  | str (s : Str) : Has K H (.str s) (.str s)
  | lst {a : Addr} {xs : List V} {ds : List Dt} : SqL K H a xs → HasAll K H xs ds → Has K H (.ref a) (.lst ds)
  | tup {a : Addr} {xs : List V} {ds : List Dt} : SqT K H a xs → HasAll K H xs ds → Has K H (.ref a) (.tup ds)
  | tupN {a : Addr} {o : Obj} {xs : List V} {ds : List Dt} : H a = some (.frz o (.tup xs)) → o.cls = .type "tuple" → o.dict = none → HasAll K H xs ds → Has K H (.ref a) (.tupN ds)
  | obj {a C dx : Addr} {fs : List (Str × V)} {ds : List Dt} : H a = some (.ins C dx fs) → HasAll K H (fs.map (·.2)) ds → Has K H (.ref a) (.obj C (fs.map (·.1)) ds)
  | dct0 {a : Addr} : H a = some (.dT []) → Has K H (.ref a) .dct0
  | lstN {a : Addr} {xs : List V} {ds : List Dt} : H a = some (.lst xs) → HasAll K H xs ds → Has K H (.ref a) (.lstN ds)
  | dctX {a : Addr} : IsDk H a → Has K H (.ref a) .dctX
inductive HasAll (K : PySem.W.Frag) (H : Hp) : List V → List Dt → Prop
  | nil : HasAll K H [] []
  | cons {v : V} {vs : List V} {d : Dt} {ds : List Dt} : Has K H v d → HasAll K H vs ds → HasAll K H (v :: vs) (d :: ds)
end
section
variable {K : PySem.W.Frag} {H H' : Hp}
mutual
theorem Has.mono (e : Ex H H') : ∀ (d : Dt) {v : V}, Has K H v d → Has K H' v d
  | .non, _, h => by cases h; exact .non
  | .bl _, _, h => by cases h; exact .bl _
  | .int _, _, h => by cases h; exact .int _
  | .str _, _, h => by cases h; exact .str _
  | .lst ds, _, h => by
    cases h with
    | lst s r => exact .lst (Evl.ex_l e s) (HasAll.mono e ds r)
  | .tup ds, _, h => by
    cases h with
    | tup s r => exact .tup (Evl.ex_t e s) (HasAll.mono e ds r)
  | .tupN ds, _, h => by
    cases h with
    | tupN s c d r => exact .tupN (e _ _ s) c d (HasAll.mono e ds r)
  | .obj C ns ds, _, h => by
    cases h with
    | obj s r => exact .obj (e _ _ s) (HasAll.mono e ds r)
  | .dct0, _, h => by
    cases h with
    | dct0 s => exact .dct0 (e _ _ s)
  | .lstN ds, _, h => by
    cases h with
    | lstN s r => exact .lstN (e _ _ s) (HasAll.mono e ds r)
  | .dctX, _, h => by
    cases h with
    | dctX s => exact .dctX (s.elim (fun ⟨k, z⟩ => .inl ⟨k, e _ _ z⟩) fun ⟨k, z⟩ => .inr ⟨k, e _ _ z⟩)
theorem HasAll.mono (e : Ex H H') : ∀ (ds : List Dt) {vs : List V}, HasAll K H vs ds → HasAll K H' vs ds
  | [], _, h => by cases h; exact .nil
  | d :: ds, _, h => by
    cases h with
    | cons a b => exact .cons (Has.mono e d a) (HasAll.mono e ds b)
end
theorem HasAll.len : ∀ {ds : List Dt} {vs : List V}, HasAll K H vs ds → vs.length = ds.length
  | [], _, h => by cases h; rfl
  | _ :: _, _, h => by
    cases h with
    | cons a b => rw [List.length_cons, List.length_cons, b.len]
theorem HasAll.get : ∀ {ds : List Dt} {vs : List V} {i : Nat} {d : Dt}, HasAll K H vs ds → ds[i]? = some d → ∃ v, vs[i]? = some v ∧ Has K H v d
  | [], _, _, _, _, e => by simp at e
  | _ :: _, _, 0, _, h, e => by
    cases h with
    | cons a b =>
      cases Option.some.inj e
      exact ⟨_, rfl, a⟩
  | _ :: ds, _, i + 1, d, h, e => by
    cases h with
    | cons a b =>
      obtain ⟨v, e1, h1⟩ := b.get (i := i) (d := d) (by simpa using e)
      exact ⟨v, by simpa using e1, h1⟩
theorem HasAll.get' : ∀ {ds : List Dt} {vs : List V} {i : Nat} {v : V}, HasAll K H vs ds → vs[i]? = some v → ∃ d, ds[i]? = some d ∧ Has K H v d
  | [], _, _, _, h, e => by cases h; simp at e
  | _ :: _, _, 0, _, h, e => by
    cases h with
    | cons a b =>
      cases Option.some.inj e
      exact ⟨_, rfl, a⟩
  | _ :: ds, _, i + 1, v, h, e => by
    cases h with
    | cons a b =>
      obtain ⟨d, e1, h1⟩ := b.get' (i := i) (v := v) (by simpa using e)
      exact ⟨d, by simpa using e1, h1⟩
theorem HasAll.append : ∀ {ds es : List Dt} {vs us : List V}, HasAll K H vs ds → HasAll K H us es → HasAll K H (vs ++ us) (ds ++ es)
  | [], _, _, _, h, g => by cases h; exact g
  | _ :: _, _, _, _, h, g => by
    cases h with
    | cons a b => exact .cons a (b.append g)
theorem HasAll.set : ∀ {ds : List Dt} {vs : List V} {v : V} {d : Dt} (i : Nat), HasAll K H vs ds → Has K H v d → HasAll K H (vs.set i v) (ds.set i d)
  | [], _, _, _, _, h, _ => by cases h; exact .nil
  | _ :: _, _, _, _, 0, h, g => by
    cases h with
    | cons a b => exact .cons g b
  | _ :: _, _, _, _, i + 1, h, g => by
    cases h with
    | cons a b => exact .cons a (b.set i g)
theorem HasAll.ints (ns : List Int) : HasAll K H (ns.map V.int) (ns.map Dt.int) := by
  induction ns with
  | nil => exact .nil
  | cons n ns ih => exact .cons (.int n) ih
end
/-! ### the library's own data -/
mutual
def py : Dt → PyData
  | .non => .none
  | .bl b => .bool b
  | .int i => .int i
  | .str s => .str s
  | .lst ds => .list (pyAll ds)
  | .tup ds => .tuple (pyAll ds)
  | .tupN ds => .tuple (pyAll ds)
  | .lstN ds => .list (pyAll ds)
  | .obj _ _ _ => .none
  | .dct0 => .dict []
  | .dctX => .none
def pyAll : List Dt → List PyData
  | [] => []
  | d :: ds => py d :: pyAll ds
end
mutual
/-- no objects within -/
def bare : Dt → Bool
  | .obj _ _ _ => false
  | .dct0 => false
  | .dctX => false
  | .lst ds => bareAll ds
  | .tup ds => bareAll ds
  | .tupN ds => bareAll ds
  | .lstN ds => bareAll ds
  | _ => true
def bareAll : List Dt → Bool
  | [] => true
  | d :: ds => bare d && bareAll ds
end
section
variable {K : PySem.W.Frag} {H H' : Hp}
mutual
theorem Has.dp : ∀ (d : Dt) {v : V}, Has K H v d → bare d = true → Dp K H v (py d)
  | .non, _, h, _ => by cases h; exact .non
  | .bl _, _, h, _ => by cases h; exact .bl _
  | .int _, _, h, _ => by cases h; exact .int _
  | .str _, _, h, _ => by cases h; exact .str _
  | .lst ds, _, h, z => by
    cases h with
    | lst s r => exact .lst s (HasAll.dp ds r z)
  | .tup ds, _, h, z => by
    cases h with
    | tup s r => exact .tup s (HasAll.dp ds r z)
  | .tupN ds, _, h, z => by
    cases h with
    | tupN s _ _ r => exact .tup (.inl (.inr ⟨_, s⟩)) (HasAll.dp ds r z)
  | .lstN ds, _, h, z => by
    cases h with
    | lstN s r => exact .lst (.inl (.inl s)) (HasAll.dp ds r z)
  | .obj _ _ _, _, _, z => by cases z
  | .dct0, _, _, z => by cases z
  | .dctX, _, _, z => by cases z
theorem HasAll.dp : ∀ (ds : List Dt) {vs : List V}, HasAll K H vs ds → bareAll ds = true → DpAll K H vs (pyAll ds)
  | [], _, h, _ => by cases h; exact .nil
  | d :: ds, _, h, z => by
    cases h with
    | cons a b =>
      obtain ⟨z1, z2⟩ := Bool.and_eq_true_iff.mp (show (bare d && bareAll ds) = true from z)
      exact .cons (Has.dp d a z1) (HasAll.dp ds b z2)
end
end
def eqv (d e : Dt) : Bool := PyData.eqv (py d) (py e)
def fine (d : Dt) : Bool := bare d && SeqAt.shaped (py d)
theorem fine_bare {d : Dt} (h : fine d = true) : bare d = true := (Bool.and_eq_true_iff.mp h).1
theorem fine_shaped {d : Dt} (h : fine d = true) : SeqAt.shaped (py d) = true := (Bool.and_eq_true_iff.mp h).2

/-! ### growth of heaps -/
/-- P a part of H; behind some step P' of H': both have grown, what is new in P' was free in H -/
structure Grow (P H P' H' : Hp) : Prop where
  p : Ex P P'
  h : Ex H H'
  s : Ex P' H'
  f : ∀ a o, P' a = some o → P a = some o ∨ H a = none
theorem Grow.refl {P H : Hp} (e : Ex P H) : Grow P H P H := ⟨.refl P, .refl H, e, fun _ _ h => .inl h⟩
theorem none_back {H H' : Hp} {a : Addr} (e : Ex H H') (h : H' a = none) : H a = none := Evl.fresh_back e h
theorem Grow.trans {P H P1 H1 P2 H2 : Hp} (a : Grow P H P1 H1) (b : Grow P1 H1 P2 H2) : Grow P H P2 H2 :=
  ⟨a.p.trans b.p, a.h.trans b.h, b.s, fun x o h => (b.f x o h).elim (a.f x o) fun z => .inr (none_back a.h z)⟩

/-! ### the slots -/
inductive Sv where
  | no
  /-- a value that reads as d -/
  | dat (d : Dt)
  /-- a list of one's own at l -/
  | own (l : Addr) (ds : List Dt)
  /-- a hand of drawn numbers at l -/
  | hand (l : Addr)
  /-- several objects of one's own, the first at l, the others at ins; phi tells of them -/
  | gen (l : Addr) (ins : List Addr) (φ : Hp → Hp → Prop)
/-- the four things of a hand -/
def HandOk (ds : List Dt) : Prop := ∃ (ns : List Int) (p r t : Int), ds = [.lst (ns.map Dt.int), .int p, .int r, .int t] ∧ (∀ n ∈ ns, 0 ≤ n) ∧ ns.length ≤ 63 ∧ 0 ≤ p ∧ p ≤ ns.length ∧ 0 ≤ r ∧ 0 ≤ t ∧ t < 2147483648
def owns : List Sv → List Addr
  | [] => []
  | .own l _ :: es => l :: owns es
  | .hand l :: es => l :: owns es
  | .gen l ins _ :: es => (l :: ins) ++ owns es
  | _ :: es => owns es
/-- where one stands: the written part, the lists of the caller's that may change, the heaps at the entry -/
structure Fr where
  K : PySem.W.Frag
  mu : List Addr
  P0 : Hp
  H0 : Hp
def Mine (c : Fr) (P H : Hp) (l : Addr) (ds : List Dt) : Prop := (c.H0 l = none ∨ l ∈ c.mu) ∧ P l = none ∧ ∃ xs, H l = some (.lst xs) ∧ HasAll c.K P xs ds
/-- what is told of one's own objects stands while they stand -/
structure GenOk (c : Fr) (P H : Hp) (l : Addr) (ins : List Addr) (φ : Hp → Hp → Prop) : Prop where
  mine : ∀ a ∈ l :: ins, (c.H0 a = none ∨ a ∈ c.mu) ∧ P a = none ∧ ∃ o, H a = some o
  tell : φ P H
  st : ∀ P H P' H', Ex P P' → (∀ a ∈ l :: ins, H' a = H a) → φ P H → φ P' H'
inductive Sl (c : Fr) (P H : Hp) : L2.St → List Sv → Prop
  | nil : Sl c P H [] []
  | no {o : Option V} {σ : L2.St} {es : List Sv} : Sl c P H σ es → Sl c P H (o :: σ) (.no :: es)
  | dat {v : V} {d : Dt} {σ : L2.St} {es : List Sv} : Has c.K P v d → Sl c P H σ es → Sl c P H (some v :: σ) (.dat d :: es)
  | own {l : Addr} {ds : List Dt} {σ : L2.St} {es : List Sv} : Mine c P H l ds → Sl c P H σ es → Sl c P H (some (.ref l) :: σ) (.own l ds :: es)
  | hand {l : Addr} {σ : L2.St} {es : List Sv} : (∃ ds, HandOk ds ∧ Mine c P H l ds) → Sl c P H σ es → Sl c P H (some (.ref l) :: σ) (.hand l :: es)
  | gen {l : Addr} {ins : List Addr} {φ : Hp → Hp → Prop} {σ : L2.St} {es : List Sv} : GenOk c P H l ins φ → Sl c P H σ es → Sl c P H (some (.ref l) :: σ) (.gen l ins φ :: es)
structure Rep (c : Fr) (P H : Hp) (σ : L2.St) (es : List Sv) : Prop where
  b : Ex c.P0 P
  old : ∀ a o, a ∉ c.mu → c.H0 a = some o → H a = some o
  dom : ∀ a, H a = none → c.H0 a = none
  ex : Ex P H
  fr : ∀ a o, P a = some o → c.P0 a = some o ∨ c.H0 a = none
  sl : Sl c P H σ es
  nd : (owns es).Nodup
section
variable {c : Fr} {P H P' H' : Hp} {σ : L2.St} {es : List Sv} {i : Nat} {d : Dt} {l : Addr} {ds : List Dt}
theorem Mine.step (g : Grow P H P' H') (h : Mine c P H l ds) : Mine c P' H' l ds := by
  obtain ⟨h1, h2, xs, h3, h4⟩ := h
  refine ⟨h1, ?_, xs, g.h _ _ h3, HasAll.mono g.p _ h4⟩
  cases e : P' l with
  | none => rfl
  | some o =>
    rcases g.f _ _ e with z | z
    · rw [h2] at z; cases z
    · rw [h3] at z; cases z
theorem GenOk.step {ins : List Addr} {φ : Hp → Hp → Prop} (g : Grow P H P' H') (h : GenOk c P H l ins φ) : GenOk c P' H' l ins φ := by
  refine ⟨fun a m => ?_, h.st P H P' H' g.p (fun a m => ?_) h.tell, h.st⟩
  · obtain ⟨h1, h2, o, h3⟩ := h.mine a m
    refine ⟨h1, ?_, o, g.h _ _ h3⟩
    cases e : P' a with
    | none => rfl
    | some o =>
      rcases g.f _ _ e with z | z
      · rw [h2] at z; cases z
      · rw [h3] at z; cases z
  · obtain ⟨_, _, o, h3⟩ := h.mine a m
    rw [h3, g.h _ _ h3]
theorem Sl.step (g : Grow P H P' H') : ∀ {σ : L2.St} {es : List Sv}, Sl c P H σ es → Sl c P' H' σ es
  | _, _, .nil => .nil
  | _, _, .no h => .no (h.step g)
  | _, _, .dat a h => .dat (Has.mono g.p _ a) (h.step g)
  | _, _, .own a h => .own (a.step g) (h.step g)
  | _, _, .hand ⟨ds, z, a⟩ h => .hand ⟨ds, z, a.step g⟩ (h.step g)
  | _, _, .gen a h => .gen (a.step g) (h.step g)
theorem Rep.step (g : Grow P H P' H') (r : Rep c P H σ es) : Rep c P' H' σ es :=
  ⟨r.b.trans g.p, fun a o m h => g.h _ _ (r.old a o m h), fun a h => r.dom a (none_back g.h h), g.s, fun a o h => (g.f a o h).elim (r.fr a o) fun z => .inr (r.dom a z), r.sl.step g, r.nd⟩
theorem Rep.self (r : Rep c P H σ es) : Grow P H P H := .refl r.ex
/-- what the caller of a def without lists to change learns -/
theorem Rep.grow (r : Rep c P H σ es) (hm : c.mu = []) : Grow c.P0 c.H0 P H := ⟨r.b, fun a o h => r.old a o (by rw [hm]; exact List.not_mem_nil) h, r.ex, r.fr⟩
theorem Sl.get : ∀ {σ : L2.St} {es : List Sv} {i : Nat}, Sl c P H σ es → es[i]? = some (.dat d) → ∃ v, σ[i]? = some (some v) ∧ Has c.K P v d
  | _, _, _, .nil, e => by simp at e
  | _, _, 0, .no _, e => by simp at e
  | _, _, 0, .dat a _, e => by
    have e1 := Sv.dat.inj (Option.some.inj e)
    subst e1
    exact ⟨_, rfl, a⟩
  | _, _, 0, .own _ _, e => by simp at e
  | _, _, 0, .hand _ _, e => by simp at e
  | _, _, 0, .gen _ _, e => by simp at e
  | _, _, i + 1, .gen _ h, e => by simpa using h.get (i := i) (by simpa using e)
  | _, _, i + 1, .no h, e => by simpa using h.get (i := i) (by simpa using e)
  | _, _, i + 1, .dat _ h, e => by simpa using h.get (i := i) (by simpa using e)
  | _, _, i + 1, .own _ h, e => by simpa using h.get (i := i) (by simpa using e)
  | _, _, i + 1, .hand _ h, e => by simpa using h.get (i := i) (by simpa using e)
theorem Sl.getO : ∀ {σ : L2.St} {es : List Sv} {i : Nat}, Sl c P H σ es → es[i]? = some (.own l ds) → σ[i]? = some (some (.ref l)) ∧ Mine c P H l ds
  | _, _, _, .nil, e => by simp at e
  | _, _, 0, .no _, e => by simp at e
  | _, _, 0, .dat _ _, e => by simp at e
  | _, _, 0, .own a _, e => by
    obtain ⟨e1, e2⟩ := Sv.own.inj (Option.some.inj e)
    subst e1 e2
    exact ⟨rfl, a⟩
  | _, _, 0, .hand _ _, e => by simp at e
  | _, _, 0, .gen _ _, e => by simp at e
  | _, _, i + 1, .gen _ h, e => by simpa using h.getO (i := i) (by simpa using e)
  | _, _, i + 1, .no h, e => by simpa using h.getO (i := i) (by simpa using e)
  | _, _, i + 1, .dat _ h, e => by simpa using h.getO (i := i) (by simpa using e)
  | _, _, i + 1, .own _ h, e => by simpa using h.getO (i := i) (by simpa using e)
  | _, _, i + 1, .hand _ h, e => by simpa using h.getO (i := i) (by simpa using e)
theorem Sl.getH : ∀ {σ : L2.St} {es : List Sv} {i : Nat}, Sl c P H σ es → es[i]? = some (.hand l) → σ[i]? = some (some (.ref l)) ∧ ∃ ds, HandOk ds ∧ Mine c P H l ds
  | _, _, _, .nil, e => by simp at e
  | _, _, 0, .no _, e => by simp at e
  | _, _, 0, .dat _ _, e => by simp at e
  | _, _, 0, .own _ _, e => by simp at e
  | _, _, 0, .hand a _, e => by
    have e1 := Sv.hand.inj (Option.some.inj e)
    subst e1
    exact ⟨rfl, a⟩
  | _, _, 0, .gen _ _, e => by simp at e
  | _, _, i + 1, .gen _ h, e => by simpa using h.getH (i := i) (by simpa using e)
  | _, _, i + 1, .no h, e => by simpa using h.getH (i := i) (by simpa using e)
  | _, _, i + 1, .dat _ h, e => by simpa using h.getH (i := i) (by simpa using e)
  | _, _, i + 1, .own _ h, e => by simpa using h.getH (i := i) (by simpa using e)
  | _, _, i + 1, .hand _ h, e => by simpa using h.getH (i := i) (by simpa using e)
theorem Sl.getG {ins : List Addr} {φ : Hp → Hp → Prop} : ∀ {σ : L2.St} {es : List Sv} {i : Nat}, Sl c P H σ es → es[i]? = some (.gen l ins φ) → σ[i]? = some (some (.ref l)) ∧ GenOk c P H l ins φ
  | _, _, _, .nil, e => by simp at e
  | _, _, 0, .no _, e => by simp at e
  | _, _, 0, .dat _ _, e => by simp at e
  | _, _, 0, .own _ _, e => by simp at e
  | _, _, 0, .hand _ _, e => by simp at e
  | _, _, 0, .gen a _, e => by
    obtain ⟨e1, e2, e3⟩ := Sv.gen.inj (Option.some.inj e)
    subst e1 e2 e3
    exact ⟨rfl, a⟩
  | _, _, i + 1, .no h, e => by simpa using h.getG (i := i) (by simpa using e)
  | _, _, i + 1, .dat _ h, e => by simpa using h.getG (i := i) (by simpa using e)
  | _, _, i + 1, .own _ h, e => by simpa using h.getG (i := i) (by simpa using e)
  | _, _, i + 1, .hand _ h, e => by simpa using h.getG (i := i) (by simpa using e)
  | _, _, i + 1, .gen _ h, e => by simpa using h.getG (i := i) (by simpa using e)
theorem owns_memG {ins : List Addr} {φ : Hp → Hp → Prop} {a : Addr} (ha : a ∈ l :: ins) : ∀ {es : List Sv} {i : Nat}, es[i]? = some (.gen l ins φ) → a ∈ owns es
  | [], _, e => by simp at e
  | s :: es, 0, e => by
    cases Option.some.inj e
    exact List.mem_append_left _ ha
  | s :: es, i + 1, e => by
    have q := owns_memG ha (es := es) (i := i) (by simpa using e)
    cases s with
    | no => exact q
    | dat _ => exact q
    | own _ _ => exact List.mem_cons_of_mem _ q
    | hand _ => exact List.mem_cons_of_mem _ q
    | gen _ _ _ => exact List.mem_append_right _ q
theorem owns_mem : ∀ {es : List Sv} {i : Nat}, (es[i]? = some (.own l ds) ∨ es[i]? = some (.hand l)) → l ∈ owns es
  | [], _, e => by simp at e
  | s :: es, 0, e => by
    rcases e with e | e
    · cases Option.some.inj e
      exact List.mem_cons_self
    · cases Option.some.inj e
      exact List.mem_cons_self
  | s :: es, i + 1, e => by
    have q := owns_mem (es := es) (i := i) (by simpa using e)
    cases s with
    | no => exact q
    | dat _ => exact q
    | own _ _ => exact List.mem_cons_of_mem _ q
    | hand _ => exact List.mem_cons_of_mem _ q
    | gen _ _ _ => exact List.mem_append_right _ q
theorem owns_sub (s : Sv) (es : List Sv) : List.Sublist (owns es) (owns (s :: es)) := by
  cases s with
  | no => exact List.Sublist.refl _
  | dat _ => exact List.Sublist.refl _
  | own _ _ => exact List.sublist_cons_self _ _
  | hand _ => exact List.sublist_cons_self _ _
  | gen _ _ _ => exact List.sublist_append_right _ _
theorem owns_set : ∀ (es : List Sv) (i : Nat) (s : Sv), owns [s] = [] → List.Sublist (owns (es.set i s)) (owns es)
  | [], _, _, _ => .slnil
  | e :: es, 0, s, h => by
    cases s with
    | no => exact owns_sub e es
    | dat _ => exact owns_sub e es
    | own _ _ => cases h
    | hand _ => cases h
    | gen _ _ _ => cases h
  | e :: es, i + 1, s, h => by
    have q := owns_set es i s h
    cases e with
    | no => exact q
    | dat _ => exact q
    | own _ _ => exact q.cons₂ _
    | hand _ => exact q.cons₂ _
    | gen l ins _ => exact List.Sublist.append_left q (l :: ins)
theorem owns_put : ∀ (es : List Sv) (i : Nat) (s : Sv) (l : Addr), owns [s] = [l] → l ∉ owns es → (owns es).Nodup → (owns (es.set i s)).Nodup ∧ ∀ x ∈ owns (es.set i s), x = l ∨ x ∈ owns es
  | [], _, _, _, _, _, n => ⟨n, fun _ h => .inr h⟩
  | e :: es, 0, s, l, h, hn, n => by
    have q : owns (s :: es) = l :: owns es := by
      cases s with
      | no => cases h
      | dat _ => cases h
      | own a _ => cases (List.cons.inj h).1; rfl
      | hand a => cases (List.cons.inj h).1; rfl
      | gen a ins _ =>
        have h' : (a :: ins) ++ [] = [l] := h
        rw [List.append_nil] at h'
        cases (List.cons.inj h').1
        cases (List.cons.inj h').2
        rfl
    have sub : List.Sublist (owns es) (owns (e :: es)) := owns_sub e es
    show (owns (s :: es)).Nodup ∧ ∀ x ∈ owns (s :: es), x = l ∨ x ∈ owns (e :: es)
    rw [q]
    exact ⟨List.nodup_cons.mpr ⟨fun z => hn (sub.subset z), n.sublist sub⟩, fun x hx => (List.mem_cons.mp hx).elim .inl fun z => .inr (sub.subset z)⟩
  | e :: es, i + 1, s, l, h, hn, n => by
    cases e with
    | no => exact owns_put es i s l h hn n
    | dat _ => exact owns_put es i s l h hn n
    | own a _ =>
      have n' := List.nodup_cons.mp (show (a :: owns es).Nodup from n)
      obtain ⟨q1, q2⟩ := owns_put es i s l h (fun z => hn (List.mem_cons_of_mem _ z)) n'.2
      refine ⟨List.nodup_cons.mpr ⟨fun z => ?_, q1⟩, fun x hx => ?_⟩
      · rcases q2 a z with e | z
        · exact hn (by rw [← e]; exact List.mem_cons_self)
        · exact n'.1 z
      · rcases List.mem_cons.mp (show x ∈ a :: owns (es.set i s) from hx) with e | z
        · exact .inr (by rw [e]; exact List.mem_cons_self)
        · exact (q2 x z).imp id fun z => List.mem_cons_of_mem _ z
    | hand a =>
      have n' := List.nodup_cons.mp (show (a :: owns es).Nodup from n)
      obtain ⟨q1, q2⟩ := owns_put es i s l h (fun z => hn (List.mem_cons_of_mem _ z)) n'.2
      refine ⟨List.nodup_cons.mpr ⟨fun z => ?_, q1⟩, fun x hx => ?_⟩
      · rcases q2 a z with e | z
        · exact hn (by rw [← e]; exact List.mem_cons_self)
        · exact n'.1 z
      · rcases List.mem_cons.mp (show x ∈ a :: owns (es.set i s) from hx) with e | z
        · exact .inr (by rw [e]; exact List.mem_cons_self)
        · exact (q2 x z).imp id fun z => List.mem_cons_of_mem _ z
    | gen a ins _ =>
      have n' := List.nodup_append.mp (show ((a :: ins) ++ owns es).Nodup from n)
      obtain ⟨q1, q2⟩ := owns_put es i s l h (fun z => hn (List.mem_append_right _ z)) n'.2.1
      refine ⟨List.nodup_append.mpr ⟨n'.1, q1, fun x hx y hy e => ?_⟩, fun x hx => ?_⟩
      · subst e
        rcases q2 x hy with e | z
        · exact hn (by rw [← e]; exact List.mem_append_left _ hx)
        · exact n'.2.2 x hx x z rfl
      · rcases List.mem_append.mp (show x ∈ (a :: ins) ++ owns (es.set i s) from hx) with m | z
        · exact .inr (List.mem_append_left _ m)
        · exact (q2 x z).imp id fun z => List.mem_append_right _ z
theorem owns_same' {es : List Sv} {i : Nat} {s s' : Sv} (h : owns [s'] = owns [s]) : es[i]? = some s → owns (es.set i s') = owns es := by
  induction es generalizing i with
  | nil => intro e; simp at e
  | cons t es ih =>
    intro e
    have app : ∀ (s : Sv) (es : List Sv), owns (s :: es) = owns [s] ++ owns es := fun s es => by
      cases s with
      | gen a ins _ => show (a :: ins) ++ owns es = ((a :: ins) ++ []) ++ owns es; rw [List.append_nil]
      | _ => rfl
    cases i with
    | zero =>
      cases Option.some.inj e
      show owns (s' :: es) = owns (s :: es)
      rw [app s' es, app s es, h]
    | succ i =>
      show owns (t :: es.set i s') = owns (t :: es)
      rw [app t (es.set i s'), app t es, ih (by simpa using e)]
theorem Sl.len : ∀ {σ : L2.St} {es : List Sv}, Sl c P H σ es → σ.length = es.length
  | _, _, .nil => rfl
  | _, _, .no h => by rw [List.length_cons, List.length_cons, h.len]
  | _, _, .dat _ h => by rw [List.length_cons, List.length_cons, h.len]
  | _, _, .own _ h => by rw [List.length_cons, List.length_cons, h.len]
  | _, _, .hand _ h => by rw [List.length_cons, List.length_cons, h.len]
  | _, _, .gen _ h => by rw [List.length_cons, List.length_cons, h.len]
/-- one slot anew, by what it is alone -/
theorem Sl.set {o : Option V} {s : Sv} (h1 : Sl c P H [o] [s]) : ∀ {σ : L2.St} {es : List Sv} (i : Nat), Sl c P H σ es → Sl c P H (σ.set i o) (es.set i s)
  | _, _, _, .nil => .nil
  | _, _, 0, .no h => by cases h1 <;> first | exact .no h | exact .dat (by assumption) h | exact .own (by assumption) h | exact .hand (by assumption) h | exact .gen (by assumption) h
  | _, _, 0, .dat _ h => by cases h1 <;> first | exact .no h | exact .dat (by assumption) h | exact .own (by assumption) h | exact .hand (by assumption) h | exact .gen (by assumption) h
  | _, _, 0, .own _ h => by cases h1 <;> first | exact .no h | exact .dat (by assumption) h | exact .own (by assumption) h | exact .hand (by assumption) h | exact .gen (by assumption) h
  | _, _, 0, .hand _ h => by cases h1 <;> first | exact .no h | exact .dat (by assumption) h | exact .own (by assumption) h | exact .hand (by assumption) h | exact .gen (by assumption) h
  | _, _, 0, .gen _ h => by cases h1 <;> first | exact .no h | exact .dat (by assumption) h | exact .own (by assumption) h | exact .hand (by assumption) h | exact .gen (by assumption) h
  | _, _, i + 1, .gen a h => .gen a (Sl.set h1 i h)
  | _, _, i + 1, .no h => .no (Sl.set h1 i h)
  | _, _, i + 1, .dat a h => .dat a (Sl.set h1 i h)
  | _, _, i + 1, .own a h => .own a (Sl.set h1 i h)
  | _, _, i + 1, .hand a h => .hand a (Sl.set h1 i h)
theorem Rep.put {v : V} (r : Rep c P H σ es) (i : Nat) (h : Has c.K P v d) : Rep c P H (σ.set i (some v)) (es.set i (.dat d)) :=
  ⟨r.b, r.old, r.dom, r.ex, r.fr, Sl.set (.dat h .nil) i r.sl, r.nd.sublist (owns_set es i _ rfl)⟩
theorem Rep.drop {o : Option V} (r : Rep c P H σ es) (i : Nat) : Rep c P H (σ.set i o) (es.set i .no) :=
  ⟨r.b, r.old, r.dom, r.ex, r.fr, Sl.set (.no .nil) i r.sl, r.nd.sublist (owns_set es i _ rfl)⟩
theorem Rep.putO (r : Rep c P H σ es) (i : Nat) (h : Mine c P H l ds) (hn : l ∉ owns es) : Rep c P H (σ.set i (some (.ref l))) (es.set i (.own l ds)) :=
  ⟨r.b, r.old, r.dom, r.ex, r.fr, Sl.set (.own h .nil) i r.sl, (owns_put es i _ l rfl hn r.nd).1⟩
/-- lists of one's own stand -/
theorem Sl.there : ∀ {σ : L2.St} {es : List Sv}, Sl c P H σ es → ∀ l ∈ owns es, ∃ o, H l = some o
  | _, _, .nil, _, h => by cases h
  | _, _, .no h, l, m => h.there l m
  | _, _, .dat _ h, l, m => h.there l m
  | _, _, .own ⟨_, _, xs, q, _⟩ h, l, m => by
    rcases List.mem_cons.mp m with e | m
    · rw [e]; exact ⟨_, q⟩
    · exact h.there l m
  | _, _, .hand ⟨_, _, _, _, xs, q, _⟩ h, l, m => by
    rcases List.mem_cons.mp m with e | m
    · rw [e]; exact ⟨_, q⟩
    · exact h.there l m
  | _, _, .gen a h, l, m => by
    rcases List.mem_append.mp m with m | m
    · exact (a.mine l m).2.2
    · exact h.there l m
theorem Rep.fresh (r : Rep c P H σ es) (h : H l = none) : l ∉ owns es := fun m => by
  obtain ⟨xs, q⟩ := r.sl.there l m
  rw [q] at h; cases h
theorem GenOk.turn {ins : List Addr} {φ : Hp → Hp → Prop} {b : Addr} {o : HO} (n : b ∉ l :: ins) (h : GenOk c P H l ins φ) : GenOk c P (upd H b o) l ins φ := by
  have e : ∀ a ∈ l :: ins, upd H b o a = H a := fun a m => upd_ne fun z => n (by rw [← z]; exact m)
  exact ⟨fun a m => by rw [e a m]; exact h.mine a m, h.st P H P _ (.refl P) e h.tell, h.st⟩
/-- a list of one's own changes -/
theorem Sl.turn {xs : List V} (hP : P l = none) : ∀ {σ : L2.St} {es : List Sv}, l ∉ owns es → Sl c P H σ es → Sl c P (upd H l (.lst xs)) σ es
  | _, _, _, .nil => .nil
  | _, _, n, .no h => .no (h.turn hP n)
  | _, _, n, .dat a h => .dat a (h.turn hP n)
  | _, .own a _ :: _, n, .own ⟨m1, m2, ys, q, z⟩ h => .own ⟨m1, m2, ys, by rw [upd_ne fun e => n (by rw [← e]; exact List.mem_cons_self)]; exact q, z⟩ (h.turn hP fun m => n (List.mem_cons_of_mem _ m))
  | _, .hand a :: _, n, .hand ⟨ds, k, m1, m2, ys, q, z⟩ h => .hand ⟨ds, k, m1, m2, ys, by rw [upd_ne fun e => n (by rw [← e]; exact List.mem_cons_self)]; exact q, z⟩ (h.turn hP fun m => n (List.mem_cons_of_mem _ m))
  | _, .gen a ins _ :: _, n, .gen g h => .gen (g.turn fun m => n (List.mem_append_left _ m)) (h.turn hP fun m => n (List.mem_append_right _ m))
theorem Sl.change {xs : List V} {ds' : List Dt} (hx : HasAll c.K P xs ds') : ∀ {σ : L2.St} {es : List Sv} {i : Nat}, (owns es).Nodup → es[i]? = some (.own l ds) → Sl c P H σ es → Sl c P (upd H l (.lst xs)) σ (es.set i (.own l ds'))
  | _, _, _, _, e, .nil => by simp at e
  | _, _, 0, _, e, .no _ => by simp at e
  | _, _, 0, _, e, .dat _ _ => by simp at e
  | _, _, 0, n, e, .own a h => by
    obtain ⟨e1, e2⟩ := Sv.own.inj (Option.some.inj e)
    subst e1 e2
    obtain ⟨m1, m2, _⟩ := a
    exact .own ⟨m1, m2, xs, upd_same, hx⟩ (h.turn m2 (List.nodup_cons.mp n).1)
  | _, _, 0, _, e, .hand _ _ => by simp at e
  | _, _, 0, _, e, .gen _ _ => by simp at e
  | _, .gen a ins _ :: es, i + 1, n, e, .gen g h => by
    have n' := List.nodup_append.mp (show ((a :: ins) ++ owns es).Nodup from n)
    have e' : es[i]? = some (.own l ds) := by simpa using e
    exact .gen (g.turn fun m => (n'.2.2 l m l (owns_mem (.inl e'))) rfl) (Sl.change hx n'.2.1 e' h)
  | _, _, i + 1, n, e, .no h => .no (Sl.change hx n (by simpa using e) h)
  | _, _, i + 1, n, e, .dat a h => .dat a (Sl.change hx n (by simpa using e) h)
  | _, .own a _ :: es, i + 1, n, e, .own ⟨m1, m2, ys, q, z⟩ h => by
    have n' := List.nodup_cons.mp (show (a :: owns es).Nodup from n)
    have e' : es[i]? = some (.own l ds) := by simpa using e
    exact .own ⟨m1, m2, ys, by rw [upd_ne fun e => n'.1 (by rw [e]; exact owns_mem (.inl e'))]; exact q, z⟩ (Sl.change hx n'.2 e' h)
  | _, .hand a :: es, i + 1, n, e, .hand ⟨us, k, m1, m2, ys, q, z⟩ h => by
    have n' := List.nodup_cons.mp (show (a :: owns es).Nodup from n)
    have e' : es[i]? = some (.own l ds) := by simpa using e
    exact .hand ⟨us, k, m1, m2, ys, by rw [upd_ne fun e => n'.1 (by rw [e]; exact owns_mem (.inl e'))]; exact q, z⟩ (Sl.change hx n'.2 e' h)
theorem owns_same : ∀ {es : List Sv} {i : Nat} {ds' : List Dt}, es[i]? = some (.own l ds) → owns (es.set i (.own l ds')) = owns es
  | [], _, _, e => by simp at e
  | s :: es, 0, _, e => by
    cases Option.some.inj e
    rfl
  | s :: es, i + 1, ds', e => by
    have q := owns_same (es := es) (i := i) (ds' := ds') (by simpa using e)
    cases s with
    | no => exact q
    | dat _ => exact q
    | own a _ => exact congrArg (List.cons a) q
    | hand a => exact congrArg (List.cons a) q
    | gen a ins _ => exact congrArg ((a :: ins) ++ ·) q
theorem Rep.change {xs : List V} {ds' : List Dt} (r : Rep c P H σ es) (e : es[i]? = some (.own l ds)) (hx : HasAll c.K P xs ds') : Rep c P (upd H l (.lst xs)) σ (es.set i (.own l ds')) := by
  obtain ⟨_, m1, m2, _⟩ := r.sl.getO e
  refine ⟨r.b, fun a o m h => ?_, fun a h => ?_, fun a o h => ?_, r.fr, r.sl.change hx r.nd e, by rw [owns_same e]; exact r.nd⟩
  · have ne : a ≠ l := fun z => by
      subst z
      rcases m1 with q | q
      · rw [q] at h; cases h
      · exact m q
    rw [upd_ne ne]
    exact r.old a o m h
  · by_cases z : a = l
    · subst z; rw [upd_same] at h; cases h
    · rw [upd_ne z] at h
      exact r.dom a h
  · have ne : a ≠ l := fun z => by
      subst z; rw [m2] at h; cases h
    rw [upd_ne ne]
    exact r.ex a o h
end
end My
set_option Elab.async false
set_option linter.all false
set_option maxRecDepth 100000
set_option maxHeartbeats 2000000
/-! What expressions come to, over slots that are told. -/
namespace My
open PySem L2
open Evl (Ex)

/-- the hands among the slots -/
def handsOf : List Sv → List Addr
  | [] => []
  | .hand l :: es => l :: handsOf es
  | _ :: es => handsOf es
/-- the part has grown, all that was tracked stands but the hands -/
structure Kp (es : List Sv) (P H P' H' : Hp) : Prop where
  p : Ex P P'
  k : ∀ b o, b ∉ handsOf es → H b = some o → H' b = some o
  n : ∀ b, H' b = none → H b = none
  f : ∀ b o, P' b = some o → P b = some o ∨ H b = none
theorem Kp.refl {es : List Sv} {P H : Hp} : Kp es P H P H := ⟨.refl P, fun _ _ _ h => h, fun _ h => h, fun _ _ h => .inl h⟩
theorem Kp.trans {es : List Sv} {P H P1 H1 P2 H2 : Hp} (a : Kp es P H P1 H1) (b : Kp es P1 H1 P2 H2) : Kp es P H P2 H2 :=
  ⟨a.p.trans b.p, fun x o n h => b.k x o n (a.k x o n h), fun x h => a.n x (b.n x h), fun x o h => (b.f x o h).elim (a.f x o) fun z => .inr (a.n x z)⟩
theorem Kp.of {es : List Sv} {P H P1 H1 : Hp} (g : Grow P H P1 H1) : Kp es P H P1 H1 := ⟨g.p, fun x o _ h => g.h x o h, fun _ h => none_back g.h h, g.f⟩
theorem Kp.grow {es : List Sv} {P H P1 H1 : Hp} (k : Kp es P H P1 H1) (hh : handsOf es = []) (s : Ex P1 H1) : Grow P H P1 H1 := ⟨k.p, fun x o h => k.k x o (by rw [hh]; exact List.not_mem_nil) h, s, k.f⟩
theorem Kp.put {es : List Sv} {P H P1 H1 : Hp} {a : Addr} {o : HO} (k : Kp es P H P1 H1) (h : H a = none) : Kp es P H P1 (upd H1 a o) :=
  ⟨k.p, fun x u n e => by rw [upd_ne (ne_of_none e h)]; exact k.k x u n e, fun x e => by
    by_cases z : x = a
    · rw [z, upd_same] at e; cases e
    · rw [upd_ne z] at e; exact k.n x e, k.f⟩
theorem Kp.give {es : List Sv} {P H P1 H1 : Hp} {a : Addr} {o : HO} (k : Kp es P H P1 H1) (h : H a = none) (h1 : P1 a = none) : Kp es P H (upd P1 a o) H1 :=
  ⟨k.p.trans (Ex.new h1), k.k, k.n, fun x u e => by
    by_cases z : x = a
    · rw [z]; exact .inr h
    · rw [upd_ne z] at e; exact k.f x u e⟩
def EV (c : Fr) (te : TE) (es : List Sv) (φ : Dt → Prop) : Prop :=
  ∀ σ P H, Rep c P H σ es → ∀ Q : VK, (∀ v P' H' d, φ d → Rep c P' H' σ es → Kp es P H P' H' → Has c.K P' v d → Q v H') → te σ H Q
abbrev ED (c : Fr) (te : TE) (es : List Sv) (d : Dt) : Prop := EV c te es (fun x => x = d)
def EVs (c : Fr) (ta : TA) (es : List Sv) (φ : List Dt → Prop) : Prop :=
  ∀ σ P H, Rep c P H σ es → ∀ Q : List V → Hp → Prop, (∀ vs P' H' ds, φ ds → Rep c P' H' σ es → Kp es P H P' H' → HasAll c.K P' vs ds → Q vs H') → ta σ H Q
abbrev EDs (c : Fr) (ta : TA) (es : List Sv) (ds : List Dt) : Prop := EVs c ta es (fun x => x = ds)
def EB (c : Fr) (tt : TT) (es : List Sv) (φ : Bool → Prop) : Prop :=
  ∀ σ P H, Rep c P H σ es → ∀ Q : Bool → Hp → Prop, (∀ b P' H', φ b → Rep c P' H' σ es → Kp es P H P' H' → Q b H') → tt σ H Q
abbrev EBd (c : Fr) (tt : TT) (es : List Sv) (b : Bool) : Prop := EB c tt es (fun x => x = b)
/-- a fresh list of one's own -/
def EO (c : Fr) (te : TE) (es : List Sv) (φ : List Dt → Prop) : Prop :=
  ∀ σ P H, Rep c P H σ es → ∀ Q : VK, (∀ l P' H' ds, φ ds → Rep c P' H' σ es → Kp es P H P' H' → l ∉ owns es → H l = none → Mine c P' H' l ds → Q (.ref l) H') → te σ H Q
section
variable {c : Fr} {es : List Sv} {te ta tb tx : TE} {tt tu : TT} {ts : TA} {d x y : Dt} {ds : List Dt} {φ ψ χ : Dt → Prop} {i j : Int} {b b' : Bool}
theorem EV.imp (h : EV c te es φ) (k : ∀ d, φ d → ψ d) : EV c te es ψ := fun σ P H r Q q => h σ P H r Q fun v P' H' d e => q v P' H' d (k d e)
theorem ED.is (h : ED c te es d) (e : d = x) : ED c te es x := e ▸ h
theorem EB.imp {α β : Bool → Prop} (h : EB c tt es α) (k : ∀ b, α b → β b) : EB c tt es β := fun σ P H r Q q => h σ P H r Q fun v P' H' e => q v P' H' (k v e)
theorem EBd.is (h : EBd c tt es b) (e : b = b') : EBd c tt es b' := e ▸ h
/-! ### names, constants -/
theorem ed_var {n : Nat} (h : es[n]? = some (.dat d)) : ED c (tVar n) es d := fun σ P H r Q q => by
  obtain ⟨v, e, z⟩ := r.sl.get h
  exact ⟨v, e, q v P H d rfl r Kp.refl z⟩
theorem ed_c {v : V} (h : ∀ P, Has c.K P v d) : ED c (tC v) es d := fun σ P H r Q q => q v P H d rfl r Kp.refl (h P)
theorem ed_int : ED c (tC (.int i)) es (.int i) := ed_c fun _ => .int i
theorem ed_bl : ED c (tC (.bl b)) es (.bl b) := ed_c fun _ => .bl b
theorem ed_str {s : Str} : ED c (tC (.str s)) es (.str s) := ed_c fun _ => .str s
theorem ed_non : ED c (tC .non) es .non := ed_c fun _ => .non
/-! ### operators -/
/-- what an operator gives of two values that read as x and y -/
def RD (c : Fr) (r : R2) (x y : Dt) (χ : Dt → Prop) : Prop :=
  ∀ v u P H, Ex P H → Has c.K P v x → Has c.K P u y → ∀ Q : VK, (∀ w P' H' d, χ d → Grow P H P' H' → Has c.K P' w d → Q w H') → r v u H Q
theorem ev_op {r : R2} (ha : EV c ta es φ) (hb : EV c tb es ψ) (hr : ∀ x y, φ x → ψ y → RD c r x y χ) : EV c (tOp r ta tb) es χ := fun σ P H r0 Q q =>
  ha σ P H r0 _ fun v P1 H1 x hx r1 e1 h1 => hb σ P1 H1 r1 _ fun u P2 H2 y hy r2 e2 h2 =>
    hr x y hx hy v u P2 H2 r2.ex (Has.mono e2.p _ h1) h2 _ fun w P3 H3 z hz g h3 => q w P3 H3 z hz (r2.step g) ((e1.trans e2).trans (.of g)) h3
theorem ed_op {r : R2} (ha : ED c ta es x) (hb : ED c tb es y) (hr : RD c r x y (fun z => z = d)) : ED c (tOp r ta tb) es d :=
  ev_op ha hb fun _ _ e1 e2 => by rw [e1, e2]; exact hr
theorem rd_sc {r : R2} {w : V} (hw : ∀ P, Has c.K P w d) (h : ∀ v u P H, Ex P H → Has c.K P v x → Has c.K P u y → ∀ Q : VK, Q w H → r v u H Q) : RD c r x y (fun z => z = d) :=
  fun v u P H e hv hu Q q => h v u P H e hv hu Q (q w P H d rfl (.refl e) (hw P))
theorem rd_I0 {f : Int → Int → Int} : RD c (rI0 fun i j => .int (f i j)) (.int i) (.int j) (fun z => z = .int (f i j)) :=
  rd_sc (fun _ => .int _) fun v u P H _ hv hu Q q => by cases hv; cases hu; exact ⟨i, j, rfl, rfl, q⟩
theorem rd_B0 {f : Int → Int → Bool} : RD c (rI0 fun i j => .bl (f i j)) (.int i) (.int j) (fun z => z = .bl (f i j)) :=
  rd_sc (fun _ => .bl _) fun v u P H _ hv hu Q q => by cases hv; cases hu; exact ⟨i, j, rfl, rfl, q⟩
theorem rd_I {C : Int → Int → Prop} {f : Int → Int → Int} (hc : C i j) : RD c (rI C fun i j => .int (f i j)) (.int i) (.int j) (fun z => z = .int (f i j)) :=
  rd_sc (fun _ => .int _) fun v u P H _ hv hu Q q => by cases hv; cases hu; exact ⟨i, j, rfl, rfl, hc, q⟩
theorem ed_I0 {f : Int → Int → Int} (ha : ED c ta es (.int i)) (hb : ED c tb es (.int j)) : ED c (tOp (rI0 fun i j => .int (f i j)) ta tb) es (.int (f i j)) := ed_op ha hb rd_I0
theorem ed_B0 {f : Int → Int → Bool} (ha : ED c ta es (.int i)) (hb : ED c tb es (.int j)) : ED c (tOp (rI0 fun i j => .bl (f i j)) ta tb) es (.bl (f i j)) := ed_op ha hb rd_B0
theorem ed_I {C : Int → Int → Prop} {f : Int → Int → Int} (ha : ED c ta es (.int i)) (hb : ED c tb es (.int j)) (hc : C i j) : ED c (tOp (rI C fun i j => .int (f i j)) ta tb) es (.int (f i j)) := ed_op ha hb (rd_I hc)
theorem ed_neg (ha : ED c ta es (.int i)) : ED c (tUn (rU fun i => .int (-i)) ta) es (.int (-i)) := fun σ P H r Q q =>
  ha σ P H r _ fun v P1 H1 z hz r1 e1 h1 => by
    subst hz
    cases h1
    exact ⟨i, rfl, q _ P1 H1 _ rfl r1 e1 (.int _)⟩
/-- numbers of which something is known -/
def IsI (α : Int → Prop) : Dt → Prop := fun d => ∃ k, d = .int k ∧ α k
theorem ei_of (h : ED c te es (.int i)) : EV c te es (IsI fun k => k = i) := EV.imp h fun _ e => ⟨i, e, rfl⟩
theorem ei_I0 {α β : Int → Prop} {f : Int → Int → Int} (ha : EV c ta es (IsI α)) (hb : EV c tb es (IsI β)) : EV c (tOp (rI0 fun i j => .int (f i j)) ta tb) es (IsI fun k => ∃ i j, α i ∧ β j ∧ k = f i j) :=
  ev_op ha hb fun x y ⟨i, e1, a⟩ ⟨j, e2, b⟩ v u P H e hv hu Q q => rd_I0 (i := i) (j := j) v u P H e (e1 ▸ hv) (e2 ▸ hu) Q fun w P' H' z hz => q w P' H' z ⟨f i j, hz, i, j, a, b, rfl⟩
theorem ei_I {α β : Int → Prop} {C : Int → Int → Prop} {f : Int → Int → Int} (ha : EV c ta es (IsI α)) (hb : EV c tb es (IsI β)) (hc : ∀ i j, α i → β j → C i j) : EV c (tOp (rI C fun i j => .int (f i j)) ta tb) es (IsI fun k => ∃ i j, α i ∧ β j ∧ k = f i j) :=
  ev_op ha hb fun x y ⟨i, e1, a⟩ ⟨j, e2, b⟩ v u P H e hv hu Q q => rd_I (hc i j a b) v u P H e (e1 ▸ hv) (e2 ▸ hu) Q fun w P' H' z hz => q w P' H' z ⟨f i j, hz, i, j, a, b, rfl⟩
/-! ### ==, != -/
theorem rd_eq (hx : fine x = true) (hy : fine y = true) : RD c (rEqD c.K) x y (fun z => z = .bl (eqv x y)) :=
  rd_sc (fun _ => .bl _) fun v u P H e hv hu Q q => ⟨py x, py y, Has.dp _ (Has.mono e _ hv) (fine_bare hx), Has.dp _ (Has.mono e _ hu) (fine_bare hy), fine_shaped hx, fine_shaped hy, q⟩
theorem rd_ne (hx : fine x = true) (hy : fine y = true) : RD c (rNeD c.K) x y (fun z => z = .bl (!eqv x y)) :=
  rd_sc (fun _ => .bl _) fun v u P H e hv hu Q q => ⟨py x, py y, Has.dp _ (Has.mono e _ hv) (fine_bare hx), Has.dp _ (Has.mono e _ hu) (fine_bare hy), fine_shaped hx, fine_shaped hy, q⟩
theorem ed_eq (ha : ED c ta es x) (hb : ED c tb es y) (hx : fine x = true) (hy : fine y = true) : ED c (tOp (rEqD c.K) ta tb) es (.bl (eqv x y)) := ed_op ha hb (rd_eq hx hy)
theorem ed_ne (ha : ED c ta es x) (hb : ED c tb es y) (hx : fine x = true) (hy : fine y = true) : ED c (tOp (rNeD c.K) ta tb) es (.bl (!eqv x y)) := ed_op ha hb (rd_ne hx hy)
def isNon : Dt → Bool
  | .non => true
  | _ => false
theorem isNon_of {K : PySem.W.Frag} {P : Hp} {v : V} (h : Has K P v x) : decide (v = .non) = isNon x := by cases h <;> rfl
theorem ed_isN (ha : ED c ta es x) : ED c (tOp (fun x y H Q => y = .non ∧ Q (.bl (decide (x = .non))) H) ta (tC .non)) es (.bl (isNon x)) :=
  ed_op ha ed_non (rd_sc (fun _ => .bl _) fun v u P H _ hv hu Q q => by cases hu; exact ⟨rfl, by rw [isNon_of hv]; exact q⟩)
theorem ed_notN (ha : ED c ta es x) : ED c (tOp (fun x y H Q => y = .non ∧ Q (.bl (!decide (x = .non))) H) ta (tC .non)) es (.bl (!isNon x)) :=
  ed_op ha ed_non (rd_sc (fun _ => .bl _) fun v u P H _ hv hu Q q => by cases hu; exact ⟨rfl, by rw [isNon_of hv]; exact q⟩)
theorem ed_isB (ha : ED c ta es (.bl b)) (hb : ED c tb es (.bl b')) : ED c (tOp rIsB ta tb) es (.bl (decide (b = b'))) :=
  ed_op ha hb (rd_sc (fun _ => .bl _) fun v u P H _ hv hu Q q => by cases hv; cases hu; exact ⟨b, b', rfl, rfl, q⟩)
theorem ed_notB (ha : ED c ta es (.bl b)) (hb : ED c tb es (.bl b')) : ED c (tOp rNotB ta tb) es (.bl (!decide (b = b'))) :=
  ed_op ha hb (rd_sc (fun _ => .bl _) fun v u P H _ hv hu Q q => by cases hv; cases hu; exact ⟨b, b', rfl, rfl, q⟩)
/-! ### truth -/
theorem ed_and (ha : ED c ta es (.bl b)) (hb : b = true → ED c tb es (.bl b')) : ED c (tAndV ta tb) es (.bl (b && b')) := fun σ P H r Q q =>
  ha σ P H r _ fun v P1 H1 z hz r1 e1 h1 => by
    subst hz
    cases h1
    refine ⟨b, rfl, ?_⟩
    cases b with
    | true => exact iteT (hb rfl σ P1 H1 r1 Q fun w P2 H2 z hz r2 e2 h2 => q w P2 H2 z (by rw [hz]; rfl) r2 (e1.trans e2) h2)
    | false => exact iteF (q _ P1 H1 _ rfl r1 e1 (.bl false))
theorem ed_or (ha : ED c ta es (.bl b)) (hb : b = false → ED c tb es (.bl b')) : ED c (tOrV ta tb) es (.bl (b || b')) := fun σ P H r Q q =>
  ha σ P H r _ fun v P1 H1 z hz r1 e1 h1 => by
    subst hz
    cases h1
    refine ⟨b, rfl, ?_⟩
    cases b with
    | true => exact iteT (q _ P1 H1 _ rfl r1 e1 (.bl true))
    | false => exact iteF (hb rfl σ P1 H1 r1 Q fun w P2 H2 z hz r2 e2 h2 => q w P2 H2 z (by rw [hz]; rfl) r2 (e1.trans e2) h2)
theorem ed_not (ha : ED c ta es (.bl b)) : ED c (tNotV ta) es (.bl (!b)) := fun σ P H r Q q =>
  ha σ P H r _ fun v P1 H1 z hz r1 e1 h1 => by
    subst hz
    cases h1
    exact ⟨b, rfl, q _ P1 H1 _ rfl r1 e1 (.bl _)⟩
theorem eb_test (h : ED c te es (.bl b)) : EBd c (tTest te) es b := fun σ P H r Q q => h σ P H r _ fun v P1 H1 z hz r1 e1 h1 => by
  subst hz
  cases h1
  exact ⟨b, rfl, q b P1 H1 rfl r1 e1⟩
theorem eb_B (h : ED c te es (.bl b)) : EBd c (tB te) es b := fun σ P H r Q q => h σ P H r _ fun v P1 H1 z hz r1 e1 h1 => by
  subst hz
  cases h1
  exact ⟨b, rfl, q b P1 H1 rfl r1 e1⟩
theorem eb_and (ha : EBd c tt es b) (hb : b = true → EBd c tu es b') : EBd c (tAnd tt tu) es (b && b') := fun σ P H r Q q =>
  ha σ P H r _ fun a P1 H1 z r1 e1 => by
    subst z
    cases a with
    | true => exact iteT (hb rfl σ P1 H1 r1 Q fun w P2 H2 z r2 e2 => q w P2 H2 (by rw [z]; rfl) r2 (e1.trans e2))
    | false => exact iteF (q _ P1 H1 rfl r1 e1)
theorem eb_or (ha : EBd c tt es b) (hb : b = false → EBd c tu es b') : EBd c (tOr tt tu) es (b || b') := fun σ P H r Q q =>
  ha σ P H r _ fun a P1 H1 z r1 e1 => by
    subst z
    cases a with
    | true => exact iteT (q _ P1 H1 rfl r1 e1)
    | false => exact iteF (hb rfl σ P1 H1 r1 Q fun w P2 H2 z r2 e2 => q w P2 H2 (by rw [z]; rfl) r2 (e1.trans e2))
theorem eb_not (ha : EBd c tt es b) : EBd c (tNot tt) es (!b) := fun σ P H r Q q => ha σ P H r _ fun a P1 H1 z r1 e1 => q _ P1 H1 (by rw [z]) r1 e1
theorem ev_if (h : EBd c tt es b) (h1 : b = true → EV c ta es φ) (h2 : b = false → EV c tb es φ) : EV c (tIf tt ta tb) es φ := fun σ P H r Q q =>
  h σ P H r _ fun a P1 H1 z r1 e1 => by
    subst z
    cases a with
    | true => exact iteT (h1 rfl σ P1 H1 r1 Q fun w P2 H2 z hz r2 e2 => q w P2 H2 z hz r2 (e1.trans e2))
    | false => exact iteF (h2 rfl σ P1 H1 r1 Q fun w P2 H2 z hz r2 e2 => q w P2 H2 z hz r2 (e1.trans e2))
/-- a < b < c -/
theorem ed_chain {r1 r2 : R2} {tc : TE} {z : Dt} (ha : ED c ta es x) (hb : ED c tb es y) (h1 : RD c r1 x y (fun w => w = .bl b)) (hc : b = true → ED c tc es z) (h2 : b = true → RD c r2 y z (fun w => w = .bl b')) : ED c (tChain r1 r2 ta tb tc) es (.bl (b && b')) := fun σ P H r Q q =>
  ha σ P H r _ fun v P1 H1 a hv q1 e1 k1 => hb σ P1 H1 q1 _ fun u P2 H2 a2 hu q2 e2 k2 => by
    subst hv hu
    refine h1 v u P2 H2 q2.ex (Has.mono e2.p _ k1) k2 _ fun w P3 H3 a3 hw g3 k3 => ?_
    subst hw
    cases k3
    refine ⟨b, rfl, ?_⟩
    cases b with
    | false => exact iteF (q _ P3 H3 _ rfl (q2.step g3) ((e1.trans e2).trans (.of g3)) (.bl false))
    | true =>
      refine iteT (hc rfl σ P3 H3 (q2.step g3) _ fun w P4 H4 a4 hw q4 e4 k4 => ?_)
      subst hw
      exact h2 rfl u w P4 H4 q4.ex (Has.mono (g3.p.trans e4.p) _ k2) k4 _ fun w5 P5 H5 a5 h5 g5 k5 => q w5 P5 H5 a5 (by rw [h5]; rfl) (q4.step g5) ((((e1.trans e2).trans (.of g3)).trans e4).trans (.of g5)) k5
/-! ### arguments, displays -/
theorem es_nil : EDs c tNil es [] := fun σ P H r Q q => q [] P H [] rfl r Kp.refl .nil
theorem evs_cons {ρ : List Dt → Prop} (h : EV c te es φ) (hr : EVs c ts es ρ) : EVs c (tCons te ts) es (fun l => ∃ d ds, l = d :: ds ∧ φ d ∧ ρ ds) := fun σ P H r Q q =>
  h σ P H r _ fun v P1 H1 a ha r1 e1 h1 => hr σ P1 H1 r1 _ fun vs P2 H2 l hl r2 e2 h2 => q _ P2 H2 _ ⟨a, l, rfl, ha, hl⟩ r2 (e1.trans e2) (.cons (Has.mono e2.p _ h1) h2)
theorem es_cons (h : ED c te es d) (hr : EDs c ts es ds) : EDs c (tCons te ts) es (d :: ds) := fun σ P H r Q q =>
  evs_cons h hr σ P H r Q fun vs P' H' l ⟨a, l', e, ea, el⟩ => q vs P' H' l (by rw [e, ea, el])
theorem EVs.imp {ρ τ : List Dt → Prop} (h : EVs c ts es ρ) (k : ∀ l, ρ l → τ l) : EVs c ts es τ := fun σ P H r Q q => h σ P H r Q fun v P' H' d e => q v P' H' d (k d e)
/-- a new object at p that goes to the part -/
theorem grow_new {P H : Hp} {p : Addr} {o : HO} (e : Ex P H) (hp : H p = none) : Grow P H (upd P p o) (upd H p o) :=
  ⟨Ex.new (none_back e hp), Ex.new hp, fun a u h => by
    by_cases z : a = p
    · subst z; rw [upd_same] at h ⊢; exact h
    · rw [upd_ne z] at h ⊢; exact e a u h, fun a u h => by
    by_cases z : a = p
    · subst z; exact .inr hp
    · rw [upd_ne z] at h; exact .inl h⟩
/-- .. or stays one's own -/
theorem grow_own {P H : Hp} {p : Addr} {o : HO} (e : Ex P H) (hp : H p = none) : Grow P H P (upd H p o) :=
  ⟨.refl P, Ex.new hp, e.trans (Ex.new hp), fun _ _ h => .inl h⟩
theorem ev_tup {ρ : List Dt → Prop} (h : EVs c ts es ρ) (hl : ∀ l, ρ l → l.length ≤ 100000) : EV c (tTup ts) es (fun z => ∃ l, z = .tup l ∧ ρ l) := fun σ P H r Q q =>
  h σ P H r _ fun vs P1 H1 l hρ r1 e1 h1 => ⟨Evl.sz_of (by rw [h1.len]; exact hl l hρ), fun p hp => by
    have g := grow_new (o := .tup vs) r1.ex hp
    exact q _ _ _ _ ⟨l, rfl, hρ⟩ (r1.step g) (e1.trans (.of g)) (.tup (Evl.st_of upd_same) (HasAll.mono g.p _ h1))⟩
theorem ed_tup (h : EDs c ts es ds) (hl : ds.length ≤ 100000) : ED c (tTup ts) es (.tup ds) := EV.imp (ev_tup h fun _ e => by rw [e]; exact hl) fun z ⟨l, e1, e2⟩ => by rw [e1, e2]
theorem eo_lst {ρ : List Dt → Prop} (h : EVs c ts es ρ) (hl : ∀ l, ρ l → l.length ≤ 100000) : EO c (tLst ts) es ρ := fun σ P H r Q q =>
  h σ P H r _ fun vs P1 H1 l hρ r1 e1 h1 => ⟨Evl.sz_of (by rw [h1.len]; exact hl l hρ), fun p hp => by
    have g := grow_own (o := .lst vs) r1.ex hp
    exact q p P1 _ l hρ (r1.step g) (e1.trans (.of g)) (r1.fresh hp) (e1.n p hp) ⟨.inl (r1.dom p hp), none_back r1.ex hp, vs, upd_same, h1⟩⟩
theorem GenOk.give {P H : Hp} {l b : Addr} {ins : List Addr} {ψ : Hp → Hp → Prop} {o : HO} (n : b ∉ l :: ins) (hP : P b = none) (h : GenOk c P H l ins ψ) : GenOk c (upd P b o) H l ins ψ :=
  ⟨fun a m => ⟨(h.mine a m).1, by rw [upd_ne fun z => n (by rw [← z]; exact m)]; exact (h.mine a m).2.1, (h.mine a m).2.2⟩, h.st P H _ H (Ex.new hP) (fun _ _ => rfl) h.tell, h.st⟩
/-- a list of one's own that is never changed any more is data -/
theorem Rep.give {P H : Hp} {σ : L2.St} {l : Addr} (r : Rep c P H σ es) (hn : l ∉ owns es) (hl : c.H0 l = none) (hP : P l = none) {xs : List V} (hx : H l = some (.lst xs)) : Rep c (upd P l (.lst xs)) H σ es := by
  have key : ∀ {σ : L2.St} {es : List Sv}, l ∉ owns es → Sl c P H σ es → Sl c (upd P l (.lst xs)) H σ es := by
    intro σ es n h
    induction h with
    | nil => exact .nil
    | no _ ih => exact .no (ih n)
    | dat a _ ih => exact .dat (Has.mono (Ex.new hP) _ a) (ih n)
    | own a _ ih =>
      obtain ⟨m1, m2, ys, q, z⟩ := a
      have ne : _ ≠ l := fun e => n (by rw [← e]; exact List.mem_cons_self)
      exact .own ⟨m1, by rw [upd_ne ne]; exact m2, ys, q, HasAll.mono (Ex.new hP) _ z⟩ (ih fun m => n (List.mem_cons_of_mem _ m))
    | hand a _ ih =>
      obtain ⟨ds, k, m1, m2, ys, q, z⟩ := a
      have ne : _ ≠ l := fun e => n (by rw [← e]; exact List.mem_cons_self)
      exact .hand ⟨ds, k, m1, by rw [upd_ne ne]; exact m2, ys, q, HasAll.mono (Ex.new hP) _ z⟩ (ih fun m => n (List.mem_cons_of_mem _ m))
    | gen g _ ih => exact .gen (g.give (fun m => n (List.mem_append_left _ m)) hP) (ih fun m => n (List.mem_append_right _ m))
  refine ⟨r.b.trans (Ex.new hP), r.old, r.dom, fun a o h => ?_, fun a o h => ?_, key hn r.sl, r.nd⟩
  · by_cases z : a = l
    · subst z; rw [upd_same] at h; rw [hx]; exact h
    · rw [upd_ne z] at h; exact r.ex a o h
  · by_cases z : a = l
    · subst z; exact .inr hl
    · rw [upd_ne z] at h; exact r.fr a o h
theorem ev_give {ρ : List Dt → Prop} (hm : c.mu = []) (h : EO c te es ρ) : EV c te es (fun z => ∃ l, z = .lst l ∧ ρ l) := fun σ P H r Q q =>
  h σ P H r _ fun l P1 H1 ds hρ r1 e1 hn h0 ⟨m1, m2, xs, hx, hd⟩ => by
    have m0 : c.H0 l = none := m1.elim id fun z => by rw [hm] at z; cases z
    exact q _ _ _ _ ⟨ds, rfl, hρ⟩ (r1.give hn m0 m2 hx) (e1.give h0 m2) (.lst (Evl.sq_of upd_same) (HasAll.mono (Ex.new m2) _ hd))
/-! ### items, lengths -/
theorem atI_has {K : PySem.W.Frag} {P : Hp} {xs : List V} {l : List Dt} {k : Int} {d : Dt} (h : HasAll K P xs l) (e : atI l k = some d) : ∃ v, atI xs k = some v ∧ Has K P v d := by
  unfold atI at e ⊢
  rw [h.len]
  cases q : ixN l.length k with
  | none => rw [q] at e; cases e
  | some n =>
    rw [q] at e
    obtain ⟨v, e1, h1⟩ := h.get (i := n) (d := d) e
    exact ⟨v, e1, h1⟩
theorem rd_ixT {l : List Dt} (e : atI l i = some d) : RD c (rIx c.K) (.tup l) (.int i) (fun z => z = d) := fun v u P H ex hv hu Q q => by
  cases hu
  cases hv with
  | tup s r =>
    obtain ⟨w, e1, h1⟩ := atI_has r e
    exact .inr (.inl ⟨_, _, i, w, rfl, rfl, Evl.ex_t ex s, e1, q w P H d rfl (.refl ex) h1⟩)
theorem rd_ixL {l : List Dt} (e : atI l i = some d) : RD c (rIx c.K) (.lst l) (.int i) (fun z => z = d) := fun v u P H ex hv hu Q q => by
  cases hu
  cases hv with
  | lst s r =>
    obtain ⟨w, e1, h1⟩ := atI_has r e
    exact .inl ⟨_, _, i, w, rfl, rfl, Evl.ex_l ex s, e1, q w P H d rfl (.refl ex) h1⟩
theorem ed_ixT {l : List Dt} (ha : ED c ta es (.tup l)) (hb : ED c tb es (.int i)) (e : atI l i = some d) : ED c (tOp (rIx c.K) ta tb) es d := ed_op ha hb (rd_ixT e)
theorem ed_ixL {l : List Dt} (ha : ED c ta es (.lst l)) (hb : ED c tb es (.int i)) (e : atI l i = some d) : ED c (tOp (rIx c.K) ta tb) es d := ed_op ha hb (rd_ixL e)
/-- an item of a list of one's own -/
theorem ed_ixO {n : Nat} {a : Addr} {l : List Dt} (h : es[n]? = some (.own a l)) (hb : ED c tb es (.int i)) (e : atI l i = some d) : ED c (tOp (rIx c.K) (tVar n) tb) es d := fun σ P H r Q q => by
  refine ⟨_, (r.sl.getO h).1, ?_⟩
  refine hb σ P H r _ fun u P1 H1 z hz r1 e1 h1 => ?_
  subst hz
  cases h1
  obtain ⟨_, _, _, xs, hx, hd⟩ := r1.sl.getO h
  obtain ⟨w, e2, h2⟩ := atI_has hd e
  exact .inl ⟨a, xs, i, w, rfl, rfl, Evl.sq_of hx, e2, q w P1 H1 d rfl r1 e1 h2⟩
def lenD : Dt → Option Nat
  | .lst l => some l.length
  | .tup l => some l.length
  | _ => none
theorem ed_len {n : Nat} (ha : ED c ta es x) (e : lenD x = some n) : ED c (tCB (Evl.rLenS c.K) (tCons ta tNil)) es (.int n) := fun σ P H r Q q =>
  ha σ P H r _ fun v P1 H1 z hz r1 e1 h1 => by
    subst hz
    cases h1 with
    | lst s k =>
      cases Option.some.inj e
      exact ⟨_, _, rfl, .inl (Evl.ex_l r1.ex s), by rw [k.len]; exact q _ P1 H1 _ rfl r1 e1 (.int _)⟩
    | tup s k =>
      cases Option.some.inj e
      exact ⟨_, _, rfl, .inr (Evl.ex_t r1.ex s), by rw [k.len]; exact q _ P1 H1 _ rfl r1 e1 (.int _)⟩
    | _ => cases e
theorem ed_lenO {n : Nat} {a : Addr} {l : List Dt} (h : es[n]? = some (.own a l)) : ED c (tCB (Evl.rLenS c.K) (tCons (tVar n) tNil)) es (.int l.length) := fun σ P H r Q q => by
  obtain ⟨e0, _, _, xs, hx, hd⟩ := r.sl.getO h
  exact ⟨_, e0, a, xs, rfl, .inl (Evl.sq_of hx), by rw [hd.len]; exact q _ P H _ rfl r Kp.refl (.int _)⟩
/-! ### isinstance -/
def tyD : Dt → Option String
  | .non => some "NoneType"
  | .bl _ => some "bool"
  | .int _ => some "int"
  | .str _ => some "str"
  | .lst _ => some "list"
  | .tup _ => some "tuple"
  | .tupN _ => some "tuple"
  | .lstN _ => none
  | .obj _ _ _ => none
  | .dct0 => some "dict"
  | .dctX => some "dict"
theorem Has.ty {K : PySem.W.Frag} {P H : Hp} {v : V} {d : Dt} {n : String} (ex : Ex P H) (h : Has K P v d) (e : tyD d = some n) : TyX K H v (.type n) := by
  cases h with
  | non => cases Option.some.inj e; exact .base .non
  | bl b => cases Option.some.inj e; exact .base (.bl b)
  | int i => cases Option.some.inj e; exact .base (.int i)
  | str s => cases Option.some.inj e; exact .base (.str s)
  | lst s r =>
    cases Option.some.inj e
    rcases Evl.ex_l ex s with (q | ⟨o, q⟩) | ⟨o, its, n, q, z, _⟩
    · exact .base (.lst q)
    · exact .base (.frz q)
    · exact .kList q z
  | tup s r =>
    cases Option.some.inj e
    rcases Evl.ex_t ex s with (q | ⟨o, q⟩) | ⟨o, its, n, q, z, _⟩
    · exact .base (.tup q)
    · exact .fTuple q
    · exact .kTuple q z
  | tupN s _ _ r =>
    cases Option.some.inj e
    exact .fTuple (ex _ _ s)
  | obj s r => cases e
  | dct0 s => cases Option.some.inj e; exact .base (.dT (ex _ _ s))
  | lstN s r => cases e
  | dctX s =>
    cases Option.some.inj e
    rcases s with ⟨k, z⟩ | ⟨k, z⟩
    · exact .base (.dK (ex _ _ z))
    · exact .base (.dT (ex _ _ z))
end
end My
set_option Elab.async false
set_option linter.all false
set_option maxRecDepth 100000
set_option maxHeartbeats 2000000
/-! Calls and statements over slots that are told. -/
namespace My
open PySem L2
open Evl (Ex)

/-! ### promises by data -/
/-- f gives of things that read as ds one that reads as d, R ds d; nothing changes -/
def spD (K : PySem.W.Frag) (R : List Dt → Dt → Prop) : Sp := fun vs H Q _ => ∃ P ds, Ex P H ∧ HasAll K P vs ds ∧ (∃ d, R ds d) ∧
  ∀ v P' H' d, R ds d → Grow P H P' H' → Has K P' v d → Q v H'
/-- .. gives a fresh list of one's own -/
def spO (K : PySem.W.Frag) (R : List Dt → List Dt → Prop) : Sp := fun vs H Q _ => ∃ P ds, Ex P H ∧ HasAll K P vs ds ∧ (∃ l, R ds l) ∧
  ∀ p P' H' xs l, R ds l → Grow P H P' H' → P' p = none → H p = none → H' p = some (.lst xs) → HasAll K P' xs l → Q (.ref p) H'
/-- f changes the hand that it gets first -/
def spH (K : PySem.W.Frag) (R : List Dt → Dt → Prop) : Sp := fun vs H Q _ => ∃ P a us hs ds, vs = .ref a :: us ∧ Ex P H ∧ P a = none ∧ (∃ xs, H a = some (.lst xs) ∧ HasAll K P xs hs) ∧ HandOk hs ∧ HasAll K P us ds ∧ (∃ d, R ds d) ∧
  ∀ v P' H' d xs' hs', R ds d → Ex P P' → (∀ b o, b ≠ a → H b = some o → H' b = some o) → (∀ b, H' b = none → H b = none) → Ex P' H' → (∀ b o, P' b = some o → P b = some o ∨ H b = none) → P' a = none → H' a = some (.lst xs') → HasAll K P' xs' hs' → HandOk hs' → Has K P' v d → Q v H'
/-- .. and gives a fresh list of one's own -/
def spHO (K : PySem.W.Frag) (R : List Dt → List Dt → Prop) : Sp := fun vs H Q _ => ∃ P a us hs ds, vs = .ref a :: us ∧ Ex P H ∧ P a = none ∧ (∃ xs, H a = some (.lst xs) ∧ HasAll K P xs hs) ∧ HandOk hs ∧ HasAll K P us ds ∧ (∃ l, R ds l) ∧
  ∀ p P' H' l ys xs' hs', R ds l → Ex P P' → (∀ b o, b ≠ a → H b = some o → H' b = some o) → (∀ b, H' b = none → H b = none) → Ex P' H' → (∀ b o, P' b = some o → P b = some o ∨ H b = none) → P' a = none → H' a = some (.lst xs') → HasAll K P' xs' hs' → HandOk hs' →
    P' p = none → H p = none → H' p = some (.lst ys) → HasAll K P' ys l → Q (.ref p) H'
section
variable {c : Fr} {es : List Sv} {te ta tb tx : TE} {tt tu : TT} {ts : TA} {d x y : Dt} {ds dd : List Dt} {φ ψ χ : Dt → Prop} {i j : Int} {b b' : Bool} {R : List Dt → Dt → Prop} {E : XK} {dvs : List V}
theorem evs_call {ρ : List Dt → Prop} (h : EVs c ts es ρ) (hd : ∀ P, HasAll c.K P dvs dd) (hR : ∀ l, ρ l → ∃ d, R (l ++ dd) d) : EV c (tCall (spD c.K R) dvs E ts) es (fun d => ∃ l, ρ l ∧ R (l ++ dd) d) := fun σ P H r Q q =>
  h σ P H r _ fun vs P1 H1 l hl r1 e1 h1 => ⟨P1, l ++ dd, r1.ex, h1.append (hd P1), hR l hl, fun v P2 H2 d hr g hv => q v P2 H2 d ⟨l, hl, hr⟩ (r1.step g) (e1.trans (.of g)) hv⟩
/-- the answer is one -/
theorem ed_call (h : EDs c ts es ds) (hR : R ds d) (h1 : ∀ x, R ds x → x = d) : ED c (tCall (spD c.K R) [] E ts) es d :=
  EV.imp (evs_call (dd := []) h (fun _ => .nil) fun l e => ⟨d, by rw [e, List.append_nil]; exact hR⟩) fun x ⟨l, e, z⟩ => by
    rw [e, List.append_nil] at z
    exact h1 x z
theorem ev_call (h : EDs c ts es ds) (hR : ∃ d, R ds d) : EV c (tCall (spD c.K R) [] E ts) es (R ds) :=
  EV.imp (evs_call (dd := []) h (fun _ => .nil) fun l e => by rw [e, List.append_nil]; exact hR) fun x ⟨l, e, z⟩ => by
    rw [e, List.append_nil] at z
    exact z
theorem ed_callD (h : EDs c ts es ds) (hd : ∀ P, HasAll c.K P dvs dd) (hR : R (ds ++ dd) d) (h1 : ∀ x, R (ds ++ dd) x → x = d) : ED c (tCall (spD c.K R) dvs E ts) es d :=
  EV.imp (evs_call (dd := dd) h hd fun l e => ⟨d, by rw [e]; exact hR⟩) fun x ⟨l, e, z⟩ => by
    rw [e] at z
    exact h1 x z
theorem Mine.own_new {P H P' H' : Hp} {p : Addr} {xs : List V} {l : List Dt} (m : c.H0 p = none) (h1 : P' p = none) (h2 : H' p = some (.lst xs)) (h3 : HasAll c.K P' xs l) : Mine c P' H' p l := ⟨.inl m, h1, xs, h2, h3⟩
theorem eo_call {RO : List Dt → List Dt → Prop} (h : EDs c ts es ds) (hR : ∃ l, RO ds l) : EO c (tCall (spO c.K RO) [] E ts) es (RO ds) := fun σ P H r Q q =>
  h σ P H r _ fun vs P1 H1 l hl r1 e1 h1 => ⟨P1, ds, r1.ex, by rw [List.append_nil, ← hl]; exact h1, hR, fun p P2 H2 xs l hr g k1 k2 k3 k4 => q p P2 H2 l hr (r1.step g) (e1.trans (.of g)) (r1.fresh k2) (e1.n p k2) ⟨.inl (r1.dom p k2), k1, xs, k3, k4⟩⟩
/-- the hand's slot behind a draw -/
theorem Sl.hands {P H P' H' : Hp} {a : Addr} {xs : List V} {hs : List Dt} (k1 : Ex P P') (k2 : ∀ b o, b ≠ a → H b = some o → H' b = some o) (k4 : ∀ b o, P' b = some o → P b = some o ∨ H b = none) (k5 : P' a = none) (k6 : H' a = some (.lst xs)) (k7 : HasAll c.K P' xs hs) (k8 : HandOk hs) :
    ∀ {σ : L2.St} {es : List Sv}, (a ∈ owns es → ∃ n : Nat, es[n]? = some (Sv.hand a)) → (owns es).Nodup → Sl c P H σ es → Sl c P' H' σ es := by
  have keep : ∀ {l : Addr} {ds : List Dt}, l ≠ a → Mine c P H l ds → Mine c P' H' l ds := fun {l ds} ne ⟨m1, m2, ys, q, z⟩ => by
    refine ⟨m1, ?_, ys, k2 _ _ ne q, HasAll.mono k1 _ z⟩
    cases e : P' l with
    | none => rfl
    | some o =>
      rcases k4 _ _ e with w | w
      · rw [m2] at w; cases w
      · rw [q] at w; cases w
  intro σ es n nd h
  induction h with
  | nil => exact .nil
  | no _ ih => exact .no (ih (fun m => by
      obtain ⟨k, e⟩ := n m
      cases k with
      | zero => simp at e
      | succ k => exact ⟨k, by simpa using e⟩) nd)
  | dat z _ ih => exact .dat (Has.mono k1 _ z) (ih (fun m => by
      obtain ⟨k, e⟩ := n m
      cases k with
      | zero => simp at e
      | succ k => exact ⟨k, by simpa using e⟩) nd)
  | @own l ds σ es m h ih =>
    have nd' := List.nodup_cons.mp (show (l :: owns es).Nodup from nd)
    have ne : l ≠ a := fun z => by
      subst z
      obtain ⟨k, e⟩ := n List.mem_cons_self
      cases k with
      | zero => simp at e
      | succ k => exact nd'.1 (owns_mem (ds := []) (.inr (by simpa using e)))
    exact .own (keep ne m) (ih (fun m => by
      obtain ⟨k, e⟩ := n (List.mem_cons_of_mem _ m)
      cases k with
      | zero => simp at e
      | succ k => exact ⟨k, by simpa using e⟩) nd'.2)
  | @hand l σ es m h ih =>
    have nd' := List.nodup_cons.mp (show (l :: owns es).Nodup from nd)
    have m0 := m
    obtain ⟨ds, z, m⟩ := m
    have rest := fun (hx : a ∈ owns es → ∃ n : Nat, es[n]? = some (Sv.hand a)) => ih hx nd'.2
    have hx : a ∈ owns es → ∃ n : Nat, es[n]? = some (Sv.hand a) := fun mm => by
      obtain ⟨k, e⟩ := n (List.mem_cons_of_mem _ mm)
      cases k with
      | zero =>
        have e1 := Sv.hand.inj (Option.some.inj e)
        subst e1
        exact (nd'.1 mm).elim
      | succ k => exact ⟨k, by simpa using e⟩
    by_cases ne : l = a
    · subst ne
      exact .hand ⟨hs, k8, m.1, k5, xs, k6, k7⟩ (rest hx)
    · exact .hand ⟨ds, z, keep ne m⟩ (rest hx)
  | @gen l ins φ σ es m h ih =>
    have nd' := List.nodup_append.mp (show ((l :: ins) ++ owns es).Nodup from nd)
    have ne : ∀ b ∈ l :: ins, b ≠ a := fun b hb z => by
      subst z
      obtain ⟨k, e⟩ := n (List.mem_append_left _ hb)
      cases k with
      | zero => simp at e
      | succ k => exact nd'.2.2 b hb b (owns_mem (ds := []) (.inr (by simpa using e))) rfl
    have keepG : GenOk c P' H' l ins φ := by
      have eH : ∀ b ∈ l :: ins, H' b = H b := fun b hb => by
        obtain ⟨_, _, o, h3⟩ := m.mine b hb
        rw [h3, k2 b o (ne b hb) h3]
      refine ⟨fun b hb => ?_, m.st P H P' H' k1 eH m.tell, m.st⟩
      obtain ⟨h1, h2, o, h3⟩ := m.mine b hb
      refine ⟨h1, ?_, o, k2 b o (ne b hb) h3⟩
      cases e : P' b with
      | none => rfl
      | some o =>
        rcases k4 _ _ e with w | w
        · rw [h2] at w; cases w
        · rw [h3] at w; cases w
    exact .gen keepG (ih (fun mm => by
      obtain ⟨k, e⟩ := n (List.mem_append_right _ mm)
      cases k with
      | zero => simp at e
      | succ k => exact ⟨k, by simpa using e⟩) nd'.2.1)
theorem Rep.hands {P H P' H' : Hp} {σ : L2.St} {a : Addr} {n : Nat} {xs : List V} {hs : List Dt} (r : Rep c P H σ es) (hn : es[n]? = some (Sv.hand a)) (k1 : Ex P P') (k2 : ∀ b o, b ≠ a → H b = some o → H' b = some o) (k2' : ∀ b, H' b = none → H b = none) (k3 : Ex P' H') (k4 : ∀ b o, P' b = some o → P b = some o ∨ H b = none)
    (k5 : P' a = none) (k6 : H' a = some (.lst xs)) (k7 : HasAll c.K P' xs hs) (k8 : HandOk hs) : Rep c P' H' σ es := by
  obtain ⟨_, _, _, m1, m2, _⟩ := r.sl.getH hn
  refine ⟨r.b.trans k1, fun b o m h => ?_, fun b h => r.dom b (k2' b h), k3, fun b o h => (k4 b o h).elim (r.fr b o) fun z => .inr (r.dom b z), r.sl.hands k1 k2 k4 k5 k6 k7 k8 (fun _ => ⟨n, hn⟩) r.nd, r.nd⟩
  have ne : b ≠ a := fun z => by
    subst z
    rcases m1 with q | q
    · rw [q] at h; cases h
    · exact m q
  exact k2 b o ne (r.old b o m h)
theorem hands_mem : ∀ {es : List Sv} {n : Nat} {a : Addr}, es[n]? = some (Sv.hand a) → a ∈ handsOf es
  | [], _, _, e => by simp at e
  | s :: es, 0, a, e => by
    cases Option.some.inj e
    exact List.mem_cons_self
  | s :: es, n + 1, a, e => by
    have q := hands_mem (es := es) (n := n) (a := a) (by simpa using e)
    cases s with
    | hand _ => exact List.mem_cons_of_mem _ q
    | no => exact q
    | dat _ => exact q
    | own _ _ => exact q
    | gen _ _ _ => exact q
theorem ev_callH {n : Nat} {a : Addr} {ρ : List Dt → Prop} (hn : es[n]? = some (Sv.hand a)) (h : EVs c ts es ρ) (hR : ∀ l, ρ l → ∃ d, R l d) : EV c (tCall (spH c.K R) [] E (tCons (tVar n) ts)) es (fun d => ∃ l, ρ l ∧ R l d) := fun σ P H r Q q => by
  refine ⟨_, (r.sl.getH hn).1, ?_⟩
  refine h σ P H r _ fun vs P1 H1 l hl r1 e1 h1 => ?_
  obtain ⟨_, hs, ok, m1, m2, xs, hx, hd⟩ := r1.sl.getH hn
  refine ⟨P1, a, vs, hs, l, by rw [List.append_nil], r1.ex, m2, ⟨xs, hx, hd⟩, ok, h1, hR l hl, fun v P2 H2 d xs2 hs2 hr k1 k2 k2' k3 k4 k5 k6 k7 k8 k9 => ?_⟩
  exact q v P2 H2 d ⟨l, hl, hr⟩ (r1.hands hn k1 k2 k2' k3 k4 k5 k6 k7 k8) (e1.trans ⟨k1, fun b o n h => k2 b o (fun z => n (by rw [z]; exact hands_mem hn)) h, k2', k4⟩) k9
theorem eo_callH {n : Nat} {a : Addr} {ρ : List Dt → Prop} {RO : List Dt → List Dt → Prop} (hn : es[n]? = some (Sv.hand a)) (h : EVs c ts es ρ) (hR : ∀ l, ρ l → ∃ d, RO l d) : EO c (tCall (spHO c.K RO) [] E (tCons (tVar n) ts)) es (fun d => ∃ l, ρ l ∧ RO l d) := fun σ P H r Q q => by
  refine ⟨_, (r.sl.getH hn).1, ?_⟩
  refine h σ P H r _ fun vs P1 H1 l hl r1 e1 h1 => ?_
  obtain ⟨_, hs, ok, m1, m2, xs, hx, hd⟩ := r1.sl.getH hn
  refine ⟨P1, a, vs, hs, l, by rw [List.append_nil], r1.ex, m2, ⟨xs, hx, hd⟩, ok, h1, hR l hl, fun p P2 H2 d ys xs2 hs2 hr k1 k2 k2' k3 k4 k5 k6 k7 k8 j1 j2 j3 j4 => ?_⟩
  exact q p P2 H2 d ⟨l, hl, hr⟩ (r1.hands hn k1 k2 k2' k3 k4 k5 k6 k7 k8) (e1.trans ⟨k1, fun b o n h => k2 b o (fun z => n (by rw [z]; exact hands_mem hn)) h, k2', k4⟩) (r1.fresh j2) (e1.n p j2) ⟨.inl (r1.dom p j2), j1, ys, j3, j4⟩
/-! ### isinstance -/
def isB (t n : String) : Bool := (kitB t n).getD false
theorem ed_isi {t n : String} (ha : ED c ta es x) (e : tyD x = some t) (k : (kitB t n).isSome = true) : ED c (tCB (rIsi c.K) (tCons ta (tCons (tC (.ty n)) tNil))) es (.bl (isB t n)) := fun σ P H r Q q =>
  ha σ P H r _ fun v P1 H1 z hz r1 e1 h1 => by
    subst hz
    refine ⟨v, .ty n, .type t, .type n, isB t n, rfl, .ty n, h1.ty r1.ex e, kit_ty ?_, q _ P1 H1 _ rfl r1 e1 (.bl _)⟩
    unfold isB
    cases w : kitB t n with
    | none => rw [w] at k; cases k
    | some b => rfl
theorem ed_isi2 {t n m : String} (ha : ED c ta es x) (e : tyD x = some t) (k : (kitB t n).isSome = true) (k' : (kitB t m).isSome = true) :
    ED c (tCB (rIsiT c.K) (tCons ta (tCons (tTup (tCons (tC (.ty n)) (tCons (tC (.ty m)) tNil))) tNil))) es (.bl (isB t n || isB t m)) := fun σ P H r Q q =>
  ha σ P H r _ fun v P1 H1 z hz r1 e1 h1 => by
    subst hz
    refine ⟨by show 2 ≤ sizeLine; decide, fun p hp => ?_⟩
    have g := grow_own (o := .tup [.ty n, .ty m]) r1.ex hp
    refine ⟨v, p, [.ty n, .ty m], .type t, [.type n, .type m], isB t n || isB t m, rfl, upd_same, .cons (.ty n) (.cons (.ty m) .nil), h1.ty (r1.step g).ex e, ?_, q _ P1 _ _ rfl (r1.step g) (e1.trans (.of g)) (.bl _)⟩
    have one : ∀ {n : String}, (kitB t n).isSome = true → PySem.W.kitOne c.K (.type t) (.type n) = some (isB t n) := fun {n} k => kit_ty (by
      unfold isB
      cases w : kitB t n with
      | none => rw [w] at k; cases k
      | some b => rfl)
    refine kitAny_cons (one k) (fun h0 => kitAny_cons (one k') (fun h1 => by rw [h0, h1]; exact kitAny_nil) fun h1 => by rw [h0, h1]; rfl) fun h0 => by rw [h0]; rfl
/-! ### numbers by built-ins -/
theorem ed_gcd (ha : ED c ta es (.int i)) (hb : ED c tb es (.int j)) : ED c (tCB rGcd (tCons ta (tCons tb tNil))) es (.int ((Nat.gcd i.natAbs j.natAbs : Nat) : Int)) := fun σ P H r Q q =>
  ha σ P H r _ fun v P1 H1 z hz r1 e1 h1 => hb σ P1 H1 r1 _ fun u P2 H2 z2 hz2 r2 e2 h2 => by
    subst hz hz2
    cases h1
    cases h2
    exact ⟨i, j, rfl, q _ P2 H2 _ rfl r2 (e1.trans e2) (.int _)⟩
theorem ed_int1 (ha : ED c ta es (.int i)) : ED c (tCB (fun xs H Q => (∃ i, xs = [.int i] ∧ Q (.int i) H) ∨ ∃ k, xs = [.bl k] ∧ Q (.int (if k then 1 else 0)) H) (tCons ta tNil)) es (.int i) := fun σ P H r Q q =>
  ha σ P H r _ fun v P1 H1 z hz r1 e1 h1 => by
    subst hz
    cases h1
    exact .inl ⟨i, rfl, q _ P1 H1 _ rfl r1 e1 (.int _)⟩
theorem ei_int1 {α : Int → Prop} (ha : EV c ta es (IsI α)) : EV c (tCB (fun xs H Q => (∃ i, xs = [.int i] ∧ Q (.int i) H) ∨ ∃ k, xs = [.bl k] ∧ Q (.int (if k then 1 else 0)) H) (tCons ta tNil)) es (IsI α) := fun σ P H r Q q =>
  ha σ P H r _ fun v P1 H1 z ⟨i, hz, hα⟩ r1 e1 h1 => by
    subst hz
    cases h1
    exact .inl ⟨i, rfl, q _ P1 H1 _ ⟨i, rfl, hα⟩ r1 e1 (.int _)⟩
theorem ed_abs (ha : ED c ta es (.int i)) : ED c (tCB (fun xs H Q => ∃ i, xs = [.int i] ∧ Q (.int (if i < 0 then -i else i)) H) (tCons ta tNil)) es (.int (if i < 0 then -i else i)) := fun σ P H r Q q =>
  ha σ P H r _ fun v P1 H1 z hz r1 e1 h1 => by
    subst hz
    cases h1
    exact ⟨i, rfl, q _ P1 H1 _ rfl r1 e1 (.int _)⟩
theorem ed_strI (ha : ED c ta es (.int i)) (hi : i.natAbs.log2 < 1920) : ED c (tCB (fun xs H Q => ∃ i, xs = [.int i] ∧ i.natAbs.log2 < 1920 ∧ Q (.str (toString i)) H) (tCons ta tNil)) es (.str (toString i)) := fun σ P H r Q q =>
  ha σ P H r _ fun v P1 H1 z hz r1 e1 h1 => by
    subst hz
    cases h1
    exact ⟨i, rfl, hi, q _ P1 H1 _ rfl r1 e1 (.str _)⟩
end
/-! ### statements -/
/-- from slots told by es the word k holds -/
def Cont (c : Fr) (k : L2.St → Hp → Prop) (es : List Sv) : Prop := ∀ σ P H, Rep c P H σ es → k σ H
/-- what is handed back reads as d, nothing else has changed -/
def RetD (c : Fr) (k : VK) (φ : Dt → Prop) : Prop := ∀ v P H σ es d, φ d → Rep c P H σ es → Has c.K P v d → k v H
section
variable {c : Fr} {es es' : List Sv} {te ta tb tx : TE} {tt : TT} {t u w : TS} {ts : TA} {d x y : Dt} {ds : List Dt} {φ ψ χ : Dt → Prop} {i j : Int} {b : Bool} {D : Ends} {n m : Nat}
theorem Cont.any {k : L2.St → Hp → Prop} (h : ∀ es', Cont c k es') : Cont c k es := h es
theorem c_seq (h : Cont c (t { D with nx := u D }) es) : Cont c (tSeq t u D) es := h
theorem c_next (h : Cont c D.nx es) : Cont c (tNext D) es := h
theorem c_asgV (h : EV c te es φ) (k : ∀ d, φ d → Cont c D.nx (es.set n (.dat d))) : Cont c (tAsg te (gName n) D) es := fun σ P H r =>
  h σ P H r _ fun v P1 H1 d hd r1 e1 h1 => k d hd _ P1 H1 (r1.put n h1)
theorem c_asg (h : ED c te es d) (k : Cont c D.nx (es.set n (.dat d))) : Cont c (tAsg te (gName n) D) es := c_asgV h fun _ e => by rw [e]; exact k
theorem c_asgO {ρ : List Dt → Prop} (h : EO c te es ρ) (k : ∀ l ds, ρ ds → Cont c D.nx (es.set n (.own l ds))) : Cont c (tAsg te (gName n) D) es := fun σ P H r =>
  h σ P H r _ fun l P1 H1 ds hd r1 e1 hn _ m => k l ds hd _ P1 H1 (r1.putO n m hn)
theorem c_par {m : Nat} (h : EDs c ts es [x, y]) (k : Cont c D.nx ((es.set n (.dat x)).set m (.dat y))) : Cont c (tPar n m ts D) es := fun σ P H r =>
  h σ P H r _ fun vs P1 H1 l hl r1 e1 h1 => by
    subst hl
    cases h1 with
    | cons a h1 =>
      cases h1 with
      | cons b h1 =>
        cases h1
        exact ⟨_, _, rfl, k _ P1 H1 ((r1.put n a).put m b)⟩
/-- a, b = e -/
theorem c_unpack {m : Nat} (h : ED c te es (.tup [x, y])) (k : Cont c D.nx ((es.set n (.dat x)).set m (.dat y))) : Cont c (tAsg te (gTup c.K 2 (gCons (gName n) (gCons (gName m) gNil))) D) es := fun σ P H r =>
  h σ P H r _ fun v P1 H1 l hl r1 e1 h1 => by
    subst hl
    cases h1 with
    | tup s h1 =>
      cases h1 with
      | cons a h1 =>
        cases h1 with
        | cons b h1 =>
          cases h1
          exact ⟨_, _, rfl, Evl.ex_t r1.ex s, rfl, _, _, rfl, _, _, rfl, rfl, k _ P1 H1 ((r1.put n a).put m b)⟩
theorem c_unpackL {m : Nat} (h : ED c te es (.lst [x, y])) (k : Cont c D.nx ((es.set n (.dat x)).set m (.dat y))) : Cont c (tAsg te (gLst c.K 2 (gCons (gName n) (gCons (gName m) gNil))) D) es := fun σ P H r =>
  h σ P H r _ fun v P1 H1 l hl r1 e1 h1 => by
    subst hl
    cases h1 with
    | lst s h1 =>
      cases h1 with
      | cons a h1 =>
        cases h1 with
        | cons b h1 =>
          cases h1
          exact ⟨_, _, rfl, Evl.ex_l r1.ex s, rfl, _, _, rfl, _, _, rfl, rfl, k _ P1 H1 ((r1.put n a).put m b)⟩
theorem c_aug {f : Int → Int → Int} (h0 : es[n]? = some (.dat (.int i))) (h : ED c te es (.int j)) (k : Cont c D.nx (es.set n (.dat (.int (f i j))))) : Cont c (tAug n te (ipI f) D) es := fun σ P H r => by
  obtain ⟨v, e, z⟩ := r.sl.get h0
  cases z
  exact ⟨_, e, h σ P H r _ fun v P1 H1 d hd r1 e1 h1 => by
    subst hd
    cases h1
    exact ⟨i, j, rfl, rfl, k _ P1 H1 (r1.put n (.int _))⟩⟩
theorem c_if (h : EBd c tt es b) (h1 : b = true → Cont c (t D) es) (h2 : b = false → Cont c (u D) es) : Cont c (tIfS tt t u D) es := fun σ P H r =>
  h σ P H r _ fun a P1 H1 z r1 e1 => by
    subst z
    cases a with
    | true => exact iteT (h1 rfl _ P1 H1 r1)
    | false => exact iteF (h2 rfl _ P1 H1 r1)
theorem c_retV (h : EV c te es φ) (k : RetD c D.rt φ) : Cont c (tRet te D) es := fun σ P H r => h σ P H r _ fun v P1 H1 d hd r1 e1 h1 => k v P1 H1 _ _ d hd r1 h1
theorem c_ret (h : ED c te es d) (k : RetD c D.rt (fun x => x = d)) : Cont c (tRet te D) es := c_retV h k
theorem RetD.imp (k : RetD c D.rt φ) (h : ∀ x, ψ x → φ x) : RetD c D.rt ψ := fun v P H σ es d e r z => k v P H σ es d (h d e) r z
theorem c_drop (h : EV c te es φ) (k : Cont c D.nx es) : Cont c (tDrop te D) es := fun σ P H r => h σ P H r _ fun v P1 H1 d hd r1 e1 h1 => k _ P1 H1 r1
theorem c_brk (k : Cont c D.bk es) : Cont c (tBreak D) es := k
theorem c_cont (k : Cont c D.ct es) : Cont c (tCont D) es := k
/-- xs.append(e), xs one's own -/
theorem c_app {l : Addr} (h0 : es[n]? = some (.own l ds)) (h : EV c te es φ) (hz : ds.length < 100000) (k : ∀ d, φ d → Cont c D.nx (es.set n (.own l (ds ++ [d])))) :
    Cont c (tDrop (tBM c.K "list" rAppend (tVar n) (tCons te tNil)) D) es := fun σ P H r => by
  obtain ⟨e0, _, _, xs, hx, hd⟩ := r.sl.getO h0
  refine ⟨_, e0, .inl ⟨rfl, xs, Evl.sq_of hx⟩, h σ P H r _ fun v P1 H1 d hφ r1 e1 h1 => ?_⟩
  obtain ⟨_, _, _, ys, hy, hd⟩ := r1.sl.getO h0
  exact ⟨l, ys, v, rfl, rfl, hy, Evl.sz_lt (by rw [hd.len]; exact hz), k d hφ _ P1 _ (r1.change h0 (hd.append (.cons h1 .nil)))⟩
/-- xs[j] = e -/
theorem c_set {l : Addr} {j : Nat} (h0 : es[n]? = some (.own l ds)) (h : EV c te es φ) (hj : ED c tb es (.int (j : Int))) (hl : j < ds.length) (k : ∀ d, φ d → Cont c D.nx (es.set n (.own l (ds.set j d)))) :
    Cont c (tAsg te (gSub (tVar n) tb rSetL) D) es := fun σ P H r =>
  h σ P H r _ fun v P1 H1 d hφ r1 e1 h1 => by
    refine ⟨_, (r1.sl.getO h0).1, ?_⟩
    refine hj σ P1 H1 r1 _ fun u P2 H2 z hz r2 e2 h2 => ?_
    subst hz
    cases h2
    obtain ⟨_, _, _, ys, hy, hd⟩ := r2.sl.getO h0
    exact ⟨l, ys, _, j, rfl, rfl, hy, Evl.ixN_nat (by rw [hd.len]; exact hl), k d hφ _ P2 _ (r2.change h0 (hd.set j (Has.mono e2.p _ h1)))⟩
/-! loops -/
/-- the word of a loop: the slots are told by some es with I k es -/
inductive Turn (c : Fr) (I : Nat → List Sv → Prop) (k : Nat) (σ : L2.St) (H : Hp) : Prop
  | mk (P : Hp) (es : List Sv) (h : I k es) (r : Rep c P H σ es)
theorem c_turn {I : Nat → List Sv → Prop} {k : Nat} (h : I k es) : Cont c (Turn c I k) es := fun σ P H r => ⟨P, es, h, r⟩
theorem c_rng1 {I : Nat → List Sv → Prop} (h : ED c ta es (.int i)) (hb : 0 ≤ i ∧ i ≤ 1000000) (h0 : I 0 es)
    (hs : ∀ (k : Nat) es, (k : Int) < i → I k es → Cont c (u { D with nx := Turn c I (k + 1), ct := Turn c I (k + 1), bk := D.nx }) (es.set n (.dat (.int k)))) (hd : ∀ es, I i.toNat es → Cont c D.nx es) :
    Cont c (tFor (iRng1 (tCons ta tNil)) (gName n) u D) es := fun σ P H r =>
  h σ P H r _ fun v P1 H1 z hz r1 e1 h1 => by
    subst hz
    cases h1
    refine ⟨i, rfl, by omega, by omega, for_range (lo := 0) (n := i.toNat) (fun k => Turn c I k) ⟨P1, es, h0, r1⟩ (fun k σ H hk ⟨P, es, hI, r⟩ => ?_) fun σ H ⟨P, es, hI, r⟩ => hd es hI _ P H r⟩
    have e0 : (0 : Int) + (k : Int) = (k : Int) := Int.zero_add _
    rw [e0]
    exact hs k es (by omega) hI _ P H (r.put n (.int _))
theorem c_rng2 {I : Nat → List Sv → Prop} (h : EDs c ts es [.int i, .int j]) (hb : -1000000 ≤ i ∧ i ≤ 1000000 ∧ -1000000 ≤ j ∧ j ≤ 1000000) (h0 : I 0 es)
    (hs : ∀ (k : Nat) es, i + (k : Int) < j → I k es → Cont c (u { D with nx := Turn c I (k + 1), ct := Turn c I (k + 1), bk := D.nx }) (es.set n (.dat (.int (i + k))))) (hd : ∀ es, I (j - i).toNat es → Cont c D.nx es) :
    Cont c (tFor (iRng2 ts) (gName n) u D) es := fun σ P H r =>
  h σ P H r _ fun v P1 H1 z hz r1 e1 h1 => by
    subst hz
    cases h1 with
    | cons a h1 =>
      cases h1 with
      | cons b h1 =>
        cases h1
        cases a
        cases b
        exact ⟨i, j, rfl, ⟨by omega, by omega, by omega, by omega⟩, for_range (lo := i) (n := (j - i).toNat) (fun k => Turn c I k) ⟨P1, es, h0, r1⟩ (fun k σ H hk ⟨P, es, hI, r⟩ =>
          hs k es (by omega) hI _ P H (r.put n (.int _))) fun σ H ⟨P, es, hI, r⟩ => hd es hI _ P H r⟩
end
end My
set_option Elab.async false
set_option linter.all false
set_option maxRecDepth 100000
set_option maxHeartbeats 2000000
/-! Loops and comprehensions over whatever is walked, by data. -/
namespace My
open PySem L2
open Evl (Ex)
abbrev Fr.at (c : Fr) (P : Hp) : Fr := ⟨c.K, c.mu, P, c.H0⟩
/-- what is told later is told of the entry -/
def Low (c : Fr) (P1 : Hp) : Prop := ∀ {P H σ es}, Rep (c.at P1) P H σ es → Rep c P H σ es
section
variable {c : Fr} {es es' : List Sv} {P H P1 H1 : Hp} {σ : L2.St} {k : L2.St → Hp → Prop} {kv : VK} {φ : Dt → Prop}
theorem Sl.at : ∀ {σ : L2.St} {es : List Sv}, Sl c P H σ es → Sl (c.at P1) P H σ es
  | _, _, .nil => .nil
  | _, _, .no h => .no h.at
  | _, _, .dat a h => .dat a h.at
  | _, _, .own a h => .own a h.at
  | _, _, .hand a h => .hand a h.at
  | _, _, .gen a h => .gen ⟨a.mine, a.tell, a.st⟩ h.at
theorem Sl.back : ∀ {σ : L2.St} {es : List Sv}, Sl (c.at P1) P H σ es → Sl c P H σ es
  | _, _, .nil => .nil
  | _, _, .no h => .no h.back
  | _, _, .dat a h => .dat a h.back
  | _, _, .own a h => .own a h.back
  | _, _, .hand a h => .hand a h.back
  | _, _, .gen a h => .gen ⟨a.mine, a.tell, a.st⟩ h.back
theorem Rep.at (r : Rep c P H σ es) : Rep (c.at P) P H σ es := ⟨.refl P, r.old, r.dom, r.ex, fun _ _ h => .inl h, r.sl.at, r.nd⟩
theorem Rep.low {σ1 : L2.St} {es1 : List Sv} (r : Rep c P1 H1 σ1 es1) : Low c P1 := fun q =>
  ⟨r.b.trans q.b, q.old, q.dom, q.ex, fun a o h => (q.fr a o h).elim (fun z => r.fr a o z) .inr, q.sl.back, q.nd⟩
theorem Rep.up {P2 : Hp} (r : Rep c P H σ es) (L : Ex P1 P) (hf : ∀ a o, P a = some o → P1 a = some o ∨ c.H0 a = none) : Rep (c.at P1) P H σ es := ⟨L, r.old, r.dom, r.ex, hf, r.sl.at, r.nd⟩
theorem Cont.low (L : Low c P1) (h : Cont c k es) : Cont (c.at P1) k es := fun σ P H r => h σ P H (L r)
theorem RetD.low (L : Low c P1) (h : RetD c kv φ) : RetD (c.at P1) kv φ := fun v P H σ es d e r z => h v P H σ es d e (L r) z
end
/-- what a target does with a thing that reads as x; vs: the slots that it sets -/
def TgD (c : Fr) (g : TG) (f : List Sv → List Sv) (vs : List Nat) (x : Dt) : Prop := ∀ v P H σ es (Q : L2.St → Hp → Prop), Rep c P H σ es → Has c.K P v x → (∀ σ', wipe σ' vs = wipe σ vs → Rep c P H σ' (f es) → Q σ' H) → g v σ H Q
section
variable {c : Fr} {es : List Sv} {x y z : Dt} {n m q : Nat}
theorem wipe_get {σ : L2.St} : ∀ {vs : List Nat} {i : Nat}, (wipe σ vs)[i]? = if i ∈ vs then (σ[i]?).map (fun _ => none) else σ[i]?
  | [], i => by rw [if_neg List.not_mem_nil] <;> rfl
  | v :: vs, i => by
    show ((wipe σ vs).set v none)[i]? = _
    rw [List.getElem?_set, wipe_get (vs := vs) (i := i), wipe_length]
    by_cases e : v = i
    · subst e
      rw [if_pos rfl, if_pos List.mem_cons_self]
      by_cases h : v < σ.length
      · rw [if_pos h, List.getElem?_eq_getElem h] <;> rfl
      · rw [if_neg h, List.getElem?_eq_none (by omega)] <;> rfl
    · rw [if_neg e]
      by_cases h : i ∈ vs
      · rw [if_pos h, if_pos (List.mem_cons_of_mem _ h)]
      · rw [if_neg h, if_neg fun z => (List.mem_cons.mp z).elim (fun z => e z.symm) h]
theorem wipe_mem {σ : L2.St} {vs : List Nat} {n : Nat} {o : Option V} (h : n ∈ vs) : wipe (σ.set n o) vs = wipe σ vs := by
  apply List.ext_getElem?
  intro i
  rw [wipe_get, wipe_get]
  by_cases hi : i ∈ vs
  · rw [if_pos hi, if_pos hi, List.getElem?_set]
    by_cases e : n = i
    · subst e
      rw [if_pos rfl]
      by_cases hl : n < σ.length
      · rw [if_pos hl, List.getElem?_eq_getElem hl] <;> rfl
      · rw [if_neg hl, List.getElem?_eq_none (by omega)]
    · rw [if_neg e]
  · rw [if_neg hi, if_neg hi, List.getElem?_set_ne fun e => hi (by rw [← e]; exact h)]
theorem tg_name : TgD c (gName n) (fun es => es.set n (.dat x)) [n] x := fun v P H σ es Q r h q => q _ (wipe_mem List.mem_cons_self) (r.put n h)
theorem tg_two : TgD c (gTup c.K 2 (gCons (gName n) (gCons (gName m) gNil))) (fun es => (es.set n (.dat x)).set m (.dat y)) [n, m] (.tup [x, y]) := fun v P H σ es Q r h q => by
  cases h with
  | tup s h1 =>
    cases h1 with
    | cons a h1 =>
      cases h1 with
      | cons b h1 =>
        cases h1
        exact ⟨_, _, rfl, Evl.ex_t r.ex s, rfl, _, _, rfl, _, _, rfl, rfl, q _ (by rw [wipe_mem (by simp), wipe_mem (by simp)]) ((r.put n a).put m b)⟩
/-- i, (a, b) -/
theorem tg_pair {y1 y2 : Dt} : TgD c (gTup c.K 2 (gCons (gName n) (gCons (gTup c.K 2 (gCons (gName m) (gCons (gName q) gNil))) gNil))) (fun es => ((es.set n (.dat x)).set m (.dat y1)).set q (.dat y2)) [n, m, q] (.tup [x, .tup [y1, y2]]) := fun v P H σ es Q r h k => by
  cases h with
  | tup s h1 =>
    cases h1 with
    | cons a h1 =>
      cases h1 with
      | cons b h1 =>
        cases h1
        cases b with
        | tup s2 h2 =>
          cases h2 with
          | cons b1 h2 =>
            cases h2 with
            | cons b2 h2 =>
              cases h2
              refine ⟨_, _, rfl, Evl.ex_t r.ex s, rfl, _, _, rfl, _, _, rfl, ⟨_, _, rfl, Evl.ex_t r.ex s2, rfl, _, _, rfl, _, _, rfl, rfl, rfl, ?_⟩⟩
              refine k _ ?_ (((r.put n a).put m b1).put q b2)
              rw [wipe_mem (by simp), wipe_mem (by simp), wipe_mem (by simp)]
end
theorem wipe_wipe {σ : L2.St} {vs : List Nat} : wipe (wipe σ vs) vs = wipe σ vs := by
  apply List.ext_getElem?
  intro i
  rw [wipe_get, wipe_get]
  by_cases hi : i ∈ vs
  · rw [if_pos hi, if_pos hi]
    cases σ[i]? <;> rfl
  · rw [if_neg hi, if_neg hi]
/-- what wi walks: things that read as the items of l, one after the other -/
def WI (c : Fr) (wi : TI) (es : List Sv) (l : List Dt) : Prop :=
  ∀ σ P H, Rep c P H σ es → ∀ R : It → Hp → Prop, (∀ J P1 H1 G Y, Rep c P1 H1 σ es → Kp es P H P1 H1 → Walk J l.length G Y → (∀ P' H', Ex P1 P' → Ex P' H' → G H') →
    (∀ i P' H' x H'', i < l.length → Ex P1 P' → Ex P' H' → Y i H' x H'' → ∃ P'' d, Grow P' H' P'' H'' ∧ l[i]? = some d ∧ Has c.K P'' x d) → R J H1) → wi σ H R
/-- a list or a tuple, walked -/
def iSeq (K : PySem.W.Frag) (tl : TE) : TI := fun σ H R => tl σ H fun x H1 => ∃ a, x = .ref a ∧ (((∃ xs, SqL K H1 a xs) ∧ R (Itl K a) H1) ∨ ((∃ xs, SqT K H1 a xs) ∧ R (Itt K a) H1))
def itemsD : Dt → Option (List Dt)
  | .lst l => some l
  | .tup l => some l
  | _ => none
section
variable {c : Fr} {es : List Sv} {ta te : TE} {ts : TA} {x d : Dt} {l : List Dt} {wi : TI} {g : TG} {u : TS} {D : Ends} {i j : Int} {n : Nat}
theorem wi_seq (h : ED c ta es x) (hx : itemsD x = some l) : WI c (iSeq c.K ta) es l := fun σ P H r R q =>
  h σ P H r _ fun v P1 H1 z hz r1 e1 h1 => by
    subst hz
    have yat : ∀ {xs : List V}, HasAll c.K P1 xs l → ∀ i P' H' x H'', i < l.length → Ex P1 P' → Ex P' H' → YAt xs i H' x H'' → ∃ P'' d, Grow P' H' P'' H'' ∧ l[i]? = some d ∧ Has c.K P'' x d := fun {xs} ha i P' H' x H'' hi a b y => by
      obtain ⟨rfl, e⟩ := y
      obtain ⟨d, e2, hd⟩ := ha.get' e
      exact ⟨P', d, .refl b, e2, Has.mono a _ hd⟩
    cases h1 with
    | lst s ha =>
      cases Option.some.inj hx
      exact ⟨_, rfl, .inl ⟨⟨_, Evl.ex_l r1.ex s⟩, q _ P1 H1 _ _ r1 e1 (by rw [← ha.len]; exact walk_list) (fun P' H' a b => Evl.ex_l (a.trans b) s) (yat ha)⟩⟩
    | tup s ha =>
      cases Option.some.inj hx
      exact ⟨_, rfl, .inr ⟨⟨_, Evl.ex_t r1.ex s⟩, q _ P1 H1 _ _ r1 e1 (by rw [← ha.len]; exact walk_tup) (fun P' H' a b => Evl.ex_t (a.trans b) s) (yat ha)⟩⟩
    | _ => cases hx
theorem wi_enum (h : ED c ta es (.lst l)) : WI c (iEnum c.K (tCons ta tNil)) es (l.mapIdx fun k y => .tup [.int k, y]) := fun σ P H r R q =>
  h σ P H r _ fun v P1 H1 z hz r1 e1 h1 => by
    subst hz
    cases h1 with
    | lst s ha =>
      refine ⟨_, _, rfl, Evl.ex_l r1.ex s, q _ P1 H1 _ _ r1 e1 (by rw [List.length_mapIdx, ← ha.len]; exact walk_enum) (fun P' H' a b => Evl.ex_l (a.trans b) s) fun i P' H' x H'' hi a b y => ?_⟩
      obtain ⟨T, x1, x2, rfl, nT, rfl, e2, e3⟩ := y
      obtain ⟨d, e4, hd⟩ := ha.get' e3
      have g := grow_new (o := .tup [x1, x2]) b nT
      refine ⟨_, .tup [.int i, d], g, by rw [List.getElem?_mapIdx, e4] <;> rfl, ?_⟩
      cases Option.some.inj e2
      exact .tup (Evl.st_of upd_same) (.cons (.int _) (.cons (Has.mono (a.trans g.p) _ hd) .nil))
def intsL (lo : Int) (n : Nat) : List Dt := (List.range n).map fun k => .int (lo + (k : Nat))
theorem intsL_len {lo : Int} {n : Nat} : (intsL lo n).length = n := by
  unfold intsL
  rw [List.length_map, List.length_range]
theorem intsL_get {lo : Int} {n k : Nat} (h : k < n) : (intsL lo n)[k]? = some (.int (lo + (k : Nat))) := by
  unfold intsL
  rw [List.getElem?_map, List.getElem?_range h] <;> rfl
theorem wi_rng1 (h : ED c ta es (.int i)) (hb : -1000000000 ≤ i ∧ i ≤ 1000000000) : WI c (iRng1 (tCons ta tNil)) es (intsL 0 i.toNat) := fun σ P H r R q =>
  h σ P H r _ fun v P1 H1 z hz r1 e1 h1 => by
    subst hz
    cases h1
    refine ⟨i, rfl, by omega, by omega, q _ P1 H1 _ _ r1 e1 (by rw [intsL_len]; exact walk_range) (fun _ _ _ _ => trivial) fun k P' H' x H'' hk a b y => ?_⟩
    rw [intsL_len] at hk
    obtain ⟨rfl, rfl⟩ := y
    exact ⟨P', _, .refl b, intsL_get hk, .int _⟩
theorem wi_rng2 (h : EDs c ts es [.int i, .int j]) (hb : -1000000000 ≤ i ∧ i ≤ 1000000000 ∧ -1000000000 ≤ j ∧ j ≤ 1000000000) : WI c (iRng2 ts) es (intsL i (j - i).toNat) := fun σ P H r R q =>
  h σ P H r _ fun v P1 H1 z hz r1 e1 h1 => by
    subst hz
    cases h1 with
    | cons a h1 =>
      cases h1 with
      | cons b h1 =>
        cases h1
        cases a
        cases b
        refine ⟨i, j, rfl, ⟨by omega, by omega, by omega, by omega⟩, q _ P1 H1 _ _ r1 e1 (by rw [intsL_len]; exact walk_range) (fun _ _ _ _ => trivial) fun k P' H' x H'' hk a b y => ?_⟩
        rw [intsL_len] at hk
        obtain ⟨rfl, rfl⟩ := y
        exact ⟨P', _, .refl b, intsL_get hk, .int _⟩
/-! loops -/
theorem c_for {I : Nat → List Sv → Prop} {f : Dt → List Sv → List Sv} {vs : List Nat} (h : WI c wi es l) (h0 : I 0 es) (hg : ∀ P y, y ∈ l → TgD (c.at P) g (f y) vs y)
    (hs : ∀ P1, Low c P1 → ∀ k y es, l[k]? = some y → I k es → Cont (c.at P1) (u { D with nx := Turn (c.at P1) I (k + 1), ct := Turn (c.at P1) I (k + 1), bk := D.nx }) (f y es)) (hd : ∀ es, I l.length es → Cont c D.nx es) :
    Cont c (tFor wi g u D) es := fun σ P H r =>
  h σ P H r _ fun J P1 H1 G Y r1 e1 w hG hY => by
    have L : Low c P1 := r1.low
    refine for_it w (fun k => Turn (c.at P1) I k) ⟨P1, es, h0, r1.at⟩ (fun k σ H hk ⟨P, es, hI, r⟩ => hG P H r.b r.ex) (fun k x σ H H' hk ⟨P, es, hI, r⟩ y => ?_) fun σ H ⟨P, es, hI, r⟩ => hd es hI _ P H (L r)
    obtain ⟨P', d, g', e, hx⟩ := hY k P H x H' hk r.b r.ex y
    exact hg P1 d (List.mem_of_getElem? e) x P' H' σ es _ (r.step g') hx fun σ' _ r' => hs P1 L k d es e hI _ P' H' r'
end
/-! comprehensions -/
def wipeE (es : List Sv) : List Nat → List Sv
  | [] => es
  | v :: vs => (wipeE es vs).set v .no
theorem Rep.wipe {c : Fr} {es : List Sv} {P H : Hp} {σ : L2.St} (r : Rep c P H σ es) : ∀ vs : List Nat, Rep c P H (wipe σ vs) (wipeE es vs)
  | [] => r
  | v :: vs => (r.wipe vs).drop v
section
variable {c : Fr} {es : List Sv} {te : TE} {tt : TT} {l : List Dt} {wi : TI} {g : TG}
theorem eo_lc {f : Dt → List Sv → List Sv} {vs : List Nat} {p : Dt → Bool} {fn : Dt → Dt} (hh : handsOf es = []) (h : WI c wi es l) (hl : l.length ≤ 1000000) (hg : ∀ P y, y ∈ l → TgD (c.at P) g (f y) vs y)
    (hf : ∀ y ∈ l, handsOf (f y (wipeE es vs)) = []) (ht : ∀ P, Low c P → ∀ y ∈ l, EBd (c.at P) tt (f y (wipeE es vs)) (p y)) (he : ∀ P, Low c P → ∀ y ∈ l, p y = true → ED (c.at P) te (f y (wipeE es vs)) (fn y)) :
    EO c (tLc wi g tt te vs) es (fun r => r = (l.filter p).map fn) := fun σ P H r Q q =>
  h σ P H r _ fun J P1 H1 G Y r1 e1 w hG hY => fun a ha => by
    have L : Low c P1 := r1.low
    have na := r1.fresh ha
    let Pv : Nat → Hp → Prop := fun i H => ∃ P xs, Rep (c.at P1) P H σ es ∧ Kp es P1 H1 P H ∧ P a = none ∧ H a = some (.lst xs) ∧ HasAll c.K P xs (((l.take i).filter p).map fn)
    have g0 := grow_own (o := .lst []) r1.ex ha
    refine lc_it w Pv ⟨P1, [], r1.at.step g0, .of g0, none_back r1.ex ha, upd_same, .nil⟩ (fun i H _ ⟨P, xs, r, _⟩ => hG P H r.b r.ex) (fun i x H H' hi ⟨P, xs, r, eH, hPa, hHa, hd⟩ y => ?_) fun H ⟨P, xs, r, eH, hPa, hHa, hd⟩ => ?_
    · obtain ⟨P', d, g', e, hx⟩ := hY i P H x H' hi r.b r.ex y
      have hm : d ∈ l := List.mem_of_getElem? e
      have r2 := r.step g'
      have tk : l.take (i + 1) = l.take i ++ [d] := by rw [List.take_add_one, e] <;> rfl
      refine hg P1 d hm x P' H' _ _ _ (r2.wipe vs) hx fun σ' hw r3 => ⟨by rw [hw]; exact wipe_wipe, ?_⟩
      refine ht P1 L d hm σ' P' H' r3 _ fun b P3 H3 hb r4 k4 => ?_
      have hands : ∀ {b : Addr}, b ∉ handsOf (f d (wipeE es vs)) := fun {b} => by rw [hf d hm]; exact List.not_mem_nil
      have hPa' : P' a = none := by
        cases z : P' a with
        | none => rfl
        | some o =>
          rcases g'.f _ _ z with z | z
          · rw [hPa] at z; cases z
          · rw [hHa] at z; cases z
      have hHa' := g'.h _ _ hHa
      subst hb
      cases hp : p d with
      | false =>
        refine iteF ?_
        have g4 := k4.grow (hf d hm) r4.ex
        have r5 := r2.step g4
        refine ⟨P3, xs, r5, (eH.trans (.of g')).trans (.of g4), ?_, g4.h _ _ hHa', ?_⟩
        · cases z : P3 a with
          | none => rfl
          | some o =>
            rcases g4.f _ _ z with z | z
            · rw [hPa'] at z; cases z
            · rw [hHa'] at z; cases z
        · rw [tk, List.filter_append, List.filter_cons, if_neg (by rw [hp]; decide), List.filter_nil, List.append_nil]
          exact HasAll.mono (g'.p.trans g4.p) _ hd
      | true =>
        refine iteT ?_
        refine he P1 L d hm hp σ' P3 H3 r4 _ fun v P4 H4 dv hv r6 k6 hx6 => ?_
        subst hv
        have g4 := k4.grow (hf d hm) r4.ex
        have g6 := k6.grow (hf d hm) r6.ex
        have g7 := g4.trans g6
        have hPa4 : P4 a = none := by
          cases z : P4 a with
          | none => rfl
          | some o =>
            rcases g7.f _ _ z with z | z
            · rw [hPa'] at z; cases z
            · rw [hHa'] at z; cases z
        have hHa4 := g7.h _ _ hHa'
        have hd4 := HasAll.mono (g'.p.trans g7.p) _ hd
        have len : xs.length ≤ l.length := by
          rw [hd.len, List.length_map]
          exact Nat.le_trans (List.length_filter_le _ _) (by rw [List.length_take]; omega)
        refine ⟨xs, hHa4, Nat.lt_of_le_of_lt (Nat.le_trans len hl) (by decide), P4, xs ++ [v], ?_, ?_, hPa4, upd_same, ?_⟩
        · have r7 := r2.step g7
          exact ⟨r7.b, fun b o m h => by
            by_cases z : b = a
            · subst z
              have q1 := r1.dom b ha
              rw [show (c.at P1).H0 b = c.H0 b from rfl, q1] at h; cases h
            · rw [upd_ne z]; exact r7.old b o m h, fun b h => by
            by_cases z : b = a
            · subst z; rw [upd_same] at h; cases h
            · rw [upd_ne z] at h; exact r7.dom b h, fun b o h => by
            by_cases z : b = a
            · subst z; rw [hPa4] at h; cases h
            · rw [upd_ne z]; exact r7.ex b o h, r7.fr, r7.sl.turn hPa4 na, r7.nd⟩
        · exact ((eH.trans (.of g')).trans (.of g7)).put ha
        · rw [tk, List.filter_append, List.filter_cons, if_pos hp, List.filter_nil, List.map_append]
          exact hd4.append (.cons hx6 .nil)
    · have et : l.take l.length = l := List.take_length
      rw [et] at hd
      have r' := L r
      exact q a P H _ rfl r' (e1.trans eH) na (e1.n a ha) ⟨.inl (r1.dom a ha), hPa, xs, hHa, hd⟩
end
end My
set_option Elab.async false
set_option linter.all false
set_option maxRecDepth 100000
set_option maxHeartbeats 2000000
/-! Defs by their names; division by any number; what is raised, by data. -/
namespace My
open PySem L2
open Evl (Ex)
/-! ### a def that a name of the module stands for -/
structure Fd (P : Program) (w : World) (K : PySem.W.Frag) (mg : Str → Option Value) (base : Heap) (k : Nat) (x : Str) (ps : List Str) (dvs : List V) (sp : Sp) : Prop where
  ex : ∃ f fd ds, FnOk P w K mg base (L2.CX P w) k f fd ps sp ∧ Binds K fd ps ds ∧ Vals dvs ds ∧ mg x = some (.ref f) ∧ PySem.W.keepIn K (.ref f) = true
section
variable {X : Cx} {k : Nat} {x : Str} {ps : List Str} {sp : Sp} {dvs : List V} {p pos : Pos} {e : Expr} {es : List Expr} {t : TA}
theorem pe_fd (C : Fd X.prog X.w X.K X.mg X.base k x ps dvs sp) (hr : Room k X.A) (ha : PA X (e :: es) t) (hg : Gl X x := by rfl) (hdb : (x == ("__debug__" : Str)) = false := by decide) (he : starEach (e :: es) X.env = (false, eval e X.env) :: starEach es X.env := by rfl)
    (hpl : (backTo pos (starEach es X.env)).any (·.1) = false := by rfl) : PE X (.Call (.Name x p) (e :: es) [] pos) (tCall sp dvs E0 t) := by
  obtain ⟨f, fd, ds, F, hb, hd, hm, hk⟩ := C.ex
  exact pe_call F hr hg hm hk hb hd passL ha hdb he hpl
/-- .. that may raise, W is wished for -/
theorem pe_fdS (C : Fd X.prog X.w X.K X.mg X.base k x ps [] sp) (hr : Room k X.A) {W : WX} (tk : Takes X W) (ha : PA X (e :: es) t) (hg : Gl X x := by rfl) (hdb : (x == ("__debug__" : Str)) = false := by decide)
    (he : starEach (e :: es) X.env = (false, eval e X.env) :: starEach es X.env := by rfl) (hpl : (backTo pos (starEach es X.env)).any (·.1) = false := by rfl) : PE X (.Call (.Name x p) (e :: es) [] pos) (tCallS sp (WE W) t) := by
  obtain ⟨f, fd, ds, F, hb, hd, hm, hk⟩ := C.ex
  cases hd
  exact pe_callS F hr hg hm hk hb (fun σ => passAt tk σ) ha hdb he hpl
end
/-! ### a list or a tuple, walked -/
theorem pi_seq {X : Cx} {tg l : Expr} {tl : TE} (hl : PE X l tl) : PI X tg l (iSeq X.K tl) := by
  refine ⟨fun pins s σ H R I h => ?_⟩
  refine thn (hl.run pins s σ H _ I h) fun v s1 hh => ?_
  obtain ⟨x, H1, I1, r1, a, rfl, z⟩ := hh
  obtain rfl : v = Value.ref a := r1
  have nw : ∀ b ∈ [s1.heap.objs.size], FpOk X pins H1 b := fun b hb => by
    obtain rfl : b = s1.heap.objs.size := by simpa using hb
    exact I1.fpOk (Nat.le_refl _) (I1.hok.fresh (Nat.le_refl _))
  rcases z with ⟨⟨xs, hq⟩, q⟩ | ⟨⟨xs, hq⟩, q⟩
  · obtain ⟨its, rv, pl, hz⟩ := I1.list hq
    exact wpAny_pyIter_list pl.isList ⟨s1.heap.objs.size, [s1.heap.objs.size], _, _, H1, rfl, I1.kept (t' := s1.toks) fun b o e => Heap.get?_push_of_some _ e, turn_list a _, ⟨_, Heap.get?_push_size _ rfl, rfl, rfl⟩, nw, q⟩
  · obtain ⟨its, rv, pl, hz⟩ := I1.tuple hq
    exact wpAny_pyIter_tuple (show s1.heap.IsTuple a its.toArray from pl) ⟨s1.heap.objs.size, [s1.heap.objs.size], _, _, H1, rfl, I1.kept (t' := s1.toks) fun b o e => Heap.get?_push_of_some _ e, turn_tuple a _, ⟨_, Heap.get?_push_size _ rfl, rfl, rfl⟩, nw, q⟩
/-! ### division by whatever is not 0 -/
def CDivA (_ j : Int) : Prop := j ≠ 0 ∧ j.natAbs.log2 < 9000
theorem op_fdivA {X : Cx} : OpR X (binaryOp .FloorDiv) (rI CDivA fun i j => .int (i.fdiv j)) := opI fun i j _ _ _ _ _ hc q => PyProof.Rows.floordiv_int hc.1 q (.inl (PyProof.noPylong_of_log2 hc.2))
theorem cdivA {i j : Int} {b : Nat} (h : j ≠ 0) (hb : j.natAbs < 2 ^ b) (h0 : 0 < b) (h9 : b ≤ 9000) : CDivA i j := ⟨h, Nat.lt_of_lt_of_le (PySem.Flt.log2_lt_of h0 hb) h9⟩
/-! ### what is raised -/
inductive Out where
  | ok (d : Dt)
  | ex (C : Addr) (ns : List Str) (ds : List Dt)
/-- R ds o: of things that read as ds comes o -/
def spX (K : PySem.W.Frag) (R : List Dt → Out → Prop) : Sp := fun vs H Q E => ∃ P ds, Ex P H ∧ HasAll K P vs ds ∧ (∃ o, R ds o) ∧
  (∀ v P' H' d, R ds (.ok d) → Grow P H P' H' → Has K P' v d → Q v H') ∧
  (∀ dx P' H' C fs fd, R ds (.ex C (fs.map (·.1)) fd) → Grow P H P' H' → H dx = none → P' dx = none → H' dx = some (.xd fs) → HasAll K P' (fs.map (·.2)) fd → E (.ref C) (some dx) H')
/-- the wish of a def's own way out -/
def XtD (c : Fr) (E : XK) (R : Out → Prop) : Prop := ∀ dx P H σ es C fs fd, R (.ex C (fs.map (·.1)) fd) → Rep c P H σ es → c.H0 dx = none → P dx = none → H dx = some (.xd fs) → HasAll c.K P (fs.map (·.2)) fd → E (.ref C) (some dx) H
section
variable {c : Fr} {es : List Sv} {te ta tb tx : TE} {tt tu : TT} {ts : TA} {d x y : Dt} {ds dd : List Dt} {R : List Dt → Out → Prop} {dvs : List V} {D : Ends} {E : XK} {C : Addr} {f : Str}
/-- a call that surely comes back -/
theorem ed_callX (h : EDs c ts es ds) (hd : ∀ P, HasAll c.K P dvs dd) (hR : R (ds ++ dd) (.ok d)) (h1 : ∀ o, R (ds ++ dd) o → o = .ok d) : ED c (tCall (spX c.K R) dvs E ts) es d := fun σ P H r Q q =>
  h σ P H r _ fun vs P1 H1 l hl r1 e1 k1 => by
    subst hl
    refine ⟨P1, l ++ dd, r1.ex, k1.append (hd P1), ⟨_, hR⟩, fun v P2 H2 x hr g hv => ?_, fun dx P2 H2 C fs fd hr _ _ _ _ _ => by cases h1 _ hr⟩
    cases h1 _ hr
    exact q v P2 H2 _ rfl (r1.step g) (e1.trans (.of g)) hv
/-- the __init__ of an error with one field -/
def spIni1 (K : PySem.W.Frag) (C : Addr) (f : Str) : Sp := fun vs H Q _ => ∃ (a : Addr) (v : V), vs = [.ref a, v] ∧ H a = some (exo a C none) ∧ ∀ dx, H dx = none → dx ≠ a → Q .non (upd (upd H dx (exd dx [(f, v)])) a (exo a C (some dx)))
def spIni2 (K : PySem.W.Frag) (C : Addr) (f g : Str) : Sp := fun vs H Q _ => ∃ (a : Addr) (v u : V), vs = [.ref a, v, u] ∧ H a = some (exo a C none) ∧
  ∀ dx, H dx = none → dx ≠ a → Q .non (upd (upd (upd H dx (exd dx [(f, v)])) a (exo a C (some dx))) dx (exd dx [(g, u), (f, v)]))
/-- raise C(e) -/
theorem c_raise1 {Ro : Out → Prop} {ns : List Str} (h : EDs c ts es [x]) (hk : XtD c E Ro) (hR : Ro (.ex C [f] [x])) (hn : ns = [f]) : Cont c ((fun (_ : Ends) σ H => tMkO C (spIni1 c.K C f) [] ts σ H fun cls d H' => E cls d H') D) es := fun σ P H r =>
  h σ P H r _ fun vs P1 H1 l hl r1 e1 k1 => by
    subst hl
    cases k1 with
    | @cons v _ _ _ kx k1 =>
      cases k1
      refine ⟨by show 1 ≤ 1000; decide, fun a ha => ⟨a, v, rfl, upd_same, fun dx hdx ne => ⟨rfl, dx, [(f, v)], upd_same, ?_, ?_, ?_⟩⟩⟩
      · rw [upd_ne ne, upd_same]
      · rw [upd_ne ne] at hdx; exact hdx
      · have hd0 : H1 dx = none := by rw [upd_ne ne] at hdx; exact hdx
        have e : upd (del (upd (upd (upd H1 a (exo a C none)) dx (exd dx [(f, v)])) a (exo a C (some dx))) a) dx (.xd [(f, v)]) = upd H1 dx (.xd [(f, v)]) := by
          funext b
          by_cases z : b = dx
          · subst z; rw [upd_same, upd_same]
          · rw [upd_ne z, upd_ne z]
            by_cases z2 : b = a
            · subst z2; rw [del_same, ha]
            · rw [del_ne z2, upd_ne z2, upd_ne z, upd_ne z2]
        rw [e]
        have g := grow_own (o := .xd [(f, v)]) r1.ex hd0
        exact hk dx P1 _ σ es C [(f, v)] [x] hR (r1.step g) (r1.dom dx hd0) (none_back r1.ex hd0) upd_same (.cons kx .nil)
end
end My
set_option Elab.async false
set_option linter.all false
set_option maxRecDepth 100000
set_option maxHeartbeats 2000000
/-! Ratios: the mathematics. -/
namespace My
open PySem L2
def ratD (q : Rat) : Dt := .tup [.int q.num, .int q.den]
theorem den_pos (q : Rat) : (0 : Int) < q.den := by have := q.den_nz; omega
theorem divInt_of (q : Rat) : Rat.divInt q.num q.den = q := Rat.num_divInt_den q
/-- the part in common, with the sign of the bottom -/
def partOf (a b : Int) : Int := if b < 0 then -((Nat.gcd a.natAbs b.natAbs : Nat) : Int) else ((Nat.gcd a.natAbs b.natAbs : Nat) : Int)
theorem gcd_pos {a b : Int} (h : b ≠ 0) : 0 < Nat.gcd a.natAbs b.natAbs := Nat.gcd_pos_of_pos_right _ (by omega)
theorem partOf_ne {a b : Int} (h : b ≠ 0) : partOf a b ≠ 0 := by
  have := gcd_pos (a := a) h
  unfold partOf
  split <;> omega
theorem low_num {a b : Int} (h : b ≠ 0) : a.fdiv (partOf a b) = (Rat.divInt a b).num := by
  have g := gcd_pos (a := a) h
  have e : b.gcd a = Nat.gcd a.natAbs b.natAbs := Nat.gcd_comm _ _
  rw [Rat.num_divInt, e]
  unfold partOf
  by_cases hb : b < 0
  · rw [if_pos hb, Int.sign_eq_neg_one_of_neg hb]
    have := Int.neg_fdiv_neg (-a) ((Nat.gcd a.natAbs b.natAbs : Nat) : Int)
    rw [Int.neg_neg] at this
    rw [this, Int.fdiv_eq_ediv_of_nonneg _ (by omega)]
    congr 1
    omega
  · rw [if_neg hb, Int.sign_eq_one_of_pos (by omega), Int.fdiv_eq_ediv_of_nonneg _ (by omega), Int.one_mul]
theorem low_den {a b : Int} (h : b ≠ 0) : b.fdiv (partOf a b) = ((Rat.divInt a b).den : Int) := by
  have g := gcd_pos (a := a) h
  have e : b.gcd a = Nat.gcd a.natAbs b.natAbs := Nat.gcd_comm _ _
  rw [Rat.den_divInt, if_neg h, e]
  unfold partOf
  by_cases hb : b < 0
  · rw [if_pos hb]
    have := Int.neg_fdiv_neg (-b) ((Nat.gcd a.natAbs b.natAbs : Nat) : Int)
    rw [Int.neg_neg] at this
    rw [this, Int.fdiv_eq_ediv_of_nonneg _ (by omega), Int.natCast_ediv]
    congr 1
    omega
  · rw [if_neg hb, Int.fdiv_eq_ediv_of_nonneg _ (by omega), Int.natCast_ediv]
    congr 1
    omega
/-! sizes -/
def Sz (n : Nat) (x : Int) : Prop := x.natAbs < 2 ^ n
theorem Sz.mono {n m : Nat} {x : Int} (h : Sz n x) (e : n ≤ m) : Sz m x := Nat.lt_of_lt_of_le h (Nat.pow_le_pow_right (by decide) e)
theorem Sz.mul {n m : Nat} {x y : Int} (h : Sz n x) (k : Sz m y) : Sz (n + m) (x * y) := wide_lt h k
theorem Sz.add {n : Nat} {x y : Int} (h : Sz n x) (k : Sz n y) : Sz (n + 1) (x + y) := by
  unfold Sz at *
  have := Int.natAbs_add_le x y
  rw [Nat.pow_succ]
  omega
theorem Sz.sub {n : Nat} {x y : Int} (h : Sz n x) (k : Sz n y) : Sz (n + 1) (x - y) := by
  unfold Sz at *
  have := Int.natAbs_add_le x (-y)
  rw [Int.natAbs_neg] at this
  rw [Nat.pow_succ]
  have e : x - y = x + -y := Int.sub_eq_add_neg
  rw [e]
  omega
theorem Sz.neg {n : Nat} {x : Int} (h : Sz n x) : Sz n (-x) := by
  unfold Sz at *
  rw [Int.natAbs_neg]
  exact h
/-- a ratio of numbers below 2 ^ n -/
structure SzR (n : Nat) (q : Rat) : Prop where
  num : Sz n q.num
  den : Sz n q.den
theorem SzR.mono {n m : Nat} {q : Rat} (h : SzR n q) (e : n ≤ m) : SzR m q := ⟨h.num.mono e, h.den.mono e⟩
theorem div_le {a : Int} {g : Nat} (hg : 0 < g) : (a / (g : Int)).natAbs ≤ a.natAbs := Int.natAbs_ediv_le_natAbs a g
theorem SzR.of {n : Nat} {a b : Int} (h : b ≠ 0) (ha : Sz n a) (hb : Sz n b) : SzR n (Rat.divInt a b) := by
  have g := gcd_pos (a := a) h
  have e : b.gcd a = Nat.gcd a.natAbs b.natAbs := Nat.gcd_comm _ _
  constructor
  · rw [Rat.num_divInt, e]
    unfold Sz at *
    refine Nat.lt_of_le_of_lt (div_le g) ?_
    rw [Int.natAbs_mul]
    have : b.sign.natAbs ≤ 1 := by
      rw [Int.natAbs_sign_of_ne_zero h]
      exact Nat.le_refl 1
    refine Nat.lt_of_le_of_lt (Nat.mul_le_mul_right _ this) ?_
    rw [Nat.one_mul]
    exact ha
  · rw [Rat.den_divInt, if_neg h]
    unfold Sz at *
    have : (((b.natAbs / b.gcd a : Nat) : Int)).natAbs = b.natAbs / b.gcd a := Int.natAbs_natCast _
    rw [this]
    exact Nat.lt_of_le_of_lt (Nat.div_le_self _ _) hb
theorem sz_ok {n m : Nat} {x y : Int} (h : Sz n x) (k : Sz m y) (e : n + m ≤ 900000) : CMulW x y := by
  have h' := h.mono (show n ≤ n + 1 by omega)
  have k' := k.mono (show m ≤ m + 1 by omega)
  exact wide_mul h' k' (by omega) (by omega) (by omega)
theorem sz_div {n : Nat} {x y : Int} (h0 : y ≠ 0) (h : Sz n y) (e : n ≤ 8000) : CDivA x y := cdivA h0 (h.mono (show n ≤ n + 1 by omega)) (by omega) (by omega)
theorem sz_part {n : Nat} {a b : Int} (h0 : b ≠ 0) (h : Sz n b) : Sz n (partOf a b) := by
  have : Nat.gcd a.natAbs b.natAbs ≤ b.natAbs := Nat.gcd_le_right _ (by omega)
  unfold Sz partOf at *
  split
  · rw [Int.natAbs_neg, Int.natAbs_natCast]
    omega
  · rw [Int.natAbs_natCast]
    omega
end My
set_option Elab.async false
set_option linter.all false
set_option maxRecDepth 100000
set_option maxHeartbeats 2000000
/-! Calls by keywords, texts, tuples one behind the other, copies. -/
namespace My
open PySem L2
open Evl (Ex)
structure Fk (P : Program) (w : World) (K : PySem.W.Frag) (mg : Str → Option Value) (base : Heap) (k : Nat) (x : Str) (ps ks : List Str) (gV : List V → List V → List V) (sp : Sp) : Prop where
  ex : ∃ f fd g, FnOk P w K mg base (L2.CX P w) k f fd ps sp ∧ KBinds K fd ps ks g gV ∧ mg x = some (.ref f) ∧ PySem.W.keepIn K (.ref f) = true
section
variable {X : Cx} {k : Nat} {x : Str} {ps ks : List Str} {sp : Sp} {gV : List V → List V → List V} {p pos : Pos} {e : Expr} {es : List Expr} {kws : List Keyword} {t tk : TA}
theorem pe_fk (C : Fk X.prog X.w X.K X.mg X.base k x ps ks gV sp) (hr : Room k X.A) (ha : PA X (e :: es) t) (hkw : PK X kws tk) (hg : Gl X x := by rfl) (hall : (backToKw pos (keywordEach kws X.env)).all (·.1.isSome) = true := by rfl)
    (hks : (backToKw pos (keywordEach kws X.env)).filterMap (·.1) = ks := by rfl) (hdb : (x == ("__debug__" : Str)) = false := by decide) (he : starEach (e :: es) X.env = (false, eval e X.env) :: starEach es X.env := by rfl)
    (hpl : ((backTo pos (starEach (e :: es) X.env)).any (·.1) || (backToKw pos (keywordEach kws X.env)).any (·.1.isNone)) = false := by rfl) : PE X (.Call (.Name x p) (e :: es) kws pos) (tCallK sp gV E0 t tk) := by
  obtain ⟨f, fd, g, F, hb, hm, hk⟩ := C.ex
  exact pe_callK F hr hg hm hk hb passL ha hkw hall hks hdb he hpl
/-- texts one behind the other -/
def rAddS : R2 := fun x y H Q => ∃ i j, x = .str i ∧ y = .str j ∧ i.length + j.length ≤ sizeLine ∧ Q (.str (i ++ j)) H
theorem op_addS {X : Cx} : OpR X (binaryOp .Add) rAddS := op_add_str
def tJoin (ts : List TE) : TE := fun σ H Q => tJs ts Str.empty σ H fun out H1 => Q (.str out) H1
def rTupleOf (K : PySem.W.Frag) : List V → Hp → VK → Prop := fun xs H Q => ∃ p ys, xs = [.ref p] ∧ ((SqL K H p ys ∧ ∀ l, H l = none → Q (.ref l) (upd H l (.tup ys))) ∨ (SqT K H p ys ∧ Q (.ref p) H))
end
section
variable {c : Fr} {es : List Sv} {te ta tb tx : TE} {tt tu : TT} {ts : TA} {d x y : Dt} {ds dd : List Dt} {R : List Dt → Dt → Prop} {i j : Int} {a b : Str}
theorem ed_addS (ha : ED c ta es (.str a)) (hb : ED c tb es (.str b)) (h : a.length + b.length ≤ 100000) : ED c (tOp rAddS ta tb) es (.str (a ++ b)) :=
  ed_op ha hb (rd_sc (fun _ => .str _) fun v u P H _ hv hu Q q => by cases hv; cases hu; exact ⟨a, b, rfl, rfl, Evl.sz_of h, q⟩)
theorem ed_fmtI (h : ED c te es (.int i)) (hi : i.natAbs.log2 < 1920) : ED c (tFmt te) es (.str (toString i)) := fun σ P H r Q q => h σ P H r _ fun v P1 H1 z hz r1 e1 h1 => by
  subst hz
  cases h1
  exact .inr ⟨i, rfl, hi, q _ P1 H1 _ rfl r1 e1 (.str _)⟩
theorem ed_fmtS (h : ED c te es (.str a)) (hi : a.length ≤ 100000) : ED c (tFmt te) es (.str a) := fun σ P H r Q q => h σ P H r _ fun v P1 H1 z hz r1 e1 h1 => by
  subst hz
  cases h1
  exact .inl ⟨a, rfl, Evl.sz_of hi, q _ P1 H1 _ rfl r1 e1 (.str _)⟩
/-- three parts of an f-string -/
theorem ed_join3 {t1 t2 t3 : TE} {a1 a2 a3 : Str} (h1 : ED c t1 es (.str a1)) (h2 : ED c t2 es (.str a2)) (h3 : ED c t3 es (.str a3)) (hl : a1.length + a2.length + a3.length ≤ 100000) : ED c (tJoin [t1, t2, t3]) es (.str (((Str.empty ++ a1) ++ a2) ++ a3)) := fun σ P H r Q q =>
  h1 σ P H r _ fun v P1 H1 z hz r1 e1 k1 => by
    subst hz
    cases k1
    refine ⟨a1, rfl, Evl.sz_of (by rw [Str.length_append]; show 0 + _ ≤ _; omega), h2 σ P1 H1 r1 _ fun v P2 H2 z hz r2 e2 k2 => ?_⟩
    subst hz
    cases k2
    refine ⟨a2, rfl, Evl.sz_of (by rw [Str.length_append, Str.length_append]; show 0 + _ + _ ≤ _; omega), h3 σ P2 H2 r2 _ fun v P3 H3 z hz r3 e3 k3 => ?_⟩
    subst hz
    cases k3
    exact ⟨a3, rfl, Evl.sz_of (by rw [Str.length_append, Str.length_append, Str.length_append]; show 0 + _ + _ + _ ≤ _; omega), q _ P3 H3 _ rfl r3 ((e1.trans e2).trans e3) (.str _)⟩
/-- tuple + tuple -/
theorem ed_catT {l m : List Dt} (ha : ED c ta es (.tup l)) (hb : ED c tb es (.tup m)) (h1 : l ≠ []) (h2 : m ≠ []) (hl : l.length + m.length ≤ 100000) : ED c (tOp (rCatT c.K) ta tb) es (.tup (l ++ m)) :=
  ed_op ha hb fun v u P H e hv hu Q q => by
    cases hv with
    | @tup _ xs _ s k =>
      cases hu with
      | @tup _ ys _ s2 k2 =>
        refine ⟨_, _, _, _, rfl, rfl, Evl.ex_t e s, Evl.ex_t e s2, fun z => ?_, Evl.sz_of (by rw [k.len, k2.len]; exact hl), fun z => ?_, fun _ p hp => ?_⟩
        · rw [z] at k
          cases k
          exact h1 rfl
        · rw [z] at k2
          cases k2
          exact (h2 rfl).elim
        · have g := grow_new (o := .tup (xs ++ ys)) e hp
          exact q _ _ _ _ rfl g (.tup (Evl.st_of upd_same) ((HasAll.mono g.p _ k).append (HasAll.mono g.p _ k2)))
/-- list(x), a fresh one -/
theorem eo_list {l : List Dt} (ha : ED c ta es x) (hx : itemsD x = some l) : EO c (tCB (Evl.rListS c.K) (tCons ta tNil)) es (fun r => r = l) := fun σ P H r Q q =>
  ha σ P H r _ fun v P1 H1 z hz r1 e1 h1 => by
    subst hz
    cases h1 with
    | @lst _ xs _ s k =>
      cases Option.some.inj hx
      refine ⟨_, _, rfl, .inl (Evl.ex_l r1.ex s), fun p hp => ?_⟩
      have g := grow_own (o := .lst xs) r1.ex hp
      exact q p P1 _ _ rfl (r1.step g) (e1.trans (.of g)) (r1.fresh hp) (e1.n p hp) ⟨.inl (r1.dom p hp), none_back r1.ex hp, _, upd_same, k⟩
    | @tup _ xs _ s k =>
      cases Option.some.inj hx
      refine ⟨_, _, rfl, .inr (Evl.ex_t r1.ex s), fun p hp => ?_⟩
      have g := grow_own (o := .lst xs) r1.ex hp
      exact q p P1 _ _ rfl (r1.step g) (e1.trans (.of g)) (r1.fresh hp) (e1.n p hp) ⟨.inl (r1.dom p hp), none_back r1.ex hp, _, upd_same, k⟩
    | _ => cases hx
/-- tuple(x) -/
theorem ed_tupleOf {l : List Dt} (ha : ED c ta es x) (hx : itemsD x = some l) : ED c (tCB (rTupleOf c.K) (tCons ta tNil)) es (.tup l) := fun σ P H r Q q =>
  ha σ P H r _ fun v P1 H1 z hz r1 e1 h1 => by
    subst hz
    cases h1 with
    | @lst _ xs _ s k =>
      cases Option.some.inj hx
      refine ⟨_, _, rfl, .inl ⟨Evl.ex_l r1.ex s, fun p hp => ?_⟩⟩
      have g := grow_new (o := .tup xs) r1.ex hp
      exact q _ _ _ _ rfl (r1.step g) (e1.trans (.of g)) (.tup (Evl.st_of upd_same) (HasAll.mono g.p _ k))
    | tup s k =>
      cases Option.some.inj hx
      exact ⟨_, _, rfl, .inr ⟨Evl.ex_t r1.ex s, q _ P1 H1 _ rfl r1 e1 (.tup s k)⟩⟩
    | _ => cases hx
/-- a list of one's own is data from here on -/
theorem c_give {k : L2.St → Hp → Prop} {n : Nat} {l : Addr} (hn : es[n]? = some (.own l ds)) (hm : c.mu = []) (h : Cont c k (es.set n (.dat (.lst ds)))) : Cont c k es := fun σ P H r => by
  obtain ⟨e0, m1, m2, xs, hx, hd⟩ := r.sl.getO hn
  have m0 : c.H0 l = none := m1.elim id fun z => by rw [hm] at z; cases z
  have r1 := r.drop (o := none) n
  have nl : l ∉ owns (es.set n .no) := by
    have key : ∀ {es : List Sv} {n : Nat}, (owns es).Nodup → es[n]? = some (.own l ds) → l ∉ owns (es.set n .no) := by
      intro es
      induction es with
      | nil => intro n _ e; simp at e
      | cons s es ih =>
        intro n nd e
        cases n with
        | zero =>
          cases Option.some.inj e
          exact (List.nodup_cons.mp nd).1
        | succ n =>
          have e' : es[n]? = some (.own l ds) := by simpa using e
          cases s with
          | no => exact ih nd e'
          | dat _ => exact ih nd e'
          | own a _ =>
            have nd' := List.nodup_cons.mp (show (a :: owns es).Nodup from nd)
            intro m
            rcases List.mem_cons.mp (show l ∈ a :: owns (es.set n .no) from m) with z | z
            · exact nd'.1 (by rw [← z]; exact owns_mem (.inl e'))
            · exact ih nd'.2 e' z
          | hand a =>
            have nd' := List.nodup_cons.mp (show (a :: owns es).Nodup from nd)
            intro m
            rcases List.mem_cons.mp (show l ∈ a :: owns (es.set n .no) from m) with z | z
            · exact nd'.1 (by rw [← z]; exact owns_mem (ds := ds) (.inl e'))
            · exact ih nd'.2 e' z
          | gen a ins _ =>
            have nd' := List.nodup_append.mp (show ((a :: ins) ++ owns es).Nodup from nd)
            intro m
            rcases List.mem_append.mp (show l ∈ (a :: ins) ++ owns (es.set n .no) from m) with z | z
            · exact nd'.2.2 l z l (owns_mem (ds := ds) (.inl e')) rfl
            · exact ih nd'.2.1 e' z
    exact key r.nd hn
  have r2 := r1.give nl m0 m2 hx
  have r3 := r2.put n (v := .ref l) (d := .lst ds) (.lst (Evl.sq_of upd_same) (HasAll.mono (Ex.new m2) _ hd))
  rw [List.set_set, List.set_set] at r3
  have e1 : σ.set n (some (.ref l)) = σ := by
    obtain ⟨hl, hv⟩ := List.getElem?_eq_some_iff.mp e0
    rw [← hv]
    exact List.set_getElem_self hl
  rw [e1] at r3
  exact h σ _ H r3
/-- .. a hand -/
theorem c_hand {k : L2.St → Hp → Prop} {n : Nat} {l : Addr} (hn : es[n]? = some (.own l ds)) (hk : HandOk ds) (h : Cont c k (es.set n (.hand l))) : Cont c k es := fun σ P H r => by
  have key : ∀ {σ : L2.St} {es : List Sv} {n : Nat}, Sl c P H σ es → es[n]? = some (.own l ds) → Sl c P H σ (es.set n (.hand l)) ∧ owns (es.set n (.hand l)) = owns es := by
    intro σ es n s
    induction s generalizing n with
    | nil => intro e; simp at e
    | no s ih =>
      intro e
      cases n with
      | zero => simp at e
      | succ n =>
        obtain ⟨a, b⟩ := ih (n := n) (by simpa using e)
        exact ⟨.no a, b⟩
    | dat z s ih =>
      intro e
      cases n with
      | zero => simp at e
      | succ n =>
        obtain ⟨a, b⟩ := ih (n := n) (by simpa using e)
        exact ⟨.dat z a, b⟩
    | own z s ih =>
      intro e
      cases n with
      | zero =>
        obtain ⟨e1, e2⟩ := Sv.own.inj (Option.some.inj e)
        subst e1 e2
        exact ⟨.hand ⟨_, hk, z⟩ s, rfl⟩
      | succ n =>
        obtain ⟨a, b⟩ := ih (n := n) (by simpa using e)
        exact ⟨.own z a, congrArg (List.cons _) b⟩
    | hand z s ih =>
      intro e
      cases n with
      | zero => simp at e
      | succ n =>
        obtain ⟨a, b⟩ := ih (n := n) (by simpa using e)
        exact ⟨.hand z a, congrArg (List.cons _) b⟩
    | @gen l' ins φ σ es z s ih =>
      intro e
      cases n with
      | zero => simp at e
      | succ n =>
        obtain ⟨a, b⟩ := ih (n := n) (by simpa using e)
        exact ⟨.gen z a, congrArg ((l' :: ins) ++ ·) b⟩
  obtain ⟨s, ow⟩ := key r.sl hn
  exact h σ P H ⟨r.b, r.old, r.dom, r.ex, r.fr, s, by rw [ow]; exact r.nd⟩
end
end My
set_option Elab.async false
set_option linter.all false
set_option maxRecDepth 100000
set_option maxHeartbeats 2000000
/-! From what a body does to data, to the def's promise. -/
namespace My
open PySem PySem.Spec PyProof.Rows L2
open Evl (Ex)
theorem sl_nos {c : Fr} {P H : Hp} : ∀ n : Nat, Sl c P H (List.replicate n none) (List.replicate n .no)
  | 0 => .nil
  | n + 1 => .no (sl_nos n)
theorem sl_start {c : Fr} {P H : Hp} {n : Nat} : ∀ {ds : List Dt} {vs : List V}, HasAll c.K P vs ds → Sl c P H (vs.map some ++ List.replicate n none) (ds.map Sv.dat ++ List.replicate n .no)
  | [], _, h => by cases h; exact sl_nos n
  | d :: ds, _, h => by
    cases h with
    | cons a b => exact .dat a (sl_start b)
theorem owns_start (n : Nat) : ∀ ds : List Dt, owns (ds.map Sv.dat ++ List.replicate n .no) = []
  | [] => by
    show owns (List.replicate n .no) = []
    induction n with
    | zero => rfl
    | succ n ih => exact ih
  | _ :: ds => owns_start n ds
/-- the slots at the entry -/
abbrev args (ds : List Dt) (n : Nat) : List Sv := ds.map Sv.dat ++ List.replicate n .no
theorem rep_start {K : PySem.W.Frag} {P H : Hp} {ds : List Dt} {vs : List V} {n : Nat} (e : Ex P H) (h : HasAll K P vs ds) : Rep ⟨K, [], P, H⟩ P H (vs.map some ++ List.replicate n none) (args ds n) :=
  ⟨.refl P, fun _ _ _ h => h, fun _ h => h, e, fun _ _ h => .inl h, sl_start h, by rw [owns_start]; exact List.nodup_nil⟩
theorem start_eq {N : List Str} {vs : List V} {n : Nat} (h : N.length = vs.length + n) : L2.start N vs = vs.map some ++ List.replicate n none := by
  unfold L2.start
  rw [h, Nat.add_sub_cancel_left]
section
variable {P : Program} {w : World} {K : PySem.W.Frag} {mg : Str → Option Value} {base : Heap} {x : Str} {st : Stmt} {N ps : List Str} {m n : Nat} {R : List Dt → Dt → Prop} {RO : List Dt → List Dt → Prop} {RX : List Dt → Out → Prop} {fd : FuncData} {da : List V} {kw : List (Str × V)} {f : Addr} {t : TS} {tx : XK → TS}
/-- what the generator shows of a body -/
abbrev Drv (P : Program) (w : World) (K : PySem.W.Frag) (mg : Str → Option Value) (base : Heap) (x : Str) (st : Stmt) (N : List Str) (m : Nat) (t : XK → TS) : Prop :=
  ∀ (f : Addr) (cdv : Value) (A : Around) (outer : List Env) (s : Shared) (H : Hp) (E : XK), Room m (A.deeper (envOfC x (defScope st) s.heap.objs.size f cdv)) → PSs (cxOf (L2.CX P w) P w K mg base N x (defScope st) f cdv A outer s H E) (defBody st) (t E)
theorem fnD (F : FunD K x x (defArgs st) (defBody st) (defScope st) da kw f fd) (S : FnScope N ps (defScope st)) (hN : N.length = ps.length + n) (hl : ∀ ds d, R ds d → ds.length = ps.length) (drv : Drv P w K mg base x st N m fun _ => t)
    (sem : ∀ (P0 H0 : Hp) (D : Ends) (ds : List Dt), (∃ d, R ds d) → RetD ⟨K, [], P0, H0⟩ D.rt (R ds) → Cont ⟨K, [], P0, H0⟩ (t D) (args ds n)) : FnOk P w K mg base (L2.CX P w) (m + 1) f fd ps (spD K R) := by
  refine F.ok S (fun vs H Q E h => ?_) (fun cdv A outer s H vs Q E hr h => ⟨t, drv _ _ _ _ _ _ _ hr, ?_⟩)
  · obtain ⟨P, ds, e, ha, ⟨d, hd⟩, _⟩ := h
    rw [ha.len, hl ds d hd]
  · obtain ⟨P, ds, e, ha, ⟨d, hd⟩, q⟩ := h
    rw [start_eq (n := n) (by rw [hN, ha.len, hl ds d hd])]
    exact sem P H _ ds ⟨d, hd⟩ (fun v P' H' σ es x hx r hv => q v P' H' x hx (r.grow rfl) hv) _ P H (rep_start e ha)
theorem fnX (F : FunD K x x (defArgs st) (defBody st) (defScope st) da kw f fd) (S : FnScope N ps (defScope st)) (hN : N.length = ps.length + n) (hl : ∀ ds d, RX ds d → ds.length = ps.length) (drv : Drv P w K mg base x st N m tx)
    (sem : ∀ (P0 H0 : Hp) (D : Ends) (E : XK) (ds : List Dt), (∃ d, RX ds d) → RetD ⟨K, [], P0, H0⟩ D.rt (fun d => RX ds (.ok d)) → XtD ⟨K, [], P0, H0⟩ E (RX ds) → Cont ⟨K, [], P0, H0⟩ (tx E D) (args ds n)) : FnOk P w K mg base (L2.CX P w) (m + 1) f fd ps (spX K RX) := by
  refine F.ok S (fun vs H Q E h => ?_) (fun cdv A outer s H vs Q E hr h => ⟨tx E, drv _ _ _ _ _ _ _ hr, ?_⟩)
  · obtain ⟨P, ds, e, ha, ⟨d, hd⟩, _⟩ := h
    rw [ha.len, hl ds d hd]
  · obtain ⟨P, ds, e, ha, ⟨d, hd⟩, q, qx⟩ := h
    rw [start_eq (n := n) (by rw [hN, ha.len, hl ds d hd])]
    exact sem P H _ E ds ⟨d, hd⟩ (fun v P' H' σ es x hx r hv => q v P' H' x hx (r.grow rfl) hv) (fun dx P' H' σ es C fs fd hx r h0 h1 h2 h3 => qx dx P' H' C fs fd hx (r.grow rfl) h0 h1 h2 h3) _ P H (rep_start e ha)
/-- a fresh list handed back -/
def RetO (c : Fr) (k : VK) (ρ : List Dt → Prop) : Prop := ∀ l P H σ es ds, ρ ds → Rep c P H σ es → l ∉ owns es → c.H0 l = none → Mine c P H l ds → k (.ref l) H
theorem fnO (F : FunD K x x (defArgs st) (defBody st) (defScope st) da kw f fd) (S : FnScope N ps (defScope st)) (hN : N.length = ps.length + n) (hl : ∀ ds d, RO ds d → ds.length = ps.length) (drv : Drv P w K mg base x st N m fun _ => t)
    (sem : ∀ (P0 H0 : Hp) (D : Ends) (ds : List Dt), (∃ d, RO ds d) → RetO ⟨K, [], P0, H0⟩ D.rt (RO ds) → Cont ⟨K, [], P0, H0⟩ (t D) (args ds n)) : FnOk P w K mg base (L2.CX P w) (m + 1) f fd ps (spO K RO) := by
  refine F.ok S (fun vs H Q E h => ?_) (fun cdv A outer s H vs Q E hr h => ⟨t, drv _ _ _ _ _ _ _ hr, ?_⟩)
  · obtain ⟨P, ds, e, ha, ⟨d, hd⟩, _⟩ := h
    rw [ha.len, hl ds d hd]
  · obtain ⟨P, ds, e, ha, ⟨d, hd⟩, q⟩ := h
    rw [start_eq (n := n) (by rw [hN, ha.len, hl ds d hd])]
    exact sem P H _ ds ⟨d, hd⟩ (fun l P' H' σ es x hx r hn h0 ⟨_, m2, xs, m3, m4⟩ => q l P' H' xs x hx (r.grow rfl) m2 h0 m3 m4) _ P H (rep_start e ha)
/-- behind a def that changes its hand -/
def RetH (c : Fr) (a : Addr) (k : VK) (φ : Dt → Prop) : Prop := ∀ v P H d hs, φ d → Ex c.P0 P → (∀ b o, b ≠ a → c.H0 b = some o → H b = some o) → (∀ b, H b = none → c.H0 b = none) → Ex P H → (∀ b o, P b = some o → c.P0 b = some o ∨ c.H0 b = none) → HandOk hs → Mine c P H a hs → Has c.K P v d → k v H
theorem RetH.of {c : Fr} {a : Addr} {k : VK} {φ : Dt → Prop} {v : V} {P H : Hp} {d : Dt} {σ : L2.St} {es : List Sv} {i : Nat} {hs : List Dt} (h : RetH c a k φ) (hm : c.mu = [a]) (hd : φ d) (r : Rep c P H σ es) (e : es[i]? = some (.own a hs)) (ho : HandOk hs) (hv : Has c.K P v d) : k v H :=
  h v P H d hs hd r.b (fun b o ne q => r.old b o (by rw [hm]; simpa using ne) q) r.dom r.ex r.fr ho (r.sl.getO e).2 hv
theorem RetH.ofH {c : Fr} {a : Addr} {k : VK} {φ : Dt → Prop} {v : V} {P H : Hp} {d : Dt} {σ : L2.St} {es : List Sv} {i : Nat} (h : RetH c a k φ) (hm : c.mu = [a]) (hd : φ d) (r : Rep c P H σ es) (e : es[i]? = some (Sv.hand a)) (hv : Has c.K P v d) : k v H := by
  obtain ⟨_, hs, ok, mine⟩ := r.sl.getH e
  exact h v P H d hs hd r.b (fun b o ne q => r.old b o (by rw [hm]; simpa using ne) q) r.dom r.ex r.fr ok mine hv
theorem fnH (F : FunD K x x (defArgs st) (defBody st) (defScope st) da kw f fd) (S : FnScope N ps (defScope st)) (hN : N.length = ps.length + n) (hl : ∀ ds d, R ds d → ds.length + 1 = ps.length) (drv : Drv P w K mg base x st N m fun _ => t)
    (sem : ∀ (P0 H0 : Hp) (a : Addr) (D : Ends) (ds : List Dt), (∃ d, R ds d) → RetH ⟨K, [a], P0, H0⟩ a D.rt (R ds) → Cont ⟨K, [a], P0, H0⟩ (t D) (.hand a :: args ds n)) : FnOk P w K mg base (L2.CX P w) (m + 1) f fd ps (spH K R) := by
  refine F.ok S (fun vs H Q E h => ?_) (fun cdv A outer s H vs Q E hr h => ⟨t, drv _ _ _ _ _ _ _ hr, ?_⟩)
  · obtain ⟨P, a, us, hs, ds, rfl, e, _, _, _, ha, ⟨d, hd⟩, _⟩ := h
    rw [List.length_cons, ha.len, hl ds d hd]
  · obtain ⟨P, a, us, hs, ds, rfl, e, hPa, ⟨xs, hx, hxs⟩, ok, ha, ⟨d, hd⟩, q⟩ := h
    rw [start_eq (n := n) (by rw [hN, List.length_cons, ha.len, hl ds d hd])]
    refine sem P H a _ ds ⟨d, hd⟩ (fun v P' H' x hs' hx b k1 k2 k3 k4 ok' ⟨_, m2, ys, m3, m4⟩ hv => q v P' H' x ys hs' hx b k1 k2 k3 k4 m2 m3 m4 ok' hv) _ P H ?_
    exact ⟨.refl P, fun _ _ _ h => h, fun _ h => h, e, fun _ _ h => .inl h, .hand ⟨hs, ok, .inr (List.mem_singleton.mpr rfl), hPa, xs, hx, hxs⟩ (sl_start ha), by
      show (a :: owns (args ds n)).Nodup
      rw [owns_start]
      exact List.nodup_cons.mpr ⟨List.not_mem_nil, List.nodup_nil⟩⟩
end
/-! ### a name's def -/
theorem fdN {P : Program} {w : World} {K : PySem.W.Frag} {mg : Str → Option Value} {base : Heap} {x : Str} {st : Stmt} {ps : List Str} {k : Nat} {sp : Sp} {fd : FuncData} {f : Addr} (F : FunD K x x (defArgs st) (defBody st) (defScope st) [] [] f fd) (hm : mg x = some (.ref f)) (ok : FnOk P w K mg base (L2.CX P w) k f fd ps sp)
    (h : ∀ (kV doc pm : Value) (an : Option Addr) (cdv ct : Value) (us : List Value), us.length = ps.length → bindArgs (PySem.W.fnOf x x (defArgs st) (defBody st) (defScope st) .none kV doc pm an cdv ct) ⟨us, []⟩ = pure (ps.zip us)) : Fd P w K mg base k x ps [] sp :=
  ⟨f, fd, [], ok, F.bindsN h, .nil, hm, F.kp⟩
theorem c_retO {c : Fr} {te : TE} {es : List Sv} {ρ : List Dt → Prop} {D : Ends} (h : EO c te es ρ) (k : RetO c D.rt ρ) : Cont c (tRet te D) es := fun σ P H r =>
  h σ P H r _ fun l P1 H1 ds hd r1 e1 hn h0 m => k l P1 H1 σ es ds hd r1 hn (r.dom l h0) m
/-- the list in a slot handed back -/
theorem c_retO' {c : Fr} {es : List Sv} {ρ : List Dt → Prop} {D : Ends} {n : Nat} {l : Addr} {ds : List Dt} (hn : es[n]? = some (.own l ds)) (hm : c.mu = []) (hd : ρ ds) (k : ∀ P H, Mine c P H l ds → Rep c P H [] [] → c.H0 l = none → D.rt (.ref l) H) : Cont c (tRet (tVar n) D) es := fun σ P H r => by
  obtain ⟨e0, m⟩ := r.sl.getO hn
  exact ⟨_, e0, k P H m ⟨r.b, r.old, r.dom, r.ex, r.fr, .nil, List.nodup_nil⟩ (m.1.elim id fun z => by rw [hm] at z; cases z)⟩
theorem RetO.slot {c : Fr} {es : List Sv} {ρ : List Dt → Prop} {D : Ends} {n : Nat} {l : Addr} {ds : List Dt} (k : RetO c D.rt ρ) (hn : es[n]? = some (.own l ds)) (hm : c.mu = []) (hd : ρ ds) : Cont c (tRet (tVar n) D) es :=
  c_retO' hn hm hd fun P H m r h0 => k l P H [] [] ds hd r List.not_mem_nil h0 m
end My
set_option Elab.async false
set_option linter.all false
set_option maxRecDepth 100000
set_option maxHeartbeats 2000000
/-! Statements followed by others. -/
namespace My
open PySem PySem.Spec PyProof.Rows L2
open Evl (Ex)
section
variable {c : Fr} {es es' : List Sv} {te ta tb tx : TE} {tt : TT} {t u w : TS} {ts : TA} {d x y : Dt} {ds : List Dt} {φ ψ χ : Dt → Prop} {i j : Int} {b : Bool} {D : Ends} {n m : Nat}
theorem s_when (h : EBd c tt es b) (h1 : b = true → Cont c (t { D with nx := u D }) es) (h2 : b = false → Cont c (u D) es) : Cont c (tSeq (tIfS tt t tNext) u D) es := c_seq (c_if h h1 h2)
theorem s_if (h : EBd c tt es b) (h1 : b = true → Cont c (t { D with nx := u D }) es) (h2 : b = false → Cont c (w { D with nx := u D }) es) : Cont c (tSeq (tIfS tt t w) u D) es := c_seq (c_if h h1 h2)
theorem s_if3 (h : EBd c tt es b) (hr : Cont c (u D) es) (h1 : Cont c (u D) es → b = true → Cont c (t { D with nx := u D }) es) (h2 : Cont c (u D) es → b = false → Cont c (w { D with nx := u D }) es) : Cont c (tSeq (tIfS tt t w) u D) es := c_seq (c_if h (h1 hr) (h2 hr))
theorem s_ifA (h : EBd c tt es b) (hd : b = true → ED c te es d) (h1 : b = true → Cont c (u D) (es.set n (.dat d))) (h2 : b = false → Cont c (u D) es) : Cont c (tSeq (tIfS tt (tAsg te (gName n)) tNext) u D) es := c_seq (c_if h (fun z => c_asg (hd z) (h1 z)) h2)
theorem s_asgV (h : EV c te es φ) (k : ∀ d, φ d → Cont c (u D) (es.set n (.dat d))) : Cont c (tSeq (tAsg te (gName n)) u D) es := c_seq (c_asgV h k)
theorem s_asg (h : ED c te es d) (k : Cont c (u D) (es.set n (.dat d))) : Cont c (tSeq (tAsg te (gName n)) u D) es := c_seq (c_asg h k)
theorem s_asgO {ρ : List Dt → Prop} (h : EO c te es ρ) (k : ∀ l ds, ρ ds → Cont c (u D) (es.set n (.own l ds))) : Cont c (tSeq (tAsg te (gName n)) u D) es := c_seq (c_asgO h k)
theorem s_par (h : EDs c ts es [x, y]) (k : Cont c (u D) ((es.set n (.dat x)).set m (.dat y))) : Cont c (tSeq (tPar n m ts) u D) es := c_seq (c_par h k)
theorem s_unpack (h : ED c te es (.tup [x, y])) (k : Cont c (u D) ((es.set n (.dat x)).set m (.dat y))) : Cont c (tSeq (tAsg te (gTup c.K 2 (gCons (gName n) (gCons (gName m) gNil)))) u D) es := c_seq (c_unpack h k)
theorem s_drop (h : EV c te es φ) (k : Cont c (u D) es) : Cont c (tSeq (tDrop te) u D) es := c_seq (c_drop h k)
theorem s_app {l : Addr} (h0 : es[n]? = some (.own l ds)) (h : EV c te es φ) (hz : ds.length < 100000) (k : ∀ d, φ d → Cont c (u D) (es.set n (.own l (ds ++ [d])))) : Cont c (tSeq (tDrop (tBM c.K "list" rAppend (tVar n) (tCons te tNil))) u D) es := c_seq (c_app h0 h hz k)
theorem s_for {I : Nat → List Sv → Prop} {l : List Dt} {wi : TI} {g : TG} {f : Dt → List Sv → List Sv} {vs : List Nat} (h : WI c wi es l) (h0 : I 0 es) (hg : ∀ P y, y ∈ l → TgD (c.at P) g (f y) vs y)
    (hs : ∀ P1, Low c P1 → ∀ k y es, l[k]? = some y → I k es → Cont (c.at P1) (w { D with nx := Turn (c.at P1) I (k + 1), ct := Turn (c.at P1) I (k + 1), bk := u D }) (f y es)) (hd : ∀ es, I l.length es → Cont c (u D) es) :
    Cont c (tSeq (tFor wi g w) u D) es := c_seq (c_for h h0 hg hs hd)
theorem c_turn' {I : Nat → List Sv → Prop} {k' : L2.St → Hp → Prop} {k : Nat} (e : k' = Turn c I k) (h : I k es) : Cont c k' es := e ▸ c_turn h
end
end My
set_option Elab.async false
set_option linter.all false
set_option maxRecDepth 100000
set_option maxHeartbeats 2000000
/-! Hands as lists of one's own, what is caught. -/
namespace My
open PySem PySem.Spec PyProof.Rows L2
open Evl (Ex)
section
variable {c : Fr} {es es' : List Sv} {te ta tb tx : TE} {tt : TT} {t u w : TS} {ts : TA} {d x y : Dt} {ds : List Dt} {φ ψ χ : Dt → Prop} {i j : Int} {b : Bool} {D : Ends} {n m : Nat}
theorem eb_yes : EBd c tYes es true := fun σ P H r Q q => q true P H rfl r Kp.refl
theorem c_own {k : L2.St → Hp → Prop} {n : Nat} {l : Addr} (hn : es[n]? = some (.hand l)) (h : ∀ ds, HandOk ds → Cont c k (es.set n (.own l ds))) : Cont c k es := fun σ P H r => by
  have key : ∀ {σ : L2.St} {es : List Sv} {n : Nat}, Sl c P H σ es → es[n]? = some (.hand l) → ∃ ds, HandOk ds ∧ Sl c P H σ (es.set n (.own l ds)) ∧ owns (es.set n (.own l ds)) = owns es := by
    intro σ es n s
    induction s generalizing n with
    | nil => intro e; simp at e
    | no s ih =>
      intro e
      cases n with
      | zero => simp at e
      | succ n =>
        obtain ⟨ds, k, a, b⟩ := ih (n := n) (by simpa using e)
        exact ⟨ds, k, .no a, b⟩
    | dat z s ih =>
      intro e
      cases n with
      | zero => simp at e
      | succ n =>
        obtain ⟨ds, k, a, b⟩ := ih (n := n) (by simpa using e)
        exact ⟨ds, k, .dat z a, b⟩
    | own z s ih =>
      intro e
      cases n with
      | zero => simp at e
      | succ n =>
        obtain ⟨ds, k, a, b⟩ := ih (n := n) (by simpa using e)
        exact ⟨ds, k, .own z a, congrArg (List.cons _) b⟩
    | hand z s ih =>
      intro e
      cases n with
      | zero =>
        have e1 := Sv.hand.inj (Option.some.inj e)
        subst e1
        obtain ⟨ds, k, z⟩ := z
        exact ⟨ds, k, .own z s, rfl⟩
      | succ n =>
        obtain ⟨ds, k, a, b⟩ := ih (n := n) (by simpa using e)
        exact ⟨ds, k, .hand z a, congrArg (List.cons _) b⟩
    | @gen l' ins φ σ es z s ih =>
      intro e
      cases n with
      | zero => simp at e
      | succ n =>
        obtain ⟨ds, k, a, b⟩ := ih (n := n) (by simpa using e)
        exact ⟨ds, k, .gen z a, congrArg ((l' :: ins) ++ ·) b⟩
  obtain ⟨ds, k, s, ow⟩ := key r.sl hn
  exact h ds k σ P H ⟨r.b, r.old, r.dom, r.ex, r.fr, s, by rw [ow]; exact r.nd⟩
theorem c_retH {a : Addr} {hs : List Dt} (h : EV c te es φ) (k : RetH c a D.rt φ) (hm : c.mu = [a]) (e : es[n]? = some (.own a hs)) (ho : HandOk hs) : Cont c (tRet te D) es := fun σ P H r =>
  h σ P H r _ fun v P1 H1 d hd r1 e1 hv => k.of hm hd r1 e ho hv
theorem s_set {l : Addr} {j : Nat} (h0 : es[n]? = some (.own l ds)) (h : EV c te es φ) (hj : ED c tb es (.int (j : Int))) (hl : j < ds.length) (k : ∀ d, φ d → Cont c (u D) (es.set n (.own l (ds.set j d)))) :
    Cont c (tSeq (tAsg te (gSub (tVar n) tb rSetL)) u D) es := c_seq (c_set h0 h hj hl k)
/-! what is caught -/
theorem pairs_one {f : Str} {fs : List (Str × V)} (h : fs.map (·.1) = [f]) : ∃ v, fs = [(f, v)] := by
  match fs, h with
  | [(_, v)], h =>
    have e := (List.cons.inj h).1
    exact ⟨v, by rw [← e]⟩
  | [], h => cases h
  | _ :: _ :: _, h => cases h
section
variable {R : List Dt → Out → Prop} {C : Addr} {f : Str} {i : Nat} {Wout : WX}
theorem x_suite {a : Addr} {P H : Hp} {σ : L2.St} {dx : Addr} {v : V} (hi : i < es.length) (r : Rep c P H σ es) (hx : H dx = some (.xd [(f, v)])) (hv : Has c.K P v d) (k : Cont c D.nx (((es.set i .no).set n (.dat d)).set i .no)) :
    tAsg (tXf a (.ref C) (some dx) C f (tVar i)) (gName n) { nx := fun σ' H' => D.nx (σ'.set i none) H', rt := D.rt, bk := fun σ' H' => D.bk (σ'.set i none) H', ct := fun σ' H' => D.ct (σ'.set i none) H' } (σ.set i (some (.ref a))) H := by
  refine ⟨.ref a, ?_, rfl, rfl, dx, _, v, rfl, hx, ?_, ?_⟩
  · rw [List.getElem?_set_self (by rw [r.sl.len]; exact hi)]
  · show ([(f, v)] : List (Str × V)).lookup f = some v
    rw [List.lookup_cons, beq_self_eq_true]
  · exact k _ P H (((r.drop i).put n hv).drop i)
theorem c_tryD (h : EDs c ts es ds) (hi : i < es.length) (hm : PySem.W.exmOne c.K (.ref C) (.ref C) = some true) (hR : ∃ o, R ds o) (hok : ∀ d, R ds (.ok d) → Cont c D.nx es)
    (hex : ∀ C' ns fd, R ds (.ex C' ns fd) → C' = C ∧ ns = [f] ∧ ∃ d, fd = [d] ∧ Cont c D.nx (((es.set i .no).set n (.dat d)).set i .no)) :
    Cont c ((fun D σ H => (fun W => tDrop (tCallS (spX c.K R) (WE W) ts)) (wAs c.K (.ref C) i (fun a cls d => tAsg (tXf a cls d C f (tVar i)) (gName n)) Wout D) D σ H) D) es := fun σ P H r =>
  h σ P H r _ fun vs P1 H1 l hl r1 e1 h1 => by
    subst hl
    refine ⟨P1, l, r1.ex, h1, hR, fun v P2 H2 d hr g hv => hok d hr _ P2 H2 (r1.step g), fun dx P2 H2 C' fs fd hr g h0 hP hx hf => ?_⟩
    obtain ⟨rfl, hn, d, rfl, k⟩ := hex _ _ _ hr
    obtain ⟨v, rfl⟩ := pairs_one hn
    cases hf with
    | cons hv _ => exact ⟨true, hm, fun _ a ha => x_suite hi (r1.step g) hx hv k, fun z => by cases z⟩
theorem c_tryA (h : EDs c ts es ds) (hi : i < es.length) (hm : PySem.W.exmOne c.K (.ref C) (.ref C) = some true) (hR : ∃ o, R ds o) (hok : ∀ d, R ds (.ok d) → Cont c D.nx (es.set m (.dat d)))
    (hex : ∀ C' ns fd, R ds (.ex C' ns fd) → C' = C ∧ ns = [f] ∧ ∃ d, fd = [d] ∧ Cont c D.nx (((es.set i .no).set n (.dat d)).set i .no)) :
    Cont c ((fun D σ H => (fun W => tAsg (tCallS (spX c.K R) (WE W) ts) (gName m)) (wAs c.K (.ref C) i (fun a cls d => tAsg (tXf a cls d C f (tVar i)) (gName n)) Wout D) D σ H) D) es := fun σ P H r =>
  h σ P H r _ fun vs P1 H1 l hl r1 e1 h1 => by
    subst hl
    refine ⟨P1, l, r1.ex, h1, hR, fun v P2 H2 d hr g hv => hok d hr _ P2 H2 ((r1.step g).put m hv), fun dx P2 H2 C' fs fd hr g h0 hP hx hf => ?_⟩
    obtain ⟨rfl, hn, d, rfl, k⟩ := hex _ _ _ hr
    obtain ⟨v, rfl⟩ := pairs_one hn
    cases hf with
    | cons hv _ => exact ⟨true, hm, fun _ a ha => x_suite hi (r1.step g) hx hv k, fun z => by cases z⟩
end
end
end My
set_option Elab.async false
set_option linter.all false
set_option maxRecDepth 100000
set_option maxHeartbeats 2000000
/-! What is known of drawn numbers. -/
namespace My
open PySem PySem.Spec PyProof.Rows L2
open Evl (Ex)
section
variable {c : Fr} {es es' : List Sv} {te ta tb tx : TE} {tt tu : TT} {t u w : TS} {ts : TA} {d x y : Dt} {ds : List Dt} {φ ψ χ : Dt → Prop} {i j : Int} {b : Bool} {D : Ends} {n m : Nat} {α β : Int → Prop}
theorem c_rng1V {I : Int → Nat → List Sv → Prop} (h : EV c ta es (IsI α)) (hb : ∀ i, α i → 0 ≤ i ∧ i ≤ 1000000) (h0 : ∀ i, α i → I i 0 es)
    (hs : ∀ i, α i → ∀ (k : Nat) es, (k : Int) < i → I i k es → Cont c (u { D with nx := Turn c (I i) (k + 1), ct := Turn c (I i) (k + 1), bk := D.nx }) (es.set n (.dat (.int k)))) (hd : ∀ i, α i → ∀ es, I i i.toNat es → Cont c D.nx es) :
    Cont c (tFor (iRng1 (tCons ta tNil)) (gName n) u D) es := fun σ P H r =>
  h σ P H r _ fun v P1 H1 z ⟨i, hz, hα⟩ r1 e1 h1 => by
    subst hz
    cases h1
    have hb := hb i hα
    refine ⟨i, rfl, by omega, by omega, for_range (lo := 0) (n := i.toNat) (fun k => Turn c (I i) k) ⟨P1, es, h0 i hα, r1⟩ (fun k σ H hk ⟨P, es, hI, r⟩ => ?_) fun σ H ⟨P, es, hI, r⟩ => hd i hα es hI _ P H r⟩
    have e0 : (0 : Int) + (k : Int) = (k : Int) := Int.zero_add _
    rw [e0]
    exact hs i hα k es (by omega) hI _ P H (r.put n (.int _))
theorem ev_ixT {l : List Dt} (ha : ED c ta es (.tup l)) (hb : EV c tb es (IsI α)) (h : ∀ z, α z → ∃ d, atI l z = some d ∧ φ d) : EV c (tOp (rIx c.K) ta tb) es φ :=
  ev_op ha hb fun x y e ⟨z, ez, az⟩ => by
    subst e ez
    obtain ⟨d, e1, hd⟩ := h z az
    exact fun v u P H ex hv hu Q q => rd_ixT e1 v u P H ex hv hu Q fun w P' H' k hk => q w P' H' k (by rw [hk]; exact hd)
theorem c_ifV {ρ : Bool → Prop} (h : EB c tt es ρ) (h1 : ρ true → Cont c (t D) es) (h2 : ρ false → Cont c (u D) es) : Cont c (tIfS tt t u D) es := fun σ P H r =>
  h σ P H r _ fun a P1 H1 z r1 e1 => by
    cases a with
    | true => exact iteT (h1 z _ P1 H1 r1)
    | false => exact iteF (h2 z _ P1 H1 r1)
theorem eb_andV {ρ : Bool → Prop} (ha : EBd c tt es b) (hb : b = true → EB c tu es ρ) : EB c (tAnd tt tu) es (fun r => r = true → b = true) := fun σ P H r Q q =>
  ha σ P H r _ fun a P1 H1 z r1 e1 => by
    subst z
    cases a with
    | true => exact iteT (hb rfl σ P1 H1 r1 Q fun w P2 H2 z r2 e2 => q w P2 H2 (fun _ => rfl) r2 (e1.trans e2))
    | false => exact iteF (q _ P1 H1 (fun z => by cases z) r1 e1)
theorem eb_eqV (ha : EV c ta es (IsI α)) (hb : EV c tb es (IsI β)) : EB c (tTest (tOp (rEqD c.K) ta tb)) es (fun _ => True) := fun σ P H r Q q =>
  (ev_op (χ := fun d => ∃ b, d = .bl b) ha hb fun x y ⟨i, ei, _⟩ ⟨j, ej, _⟩ => by
    subst ei ej
    exact fun v u P H ex hv hu Q q => rd_eq (x := .int i) (y := .int j) rfl rfl v u P H ex hv hu Q fun w P' H' k hk => q w P' H' k ⟨_, hk⟩) σ P H r _ fun v P1 H1 d ⟨b, e⟩ r1 e1 h1 => by
    subst e
    cases h1
    exact ⟨b, rfl, q b P1 H1 trivial r1 e1⟩
theorem s_ifV {ρ : Bool → Prop} (h : EB c tt es ρ) (h1 : ρ true → Cont c (t { D with nx := u D }) es) (h2 : ρ false → Cont c (w { D with nx := u D }) es) : Cont c (tSeq (tIfS tt t w) u D) es := c_seq (c_ifV h h1 h2)
theorem ed_lst (hm : c.mu = []) (h : EDs c ts es ds) (hl : ds.length ≤ 100000) : ED c (tLst ts) es (.lst ds) :=
  EV.imp (ev_give hm (eo_lst h fun l e => by rw [e]; exact hl)) fun z ⟨l, e1, e2⟩ => by rw [e1, e2]
theorem atI_ex {l : List Dt} (h1 : -(l.length : Int) ≤ i) (h2 : i < l.length) : ∃ d, d ∈ l ∧ atI l i = some d := by
  unfold atI ixN
  by_cases h : 0 ≤ i
  · rw [if_pos h, if_pos h2]
    have : i.toNat < l.length := by omega
    exact ⟨l[i.toNat], List.getElem_mem this, List.getElem?_eq_getElem this⟩
  · rw [if_neg h, if_pos h1]
    have : (i + l.length).toNat < l.length := by omega
    exact ⟨l[(i + l.length).toNat], List.getElem_mem this, List.getElem?_eq_getElem this⟩
theorem ed_notBd {b b' : Bool} (ha : ED c ta es (.bl b)) (h : b = b') : EBd c (tTest (tOp rNotB ta (tC (.bl b')))) es false :=
  EBd.is (eb_test (ed_notB ha ed_bl)) (by rw [decide_eq_true h] <;> rfl)
theorem ed_isBd {b b' : Bool} (ha : ED c ta es (.bl b)) (h : b = b') : ED c (tOp rIsB ta (tC (.bl b'))) es (.bl true) :=
  ED.is (ed_isB ha ed_bl) (by rw [decide_eq_true h] <;> rfl)
end
end My
set_option Elab.async false
set_option linter.all false
set_option maxRecDepth 100000
set_option maxHeartbeats 2000000
/-! What the head looks up of an error's class. -/
namespace My
open PySem PySem.Spec PyProof.Rows L2
def mroB (C : Addr) : List Value → Bool
  | .ref C' :: bm => decide (C' = C) && PySem.HandSPX.refsVE bm
  | _ => false
def slB : List (Option Value) → Bool
  | [_, _, _, _, k4, _] => decide (k4 = some (.builtin "ValueError.__new__"))
  | _ => false
def oexO (C : Addr) (o : Obj) : Bool := match o.cls with
  | .type c => decide (c = "type") && (match o.data with
    | .cls cd => cd.hasDict && (!cd.hasDel && (mroB C cd.mro && slB o.slots.toList))
    | _ => false)
  | _ => false
def oexB (K : PySem.W.Frag) (C : Addr) : Bool := (match K.lookup C with
  | some o => oexO C o
  | none => false) && (decide (PySem.W.findIn K (.ref C) "__setattr__" = some (some (.builtin "object.__setattr__"))) && (decide (PySem.W.subIn K (.ref C) (.type "BaseException") = some true) && (decide (PySem.W.typeIn K (.ref C) = some (.type "type")) && PySem.W.keepIn K (.ref C))))
theorem oexO_ok {C : Addr} {o : Obj} (h : oexO C o = true) : ∃ nm q N bs bm sn sub ab col dd k0 k1 k2 k3 k5, o = excClassObj nm q C N bs bm true sn sub ab col dd k0 k1 k2 k3 k5 "ValueError.__new__" ∧ PySem.HandSPX.refsVE bm = true := by
  obtain ⟨oc, od, dt, ⟨sl⟩⟩ := o
  cases oc with
  | type c =>
    cases dt with
    | cls cd =>
      obtain ⟨nm, bs, mro, ns, q, hd, sn, sub, ab, col, del⟩ := cd
      obtain ⟨h1, h⟩ := He.ba (show (decide (c = "type") && (hd && (!del && (mroB C mro && slB sl)))) = true from h)
      obtain ⟨h2, h⟩ := He.ba h
      obtain ⟨h3, h⟩ := He.ba h
      obtain ⟨h4, h5⟩ := He.ba h
      have h1 := of_decide_eq_true h1
      subst h1 h2
      cases del with
      | true => cases h3
      | false =>
        cases mro with
        | nil => cases h4
        | cons m bm =>
          cases m with
          | ref C' =>
            obtain ⟨h6, h7⟩ := He.ba (show (decide (C' = C) && PySem.HandSPX.refsVE bm) = true from h4)
            have h6 := of_decide_eq_true h6
            subst h6
            match sl, h5 with
            | [k0, k1, k2, k3, k4, k5], h5 =>
              have h5 : k4 = some (.builtin "ValueError.__new__") := of_decide_eq_true h5
              subst h5
              exact ⟨nm, q, ns, bs, bm, sn, sub, ab, col, od, k0, k1, k2, k3, k5, rfl, h7⟩
          | _ => cases h4
    | _ => cases (He.ba (show (decide (c = "type") && false) = true from h)).2
  | _ => cases h
theorem oexB_ok {K : PySem.W.Frag} {C : Addr} (h : oexB K C = true) : OexC K C := by
  obtain ⟨h1, h⟩ := He.ba h
  obtain ⟨h2, h⟩ := He.ba h
  obtain ⟨h3, h⟩ := He.ba h
  obtain ⟨h4, h5⟩ := He.ba h
  refine ⟨?_, of_decide_eq_true h2, of_decide_eq_true h3, of_decide_eq_true h4, h5⟩
  cases e : K.lookup C with
  | none => rw [e] at h1; cases h1
  | some o =>
    rw [e] at h1
    obtain ⟨nm, q, N, bs, bm, sn, sub, ab, col, dd, k0, k1, k2, k3, k5, rfl, hb⟩ := oexO_ok h1
    exact ⟨nm, q, N, bs, bm, sn, sub, ab, col, dd, k0, k1, k2, k3, k5, rfl, hb⟩
end My
set_option Elab.async false
set_option linter.all false
set_option maxRecDepth 100000
set_option maxHeartbeats 4000000
/-! What most laws share: ratios.py, the draws, small words. -/
namespace Lw
open PySem PySem.Spec PyProof.Rows L2 My
local macro_rules | `(tactic| walk_at "ed") => `(tactic| first
  | exact ed_int | exact ed_bl | exact ed_str | exact ed_non
  | exact ed_var rfl
  | (apply ed_I0; (focus walk_at "ed"); (focus walk_at "ed"))
  | (apply ed_B0; (focus walk_at "ed"); (focus walk_at "ed"))
  | (apply ed_neg; (focus walk_at "ed"))
  | (apply ed_ixT; (focus walk_at "ed"); (focus walk_at "ed"); (focus rfl))
  | (apply ed_ixL; (focus walk_at "ed"); (focus walk_at "ed"); (focus rfl))
  | (apply ed_ixO; (focus rfl); (focus walk_at "ed"); (focus rfl))
  | (apply ed_len; (focus walk_at "ed"); (focus rfl))
  | (apply ed_lenO; (focus rfl))
  | (apply ed_tup; (focus walk_at "ed"); (focus (simp only [List.length_cons, List.length_nil]; decide)))
  | (apply ed_eq; (focus walk_at "ed"); (focus walk_at "ed"); (focus rfl); (focus rfl))
  | (apply ed_ne; (focus walk_at "ed"); (focus walk_at "ed"); (focus rfl); (focus rfl))
  | (apply ed_isN; (focus walk_at "ed"))
  | (apply ed_notN; (focus walk_at "ed"))
  | (apply ed_isB; (focus walk_at "ed"); (focus walk_at "ed"))
  | (apply ed_notB; (focus walk_at "ed"); (focus walk_at "ed"))
  | (apply ed_isi; (focus walk_at "ed"); (focus first | rfl | assumption); (focus decide +kernel))
  | (apply ed_isi2; (focus walk_at "ed"); (focus first | rfl | assumption); (focus decide +kernel); (focus decide +kernel))
  | (apply ed_not; (focus walk_at "ed"))
  | (apply ed_int1; (focus walk_at "ed"))
  | (apply ed_abs; (focus walk_at "ed"))
  | (apply ed_gcd; (focus walk_at "ed"); (focus walk_at "ed"))
  | exact es_nil
  | (apply es_cons; (focus walk_at "ed"); (focus walk_at "ed"))
  | (apply eb_test; (focus walk_at "ed"))
  | (apply eb_B; (focus walk_at "ed"))
  | (apply eb_not; (focus walk_at "ed")))
/-! ### promises -/
def Lim (d : Dt) : Prop := d = .non ∨ ∃ l, d = .int l
def lowOk : Dt → Int → Bool
  | .int l, i => decide (l ≤ i)
  | _, _ => true
def highOk : Dt → Int → Bool
  | .int h, i => decide (i ≤ h)
  | _, _ => true
def wholeB (x lo hi : Dt) : Bool := match x with
  | .int i => lowOk lo i && highOk hi i
  | _ => false
def Kin (d : Dt) : Prop := (tyD d).isSome = true
def R_is_whole (ds : List Dt) (d : Dt) : Prop := ∃ x lo hi, ds = [x, lo, hi] ∧ Kin x ∧ Lim lo ∧ Lim hi ∧ d = .bl (wholeB x lo hi)
def sp_is_whole (K : PySem.W.Frag) : Sp := spD K R_is_whole
def ratioB : Dt → Bool
  | .tup [.int a, .int b] => decide (1 ≤ b) && decide (Nat.gcd a.natAbs b.natAbs = 1)
  | _ => false
def Kins (x : Dt) : Prop := Kin x ∧ (∀ l, x = .tup l → ∀ y ∈ l, Kin y) ∧ ∀ l, x ≠ .tupN l
def R_is_ratio (ds : List Dt) (d : Dt) : Prop := ∃ x, ds = [x] ∧ Kins x ∧ d = .bl (ratioB x)
def sp_is_ratio (K : PySem.W.Frag) : Sp := spD K R_is_ratio
def R_lowest (ds : List Dt) (d : Dt) : Prop := ∃ a b : Int, ds = [.int a, .int b] ∧ b ≠ 0 ∧ Sz 5000 a ∧ Sz 5000 b ∧ d = ratD (Rat.divInt a b)
def sp_u_lowest (K : PySem.W.Frag) : Sp := spD K R_lowest
def SzD (x : Dt) : Prop := ∀ a, x = .int a → Sz 5000 a
def makeO (C : Addr) (x y : Dt) : Out := match x with
  | .int a => (match y with
    | .int b => if b = 0 then .ex C ["what"] [.str "bottom"] else .ok (ratD (Rat.divInt a b))
    | _ => .ex C ["what"] [.str "bottom"])
  | _ => .ex C ["what"] [.str "top"]
def R_make_ratio (C : Addr) (ds : List Dt) (o : Out) : Prop := ∃ x y, ds = [x, y] ∧ Kin x ∧ Kin y ∧ SzD x ∧ SzD y ∧ o = makeO C x y
def sp_make_ratio (K : PySem.W.Frag) : Sp := spX K (R_make_ratio (He.ga K "BadRatio"))
def R_two (f : Rat → Rat → Dt) (ds : List Dt) (d : Dt) : Prop := ∃ p q, ds = [ratD p, ratD q] ∧ SzR 2000 p ∧ SzR 2000 q ∧ d = f p q
def sp_plus (K : PySem.W.Frag) : Sp := spD K (R_two fun p q => ratD (p + q))
def sp_minus (K : PySem.W.Frag) : Sp := spD K (R_two fun p q => ratD (p - q))
def sp_times (K : PySem.W.Frag) : Sp := spD K (R_two fun p q => ratD (p * q))
def overO (C : Addr) (p q : Rat) : Out := if q.num = 0 then .ex C ["what"] [.str "zero"] else .ok (ratD (Rat.divInt (p.num * q.den) (p.den * q.num)))
def R_over (C : Addr) (ds : List Dt) (o : Out) : Prop := ∃ p q, ds = [ratD p, ratD q] ∧ SzR 2000 p ∧ SzR 2000 q ∧ o = overO C p q
def sp_over (K : PySem.W.Frag) : Sp := spX K (R_over (He.ga K "BadRatio"))
def R_negative (ds : List Dt) (d : Dt) : Prop := ∃ p, ds = [ratD p] ∧ d = ratD (-p)
def sp_negative (K : PySem.W.Frag) : Sp := spD K R_negative
def cmpI (p q : Rat) : Int := if p.num * q.den < q.num * p.den then -1 else if q.num * p.den < p.num * q.den then 1 else 0
def sp_compare (K : PySem.W.Frag) : Sp := spD K (R_two fun p q => .int (cmpI p q))
def R_sum_of (ds : List Dt) (d : Dt) : Prop := ∃ (x : Dt) (l : List Rat), ds = [x] ∧ itemsD x = some (l.map ratD) ∧ l.length ≤ 10 ∧ (∀ q ∈ l, SzR 100 q) ∧ d = ratD (l.foldl (· + ·) 0)
def sp_sum_of (K : PySem.W.Frag) : Sp := spD K R_sum_of
def lessR (p q : Rat) : Bool := decide (p.num * q.den < q.num * p.den)
def leastR (p : Rat) (l : List Rat) : Rat := l.foldl (fun b q => if lessR q b then q else b) p
def greatR (p : Rat) (l : List Rat) : Rat := l.foldl (fun b q => if lessR b q then q else b) p
def R_pick (f : Rat → List Rat → Rat) (ds : List Dt) (d : Dt) : Prop := ∃ (x : Dt) (p : Rat) (l : List Rat), ds = [x] ∧ itemsD x = some ((p :: l).map ratD) ∧ (∀ q ∈ p :: l, SzR 100 q) ∧ (p :: l).length ≤ 10 ∧ d = ratD (f p (p :: l))
def sp_least_of (K : PySem.W.Frag) : Sp := spD K (R_pick leastR)
def sp_greatest_of (K : PySem.W.Frag) : Sp := spD K (R_pick greatR)
def R_floor_of (ds : List Dt) (d : Dt) : Prop := ∃ q, ds = [ratD q] ∧ SzR 2000 q ∧ d = .int (q.num / q.den)
def sp_floor_of (K : PySem.W.Frag) : Sp := spD K R_floor_of
def R_broken_of (ds : List Dt) (d : Dt) : Prop := ∃ q, ds = [ratD q] ∧ d = .tup [.int (q.num % q.den), .int q.den]
def sp_broken_of (K : PySem.W.Frag) : Sp := spD K R_broken_of
def ratText (q : Rat) : Str := if (q.den : Int) = 1 then toString q.num else (toString q.num ++ "/") ++ toString (q.den : Int)
def R_ratio_text (ds : List Dt) (d : Dt) : Prop := ∃ q, ds = [ratD q] ∧ SzR 1900 q ∧ d = .str (ratText q)
def sp_ratio_text (K : PySem.W.Frag) : Sp := spD K R_ratio_text
/-! the law's own -/
def R_mix (ds : List Dt) (d : Dt) : Prop := ∃ n t : Int, ds = [.int n, .int t] ∧ 0 ≤ n ∧ n < 2147483648 ∧ 0 ≤ t ∧ t < 1000 ∧ ∃ z : Int, 0 ≤ z ∧ d = .int z
def sp_u_law_mix (K : PySem.W.Frag) : Sp := spD K R_mix
def R_hand (ds : List Dt) (l : List Dt) : Prop := ∃ ns : List Int, ds = [.lst (ns.map Dt.int)] ∧ ns.length ≤ 63 ∧ HandOk l
def sp_u_law_hand (K : PySem.W.Frag) : Sp := spO K R_hand
def R_draw (ds : List Dt) (d : Dt) : Prop := ∃ m : Int, ds = [.int m] ∧ 0 < m ∧ m < 2 ^ 64 ∧ ∃ z : Int, 0 ≤ z ∧ z < m ∧ d = .int z
def sp_u_law_draw (K : PySem.W.Frag) : Sp := spH K R_draw
def isIntB : Dt → Bool
  | .int _ => true
  | _ => false
def t_is_whole (K : PySem.W.Frag) : TS :=
  (tSeq (tIfS (tOr (tNot (tB (tCB (rIsi K) (tCons (tVar 0) (tCons (tC (.ty "int")) tNil))))) (tB (tCB (rIsi K) (tCons (tVar 0) (tCons (tC (.ty "bool")) tNil))))) (tRet (tC (.bl false))) tNext)
    (tSeq (tIfS (tAnd (tTest (tOp (fun x y H Q => y = .non ∧ Q (.bl (!decide (x = .non))) H) (tVar 1) (tC .non))) (tTest (tOp (rI0 fun i j => .bl (decide (i < j))) (tVar 0) (tVar 1)))) (tRet (tC (.bl false))) tNext)
    (tRet (tOrV (tOp (fun x y H Q => y = .non ∧ Q (.bl (decide (x = .non))) H) (tVar 2) (tC .non)) (tOp (rI0 fun i j => .bl (decide (i ≤ j))) (tVar 0) (tVar 2))))))
def t_is_ratio (K : PySem.W.Frag) : TS :=
  (tSeq (tIfS (tOr (tNot (tB (tCB (rIsi K) (tCons (tVar 0) (tCons (tC (.ty "tuple")) tNil))))) (tTest (tOp (rNeD K) (tCB (Evl.rLenS K) (tCons (tVar 0) tNil)) (tC (.int 2))))) (tRet (tC (.bl false))) tNext)
    (tSeq (tAsg (tVar 0) (gTup K 2 (gCons (gName 1) (gCons (gName 2) gNil))))
    (tRet (tAndV (tCall (sp_is_whole K) [.non, .non] E0 (tCons (tVar 1) tNil)) (tAndV (tCall (sp_is_whole K) [.non] E0 (tCons (tVar 2) (tCons (tC (.int 1)) tNil))) (tOp (rEqD K) (tCB rGcd (tCons (tVar 1) (tCons (tVar 2) tNil))) (tC (.int 1))))))))
def t_u_lowest (K : PySem.W.Frag) : TS :=
  (tSeq (tAsg (tCB rGcd (tCons (tVar 0) (tCons (tVar 1) tNil))) (gName 2))
    (tSeq (tIfS (tTest (tOp (rI0 fun i j => .bl (decide (i < j))) (tVar 1) (tC (.int 0)))) (tAsg (tUn (rU fun i => .int (-i)) (tVar 2)) (gName 2)) tNext)
    (tRet (tTup (tCons (tOp (rI CDivA fun i j => .int (i.fdiv j)) (tVar 0) (tVar 2)) (tCons (tOp (rI CDivA fun i j => .int (i.fdiv j)) (tVar 1) (tVar 2)) tNil))))))
def t_make_ratio (K : PySem.W.Frag) (E : XK) : TS :=
  (tSeq (tIfS (tNot (tB (tCall (sp_is_whole K) [.non, .non] E0 (tCons (tVar 0) tNil)))) (fun (_ : Ends) σ H => tMkO (He.ga K "BadRatio") (spIni1 K (He.ga K "BadRatio") "what") [] (tCons (tC (.str "top")) tNil) σ H fun cls d H2 => E cls d H2) tNext)
    (tSeq (tIfS (tOr (tNot (tB (tCall (sp_is_whole K) [.non, .non] E0 (tCons (tVar 1) tNil)))) (tTest (tOp (rEqD K) (tVar 1) (tC (.int 0))))) (fun (_ : Ends) σ H => tMkO (He.ga K "BadRatio") (spIni1 K (He.ga K "BadRatio") "what") [] (tCons (tC (.str "bottom")) tNil) σ H fun cls d H2 => E cls d H2) tNext)
    (tRet (tCall (sp_u_lowest K) [] E0 (tCons (tVar 0) (tCons (tVar 1) tNil))))))
def t_plus (K : PySem.W.Frag) : TS :=
  (tRet (tCall (sp_u_lowest K) [] E0 (tCons (tOp (rI0 fun i j => .int (i + j)) (tOp (rI CMulW fun i j => .int (i * j)) (tOp (rIx K) (tVar 0) (tC (.int 0))) (tOp (rIx K) (tVar 1) (tC (.int 1)))) (tOp (rI CMulW fun i j => .int (i * j)) (tOp (rIx K) (tVar 1) (tC (.int 0))) (tOp (rIx K) (tVar 0) (tC (.int 1))))) (tCons (tOp (rI CMulW fun i j => .int (i * j)) (tOp (rIx K) (tVar 0) (tC (.int 1))) (tOp (rIx K) (tVar 1) (tC (.int 1)))) tNil))))
def t_minus (K : PySem.W.Frag) : TS :=
  (tRet (tCall (sp_u_lowest K) [] E0 (tCons (tOp (rI0 fun i j => .int (i - j)) (tOp (rI CMulW fun i j => .int (i * j)) (tOp (rIx K) (tVar 0) (tC (.int 0))) (tOp (rIx K) (tVar 1) (tC (.int 1)))) (tOp (rI CMulW fun i j => .int (i * j)) (tOp (rIx K) (tVar 1) (tC (.int 0))) (tOp (rIx K) (tVar 0) (tC (.int 1))))) (tCons (tOp (rI CMulW fun i j => .int (i * j)) (tOp (rIx K) (tVar 0) (tC (.int 1))) (tOp (rIx K) (tVar 1) (tC (.int 1)))) tNil))))
def t_times (K : PySem.W.Frag) : TS :=
  (tRet (tCall (sp_u_lowest K) [] E0 (tCons (tOp (rI CMulW fun i j => .int (i * j)) (tOp (rIx K) (tVar 0) (tC (.int 0))) (tOp (rIx K) (tVar 1) (tC (.int 0)))) (tCons (tOp (rI CMulW fun i j => .int (i * j)) (tOp (rIx K) (tVar 0) (tC (.int 1))) (tOp (rIx K) (tVar 1) (tC (.int 1)))) tNil))))
def t_over (K : PySem.W.Frag) (E : XK) : TS :=
  (tSeq (tIfS (tTest (tOp (rEqD K) (tOp (rIx K) (tVar 1) (tC (.int 0))) (tC (.int 0)))) (fun (_ : Ends) σ H => tMkO (He.ga K "BadRatio") (spIni1 K (He.ga K "BadRatio") "what") [] (tCons (tC (.str "zero")) tNil) σ H fun cls d H2 => E cls d H2) tNext)
    (tRet (tCall (sp_u_lowest K) [] E0 (tCons (tOp (rI CMulW fun i j => .int (i * j)) (tOp (rIx K) (tVar 0) (tC (.int 0))) (tOp (rIx K) (tVar 1) (tC (.int 1)))) (tCons (tOp (rI CMulW fun i j => .int (i * j)) (tOp (rIx K) (tVar 0) (tC (.int 1))) (tOp (rIx K) (tVar 1) (tC (.int 0)))) tNil)))))
def t_negative (K : PySem.W.Frag) : TS :=
  (tRet (tTup (tCons (tUn (rU fun i => .int (-i)) (tOp (rIx K) (tVar 0) (tC (.int 0)))) (tCons (tOp (rIx K) (tVar 0) (tC (.int 1))) tNil))))
def t_compare (K : PySem.W.Frag) : TS :=
  (tSeq (tAsg (tOp (rI CMulW fun i j => .int (i * j)) (tOp (rIx K) (tVar 0) (tC (.int 0))) (tOp (rIx K) (tVar 1) (tC (.int 1)))) (gName 2))
    (tSeq (tAsg (tOp (rI CMulW fun i j => .int (i * j)) (tOp (rIx K) (tVar 1) (tC (.int 0))) (tOp (rIx K) (tVar 0) (tC (.int 1)))) (gName 3))
    (tSeq (tIfS (tTest (tOp (rI0 fun i j => .bl (decide (i < j))) (tVar 2) (tVar 3))) (tRet (tUn (rU fun i => .int (-i)) (tC (.int 1)))) tNext)
    (tSeq (tIfS (tTest (tOp (rI0 fun i j => .bl (decide (j < i))) (tVar 2) (tVar 3))) (tRet (tC (.int 1))) tNext)
    (tRet (tC (.int 0)))))))
def t_sum_of (K : PySem.W.Frag) : TS :=
  (tSeq (tAsg (tC (.ref (He.ga K "ZERO"))) (gName 1))
    (tSeq (tFor (iSeq K (tVar 0)) (gName 2) (tAsg (tCall (sp_plus K) [] E0 (tCons (tVar 1) (tCons (tVar 2) tNil))) (gName 1)))
    (tRet (tVar 1))))
def t_least_of (K : PySem.W.Frag) : TS :=
  (tSeq (tAsg (tOp (rIx K) (tVar 0) (tC (.int 0))) (gName 1))
    (tSeq (tFor (iSeq K (tVar 0)) (gName 2) (tIfS (tTest (tOp (rI0 fun i j => .bl (decide (i < j))) (tCall (sp_compare K) [] E0 (tCons (tVar 2) (tCons (tVar 1) tNil))) (tC (.int 0)))) (tAsg (tVar 2) (gName 1)) tNext))
    (tRet (tVar 1))))
def t_greatest_of (K : PySem.W.Frag) : TS :=
  (tSeq (tAsg (tOp (rIx K) (tVar 0) (tC (.int 0))) (gName 1))
    (tSeq (tFor (iSeq K (tVar 0)) (gName 2) (tIfS (tTest (tOp (rI0 fun i j => .bl (decide (j < i))) (tCall (sp_compare K) [] E0 (tCons (tVar 2) (tCons (tVar 1) tNil))) (tC (.int 0)))) (tAsg (tVar 2) (gName 1)) tNext))
    (tRet (tVar 1))))
def t_floor_of (K : PySem.W.Frag) : TS :=
  (tRet (tOp (rI CDivA fun i j => .int (i.fdiv j)) (tOp (rIx K) (tVar 0) (tC (.int 0))) (tOp (rIx K) (tVar 0) (tC (.int 1)))))
def t_broken_of (K : PySem.W.Frag) : TS :=
  (tRet (tTup (tCons (tOp (rI (fun _ j => 0 < j) fun i j => .int (i % j)) (tOp (rIx K) (tVar 0) (tC (.int 0))) (tOp (rIx K) (tVar 0) (tC (.int 1)))) (tCons (tOp (rIx K) (tVar 0) (tC (.int 1))) tNil))))
def t_ratio_text (K : PySem.W.Frag) : TS :=
  (tSeq (tIfS (tTest (tOp (rEqD K) (tOp (rIx K) (tVar 0) (tC (.int 1))) (tC (.int 1)))) (tRet (tCB (fun xs H Q => ∃ i, xs = [.int i] ∧ i.natAbs.log2 < 1920 ∧ Q (.str (toString i)) H) (tCons (tOp (rIx K) (tVar 0) (tC (.int 0))) tNil))) tNext)
    (tRet (tJoin [(tFmt (tOp (rIx K) (tVar 0) (tC (.int 0)))), (tC (.str "/")), (tFmt (tOp (rIx K) (tVar 0) (tC (.int 1))))])))
def t_u_law_mix (K : PySem.W.Frag) : TS :=
  (tSeq (tAsg (tOp (rI (fun _ j => 0 < j) fun i j => .int (i % j)) (tCB (fun xs H Q => (∃ i, xs = [.int i] ∧ Q (.int i) H) ∨ ∃ k, xs = [.bl k] ∧ Q (.int (if k then 1 else 0)) H) (tCons (tOp (rI0 fun i j => .int (i + j)) (tOp (rI0 fun i j => .int (i + j)) (tOp (rI CMulW fun i j => .int (i * j)) (tVar 0) (tC (.int 48271))) (tOp (rI CMulW fun i j => .int (i * j)) (tVar 1) (tC (.int 16807)))) (tC (.int 11))) tNil)) (tC (.int 2147483647))) (gName 2))
    (tSeq (tAsg (tOp (rI (fun _ j => 0 < j) fun i j => .int (i % j)) (tCB (fun xs H Q => (∃ i, xs = [.int i] ∧ Q (.int i) H) ∨ ∃ k, xs = [.bl k] ∧ Q (.int (if k then 1 else 0)) H) (tCons (tOp (rI0 fun i j => .int (i + j)) (tOp (rI0 fun i j => .int (i + j)) (tOp (rI CMulW fun i j => .int (i * j)) (tVar 2) (tVar 2)) (tOp (rI CMulW fun i j => .int (i * j)) (tOp (rI CDivA fun i j => .int (i.fdiv j)) (tVar 2) (tC (.int 127))) (tC (.int 40692)))) (tOp (rI CMulW fun i j => .int (i * j)) (tVar 1) (tC (.int 69621)))) tNil)) (tC (.int 2147483399))) (gName 3))
    (tRet (tOp (rI CDivA fun i j => .int (i.fdiv j)) (tOp (rI (fun _ j => 0 < j) fun i j => .int (i % j)) (tCB (fun xs H Q => (∃ i, xs = [.int i] ∧ Q (.int i) H) ∨ ∃ k, xs = [.bl k] ∧ Q (.int (if k then 1 else 0)) H) (tCons (tOp (rI0 fun i j => .int (i + j)) (tOp (rI CDivA fun i j => .int (i.fdiv j)) (tOp (rI CMulW fun i j => .int (i * j)) (tVar 3) (tVar 3)) (tC (.int 1009))) (tVar 2)) tNil)) (tC (.int 2147483563))) (tC (.int 16))))))
def t_u_law_hand (K : PySem.W.Frag) : TS :=
  (tSeq (tAsg (tC (.int 0)) (gName 1))
    (tSeq (tFor (iEnum K (tCons (tVar 0) tNil)) (gTup K 2 (gCons (gName 2) (gCons (gName 3) gNil))) (tAsg (tOp (rI (fun _ j => 0 < j) fun i j => .int (i % j)) (tCB (fun xs H Q => (∃ i, xs = [.int i] ∧ Q (.int i) H) ∨ ∃ k, xs = [.bl k] ∧ Q (.int (if k then 1 else 0)) H) (tCons (tOp (rI0 fun i j => .int (i + j)) (tOp (rI CMul fun i j => .int (i * j)) (tVar 1) (tC (.int 31))) (tOp (rI CMul fun i j => .int (i * j)) (tCB (fun xs H Q => (∃ i, xs = [.int i] ∧ Q (.int i) H) ∨ ∃ k, xs = [.bl k] ∧ Q (.int (if k then 1 else 0)) H) (tCons (tVar 3) tNil)) (tOp (rI0 fun i j => .int (i + j)) (tVar 2) (tC (.int 7))))) tNil)) (tC (.int 2147483629))) (gName 1)))
    (tRet (tLst (tCons (tLc (iSeq K (tVar 0)) (gName 3) tYes (tCB (fun xs H Q => ∃ i, xs = [.int i] ∧ Q (.int (if i < 0 then -i else i)) H) (tCons (tCB (fun xs H Q => (∃ i, xs = [.int i] ∧ Q (.int i) H) ∨ ∃ k, xs = [.bl k] ∧ Q (.int (if k then 1 else 0)) H) (tCons (tVar 3) tNil)) tNil)) [3]) (tCons (tC (.int 0)) (tCons (tC (.int 0)) (tCons (tVar 1) tNil))))))))
def t_u_law_draw (K : PySem.W.Frag) : TS :=
  (tSeq (tIfS (tAnd (tTest (tOp (rEqD K) (tOp (rIx K) (tVar 0) (tC (.int 2))) (tC (.int 0)))) (tTest (tOp (rI0 fun i j => .bl (decide (i < j))) (tOp (rIx K) (tVar 0) (tC (.int 1))) (tCB (Evl.rLenS K) (tCons (tOp (rIx K) (tVar 0) (tC (.int 0))) tNil))))) (tSeq (tAsg (tOp (rIx K) (tOp (rIx K) (tVar 0) (tC (.int 0))) (tOp (rIx K) (tVar 0) (tC (.int 1)))) (gName 2))
    (tSeq (tAsg (tOp (rI0 fun i j => .int (i + j)) (tOp (rIx K) (tVar 0) (tC (.int 1))) (tC (.int 1))) (gSub (tVar 0) (tC (.int 1)) rSetL))
    (tSeq (tIfS (tTest (tOp (rI0 fun i j => .bl (decide (i < j))) (tVar 2) (tOp (rI CPow fun i j => .int (i ^ j.toNat)) (tC (.int 10)) (tC (.int 18))))) (tRet (tOp (rI (fun _ j => 0 < j) fun i j => .int (i % j)) (tCB (fun xs H Q => (∃ i, xs = [.int i] ∧ Q (.int i) H) ∨ ∃ k, xs = [.bl k] ∧ Q (.int (if k then 1 else 0)) H) (tCons (tCall (sp_u_law_mix K) [] E0 (tCons (tOp (rI (fun _ j => 0 < j) fun i j => .int (i % j)) (tCB (fun xs H Q => (∃ i, xs = [.int i] ∧ Q (.int i) H) ∨ ∃ k, xs = [.bl k] ∧ Q (.int (if k then 1 else 0)) H) (tCons (tVar 2) tNil)) (tC (.int 2147483647))) (tCons (tOp (rIx K) (tVar 0) (tC (.int 1))) tNil))) tNil)) (tVar 1))) tNext)
    (tAsg (tVar 2) (gSub (tVar 0) (tC (.int 2)) rSetL))))) tNext)
    (tSeq (tIfS (tTest (tOp (rI0 fun i j => .bl (decide (j < i))) (tOp (rIx K) (tVar 0) (tC (.int 2))) (tC (.int 0)))) (tSeq (tAsg (tOp (rIx K) (tVar 0) (tC (.int 2))) (gName 3))
    (tSeq (tAsg (tOp (rI CDivA fun i j => .int (i.fdiv j)) (tVar 3) (tVar 1)) (gSub (tVar 0) (tC (.int 2)) rSetL))
    (tRet (tOp (rI (fun _ j => 0 < j) fun i j => .int (i % j)) (tCB (fun xs H Q => (∃ i, xs = [.int i] ∧ Q (.int i) H) ∨ ∃ k, xs = [.bl k] ∧ Q (.int (if k then 1 else 0)) H) (tCons (tVar 3) tNil)) (tVar 1))))) tNext)
    (tSeq (tAsg (tOp (rI (fun _ j => 0 < j) fun i j => .int (i % j)) (tCB (fun xs H Q => (∃ i, xs = [.int i] ∧ Q (.int i) H) ∨ ∃ k, xs = [.bl k] ∧ Q (.int (if k then 1 else 0)) H) (tCons (tOp (rI0 fun i j => .int (i + j)) (tOp (rIx K) (tVar 0) (tC (.int 3))) (tC (.int 1))) tNil)) (tC (.int 2147483629))) (gSub (tVar 0) (tC (.int 3)) rSetL))
    (tRet (tOp (rI (fun _ j => 0 < j) fun i j => .int (i % j)) (tCB (fun xs H Q => (∃ i, xs = [.int i] ∧ Q (.int i) H) ∨ ∃ k, xs = [.bl k] ∧ Q (.int (if k then 1 else 0)) H) (tCons (tCall (sp_u_law_mix K) [] E0 (tCons (tOp (rIx K) (tVar 0) (tC (.int 3))) (tCons (tOp (rIx K) (tVar 0) (tC (.int 1))) tNil))) tNil)) (tVar 1))))))
theorem isB_self {t : String} : isB t t = true := by
  unfold isB kitB
  rw [if_pos (by simp)]
  rfl
theorem kin_some {x : Dt} (h : Kin x) : ∃ t, tyD x = some t := Option.isSome_iff_exists.mp h
/-- what isinstance says -/
def isK (x : Dt) (n : String) : Bool := match tyD x with
  | some t => isB t n
  | none => false
theorem kit_some {t n : String} (ht : t ∈ ["NoneType", "bool", "int", "str", "list", "tuple", "dict"]) (hn : n ∈ ["int", "bool", "tuple", "list", "str"]) : (kitB t n).isSome = true := by
  have key : (["NoneType", "bool", "int", "str", "list", "tuple", "dict"].all fun t => ["int", "bool", "tuple", "list", "str"].all fun n => (kitB t n).isSome) = true := by decide +kernel
  exact List.all_eq_true.mp (List.all_eq_true.mp key t ht) n hn
theorem ty_mem {x : Dt} {t : String} (h : tyD x = some t) : t ∈ ["NoneType", "bool", "int", "str", "list", "tuple", "dict"] := by
  cases x with
  | obj _ _ _ => cases h
  | lstN _ => cases h
  | _ => cases Option.some.inj h <;> decide
theorem ed_isK {c : Fr} {es : List Sv} {ta : TE} {x : Dt} {n : String} (ha : ED c ta es x) (hx : Kin x) (hn : n ∈ ["int", "bool", "tuple", "list", "str"]) : ED c (tCB (rIsi c.K) (tCons ta (tCons (tC (.ty n)) tNil))) es (.bl (isK x n)) := by
  obtain ⟨t, e⟩ := kin_some hx
  have q := ed_isi (n := n) ha e (kit_some (ty_mem e) hn)
  have z : isK x n = isB t n := by
    unfold isK
    rw [e]
  rw [z]
  exact q
theorem isK_int (x : Dt) : (!isK x "int" || isK x "bool") = !isIntB x := by
  cases x with
  | obj _ _ _ => rfl
  | dct0 => exact (by decide +kernel : (!isB "dict" "int" || isB "dict" "bool") = true)
  | dctX => exact (by decide +kernel : (!isB "dict" "int" || isB "dict" "bool") = true)
  | non => exact (by decide +kernel : (!isB "NoneType" "int" || isB "NoneType" "bool") = true)
  | bl _ => exact (by decide +kernel : (!isB "bool" "int" || isB "bool" "bool") = true)
  | int _ => exact (by decide +kernel : (!isB "int" "int" || isB "int" "bool") = false)
  | str _ => exact (by decide +kernel : (!isB "str" "int" || isB "str" "bool") = true)
  | lst _ => exact (by decide +kernel : (!isB "list" "int" || isB "list" "bool") = true)
  | lstN _ => rfl
  | tup _ => exact (by decide +kernel : (!isB "tuple" "int" || isB "tuple" "bool") = true)
  | tupN _ => exact (by decide +kernel : (!isB "tuple" "int" || isB "tuple" "bool") = true)
theorem isK_whole (x : Dt) : (isK x "int" && !isK x "bool") = isIntB x := by
  cases x with
  | obj _ _ _ => rfl
  | dct0 => exact (by decide +kernel : (isB "dict" "int" && !isB "dict" "bool") = false)
  | dctX => exact (by decide +kernel : (isB "dict" "int" && !isB "dict" "bool") = false)
  | non => exact (by decide +kernel : (isB "NoneType" "int" && !isB "NoneType" "bool") = false)
  | bl _ => exact (by decide +kernel : (isB "bool" "int" && !isB "bool" "bool") = false)
  | int _ => exact (by decide +kernel : (isB "int" "int" && !isB "int" "bool") = true)
  | str _ => exact (by decide +kernel : (isB "str" "int" && !isB "str" "bool") = false)
  | lst _ => exact (by decide +kernel : (isB "list" "int" && !isB "list" "bool") = false)
  | lstN _ => rfl
  | tup _ => exact (by decide +kernel : (isB "tuple" "int" && !isB "tuple" "bool") = false)
  | tupN _ => exact (by decide +kernel : (isB "tuple" "int" && !isB "tuple" "bool") = false)
def isTup : Dt → Bool
  | .tup _ => true
  | .tupN _ => true
  | _ => false
theorem isK_tuple (x : Dt) : isK x "tuple" = isTup x := by
  cases x with
  | obj _ _ _ => rfl
  | dct0 => exact (by decide +kernel : (isB "dict" "tuple") = false)
  | dctX => exact (by decide +kernel : (isB "dict" "tuple") = false)
  | non => exact (by decide +kernel : (isB "NoneType" "tuple") = false)
  | bl _ => exact (by decide +kernel : (isB "bool" "tuple") = false)
  | int _ => exact (by decide +kernel : (isB "int" "tuple") = false)
  | str _ => exact (by decide +kernel : (isB "str" "tuple") = false)
  | lst _ => exact (by decide +kernel : (isB "list" "tuple") = false)
  | lstN _ => rfl
  | tup _ => exact (by decide +kernel : (isB "tuple" "tuple") = true)
  | tupN _ => exact (by decide +kernel : (isB "tuple" "tuple") = true)
section
variable {c : Fr} {D : Ends}
theorem sem_is_whole {x lo hi : Dt} (hx : Kin x) (hlo : Lim lo) (hhi : Lim hi) (k : RetD c D.rt (fun d => d = .bl (wholeB x lo hi))) : Cont c (t_is_whole c.K D) [.dat x, .dat lo, .dat hi] := by
  refine s_when (b := !isIntB x) ?_ (fun h => ?_) (fun h => ?_)
  · rw [← isK_int]
    exact eb_or (eb_not (eb_B (ed_isK (ed_var rfl) hx (by decide)))) fun _ => eb_B (ed_isK (ed_var rfl) hx (by decide))
  · refine c_ret ?_ k
    have : wholeB x lo hi = false := by
      cases x <;> first | rfl | (cases h)
    rw [this]
    exact ed_bl
  · cases x with
    | int i =>
      refine s_when (b := !lowOk lo i) ?_ (fun h => ?_) (fun h => ?_)
      · rcases hlo with rfl | ⟨l, rfl⟩
        · exact EBd.is (eb_and (b := false) (b' := false) (eb_test (ed_notN (x := .non) (ed_var rfl))) fun z => by cases z) rfl
        · refine EBd.is (eb_and (b := true) (b' := decide (i < l)) (eb_test (ed_notN (x := .int l) (ed_var rfl))) fun _ => eb_test (ed_B0 (ed_var rfl) (ed_var rfl))) ?_
          show decide (i < l) = !decide (l ≤ i)
          by_cases z : l ≤ i
          · rw [decide_eq_true z, decide_eq_false (by omega)] <;> rfl
          · rw [decide_eq_false z, decide_eq_true (by omega)] <;> rfl
      · refine c_ret ?_ k
        have : wholeB (.int i) lo hi = false := by
          show (lowOk lo i && highOk hi i) = false
          cases q : lowOk lo i with
          | false => rfl
          | true => rw [q] at h; cases h
        rw [this]
        exact ed_bl
      · refine c_ret ?_ k
        have e1 : lowOk lo i = true := by
          cases q : lowOk lo i with
          | true => rfl
          | false => rw [q] at h; cases h
        have : wholeB (.int i) lo hi = highOk hi i := by
          show (lowOk lo i && highOk hi i) = highOk hi i
          rw [e1] <;> rfl
        rw [this]
        rcases hhi with rfl | ⟨l, rfl⟩
        · exact ED.is (ed_or (b := true) (b' := true) (ed_isN (x := .non) (ed_var rfl)) fun z => by cases z) rfl
        · exact ED.is (ed_or (b := false) (b' := decide (i ≤ l)) (ed_isN (x := .int l) (ed_var rfl)) fun _ => ed_B0 (ed_var rfl) (ed_var rfl)) rfl
    | _ => cases h
end
section
variable {c : Fr} {D : Ends}
theorem sem_lowest {a b : Int} (hb : b ≠ 0) (ha : Sz 5000 a) (hs : Sz 5000 b) (k : RetD c D.rt (fun d => d = ratD (Rat.divInt a b))) : Cont c (t_u_lowest c.K D) [.dat (.int a), .dat (.int b), .no] := by
  refine s_asg (by walk_at "ed") ?_
  have fin : Cont c (tRet (tTup (tCons (tOp (rI CDivA fun i j => .int (i.fdiv j)) (tVar 0) (tVar 2)) (tCons (tOp (rI CDivA fun i j => .int (i.fdiv j)) (tVar 1) (tVar 2)) tNil))) D) [.dat (.int a), .dat (.int b), .dat (.int (partOf a b))] := by
    refine c_ret ?_ k
    have hp := sz_div (x := a) (partOf_ne (a := a) hb) (sz_part hb hs) (by decide)
    have hq := sz_div (x := b) (partOf_ne (a := a) hb) (sz_part hb hs) (by decide)
    have e : ratD (Rat.divInt a b) = .tup [.int (a.fdiv (partOf a b)), .int (b.fdiv (partOf a b))] := by
      rw [low_num hb, low_den hb] <;> rfl
    rw [e]
    exact ed_tup (es_cons (ed_I (ed_var rfl) (ed_var rfl) hp) (es_cons (ed_I (ed_var rfl) (ed_var rfl) hq) es_nil)) (by show 2 ≤ 100000; decide)
  refine s_when (b := decide (b < 0)) (by walk_at "ed") (fun h => ?_) (fun h => ?_)
  · refine c_asg (by walk_at "ed") ?_
    have e : partOf a b = -((Nat.gcd a.natAbs b.natAbs : Nat) : Int) := if_pos (of_decide_eq_true h)
    rw [e] at fin
    exact fin
  · have e : partOf a b = ((Nat.gcd a.natAbs b.natAbs : Nat) : Int) := if_neg (of_decide_eq_false h)
    rw [e] at fin
    exact fin
theorem den_ne (q : Rat) : (q.den : Int) ≠ 0 := by have := den_pos q; omega
theorem ed_low {es : List Sv} {ta tb : TE} {a b : Int} {q : Rat} {E : XK} (ha : ED c ta es (.int a)) (hb : ED c tb es (.int b)) (h0 : b ≠ 0) (h1 : Sz 5000 a) (h2 : Sz 5000 b) (e : Rat.divInt a b = q) : ED c (tCall (sp_u_lowest c.K) [] E (tCons ta (tCons tb tNil))) es (ratD q) :=
  e ▸ ed_call (es_cons ha (es_cons hb es_nil)) ⟨a, b, rfl, h0, h1, h2, rfl⟩ fun x ⟨a', b', e', _, _, _, ex⟩ => by
    have h := List.cons.inj e'
    have h' := List.cons.inj h.2
    rw [ex, Dt.int.inj h.1, Dt.int.inj h'.1]
theorem ix0 {es : List Sv} {n : Nat} {q : Rat} (h : es[n]? = some (.dat (ratD q))) : ED c (tOp (rIx c.K) (tVar n) (tC (.int 0))) es (.int q.num) := ed_ixT (ed_var h) ed_int rfl
theorem ix1 {es : List Sv} {n : Nat} {q : Rat} (h : es[n]? = some (.dat (ratD q))) : ED c (tOp (rIx c.K) (tVar n) (tC (.int 1))) es (.int q.den) := ed_ixT (ed_var h) ed_int rfl
theorem ed_mul {es : List Sv} {ta tb : TE} {i j : Int} {n m : Nat} (ha : ED c ta es (.int i)) (hb : ED c tb es (.int j)) (hi : Sz n i) (hj : Sz m j) (h : n + m ≤ 900000) : ED c (tOp (rI CMulW fun i j => .int (i * j)) ta tb) es (.int (i * j)) := ed_I ha hb (sz_ok hi hj h)
theorem sem_plus {p q : Rat} (hp : SzR 2000 p) (hq : SzR 2000 q) (k : RetD c D.rt (fun d => d = ratD (p + q))) : Cont c (t_plus c.K D) [.dat (ratD p), .dat (ratD q)] := by
  refine c_ret ?_ k
  refine ed_low (ed_I0 (ed_mul (ix0 rfl) (ix1 rfl) hp.num hq.den (by decide)) (ed_mul (ix0 rfl) (ix1 rfl) hq.num hp.den (by decide))) (ed_mul (ix1 rfl) (ix1 rfl) hp.den hq.den (by decide)) (Int.mul_ne_zero (den_ne p) (den_ne q)) ?_ ?_ ?_
  · exact ((hp.num.mul hq.den).add (hq.num.mul hp.den)).mono (by decide)
  · exact (hp.den.mul hq.den).mono (by decide)
  · rw [← Rat.divInt_add_divInt _ _ (den_ne p) (den_ne q), divInt_of, divInt_of]
theorem sem_minus {p q : Rat} (hp : SzR 2000 p) (hq : SzR 2000 q) (k : RetD c D.rt (fun d => d = ratD (p - q))) : Cont c (t_minus c.K D) [.dat (ratD p), .dat (ratD q)] := by
  refine c_ret ?_ k
  refine ed_low (ed_I0 (ed_mul (ix0 rfl) (ix1 rfl) hp.num hq.den (by decide)) (ed_mul (ix0 rfl) (ix1 rfl) hq.num hp.den (by decide))) (ed_mul (ix1 rfl) (ix1 rfl) hp.den hq.den (by decide)) (Int.mul_ne_zero (den_ne p) (den_ne q)) ?_ ?_ ?_
  · exact ((hp.num.mul hq.den).sub (hq.num.mul hp.den)).mono (by decide)
  · exact (hp.den.mul hq.den).mono (by decide)
  · rw [← Rat.divInt_sub_divInt _ _ (den_ne p) (den_ne q), divInt_of, divInt_of]
theorem sem_times {p q : Rat} (hp : SzR 2000 p) (hq : SzR 2000 q) (k : RetD c D.rt (fun d => d = ratD (p * q))) : Cont c (t_times c.K D) [.dat (ratD p), .dat (ratD q)] := by
  refine c_ret ?_ k
  refine ed_low (ed_mul (ix0 rfl) (ix0 rfl) hp.num hq.num (by decide)) (ed_mul (ix1 rfl) (ix1 rfl) hp.den hq.den (by decide)) (Int.mul_ne_zero (den_ne p) (den_ne q)) ?_ ?_ ?_
  · exact (hp.num.mul hq.num).mono (by decide)
  · exact (hp.den.mul hq.den).mono (by decide)
  · rw [← Rat.divInt_mul_divInt, divInt_of, divInt_of]
theorem sem_negative {p : Rat} (k : RetD c D.rt (fun d => d = ratD (-p))) : Cont c (t_negative c.K D) [.dat (ratD p)] := by
  refine c_ret ?_ k
  have e : ratD (-p) = .tup [.int (-p.num), .int p.den] := rfl
  rw [e]
  exact ed_tup (es_cons (ed_neg (ix0 rfl)) (es_cons (ix1 rfl) es_nil)) (by show 2 ≤ 100000; decide)
theorem sem_compare {p q : Rat} (hp : SzR 2000 p) (hq : SzR 2000 q) (k : RetD c D.rt (fun d => d = .int (cmpI p q))) : Cont c (t_compare c.K D) [.dat (ratD p), .dat (ratD q), .no, .no] := by
  refine s_asg (ed_mul (ix0 rfl) (ix1 rfl) hp.num hq.den (by decide)) ?_
  refine s_asg (ed_mul (ix0 rfl) (ix1 rfl) hq.num hp.den (by decide)) ?_
  refine s_when (b := decide (p.num * q.den < q.num * p.den)) (by walk_at "ed") (fun h => ?_) (fun h => ?_)
  · refine c_ret ?_ k
    have e : cmpI p q = -1 := if_pos (of_decide_eq_true h)
    rw [e]
    exact ed_neg ed_int
  · have h1 := of_decide_eq_false h
    refine s_when (b := decide (q.num * p.den < p.num * q.den)) (by walk_at "ed") (fun h => ?_) (fun h => ?_)
    · refine c_ret ?_ k
      have e : cmpI p q = 1 := (if_neg h1).trans (if_pos (of_decide_eq_true h))
      rw [e]
      exact ed_int
    · refine c_ret ?_ k
      have e : cmpI p q = 0 := (if_neg h1).trans (if_neg (of_decide_eq_false h))
      rw [e]
      exact ed_int
theorem sem_floor_of {q : Rat} (hq : SzR 2000 q) (k : RetD c D.rt (fun d => d = .int (q.num / q.den))) : Cont c (t_floor_of c.K D) [.dat (ratD q)] := by
  refine c_ret ?_ k
  rw [← Int.fdiv_eq_ediv_of_nonneg _ (Int.le_of_lt (den_pos q))]
  exact ed_I (ix0 rfl) (ix1 rfl) (sz_div (den_ne q) hq.den (by decide))
theorem sem_broken_of {q : Rat} (k : RetD c D.rt (fun d => d = .tup [.int (q.num % q.den), .int q.den])) : Cont c (t_broken_of c.K D) [.dat (ratD q)] := by
  refine c_ret ?_ k
  exact ed_tup (es_cons (ed_I (ix0 rfl) (ix1 rfl) (den_pos q)) (es_cons (ix1 rfl) es_nil)) (by show 2 ≤ 100000; decide)
end
theorem fine_str {a : Str} (h : PyData.strOk a = true) : fine (.str a) = true := by
  unfold fine SeqAt.shaped
  show (true && (PyData.canLay0 (.str a) && decide _)) = true
  rw [PyData.canLay0, h]
  rfl
theorem ok_of (s : String) : PyData.strOk (Str.ofString s) = true := by
  unfold PyData.strOk
  rw [Str.ofString_eq_toList]
  simp only [List.all_toArray, List.all_map, List.all_eq_true]
  intro ch _
  have h := ch.valid
  have : ch.val.toNat < 0x110000 := by
    rcases h with h | h
    · exact Nat.lt_trans h (by decide)
    · exact h.2
  simpa using this
theorem ok_app {a b : Str} (h : PyData.strOk a = true) (k : PyData.strOk b = true) : PyData.strOk (a ++ b) = true := by
  unfold PyData.strOk at *
  rw [Str.cps_append, Array.all_append, h, k]
  rfl
theorem text_len {n : Nat} {i : Int} (h : Sz n i) (h0 : 0 < n) : (Str.ofString (toString i)).length ≤ n + 1 := by
  have h2 : 2 ^ n ≤ 10 ^ n := Nat.pow_le_pow_left (by decide) n
  have h3 : (10 : Int) ^ n = ((10 ^ n : Nat) : Int) := by rw [Int.natCast_pow] <;> rfl
  unfold Sz at h
  by_cases z : i < 0
  · rw [len_text_neg z]
    have := toString_length_le (v := 0 - i) (by omega) h0 (by rw [h3]; omega)
    omega
  · have := toString_length_le (v := i) (by omega) h0 (by rw [h3]; omega)
    omega
theorem sz_log {n : Nat} {i : Int} (h : Sz n i) (h0 : 0 < n) : i.natAbs.log2 < n := PySem.Flt.log2_lt_of h0 h
section
variable {c : Fr} {D : Ends} {E : XK} {es : List Sv} {ta tb : TE} {x y : Dt} {p q : Rat}
theorem ed_whole0 (h : ED c ta es x) (hx : Kin x) : ED c (tCall (sp_is_whole c.K) [.non, .non] E (tCons ta tNil)) es (.bl (isIntB x)) :=
  ED.is (ed_callD (dd := [.non, .non]) (d := .bl (wholeB x .non .non)) (es_cons h es_nil) (fun _ => .cons .non (.cons .non .nil)) ⟨x, .non, .non, rfl, hx, .inl rfl, .inl rfl, rfl⟩ fun y ⟨a, b, d, e, _, _, _, ey⟩ => by
    have e' : [x, .non, .non] = [a, b, d] := e
    cases e'
    exact ey) (by cases x <;> rfl)
theorem ed_whole1 {l : Dt} (h : ED c ta es x) (hl : ED c tb es l) (hx : Kin x) (hL : Lim l) : ED c (tCall (sp_is_whole c.K) [.non] E (tCons ta (tCons tb tNil))) es (.bl (wholeB x l .non)) :=
  ed_callD (dd := [.non]) (es_cons h (es_cons hl es_nil)) (fun _ => .cons .non .nil) ⟨x, l, .non, rfl, hx, hL, .inl rfl, rfl⟩ fun y ⟨a, b, d, e, _, _, _, ey⟩ => by
    have e' : [x, l, .non] = [a, b, d] := e
    cases e'
    exact ey
theorem ed_whole2 {l u : Dt} {tx : TE} (h : ED c ta es x) (hl : ED c tb es l) (hu : ED c tx es u) (hx : Kin x) (hL : Lim l) (hU : Lim u) : ED c (tCall (sp_is_whole c.K) [] E (tCons ta (tCons tb (tCons tx tNil)))) es (.bl (wholeB x l u)) :=
  ed_call (es_cons h (es_cons hl (es_cons hu es_nil))) ⟨x, l, u, rfl, hx, hL, hU, rfl⟩ fun y ⟨a, b, d, e, _, _, _, ey⟩ => by
    cases e
    exact ey
def gcdB : Dt → Dt → Bool
  | .int a, .int b => decide (Nat.gcd a.natAbs b.natAbs = 1)
  | _, _ => false
theorem ratioB_two (y z : Dt) : ratioB (.tup [y, z]) = (isIntB y && (wholeB z (.int 1) .non && gcdB y z)) := by
  cases y with
  | int a => cases z with
    | int b =>
      show (decide (1 ≤ b) && _) = (true && ((decide (1 ≤ b) && true) && _))
      rw [Bool.and_true, Bool.true_and] <;> rfl
    | _ => rfl
  | _ => rfl
theorem eqv_int (i j : Int) : eqv (.int i) (.int j) = decide (i = j) := rfl
theorem sem_is_ratio (hx : Kins x) (k : RetD c D.rt (fun d => d = .bl (ratioB x))) : Cont c (t_is_ratio c.K D) [.dat x, .no, .no] := by
  obtain ⟨hk, hs, hN⟩ := hx
  cases ht : isTup x with
  | false =>
    refine s_when (b := true) (EBd.is (eb_or (b := true) (b' := true) (EBd.is (eb_not (eb_B (ed_isK (ed_var rfl) hk (by decide)))) (by rw [isK_tuple, ht] <;> rfl)) fun z => by cases z) rfl) (fun _ => ?_) fun z => by cases z
    refine c_ret ?_ k
    have e : ratioB x = false := by cases x <;> first | rfl | cases ht
    rw [e]
    exact ed_bl
  | true =>
    obtain ⟨l, rfl⟩ : ∃ l, x = .tup l := by
      cases x with
      | tup l => exact ⟨l, rfl⟩
      | tupN l => exact (hN l rfl).elim
      | _ => cases ht
    refine s_when (b := !decide ((l.length : Int) = 2)) (EBd.is (eb_or (b := false) (b' := !decide ((l.length : Int) = 2)) (EBd.is (eb_not (eb_B (ed_isK (ed_var rfl) hk (by decide)))) (by rw [isK_tuple] <;> rfl)) fun _ => eb_test (ed_ne (ed_len (ed_var rfl) rfl) ed_int rfl rfl)) rfl) (fun h => ?_) fun h => ?_
    · refine c_ret ?_ k
      have e : ratioB (.tup l) = false := by
        have h' : ¬ (l.length : Int) = 2 := fun z => by rw [decide_eq_true z] at h; cases h
        match l with
        | [] => rfl
        | [y] =>
          unfold ratioB
          split
          · rename_i e; cases e
          · rfl
        | [_, _] => exact (h' rfl).elim
        | _ :: _ :: _ :: _ =>
          unfold ratioB
          split
          · rename_i e; cases e
          · rfl
      rw [e]
      exact ed_bl
    · have h' : (l.length : Int) = 2 := Decidable.byContradiction fun z => by rw [decide_eq_false z] at h; cases h
      obtain ⟨y, z, rfl⟩ : ∃ y z, l = [y, z] := by
        match l, h' with
        | [y, z], _ => exact ⟨y, z, rfl⟩
        | [], h => exact absurd h (by decide)
        | [_], h => rw [List.length_cons, List.length_nil] at h; omega
        | _ :: _ :: _ :: _, h => rw [List.length_cons, List.length_cons, List.length_cons] at h; omega
      refine s_unpack (ed_var rfl) ?_
      refine c_ret ?_ k
      rw [ratioB_two]
      refine ed_and (ed_whole0 (ed_var rfl) (hs _ rfl y List.mem_cons_self)) fun h1 => ?_
      refine ed_and (ed_whole1 (ed_var rfl) ed_int (hs _ rfl z (List.mem_cons_of_mem _ List.mem_cons_self)) (.inr ⟨1, rfl⟩)) fun h2 => ?_
      cases y with
      | int a =>
        cases z with
        | int b =>
          have e : gcdB (.int a) (.int b) = eqv (.int ((Nat.gcd a.natAbs b.natAbs : Nat) : Int)) (.int 1) := by
            rw [eqv_int]
            show decide (Nat.gcd a.natAbs b.natAbs = 1) = _
            by_cases g : Nat.gcd a.natAbs b.natAbs = 1
            · rw [decide_eq_true g, decide_eq_true (by omega)]
            · rw [decide_eq_false g, decide_eq_false (by omega)]
          rw [e]
          exact ed_eq (ed_gcd (ed_var rfl) (ed_var rfl)) ed_int rfl rfl
        | _ => cases h2
      | _ => cases h1
theorem sem_make_ratio (hx : Kin x) (hy : Kin y) (sx : SzD x) (sy : SzD y) (k : RetD c D.rt (fun d => makeO (He.ga c.K "BadRatio") x y = .ok d)) (kx : XtD c E (fun o => o = makeO (He.ga c.K "BadRatio") x y)) : Cont c (t_make_ratio c.K E D) [.dat x, .dat y] := by
  refine s_when (b := !isIntB x) (eb_not (eb_B (ed_whole0 (ed_var rfl) hx))) (fun h => ?_) fun h => ?_
  · refine c_raise1 (D := D) (es_cons ed_str es_nil) kx ?_ (ns := ["what"]) rfl
    cases x <;> first | rfl | cases h
  · cases x with
    | int a =>
      refine s_when (b := !isIntB y || eqv y (.int 0)) ?_ (fun h => ?_) fun h => ?_
      · cases y with
        | int b => exact eb_or (eb_not (eb_B (ed_whole0 (ed_var rfl) hy))) fun _ => eb_test (ed_eq (ed_var rfl) ed_int rfl rfl)
        | _ => exact EBd.is (eb_or (b := true) (b' := true) (eb_not (eb_B (ed_whole0 (ed_var rfl) hy))) fun z => by cases z) rfl
      · refine c_raise1 (D := D) (es_cons ed_str es_nil) kx ?_ (ns := ["what"]) rfl
        cases y with
        | int b =>
          have e : b = 0 := of_decide_eq_true h
          subst e
          rfl
        | _ => rfl
      · cases y with
        | int b =>
          have e : b ≠ 0 := of_decide_eq_false h
          have eo : makeO (He.ga c.K "BadRatio") (.int a) (.int b) = .ok (ratD (Rat.divInt a b)) := if_neg e
          refine c_ret (ed_low (ed_var rfl) (ed_var rfl) e (sx a rfl) (sy b rfl) rfl) (RetD.imp k fun d z => ?_)
          rw [z, eo]
        | _ => cases h
    | _ => cases h
theorem sem_over (hp : SzR 2000 p) (hq : SzR 2000 q) (k : RetD c D.rt (fun d => overO (He.ga c.K "BadRatio") p q = .ok d)) (kx : XtD c E (fun o => o = overO (He.ga c.K "BadRatio") p q)) : Cont c (t_over c.K E D) [.dat (ratD p), .dat (ratD q)] := by
  refine s_when (b := decide (q.num = 0)) (eb_test (ed_eq (ix0 rfl) ed_int rfl rfl)) (fun h => ?_) fun h => ?_
  · refine c_raise1 (D := D) (es_cons ed_str es_nil) kx ?_ (ns := ["what"]) rfl
    have e : overO (He.ga c.K "BadRatio") p q = .ex _ ["what"] [.str "zero"] := if_pos (of_decide_eq_true h)
    rw [e]
  · have h' : q.num ≠ 0 := of_decide_eq_false h
    have e : overO (He.ga c.K "BadRatio") p q = .ok _ := if_neg h'
    refine c_ret ?_ (RetD.imp k fun d z => by rw [z]; exact e)
    refine ed_low (ed_mul (ix0 rfl) (ix1 rfl) hp.num hq.den (by decide)) (ed_mul (ix1 rfl) (ix0 rfl) hp.den hq.num (by decide)) (Int.mul_ne_zero (den_ne p) h') ?_ ?_ rfl
    · exact (hp.num.mul hq.den).mono (by decide)
    · exact (hp.den.mul hq.num).mono (by decide)
theorem sz_add {n m : Nat} (hp : SzR n p) (hq : SzR m q) : SzR (n + m + 1) (p + q) := by
  have e : p + q = Rat.divInt (p.num * q.den + q.num * p.den) (p.den * q.den) := by rw [← Rat.divInt_add_divInt _ _ (den_ne p) (den_ne q), divInt_of, divInt_of]
  rw [e]
  refine .of (Int.mul_ne_zero (den_ne p) (den_ne q)) ?_ ((hp.den.mul hq.den).mono (by omega))
  exact Sz.add (hp.num.mul hq.den) ((hq.num.mul hp.den).mono (by omega))
def sumTo (l : List Rat) (k : Nat) : Rat := (l.take k).foldl (· + ·) 0
theorem take_get {α : Type} {l : List α} {k : Nat} {a : α} (h : l[k]? = some a) : l.take (k + 1) = l.take k ++ [a] := by rw [List.take_add_one, h] <;> rfl
theorem sum_step {l : List Rat} {k : Nat} {a : Rat} (h : l[k]? = some a) : sumTo l (k + 1) = sumTo l k + a := by
  unfold sumTo
  rw [take_get h, List.foldl_append] <;> rfl
theorem ratD_inj {p q : Rat} (h : ratD p = ratD q) : p = q := by
  have h1 := List.cons.inj (Dt.tup.inj h)
  have h2 := List.cons.inj h1.2
  exact Rat.ext (Dt.int.inj h1.1) (Int.ofNat.inj (Dt.int.inj h2.1))
theorem ed_two {f : Rat → Rat → Dt} (ha : ED c ta es (ratD p)) (hb : ED c tb es (ratD q)) (hp : SzR 2000 p) (hq : SzR 2000 q) : ED c (tCall (spD c.K (R_two f)) [] E (tCons ta (tCons tb tNil))) es (f p q) :=
  ed_call (es_cons ha (es_cons hb es_nil)) ⟨p, q, rfl, hp, hq, rfl⟩ fun y ⟨a, b, e, _, _, ey⟩ => by
    have e1 := ratD_inj (List.cons.inj e).1
    have e2 := ratD_inj (List.cons.inj (List.cons.inj e).2).1
    rw [ey, e1, e2]
theorem sz_zero : SzR (1 + 101 * 0) 0 := ⟨show (0 : Nat) < 2 ^ 1 by decide, show (1 : Nat) < 2 ^ 1 by decide⟩
theorem sem_sum_of {l : List Rat} (hz : ∀ H, SqT c.K H (He.ga c.K "ZERO") [.int 0, .int 1]) (hx : itemsD x = some (l.map ratD)) (hl : l.length ≤ 10) (hs : ∀ q ∈ l, SzR 100 q) (k : RetD c D.rt (fun d => d = ratD (l.foldl (· + ·) 0))) : Cont c (t_sum_of c.K D) [.dat x, .no, .no] := by
  refine s_asg (d := ratD 0) (ed_c fun P => .tup (hz P) (.cons (.int 0) (.cons (.int 1) .nil))) ?_
  refine s_for (I := fun k es => SzR (1 + 101 * k) (sumTo l k) ∧ ∃ s, es = [.dat x, .dat (ratD (sumTo l k)), s]) (f := fun y es => es.set 2 (.dat y)) (wi_seq (ed_var rfl) hx) ⟨sz_zero, _, rfl⟩ (fun P y _ => tg_name) (fun P1 L k y es e ⟨h1, s, h2⟩ => ?_) fun es ⟨_, s, h2⟩ => ?_
  · subst h2
    obtain ⟨q, e1, rfl⟩ : ∃ q, l[k]? = some q ∧ ratD q = y := by
      rw [List.getElem?_map] at e
      exact Option.map_eq_some_iff.mp e
    have hk : k < l.length := (List.getElem?_eq_some_iff.mp e1).1
    have hq := hs q (List.mem_of_getElem? e1)
    refine c_asg (ed_two (ed_var rfl) (ed_var rfl) (h1.mono (by omega)) (hq.mono (by decide))) (c_turn' rfl ⟨?_, ?_⟩)
    · rw [sum_step e1]
      exact (sz_add h1 hq).mono (by omega)
    · rw [sum_step e1]
      exact ⟨_, rfl⟩
  · subst h2
    refine c_ret (ED.is (ed_var rfl) ?_) k
    rw [List.length_map]
    unfold sumTo
    rw [List.take_length]
theorem cmp_lt : decide (cmpI p q < 0) = lessR p q := by
  unfold cmpI lessR
  by_cases h : p.num * q.den < q.num * p.den
  · rw [if_pos h, decide_eq_true h] <;> rfl
  · rw [if_neg h, decide_eq_false h]
    split <;> rfl
theorem cmp_gt : decide (0 < cmpI p q) = lessR q p := by
  unfold cmpI lessR
  by_cases h : p.num * q.den < q.num * p.den
  · rw [if_pos h, decide_eq_false (by omega : ¬ q.num * p.den < p.num * q.den)] <;> rfl
  · rw [if_neg h]
    by_cases g : q.num * p.den < p.num * q.den
    · rw [if_pos g, decide_eq_true g] <;> rfl
    · rw [if_neg g, decide_eq_false g] <;> rfl
def pickTo (f : Rat → Rat → Rat) (p : Rat) (l : List Rat) (k : Nat) : Rat := (l.take k).foldl f p
theorem pick_step {f : Rat → Rat → Rat} {l : List Rat} {k : Nat} {a : Rat} (h : l[k]? = some a) : pickTo f p l (k + 1) = f (pickTo f p l k) a := by
  unfold pickTo
  rw [take_get h, List.foldl_append] <;> rfl
theorem items_at {l : List Dt} {i : Nat} {d : Dt} (hx : itemsD x = some l) (h : ED c ta es x) (e : l[i]? = some d) : ED c (tOp (rIx c.K) ta (tC (.int i))) es d := by
  have e2 : atI l (i : Int) = some d := by
    unfold atI
    rw [Evl.ixN_nat (List.getElem?_eq_some_iff.mp e).1]
    exact e
  cases x with
  | lst m => cases Option.some.inj hx; exact ed_ixL h ed_int e2
  | tup m => cases Option.some.inj hx; exact ed_ixT h ed_int e2
  | _ => cases hx
theorem sem_least_of {l : List Rat} (hx : itemsD x = some ((p :: l).map ratD)) (hs : ∀ q ∈ p :: l, SzR 100 q) (k : RetD c D.rt (fun d => d = ratD (leastR p (p :: l)))) : Cont c (t_least_of c.K D) [.dat x, .no, .no] := by
  refine s_asg (items_at (i := 0) hx (ed_var rfl) rfl) ?_
  refine s_for (I := fun k es => SzR 100 (pickTo (fun b q => if lessR q b then q else b) p (p :: l) k) ∧ ∃ s, es = [.dat x, .dat (ratD (pickTo (fun b q => if lessR q b then q else b) p (p :: l) k)), s]) (f := fun y es => es.set 2 (.dat y)) (wi_seq (ed_var rfl) hx) ⟨hs p List.mem_cons_self, _, rfl⟩ (fun P y _ => tg_name) (fun P1 L k y es e ⟨h1, s, h2⟩ => ?_) fun es ⟨_, s, h2⟩ => ?_
  · subst h2
    obtain ⟨q, e1, rfl⟩ : ∃ q, (p :: l)[k]? = some q ∧ ratD q = y := by
      rw [List.getElem?_map] at e
      exact Option.map_eq_some_iff.mp e
    have hq := hs q (List.mem_of_getElem? e1)
    refine c_if (b := lessR q (pickTo (fun b q => if lessR q b then q else b) p (p :: l) k)) (EBd.is (eb_test (ed_B0 (ed_two (ed_var rfl) (ed_var rfl) (hq.mono (by decide)) (h1.mono (by decide))) ed_int)) cmp_lt) (fun h => ?_) fun h => ?_
    · refine c_asg (ed_var rfl) (c_turn' rfl ?_)
      rw [pick_step e1, if_pos h]
      exact ⟨hq, _, rfl⟩
    · refine c_next (c_turn' rfl ?_)
      rw [pick_step e1, if_neg (by rw [h]; decide)]
      exact ⟨h1, _, rfl⟩
  · subst h2
    refine c_ret (ED.is (ed_var rfl) ?_) k
    rw [List.length_map]
    unfold pickTo leastR
    rw [List.take_length]
theorem sem_greatest_of {l : List Rat} (hx : itemsD x = some ((p :: l).map ratD)) (hs : ∀ q ∈ p :: l, SzR 100 q) (k : RetD c D.rt (fun d => d = ratD (greatR p (p :: l)))) : Cont c (t_greatest_of c.K D) [.dat x, .no, .no] := by
  refine s_asg (items_at (i := 0) hx (ed_var rfl) rfl) ?_
  refine s_for (I := fun k es => SzR 100 (pickTo (fun b q => if lessR b q then q else b) p (p :: l) k) ∧ ∃ s, es = [.dat x, .dat (ratD (pickTo (fun b q => if lessR b q then q else b) p (p :: l) k)), s]) (f := fun y es => es.set 2 (.dat y)) (wi_seq (ed_var rfl) hx) ⟨hs p List.mem_cons_self, _, rfl⟩ (fun P y _ => tg_name) (fun P1 L k y es e ⟨h1, s, h2⟩ => ?_) fun es ⟨_, s, h2⟩ => ?_
  · subst h2
    obtain ⟨q, e1, rfl⟩ : ∃ q, (p :: l)[k]? = some q ∧ ratD q = y := by
      rw [List.getElem?_map] at e
      exact Option.map_eq_some_iff.mp e
    have hq := hs q (List.mem_of_getElem? e1)
    refine c_if (b := lessR (pickTo (fun b q => if lessR b q then q else b) p (p :: l) k) q) (EBd.is (eb_test (ed_B0 (ed_two (ed_var rfl) (ed_var rfl) (hq.mono (by decide)) (h1.mono (by decide))) ed_int)) cmp_gt) (fun h => ?_) fun h => ?_
    · refine c_asg (ed_var rfl) (c_turn' rfl ?_)
      rw [pick_step e1, if_pos h]
      exact ⟨hq, _, rfl⟩
    · refine c_next (c_turn' rfl ?_)
      rw [pick_step e1, if_neg (by rw [h]; decide)]
      exact ⟨h1, _, rfl⟩
  · subst h2
    refine c_ret (ED.is (ed_var rfl) ?_) k
    rw [List.length_map]
    unfold pickTo greatR
    rw [List.take_length]
theorem sem_ratio_text (hq : SzR 1900 q) (k : RetD c D.rt (fun d => d = .str (ratText q))) : Cont c (t_ratio_text c.K D) [.dat (ratD q)] := by
  refine s_when (b := decide ((q.den : Int) = 1)) (eb_test (ed_eq (ix1 rfl) ed_int rfl rfl)) (fun h => ?_) fun h => ?_
  · refine c_ret ?_ k
    have e : ratText q = Str.ofString (toString q.num) := if_pos (of_decide_eq_true h)
    rw [e]
    exact ed_strI (ix0 rfl) (Nat.lt_trans (sz_log hq.num (by decide)) (by decide))
  · refine c_ret ?_ k
    have e : ratText q = ((Str.empty ++ Str.ofString (toString q.num)) ++ Str.ofString "/") ++ Str.ofString (toString (q.den : Int)) := (if_neg (of_decide_eq_false h)).trans (by rw [Str.empty_append] <;> rfl)
    rw [e]
    have l1 := text_len hq.num (by decide)
    have l2 := text_len hq.den (by decide)
    have l3 : (Str.ofString "/").length = 1 := by decide +kernel
    exact ed_join3 (ed_fmtI (ix0 rfl) (Nat.lt_trans (sz_log hq.num (by decide)) (by decide))) ed_str (ed_fmtI (ix1 rfl) (Nat.lt_trans (sz_log hq.den (by decide)) (by decide))) (by omega)
end
section
variable {c : Fr} {D : Ends} {E : XK} {es : List Sv} {ta tb : TE} {x y : Dt} {p q : Rat} {a b n t : Int}
theorem sz_lt {k : Nat} {i : Int} (h0 : 0 ≤ i) (h : i < 2 ^ k) : Sz k i := by
  unfold Sz
  have : ((2 ^ k : Nat) : Int) = 2 ^ k := by rw [Int.natCast_pow] <;> rfl
  omega
theorem mod_sz {m x : Int} (hm : 0 < m) (h : m < 2147483648) : Sz 31 (x % m) := by
  have h1 := Int.emod_nonneg x (show m ≠ 0 by omega)
  have h2 := Int.emod_lt_of_pos x hm
  refine sz_lt h1 ?_
  have : (2 : Int) ^ 31 = 2147483648 := rfl
  omega
theorem sz_fdiv {k : Nat} {x m : Int} (hm : 0 < m) (h : Sz k x) : Sz k (x.fdiv m) := by
  rw [Int.fdiv_eq_ediv_of_nonneg _ (by omega)]
  unfold Sz at *
  exact Nat.lt_of_le_of_lt (Int.natAbs_ediv_le_natAbs _ _) h
theorem divA {i : Int} {m : Nat} (h0 : m ≠ 0) (h : m < 2 ^ 64) : CDivA i (m : Int) := cdivA (b := 64) (by omega) (by omega) (by decide) (by decide)
theorem sem_mix (h0 : 0 ≤ n) (h1 : n < 2147483648) (h2 : 0 ≤ t) (h3 : t < 1000) (k : RetD c D.rt (fun d => ∃ z : Int, 0 ≤ z ∧ d = .int z)) : Cont c (t_u_law_mix c.K D) [.dat (.int n), .dat (.int t), .no, .no] := by
  have zn : Sz 31 n := sz_lt h0 h1
  have zt : Sz 31 t := sz_lt h2 (by have : (2 : Int) ^ 31 = 2147483648 := rfl; omega)
  have zc : ∀ {i : Int} (_ : 0 ≤ i) (_ : i < 2147483648), Sz 31 i := fun h0 h1 => sz_lt h0 h1
  have M : ∀ {m : Int} {es : List Sv} {ta : TE} {i : Int}, ED c ta es (.int i) → 0 < m → ED c (tOp (rI (fun _ j => 0 < j) fun i j => .int (i % j)) (tCB (fun xs H Q => (∃ i, xs = [.int i] ∧ Q (.int i) H) ∨ ∃ k, xs = [.bl k] ∧ Q (.int (if k then 1 else 0)) H) (tCons ta tNil)) (tC (.int m))) es (.int (i % m)) := fun h hm => ed_I (ed_int1 h) ed_int hm
  refine s_asg (M (ed_I0 (ed_I0 (ed_mul (ed_var rfl) ed_int zn (zc (by decide) (by decide)) (by decide)) (ed_mul (ed_var rfl) ed_int zt (zc (by decide) (by decide)) (by decide))) ed_int) (by decide)) ?_
  generalize hA : (n * 48271 + t * 16807 + 11) % 2147483647 = A
  have zA : Sz 31 A := by rw [← hA]; exact mod_sz (by decide) (by decide)
  refine s_asg (M (ed_I0 (ed_I0 (ed_mul (ed_var rfl) (ed_var rfl) zA zA (by decide)) (ed_mul (ed_I (ed_var rfl) ed_int (divA (m := 127) (by decide) (by decide))) ed_int (sz_fdiv (by decide) zA) (zc (by decide) (by decide)) (by decide))) (ed_mul (ed_var rfl) ed_int zt (zc (by decide) (by decide)) (by decide))) (by decide)) ?_
  generalize hB : (A * A + A.fdiv ((127 : Nat) : Int) * 40692 + t * 69621) % 2147483399 = B
  have zB : Sz 31 B := by rw [← hB]; exact mod_sz (by decide) (by decide)
  refine c_retV (EV.imp (ed_I (M (ed_I0 (ed_I (ed_mul (ed_var rfl) (ed_var rfl) zB zB (by decide)) ed_int (divA (m := 1009) (by decide) (by decide))) (ed_var rfl)) (by decide)) ed_int (divA (m := 16) (by decide) (by decide))) fun d e => ?_) k
  refine ⟨_, ?_, e⟩
  rw [Int.fdiv_eq_ediv_of_nonneg _ (by decide)]
  exact Int.ediv_nonneg (Int.emod_nonneg _ (by decide)) (by decide)
def absD : Dt → Dt
  | .int i => .int (if i < 0 then -i else i)
  | d => d
/-- a slot without a list -/
def Pl (s : Sv) : Prop := s = .no ∨ ∃ d, s = .dat d
theorem Pl.hands {s s' : Sv} (h : Pl s) (h' : Pl s') {d d' : Dt} : handsOf [.dat d, .dat d', s, s'] = [] := by
  rcases h with rfl | ⟨_, rfl⟩ <;> rcases h' with rfl | ⟨_, rfl⟩ <;> rfl
theorem sem_hand {ns : List Int} (hl : ns.length ≤ 63) (hm : c.mu = []) (k : RetO c D.rt HandOk) : Cont c (t_u_law_hand c.K D) [.dat (.lst (ns.map Dt.int)), .no, .no, .no] := by
  refine s_asg ed_int ?_
  refine s_for (I := fun _ es => ∃ (t : Int) (s s' : Sv), es = [.dat (.lst (ns.map Dt.int)), .dat (.int t), s, s'] ∧ 0 ≤ t ∧ t < 2147483648 ∧ Pl s ∧ Pl s')
    (f := fun y es => match y with
      | .tup [a, b] => (es.set 2 (.dat a)).set 3 (.dat b)
      | _ => es) (vs := [2, 3]) (wi_enum (ed_var rfl)) ⟨0, _, _, rfl, by decide, by decide, .inl rfl, .inl rfl⟩ (fun P y hy => ?_) (fun P1 L k y es e ⟨t, s, s', h2, h3, h4, _, _⟩ => ?_) fun es ⟨t, s, s', h2, h3, h4, h5, h6⟩ => ?_
  · obtain ⟨i, hi, e⟩ := List.mem_mapIdx.mp hy
    subst e
    exact tg_two
  · subst h2
    obtain ⟨n, hn, rfl⟩ : ∃ n, ns[k]? = some n ∧ Dt.tup [.int (k : Nat), .int n] = y := by
      rw [List.getElem?_mapIdx, List.getElem?_map] at e
      cases q : ns[k]? with
      | none => rw [q] at e; cases e
      | some n => rw [q] at e; exact ⟨n, rfl, Option.some.inj e⟩
    have hk : k < ns.length := (List.getElem?_eq_some_iff.mp hn).1
    refine c_asg (ed_I (i := t * 31 + n * ((k : Int) + 7)) (ed_int1 (ed_I0 (ed_I (ed_var rfl) ed_int (.inr ⟨by decide, by decide⟩)) (ed_I (ed_int1 (ed_var rfl)) (ed_I0 (ed_var rfl) ed_int) (.inr ⟨?_, ?_⟩)))) ed_int (show (0 : Int) < 2147483629 by decide)) (c_turn' rfl ⟨_, _, _, rfl, ?_, ?_, .inr ⟨_, rfl⟩, .inr ⟨_, rfl⟩⟩)
    · have : (2 : Int) ^ 64 = 18446744073709551616 := rfl
      omega
    · have : (2 : Int) ^ 64 = 18446744073709551616 := rfl
      omega
    · exact Int.emod_nonneg _ (by decide)
    · have := Int.emod_lt_of_pos (t * 31 + n * ((k : Int) + 7)) (show (0 : Int) < 2147483629 by decide)
      omega
  · subst h2
    refine c_retO (eo_lst (evs_cons (ev_give hm (eo_lc (f := fun y es => es.set 3 (.dat y)) (p := fun _ => true) (fn := absD) (h5.hands h6) (wi_seq (ed_var rfl) rfl) (by rw [List.length_map]; omega) (fun P y _ => tg_name) (fun y _ => h5.hands (.inr ⟨_, rfl⟩)) (fun P _ y _ => eb_yes) fun P _ y hy _ => ?_)) (evs_cons ed_int (evs_cons ed_int (evs_cons (ed_var rfl) es_nil)))) ?_) ?_
    · obtain ⟨n, _, rfl⟩ := List.mem_map.mp hy
      exact ed_abs (ed_int1 (ed_var rfl))
    · rintro l ⟨_, _, rfl, _, _, _, rfl, _, _, _, rfl, _, _, _, rfl, _, rfl⟩
      show 4 ≤ 100000
      decide
    · intro l P H σ es ds h r hn h0 m
      refine k l P H σ es ds ?_ r hn h0 m
      obtain ⟨_, _, rfl, ⟨_, rfl, rfl⟩, _, _, rfl, rfl, _, _, rfl, rfl, _, _, rfl, rfl, rfl⟩ := h
      refine ⟨ns.map fun i => if i < 0 then -i else i, 0, 0, t, ?_, ?_, ?_, by decide, by omega, by decide, h3, h4⟩
      · rw [List.filter_eq_self.mpr (fun _ _ => rfl), List.map_map, List.map_map] <;> rfl
      · intro n hn
        obtain ⟨i, _, rfl⟩ := List.mem_map.mp hn
        split <;> omega
      · rw [List.length_map]; exact hl
end
section
variable {c : Fr} {D : Ends} {E : XK} {es : List Sv} {ta tb : TE} {x y : Dt} {p q : Rat} {b n t : Int} {a : Addr}
theorem ei_mod {α : Int → Prop} {m : Int} (h : EV c ta es (IsI α)) (hb : ED c tb es (.int m)) (hm : 0 < m) : EV c (tOp (rI (fun _ j => 0 < j) fun i j => .int (i % j)) (tCB (fun xs H Q => (∃ i, xs = [.int i] ∧ Q (.int i) H) ∨ ∃ k, xs = [.bl k] ∧ Q (.int (if k then 1 else 0)) H) (tCons ta tNil)) tb) es (fun d => ∃ z : Int, 0 ≤ z ∧ z < m ∧ d = .int z) :=
  EV.imp (ei_I (ei_int1 h) (ei_of hb) fun i j _ e => by rw [e]; exact hm) fun d ⟨k, e, i, j, _, ej, ek⟩ => ⟨k, by rw [ek, ej]; exact Int.emod_nonneg _ (by omega), by rw [ek, ej]; exact Int.emod_lt_of_pos _ hm, e⟩
theorem ev_mix (ha : ED c ta es (.int n)) (hb : ED c tb es (.int t)) (h0 : 0 ≤ n) (h1 : n < 2147483648) (h2 : 0 ≤ t) (h3 : t < 1000) : EV c (tCall (sp_u_law_mix c.K) [] E (tCons ta (tCons tb tNil))) es (IsI fun _ => True) :=
  EV.imp (ev_call (es_cons ha (es_cons hb es_nil)) ⟨.int 0, n, t, rfl, h0, h1, h2, h3, 0, Int.le_refl 0, rfl⟩) fun d ⟨_, _, _, _, _, _, _, z, _, e⟩ => ⟨z, e, trivial⟩
theorem ed_eqI {i j : Int} (ha : ED c ta es (.int i)) (hb : ED c tb es (.int j)) : EBd c (tTest (tOp (rEqD c.K) ta tb)) es (decide (i = j)) := eb_test (ed_eq ha hb rfl rfl)
theorem sem_draw {m : Int} (h0 : 0 < m) (h1 : m < 2 ^ 64) (hm : c.mu = [a]) (k : RetH c a D.rt (fun d => ∃ z : Int, 0 ≤ z ∧ z < m ∧ d = .int z)) : Cont c (t_u_law_draw c.K D) [.hand a, .dat (.int m), .no, .no] := by
  refine c_own (n := 0) rfl fun ds hk => ?_
  obtain ⟨ns, p, r, t, rfl, hn, hl, hp0, hp1, hr, ht0, ht1⟩ := hk
  have I0 : ∀ {es : List Sv} {d0 d1 d2 d3 : Dt}, es[0]? = some (.own a [d0, d1, d2, d3]) → ED c (tOp (rIx c.K) (tVar 0) (tC (.int 0))) es d0 := fun h => ed_ixO h ed_int rfl
  have I1 : ∀ {es : List Sv} {d0 d1 d2 d3 : Dt}, es[0]? = some (.own a [d0, d1, d2, d3]) → ED c (tOp (rIx c.K) (tVar 0) (tC (.int 1))) es d1 := fun h => ed_ixO h ed_int rfl
  have I2 : ∀ {es : List Sv} {d0 d1 d2 d3 : Dt}, es[0]? = some (.own a [d0, d1, d2, d3]) → ED c (tOp (rIx c.K) (tVar 0) (tC (.int 2))) es d2 := fun h => ed_ixO h ed_int rfl
  have I3 : ∀ {es : List Sv} {d0 d1 d2 d3 : Dt}, es[0]? = some (.own a [d0, d1, d2, d3]) → ED c (tOp (rIx c.K) (tVar 0) (tC (.int 3))) es d3 := fun h => ed_ixO h ed_int rfl
  have rest : ∀ (p r : Int) s, 0 ≤ p → p ≤ ns.length → 0 ≤ r → Cont c ((tSeq (tIfS (tTest (tOp (rI0 fun i j => .bl (decide (j < i))) (tOp (rIx c.K) (tVar 0) (tC (.int 2))) (tC (.int 0)))) (tSeq (tAsg (tOp (rIx c.K) (tVar 0) (tC (.int 2))) (gName 3))
    (tSeq (tAsg (tOp (rI CDivA fun i j => .int (i.fdiv j)) (tVar 3) (tVar 1)) (gSub (tVar 0) (tC (.int 2)) rSetL))
    (tRet (tOp (rI (fun _ j => 0 < j) fun i j => .int (i % j)) (tCB (fun xs H Q => (∃ i, xs = [.int i] ∧ Q (.int i) H) ∨ ∃ k, xs = [.bl k] ∧ Q (.int (if k then 1 else 0)) H) (tCons (tVar 3) tNil)) (tVar 1))))) tNext)
    (tSeq (tAsg (tOp (rI (fun _ j => 0 < j) fun i j => .int (i % j)) (tCB (fun xs H Q => (∃ i, xs = [.int i] ∧ Q (.int i) H) ∨ ∃ k, xs = [.bl k] ∧ Q (.int (if k then 1 else 0)) H) (tCons (tOp (rI0 fun i j => .int (i + j)) (tOp (rIx c.K) (tVar 0) (tC (.int 3))) (tC (.int 1))) tNil)) (tC (.int 2147483629))) (gSub (tVar 0) (tC (.int 3)) rSetL))
    (tRet (tOp (rI (fun _ j => 0 < j) fun i j => .int (i % j)) (tCB (fun xs H Q => (∃ i, xs = [.int i] ∧ Q (.int i) H) ∨ ∃ k, xs = [.bl k] ∧ Q (.int (if k then 1 else 0)) H) (tCons (tCall (sp_u_law_mix c.K) [] E0 (tCons (tOp (rIx c.K) (tVar 0) (tC (.int 3))) (tCons (tOp (rIx c.K) (tVar 0) (tC (.int 1))) tNil))) tNil)) (tVar 1))))) D)
      [.own a [.lst (ns.map Dt.int), .int p, .int r, .int t], .dat (.int m), s, .no] := fun p r s hp0 hp1 hr => by
    refine s_when (b := decide (0 < r)) (eb_test (ed_B0 (I2 rfl) ed_int)) (fun _ => ?_) fun _ => ?_
    · refine s_asg (I2 rfl) ?_
      have hc : CDivA r m := cdivA (b := 64) (by omega) (by have : (2 : Int) ^ 64 = 18446744073709551616 := rfl; have : (2 : Nat) ^ 64 = 18446744073709551616 := rfl; omega) (by decide) (by decide)
      refine s_set (n := 0) (j := 2) rfl (ed_I (ed_var rfl) (ed_var rfl) hc) ed_int (by show 2 < 4; decide) fun d e => ?_
      subst e
      refine c_retH (n := 0) (ei_mod (ei_of (ed_var rfl)) (ed_var rfl) h0) k hm rfl ⟨ns, p, r.fdiv m, t, rfl, hn, hl, hp0, hp1, ?_, ht0, ht1⟩
      rw [Int.fdiv_eq_ediv_of_nonneg _ (by omega)]
      exact Int.ediv_nonneg hr (by omega)
    · refine s_set (n := 0) (j := 3) rfl (ed_I (ed_int1 (ed_I0 (I3 rfl) ed_int)) ed_int (show (0 : Int) < 2147483629 by decide)) ed_int (by show 3 < 4; decide) fun d e => ?_
      subst e
      have u0 := Int.emod_nonneg (t + 1) (show (2147483629 : Int) ≠ 0 by decide)
      have u1 := Int.emod_lt_of_pos (t + 1) (show (0 : Int) < 2147483629 by decide)
      refine c_retH (n := 0) (ei_mod (ev_mix (I3 rfl) (I1 rfl) u0 (by omega) hp0 (by omega)) (ed_var rfl) h0) k hm rfl ⟨ns, p, r, _, rfl, hn, hl, hp0, hp1, hr, u0, by omega⟩
  refine s_when (b := decide (r = 0) && decide (p < ns.length)) (eb_and (ed_eqI (I2 rfl) ed_int) fun _ => eb_test (ed_B0 (I1 rfl) (ed_len (I0 rfl) (by show some (ns.map Dt.int).length = _; rw [List.length_map])))) (fun h => ?_) fun _ => rest p r _ hp0 hp1 hr
  obtain ⟨g1, g2⟩ := Bool.and_eq_true_iff.mp h
  have g1 := of_decide_eq_true g1
  have g2 := of_decide_eq_true g2
  subst g1
  obtain ⟨pn, rfl⟩ : ∃ pn : Nat, p = pn := ⟨p.toNat, by omega⟩
  have hpn : pn < ns.length := by omega
  have e2 : atI (ns.map Dt.int) (pn : Int) = some (.int ns[pn]) := by
    unfold atI
    rw [Evl.ixN_nat (by rw [List.length_map]; exact hpn)]
    show (ns.map Dt.int)[pn]? = _
    rw [List.getElem?_map, List.getElem?_eq_getElem hpn] <;> rfl
  have hc := hn ns[pn] (List.getElem_mem hpn)
  generalize ns[pn] = cell at e2 hc
  refine s_asg (ed_ixL (I0 rfl) (I1 rfl) e2) ?_
  refine s_set (n := 0) (j := 1) rfl (ed_I0 (I1 rfl) ed_int) ed_int (by show 1 < 4; decide) fun d e => ?_
  subst e
  refine s_when (b := decide (cell < 10 ^ 18)) (EBd.is (eb_test (ed_B0 (ed_var rfl) (ed_I ed_int ed_int ⟨by decide, by decide, by decide⟩))) rfl) (fun _ => ?_) fun _ => ?_
  · have u0 := Int.emod_nonneg cell (show (2147483647 : Int) ≠ 0 by decide)
    have u1 := Int.emod_lt_of_pos cell (show (0 : Int) < 2147483647 by decide)
    exact c_retH (n := 0) (ei_mod (ev_mix (ed_I (ed_int1 (ed_var rfl)) ed_int (show (0 : Int) < 2147483647 by decide)) (I1 rfl) u0 (by omega) (by omega) (by omega)) (ed_var rfl) h0) k hm rfl ⟨ns, pn + 1, 0, t, rfl, hn, hl, by omega, by omega, hr, ht0, ht1⟩
  · refine c_set (n := 0) (j := 2) rfl (ed_var rfl) ed_int (by show 2 < 4; decide) fun d e => ?_
    subst e
    exact rest (pn + 1) cell _ (by omega) (by omega) hc
end
theorem eqv_ratD {p q : Rat} : eqv (ratD p) (ratD q) = decide (p = q) := by
  show ((p.num == q.num) && (((p.den : Int) == q.den) && true)) = _
  by_cases h : p = q
  · subst h
    rw [decide_eq_true rfl, beq_self_eq_true, beq_self_eq_true] <;> rfl
  · rw [decide_eq_false h]
    cases h1 : (p.num == q.num) with
    | false => rfl
    | true =>
      cases h2 : ((p.den : Int) == q.den) with
      | false => rfl
      | true => exact (h (Rat.ext (eq_of_beq h1) (Int.ofNat.inj (eq_of_beq h2)))).elim
section
variable {c : Fr} {D : Ends} {E : XK} {es : List Sv} {ta tb te tx : TE} {x y u l : Dt} {p q : Rat} {a b e f n t : Int}
theorem eb_notT (h : ED c te es (.bl true)) : EBd c (tNot (tB te)) es false := eb_not (eb_B h)
theorem eb_or2 {tt tu : TT} (h : EBd c tt es false) (k : EBd c tu es false) : EBd c (tOr tt tu) es false := eb_or h fun _ => k
theorem eb_neF {i j : Int} (ha : ED c ta es (.int i)) (hb : ED c tb es (.int j)) (h : i = j) : EBd c (tTest (tOp (rNeD c.K) ta tb)) es false :=
  EBd.is (eb_test (ed_ne ha hb rfl rfl)) (by rw [eqv_int, decide_eq_true h] <;> rfl)
theorem eqv_strS (s : Str) : eqv (.str s) (.str s) = true := beq_self_eq_true s
theorem text_ok (p : Rat) : PyData.strOk (ratText p) = true := by
  unfold ratText
  split
  · exact ok_of _
  · exact ok_app (ok_app (ok_of _) (ok_of _)) (ok_of _)
theorem ed_cmp (ha : ED c ta es (ratD p)) (hb : ED c tb es (ratD q)) (hp : SzR 2000 p) (hq : SzR 2000 q) : ED c (tCall (sp_compare c.K) [] E (tCons ta (tCons tb tNil))) es (.int (cmpI p q)) := ed_two (f := fun p q => .int (cmpI p q)) ha hb hp hq
theorem ed_negR (h : ED c ta es (ratD p)) : ED c (tCall (sp_negative c.K) [] E (tCons ta tNil)) es (ratD (-p)) :=
  ed_call (es_cons h es_nil) ⟨p, rfl, rfl⟩ fun y ⟨p', e, ey⟩ => by rw [ey, ratD_inj (List.cons.inj e).1]
theorem ed_floor (h : ED c ta es (ratD p)) (hp : SzR 2000 p) : ED c (tCall (sp_floor_of c.K) [] E (tCons ta tNil)) es (.int (p.num / p.den)) :=
  ed_call (es_cons h es_nil) ⟨p, rfl, hp, rfl⟩ fun y ⟨p', e, _, ey⟩ => by rw [ey, ratD_inj (List.cons.inj e).1]
theorem ed_text (h : ED c ta es (ratD p)) (hp : SzR 1900 p) : ED c (tCall (sp_ratio_text c.K) [] E (tCons ta tNil)) es (.str (ratText p)) :=
  ed_call (es_cons h es_nil) ⟨p, rfl, hp, rfl⟩ fun y ⟨p', e, _, ey⟩ => by rw [ey, ratD_inj (List.cons.inj e).1]
theorem ev_draw {k : Nat} {ad : Addr} {m : Int} (hn : es[k]? = some (.hand ad)) (h : ED c ta es (.int m)) (h0 : 0 < m) (h1 : m < 2 ^ 64) : EV c (tCall (sp_u_law_draw c.K) [] E (tCons (tVar k) (tCons ta tNil))) es (IsI fun z => 0 ≤ z ∧ z < m) :=
  EV.imp (ev_callH hn (es_cons h es_nil) fun l e => by
    subst e
    exact ⟨.int 0, m, rfl, h0, h1, 0, Int.le_refl 0, h0, rfl⟩) fun d ⟨l, e, m', e', _, _, z, z0, z1, ez⟩ => by
    subst e
    cases e'
    exact ⟨z, ez, z0, z1⟩
theorem ed_isratio (h : ED c ta es x) (hx : Kins x) : ED c (tCall (sp_is_ratio c.K) [] E (tCons ta tNil)) es (.bl (ratioB x)) :=
  ed_call (es_cons h es_nil) ⟨x, rfl, hx, rfl⟩ fun y ⟨x', e, _, ey⟩ => by rw [ey, (List.cons.inj e).1]
theorem kins_of {d : Dt} (h : Kin d) (hn : isTup d = false) : Kins d := ⟨h, (fun l e => by rw [e] at hn; cases hn), fun l e => by rw [e] at hn; cases hn⟩
theorem kins_tup {l : List Dt} (h : ∀ y ∈ l, Kin y) : Kins (.tup l) := ⟨rfl, (fun m e => by cases e; exact h), fun m e => by cases e⟩
theorem ratio_of (q : Rat) : ratioB (ratD q) = true := by
  show (decide ((1 : Int) ≤ q.den) && decide (Nat.gcd q.num.natAbs q.den = 1)) = true
  have := den_pos q
  rw [decide_eq_true (by omega), decide_eq_true q.reduced] <;> rfl
theorem eb_word {s : Str} (h : ED c ta es d) (e : d = .str s) (hs : PyData.strOk s = true) : EBd c (tTest (tOp (rNeD c.K) ta (tC (.str s)))) es false :=
  EBd.is (eb_test (ed_ne (x := .str s) (y := .str s) (h.is e) ed_str (fine_str hs) (fine_str hs))) (by rw [eqv_strS] <;> rfl)
end
theorem maps_inj : ∀ {l m : List Rat}, l.map ratD = m.map ratD → l = m
  | [], [], _ => rfl
  | [], _ :: _, h => by cases h
  | _ :: _, [], h => by cases h
  | p :: l, q :: m, h => by
    have h' := List.cons.inj h
    rw [ratD_inj h'.1, maps_inj h'.2]
theorem fine_rats (l : List Rat) : fine (.lst (l.map ratD)) = true := by
  have h1 : bareAll (l.map ratD) = true := by
    induction l with
    | nil => rfl
    | cons p l ih => exact ih
  have h2 : PyData.canLayAll0 (pyAll (l.map ratD)) = true := by
    induction l with
    | nil => rfl
    | cons p l ih =>
      show (PyData.canLay0 (py (ratD p)) && PyData.canLayAll0 (pyAll (l.map ratD))) = true
      rw [ih h1] <;> rfl
  have h3 : PyData.depthAll (pyAll (l.map ratD)) ≤ 1 := by
    clear h1 h2
    induction l with
    | nil => exact Nat.zero_le _
    | cons p l ih =>
      show max (PyData.depth (py (ratD p))) (PyData.depthAll (pyAll (l.map ratD))) ≤ 1
      exact Nat.max_le.mpr ⟨Nat.le_refl _, ih⟩
  show (bareAll (l.map ratD) && (PyData.canLayAll0 (pyAll (l.map ratD)) && decide (PyData.depthAll (pyAll (l.map ratD)) + 1 ≤ 64))) = true
  rw [h1, h2, decide_eq_true (by omega)] <;> rfl
theorem eqv_rats (l : List Rat) : eqv (.lst (l.map ratD)) (.lst (l.map ratD)) = true := by
  show PyData.eqvAll (pyAll (l.map ratD)) (pyAll (l.map ratD)) = true
  induction l with
  | nil => rfl
  | cons p l ih =>
    show (eqv (ratD p) (ratD p) && PyData.eqvAll (pyAll (l.map ratD)) (pyAll (l.map ratD))) = true
    rw [ih, eqv_ratD, decide_eq_true rfl] <;> rfl
end Lw
set_option Elab.async false
set_option linter.all false
set_option maxRecDepth 100000
set_option maxHeartbeats 2000000
/-! More words over data: while, slices, +, zip, in, index, min, max, extend. -/
namespace My
open PySem PySem.Spec PyProof.Rows L2
open Evl (Ex)
theorem own_hand : ∀ {es : List Sv} {n : Nat} {l : Addr} {ds : List Dt}, es[n]? = some (.own l ds) → (owns es).Nodup → l ∉ handsOf es
  | [], _, _, _, e, _ => by simp at e
  | s :: es, 0, l, ds, e, nd => by
    cases Option.some.inj e
    have nd' := List.nodup_cons.mp (show (l :: owns es).Nodup from nd)
    intro m
    have sub : ∀ {es : List Sv}, ∀ a ∈ handsOf es, a ∈ owns es := by
      intro es
      induction es with
      | nil => intro a h; cases h
      | cons s es ih =>
        intro a h
        cases s with
        | no => exact ih a h
        | dat _ => exact ih a h
        | own _ _ => exact List.mem_cons_of_mem _ (ih a h)
        | hand b =>
          rcases List.mem_cons.mp h with rfl | h
          · exact List.mem_cons_self
          · exact List.mem_cons_of_mem _ (ih a h)
        | gen _ _ _ => exact List.mem_append_right _ (ih a h)
    exact nd'.1 (sub l m)
  | s :: es, n + 1, l, ds, e, nd => by
    have e' : es[n]? = some (.own l ds) := by simpa using e
    cases s with
    | no => exact own_hand (es := es) e' nd
    | dat _ => exact own_hand (es := es) e' nd
    | own b _ => exact own_hand (es := es) e' (List.nodup_cons.mp (show (b :: owns es).Nodup from nd)).2
    | hand b =>
      have nd' := List.nodup_cons.mp (show (b :: owns es).Nodup from nd)
      intro m
      rcases List.mem_cons.mp (show l ∈ b :: handsOf es from m) with z | z
      · exact nd'.1 (by rw [← z]; exact owns_mem (.inl e'))
      · exact own_hand e' nd'.2 z
    | gen b ins _ => exact own_hand (es := es) e' (List.nodup_append.mp (show ((b :: ins) ++ owns es).Nodup from nd)).2.1
theorem fresh_hand {c : Fr} {es : List Sv} {l : Addr} (h : l ∉ owns es) : l ∉ handsOf es := fun m => by
  have sub : ∀ {es : List Sv}, ∀ a ∈ handsOf es, a ∈ owns es := by
    intro es
    induction es with
    | nil => intro a h; cases h
    | cons s es ih =>
      intro a h
      cases s with
      | no => exact ih a h
      | dat _ => exact ih a h
      | own _ _ => exact List.mem_cons_of_mem _ (ih a h)
      | hand b =>
        rcases List.mem_cons.mp h with rfl | h
        · exact List.mem_cons_self
        · exact List.mem_cons_of_mem _ (ih a h)
      | gen _ _ _ => exact List.mem_append_right _ (ih a h)
  exact h (sub l m)
/-- a list of one's own, in a slot or fresh -/
def EL (c : Fr) (te : TE) (es : List Sv) (φ : List Dt → Prop) : Prop :=
  ∀ σ P H, Rep c P H σ es → ∀ Q : VK, (∀ l P' H' ds xs, φ ds → Rep c P' H' σ es → Kp es P H P' H' → P' l = none → H' l = some (.lst xs) → HasAll c.K P' xs ds → l ∉ handsOf es → Q (.ref l) H') → te σ H Q
section
variable {c : Fr} {es es' : List Sv} {te ta tb tx : TE} {tt tu : TT} {t u w : TS} {ts : TA} {d x y : Dt} {ds : List Dt} {φ ψ χ : Dt → Prop} {i j : Int} {b : Bool} {D : Ends} {n m : Nat} {α β : List Dt → Prop}
theorem el_own {l : Addr} (h : es[n]? = some (.own l ds)) : EL c (tVar n) es (fun r => r = ds) := fun σ P H r Q q => by
  obtain ⟨e0, _, m2, xs, hx, hd⟩ := r.sl.getO h
  exact ⟨_, e0, q l P H ds xs rfl r Kp.refl m2 hx hd (own_hand h r.nd)⟩
theorem el_new (h : EO c te es α) : EL c te es α := fun σ P H r Q q => h σ P H r _ fun l P1 H1 ds hd r1 e1 hn h0 ⟨_, m2, xs, hx, hh⟩ => q l P1 H1 ds xs hd r1 e1 m2 hx hh (fresh_hand (c := c) hn)
/-- + of two such -/
theorem eo_cat (ha : EL c ta es α) (hb : EL c tb es β) (hl : ∀ x y, α x → β y → x.length + y.length ≤ 100000) : EO c (tOp rCat ta tb) es (fun r => ∃ x y, α x ∧ β y ∧ r = x ++ y) := fun σ P H r Q q =>
  ha σ P H r _ fun l P1 H1 x xs hx r1 e1 p1 h1 k1 n1 => hb σ P1 H1 r1 _ fun l2 P2 H2 y ys hy r2 e2 p2 h2 k2 n2 => by
    have h1' : H2 l = some (.lst xs) := e2.k l _ n1 h1
    have k1' := HasAll.mono e2.p _ k1
    refine ⟨l, l2, xs, ys, rfl, rfl, h1', h2, Evl.sz_of (by rw [k1.len, k2.len]; exact hl x y hx hy), fun p hp => ?_⟩
    have g := grow_own (o := .lst (xs ++ ys)) r2.ex hp
    exact q p P2 _ (x ++ y) ⟨x, y, hx, hy, rfl⟩ (r2.step g) ((e1.trans e2).trans (.of g)) (r2.fresh hp) ((e1.trans e2).n p hp) ⟨.inl (r2.dom p hp), none_back r2.ex hp, _, upd_same, k1'.append k2⟩
/-! while -/
inductive Less (c : Fr) (I : Nat → List Sv → Prop) (m : Nat) (σ : L2.St) (H : Hp) : Prop
  | mk (m' : Nat) (lt : m' < m) (P : Hp) (es : List Sv) (h : I m' es) (r : Rep c P H σ es)
theorem c_less {I : Nat → List Sv → Prop} {k : L2.St → Hp → Prop} (e : k = Less c I m) (n : Nat) (lt : n < m) (h : I n es) : Cont c k es := by
  subst e
  exact fun σ P H r => ⟨n, lt, P, es, h, r⟩
theorem c_while {I : Nat → List Sv → Prop} (m0 : Nat) (h0 : I m0 es) (hs : ∀ m es, I m es → ∃ b, EBd c tt es b ∧ (b = true → Cont c (t { D with nx := Less c I m, ct := Less c I m, bk := D.nx }) es) ∧ (b = false → Cont c D.nx es)) : Cont c (tWhile tt t D) es := fun σ P H r =>
  ⟨fun m σ H => ∃ P es, I m es ∧ Rep c P H σ es, ⟨m0, P, es, h0, r⟩, fun m σ H ⟨P, es, hI, r⟩ => by
    obtain ⟨b, hb, h1, h2⟩ := hs m es hI
    refine hb σ P H r _ fun a P1 H1 e r1 e1 => ?_
    subst e
    cases a with
    | true =>
      rw [if_pos rfl]
      exact ⟨Less c I m, fun σ' H' ⟨m', lt, P, es, h, r⟩ => ⟨m', lt, P, es, h, r⟩, h1 rfl _ P1 H1 r1⟩
    | false =>
      rw [if_neg (by decide)]
      exact h2 rfl _ P1 H1 r1⟩
theorem s_while {I : Nat → List Sv → Prop} (m0 : Nat) (h0 : I m0 es) (hs : ∀ m es, I m es → ∃ b, EBd c tt es b ∧ (b = true → Cont c (t { D with nx := Less c I m, ct := Less c I m, bk := u D }) es) ∧ (b = false → Cont c (u D) es)) : Cont c (tSeq (tWhile tt t) u D) es := c_seq (c_while m0 h0 hs)
/-! slices -/
def cutD (l : List Dt) (lo hi : Option Int) : List Dt := (l.drop (HT.sIx l.length 0 lo)).take (HT.sIx l.length l.length hi - HT.sIx l.length 0 lo)
theorem HasAll.drop {K : PySem.W.Frag} {H : Hp} : ∀ {ds : List Dt} {vs : List V} (n : Nat), HasAll K H vs ds → HasAll K H (vs.drop n) (ds.drop n)
  | _, _, 0, h => h
  | [], _, n + 1, h => by cases h; exact .nil
  | _ :: _, _, n + 1, h => by
    cases h with
    | cons a b => exact b.drop n
theorem HasAll.take {K : PySem.W.Frag} {H : Hp} : ∀ {ds : List Dt} {vs : List V} (n : Nat), HasAll K H vs ds → HasAll K H (vs.take n) (ds.take n)
  | _, _, 0, _ => .nil
  | [], _, n + 1, h => by cases h; exact .nil
  | _ :: _, _, n + 1, h => by
    cases h with
    | cons a b => exact .cons a (b.take n)
theorem HasAll.cut {K : PySem.W.Frag} {H : Hp} {ds : List Dt} {vs : List V} {lo hi : Option Int} (h : HasAll K H vs ds) : HasAll K H (cutV vs lo hi) (cutD ds lo hi) := by
  unfold cutV cutD
  rw [h.len]
  exact (h.drop _).take _
/-- a slice's part -/
def EP1 (c : Fr) (tl : TO) (es : List Sv) (o : Option Int) : Prop := ∀ σ P H, Rep c P H σ es → ∀ Q : Option Int → Hp → Prop, (∀ P' H', Rep c P' H' σ es → Kp es P H P' H' → Q o H') → tl σ H Q
theorem ep_none : EP1 c tNoPart es none := fun σ P H r Q q => q P H r Kp.refl
theorem ep_some (h : ED c te es (.int i)) : EP1 c (tPart te) es (some i) := fun σ P H r Q q => h σ P H r _ fun v P1 H1 z hz r1 e1 h1 => by
  subst hz
  cases h1
  exact ⟨i, rfl, q P1 H1 r1 e1⟩
variable {lo hi : Option Int} {tl th : TO}
theorem eo_slice {l : List Dt} (h : ED c te es (.lst l)) (hl : EP1 c tl es lo) (hh : EP1 c th es hi) : EO c (tSl (rSlL c.K) te tl th) es (fun r => r = cutD l lo hi) := fun σ P H r Q q =>
  h σ P H r _ fun v P1 H1 z hz r1 e1 h1 => hl σ P1 H1 r1 _ fun P2 H2 r2 e2 => hh σ P2 H2 r2 _ fun P3 H3 r3 e3 => by
    subst hz
    cases h1 with
    | @lst _ xs _ s k =>
      have s3 := Evl.ex_l r3.ex (Evl.ex_l e3.p (Evl.ex_l e2.p s))
      have k3 := HasAll.mono (e2.p.trans e3.p) _ k
      refine ⟨_, _, rfl, s3, fun p hp => ?_⟩
      have g := grow_own (o := .lst (cutV xs lo hi)) r3.ex hp
      exact q p P3 _ _ rfl (r3.step g) (((e1.trans e2).trans e3).trans (.of g)) (r3.fresh hp) (((e1.trans e2).trans e3).n p hp) ⟨.inl (r3.dom p hp), none_back r3.ex hp, _, upd_same, k3.cut⟩
theorem ed_sliceT {l : List Dt} (h : ED c te es (.tup l)) (hl : EP1 c tl es lo) (hh : EP1 c th es hi) : ED c (tSl (rSlA c.K) te tl th) es (.tup (cutD l lo hi)) := fun σ P H r Q q =>
  h σ P H r _ fun v P1 H1 z hz r1 e1 h1 => hl σ P1 H1 r1 _ fun P2 H2 r2 e2 => hh σ P2 H2 r2 _ fun P3 H3 r3 e3 => by
    subst hz
    cases h1 with
    | @tup a xs _ s k =>
      have s3 := Evl.ex_t r3.ex (Evl.ex_t e3.p (Evl.ex_t e2.p s))
      have k3 := HasAll.mono (e2.p.trans e3.p) _ k
      refine ⟨_, _, rfl, s3, fun z => ?_, fun _ p hp => ?_⟩
      · refine q _ P3 H3 _ rfl r3 ((e1.trans e2).trans e3) (.tup (Evl.ex_t e3.p (Evl.ex_t e2.p s)) ?_)
        have e : cutD l lo hi = l := by
          unfold cutD
          rw [k.len] at z
          rw [z.1, z.2, List.drop_zero, Nat.sub_zero, List.take_length]
        rw [e]
        exact k3
      · have g := grow_new (o := .tup (cutV xs lo hi)) r3.ex hp
        exact q _ _ _ _ rfl (r3.step g) (((e1.trans e2).trans e3).trans (.of g)) (.tup (Evl.st_of upd_same) (HasAll.mono g.p _ k3.cut))
/-! in, not in, index: lists of data -/
theorem any_eqv (x : Dt) : ∀ l : List Dt, ((pyAll l).any fun z => PyData.eqv z (py x)) = l.any fun y => eqv y x
  | [] => rfl
  | a :: l => congrArg (eqv a x || ·) (any_eqv x l)
theorem rd_in {l : List Dt} (hx : fine x = true) (hy : fine (.lst l) = true) : RD c (rInD c.K) x (.lst l) (fun z => z = .bl (l.any fun y => eqv y x)) :=
  rd_sc (fun _ => .bl _) fun v u P H e hv hu Q q => ⟨py x, pyAll l, Has.dp _ (Has.mono e _ hv) (fine_bare hx), Has.dp _ (Has.mono e _ hu) (fine_bare hy), fine_shaped hx, fine_shaped hy, by
    rw [any_eqv]
    exact q⟩
theorem rd_notIn {l : List Dt} (hx : fine x = true) (hy : fine (.lst l) = true) : RD c (rNotInD c.K) x (.lst l) (fun z => z = .bl (!l.any fun y => eqv y x)) :=
  rd_sc (fun _ => .bl _) fun v u P H e hv hu Q q => ⟨py x, pyAll l, Has.dp _ (Has.mono e _ hv) (fine_bare hx), Has.dp _ (Has.mono e _ hu) (fine_bare hy), fine_shaped hx, fine_shaped hy, by
    rw [any_eqv]
    exact q⟩
theorem ed_in {l : List Dt} (ha : ED c ta es x) (hb : ED c tb es (.lst l)) (hx : fine x = true) (hy : fine (.lst l) = true) : ED c (tOp (rInD c.K) ta tb) es (.bl (l.any fun y => eqv y x)) := ed_op ha hb (rd_in hx hy)
theorem ed_notIn {l : List Dt} (ha : ED c ta es x) (hb : ED c tb es (.lst l)) (hx : fine x = true) (hy : fine (.lst l) = true) : ED c (tOp (rNotInD c.K) ta tb) es (.bl (!l.any fun y => eqv y x)) := ed_op ha hb (rd_notIn hx hy)
/-! the lesser, the greater of two numbers -/
theorem ed_min2 (ha : ED c ta es (.int i)) (hb : ED c tb es (.int j)) : ED c (tCB (fun xs H Q => ∃ i j, xs = [.int i, .int j] ∧ Q (.int (if j < i then j else i)) H) (tCons ta (tCons tb tNil))) es (.int (if j < i then j else i)) := fun σ P H r Q q =>
  ha σ P H r _ fun v P1 H1 z hz r1 e1 h1 => hb σ P1 H1 r1 _ fun u P2 H2 z2 hz2 r2 e2 h2 => by
    subst hz hz2
    cases h1
    cases h2
    exact ⟨i, j, rfl, q _ P2 H2 _ rfl r2 (e1.trans e2) (.int _)⟩
theorem ed_max2 (ha : ED c ta es (.int i)) (hb : ED c tb es (.int j)) : ED c (tCB (fun xs H Q => ∃ i j, xs = [.int i, .int j] ∧ Q (.int (if j > i then j else i)) H) (tCons ta (tCons tb tNil))) es (.int (if j > i then j else i)) := fun σ P H r Q q =>
  ha σ P H r _ fun v P1 H1 z hz r1 e1 h1 => hb σ P1 H1 r1 _ fun u P2 H2 z2 hz2 r2 e2 h2 => by
    subst hz hz2
    cases h1
    cases h2
    exact ⟨i, j, rfl, q _ P2 H2 _ rfl r2 (e1.trans e2) (.int _)⟩
/-! zip of two lists -/
theorem wi_zip {l m : List Dt} (h : EDs c ts es [.lst l, .lst m]) : WI c (iZip c.K ts) es (List.zipWith (fun a b => Dt.tup [a, b]) l m) := fun σ P H r R q =>
  h σ P H r _ fun vs P1 H1 z hz r1 e1 h1 => by
    subst hz
    cases h1 with
    | cons a1 h1 =>
      cases h1 with
      | cons a2 h1 =>
        cases h1
        cases a1 with
        | @lst A xs _ s k =>
          cases a2 with
          | @lst B ys _ s2 k2 =>
            refine ⟨_, _, _, _, rfl, Evl.ex_l r1.ex s, Evl.ex_l r1.ex s2, q (Itz c.K A B) P1 H1 (fun H => SqL c.K H A xs ∧ SqL c.K H B ys) (YPair (fun i => xs[i]?) fun i => ys[i]?) r1 e1 (by rw [List.length_zipWith, ← k.len, ← k2.len]; exact walk_zip rfl) (fun P' H' a b => ⟨Evl.ex_l (a.trans b) s, Evl.ex_l (a.trans b) s2⟩) fun i P' H' x H'' hi a b y => ?_⟩
            obtain ⟨T, x1, x2, rfl, nT, rfl, e2, e3⟩ := y
            obtain ⟨d1, e4, hd1⟩ := k.get' e2
            obtain ⟨d2, e5, hd2⟩ := k2.get' e3
            have g := grow_new (o := .tup [x1, x2]) b nT
            refine ⟨_, .tup [d1, d2], g, by rw [List.getElem?_zipWith, e4, e5], ?_⟩
            exact .tup (Evl.st_of upd_same) (.cons (Has.mono (a.trans g.p) _ hd1) (.cons (Has.mono (a.trans g.p) _ hd2) .nil))
end
end My
set_option Elab.async false
set_option linter.all false
set_option maxRecDepth 100000
set_option maxHeartbeats 2000000
/-! index in tuples of data, starred displays, extend. -/
namespace My
open PySem PySem.Spec PyProof.Rows L2 StX
open Evl (Ex)
def rTIndexD (K : PySem.W.Frag) : V → List V → Hp → VK → Prop := fun x xs H Q => ∃ (a : Addr) (y : V) (d : PyData) (ds : List PyData) (j : Nat) (z : PyData), x = V.ref a ∧ xs = [y] ∧ Dp K H (V.ref a) (.tuple ds) ∧ Dp K H y d ∧
  SeqAt.shaped (.tuple ds) = true ∧ SeqAt.shaped d = true ∧ ds[j]? = some z ∧ PyData.eqv z d = true ∧ (∀ (m : Nat) (z' : PyData), m < j → ds[m]? = some z' → PyData.eqv z' d = false) ∧ Q (.int (j : Nat)) H
theorem room_tup {A : Around} {d : PyData} {ds : List PyData} (hd : SeqAt.shaped d = true) (hu : A.units + 65 < cLine) : A.units + 1 + min (PyData.depthAll ds) d.depth < cLine := by
  have h1 := SeqAt.depth_of_shaped hd
  have h2 : min (PyData.depthAll ds) d.depth ≤ d.depth := Nat.min_le_right _ _
  omega
theorem mt_tindexD {X : Cx} (hu : X.A.units + 65 < cLine) : MtR X "tuple.index" (rTIndexD X.K) := by
  intro pins s σ H x xs v us Q I rx rxs h
  obtain ⟨a, y, d, ds, j, z, rfl, rfl, hl, hy, sl, sd, hz, hzj, hno, q⟩ := h
  cases rx
  cases rxs with
  | cons ry rt =>
    rename_i uy ut
    cases rt
    obtain ⟨bs, r1⟩ := Dp.reads I d y uy hy ry
    have hxs : PyData.canLayAll0 ds = true := SeqAt.canLay_of_shaped sl
    have hroom : X.A.units + 1 + min (PyData.depthAll ds) d.depth < cLine := room_tup sd hu
    cases hl with
    | tup hs ha =>
      obtain ⟨its, rv, ⟨⟨cls, dd, data, sls⟩, ho, hc, n, hdt⟩, hlen⟩ := I.tuple hs
      simp only at hc hdt
      subst hc hdt
      obtain ⟨as, h4⟩ := Dp.readsAll I ds _ its ha rv
      have hn : its.length = ds.length := SeqAt.ReadsAll.length ds its as h4
      have hmap : its.map (SeqAt.readOf s.heap) = ds := SeqAt.readsAll_map ds its as hxs h4
      obtain ⟨hjd, _⟩ := List.getElem?_eq_some_iff.mp hz
      have hjl : j < its.length := by omega
      have hj : j < its.toArray.size := by simpa using hjl
      have at_ : ∀ (m : Nat) (hm : m < its.toArray.size) (z' : PyData), ds[m]? = some z' → SeqAt.readOf s.heap its.toArray[m] = z' := fun m hm z' hz' => by
        have hml : m < its.length := by simpa using hm
        rw [← hmap, List.getElem?_map, List.getElem?_eq_getElem hml] at hz'
        simpa using (Option.some.inj hz' : SeqAt.readOf s.heap its[m] = z')
      refine call_meets PySem.F.slot_tuple_index ⟨_, ho, rfl⟩ PySem.F.entry_tuple_index (PySem.F.args_tuple_index_2 _ _)
        (TI.tuple_indexAt a its.toArray n dd sls uy (fun u => PyData.eqv (SeqAt.readOf s.heap u) d) j hj ?_ ?_) ⟨ho, SeqAt.items_eqAt (vs := its.toArray) (show ReadsAll s.heap its.toArray.toList ds as from h4) r1 hxs (SeqAt.canLay_of_shaped sd) hroom, ?_⟩
      · show PyData.eqv (SeqAt.readOf s.heap its.toArray[j]) d = true
        rw [at_ j hj z hz]
        exact hzj
      · intro m hm hmj
        have hz' : ds[m]? = some ds[m] := List.getElem?_eq_getElem (show m < ds.length by omega)
        show PyData.eqv (SeqAt.readOf s.heap its.toArray[m]) d = false
        rw [at_ m hm _ hz']
        exact hno m _ hmj hz'
      · exact ⟨.int (j : Nat), H, I.tok _, ⟨_, rfl⟩, q⟩
/-! a tuple made here has no dict: its methods are the type's -/
section
variable {X : Cx} {e o : Expr} {es : List Expr} {to : TE} {t : TA} {name : Str} {apos cpos pos : Pos} {id : String} {r : V → List V → Hp → VK → Prop}
def tTupN (ts : TA) : TE := fun σ H Q => ts σ H fun xs H1 => xs.length ≤ sizeLine ∧ ∀ p, H1 p = none → ∀ o : Obj, o.cls = .type "tuple" → o.dict = none → Q (.ref p) (upd H1 p (.frz o (.tup xs)))
theorem pe_tupN {x1} (h : PA X es t) : PE X (.Tuple es x1 pos) (tTupN t) := by
  refine ⟨fun pins s σ H Q I hq => ?_⟩
  refine wpAny_Tuple_spliced (thn (h.run pos pins s σ H _ I hq) fun us s1 ⟨xs, H1, I1, r, z, q⟩ => ⟨by rw [← r.length]; exact z, ?_⟩)
  have hf : H1 s1.heap.objs.size = none := I1.hok.fresh (Nat.le_refl _)
  refine ⟨.ref s1.heap.objs.size, upd H1 s1.heap.objs.size (.frz _ (.tup xs)), I1.laid (t' := s1.toks) (fun b u e => Heap.get?_push_of_some _ e) (Nat.le_refl _) ⟨Heap.get?_push_size _ rfl, ?_⟩, rfl, q _ hf _ rfl rfl⟩
  exact ⟨z, us, r, ⟨_, Heap.get?_push_size _ rfl, rfl, _, rfl⟩⟩
def tBMN (r : V → List V → Hp → VK → Prop) (to : TE) (t : TA) : TE := fun σ H Q => to σ H fun x H1 => (∃ a ob u, x = .ref a ∧ H1 a = some (.frz ob u) ∧ ob.cls = .type "tuple" ∧ ob.dict = none) ∧ t σ H1 fun xs H2 => r x xs H2 Q
theorem pe_bmN (slot : Slot "tuple" name id) (hty : typeOf (.builtin id) = pure (.type "method_descriptor")) (hm : MtR X id r) (ho : PE X o to) (ha : PA X (e :: es) t)
    (hbase : attributeBase o name X.env (eval o X.env) = eval o X.env := by rfl)
    (hfew : ((backTo cpos (starEach (e :: es) X.env)).all (fun x => !x.1) && (backToKw cpos (keywordEach [] X.env)).all (fun x => x.1.isSome)
      && decide ((e :: es).length + ([] : List Keyword).length + (if ([] : List Keyword).isEmpty then 0 else 1) < 30)) = true := by rfl)
    (hline : (apos.endLine == cpos.line) = true := by rfl) (hs : starEach (e :: es) X.env = (false, eval e X.env) :: starEach es X.env := by rfl) (hplain : (backTo cpos (starEach es X.env)).any (·.1) = false := by rfl) :
    PE X (.Call (.Attribute o name apos) (e :: es) [] cpos) (tBMN r to t) := by
  refine ⟨fun pins s σ H Q I h => ?_⟩
  refine wpAny_Call_method_late hbase hfew hline rfl (thn (ho.run pins s σ H _ I h) fun v s1 ⟨x, H1, I1, r1, ty, q1⟩ => ?_)
  obtain ⟨a, ob, u, rfl, ha1, hc, hd⟩ := ty
  obtain rfl : v = Value.ref a := r1
  have hg : s1.heap.get? a = some ob := (I1.hok a _ ha1).1
  refine ⟨"tuple", id, PySem.F.plainAttrs_tuple, slot, hty, ⟨ob, hg, hc⟩, fun b eb => by cases eb; exact ⟨ob, hg, hd⟩, ?_⟩
  have hA := ha.run cpos pins s1 σ H1 _ I1 q1
  rw [hs] at hA ⊢
  refine Calls.callWith_builtin (by show (false || (backTo cpos (starEach es X.env)).any (·.1)) = false; rw [hplain] <;> rfl) (Calls.evalArgs_plain ?_)
  exact thn hA fun us s2 ⟨vs, H2, I2, r2, q2⟩ => hm pins s2 σ H2 (.ref a) vs (.ref a) us _ I2 rfl r2 q2
end
section
variable {c : Fr} {es es' : List Sv} {te ta tb tx : TE} {tt tu : TT} {t u w : TS} {ts : TA} {d x y : Dt} {ds : List Dt} {φ ψ χ : Dt → Prop} {i j : Int} {b : Bool} {D : Ends} {n m : Nat} {α β : List Dt → Prop}
theorem pyAll_get : ∀ {l : List Dt} {j : Nat} {d : Dt}, l[j]? = some d → (pyAll l)[j]? = some (py d)
  | [], _, _, h => by simp at h
  | _ :: _, 0, _, h => by cases Option.some.inj h; rfl
  | _ :: l, j + 1, d, h => by simpa [pyAll] using pyAll_get (l := l) (j := j) (d := d) (by simpa using h)
theorem pyAll_get' : ∀ {l : List Dt} {j : Nat} {p : PyData}, (pyAll l)[j]? = some p → ∃ d, l[j]? = some d ∧ p = py d
  | [], _, _, h => by simp [pyAll] at h
  | a :: _, 0, _, h => ⟨a, rfl, (Option.some.inj h).symm⟩
  | _ :: l, j + 1, p, h => by
    obtain ⟨d, e1, e2⟩ := pyAll_get' (l := l) (j := j) (p := p) (by simpa [pyAll] using h)
    exact ⟨d, by simpa using e1, e2⟩
/-- (.., *e, ..) -/
theorem evs_star {l : List Dt} {ρ : List Dt → Prop} (h : ED c te es x) (hx : itemsD x = some l) (hr : EVs c ts es ρ) : EVs c (tStar c.K te ts) es (fun r => ∃ m, r = l ++ m ∧ ρ m) := fun σ P H r Q q =>
  h σ P H r _ fun v P1 H1 a e r1 e1 h1 => by
    subst e
    cases h1 with
    | @lst p xs _ s k =>
      cases Option.some.inj hx
      exact ⟨p, xs, rfl, .inr (Evl.ex_l r1.ex s), hr σ P1 H1 r1 _ fun vs P2 H2 m hm r2 e2 h2 => q _ P2 H2 _ ⟨m, rfl, hm⟩ r2 (e1.trans e2) ((HasAll.mono e2.p _ k).append h2)⟩
    | @tup p xs _ s k =>
      cases Option.some.inj hx
      exact ⟨p, xs, rfl, .inl (Evl.ex_t r1.ex s), hr σ P1 H1 r1 _ fun vs P2 H2 m hm r2 e2 h2 => q _ P2 H2 _ ⟨m, rfl, hm⟩ r2 (e1.trans e2) ((HasAll.mono e2.p _ k).append h2)⟩
    | _ => cases hx
theorem es_star {l m : List Dt} (h : ED c te es x) (hx : itemsD x = some l) (hr : EDs c ts es m) : EDs c (tStar c.K te ts) es (l ++ m) :=
  EVs.imp (evs_star h hx hr) fun r ⟨m', e, e'⟩ => by rw [e, e']
theorem ed_tupN (h : EDs c ts es ds) (hl : ds.length ≤ 100000) : ED c (tTupN ts) es (.tupN ds) := fun σ P H r Q q =>
  h σ P H r _ fun vs P1 H1 l e r1 e1 h1 => by
    subst e
    refine ⟨Evl.sz_of (by rw [h1.len]; exact hl), fun p hp o hc hd => ?_⟩
    have g := grow_new (o := .frz o (.tup vs)) r1.ex hp
    exact q _ _ _ _ rfl (r1.step g) (e1.trans (.of g)) (.tupN upd_same hc hd (HasAll.mono g.p _ h1))
/-- t.index(x), t made here: the first place -/
theorem ed_tindex {l : List Dt} {j : Nat} (ha : ED c ta es (.tupN l)) (hb : ED c tb es x) (hl : fine (.tupN l) = true) (hx : fine x = true) (hj : l[j]? = some y) (hy : eqv y x = true) (hno : ∀ m z, m < j → l[m]? = some z → eqv z x = false) :
    ED c (tBMN (rTIndexD c.K) ta (tCons tb tNil)) es (.int j) := fun σ P H r Q q =>
  ha σ P H r _ fun v P1 H1 a e r1 e1 h1 => by
    subst e
    have h1' := h1
    cases h1 with
    | @tupN a o xs _ s hc hd k =>
      refine ⟨⟨a, o, _, rfl, r1.ex _ _ s, hc, hd⟩, es_cons hb es_nil σ P1 H1 r1 _ fun us P2 H2 z hz r2 e2 h2 => ?_⟩
      subst hz
      cases h2 with
      | @cons u _ _ _ hu h2 =>
        cases h2
        refine ⟨a, u, py x, pyAll l, j, py y, rfl, rfl, Has.dp _ (Has.mono (e2.p.trans r2.ex) _ h1') (fine_bare hl), Has.dp _ (Has.mono r2.ex _ hu) (fine_bare hx), fine_shaped hl, fine_shaped hx, pyAll_get hj, hy, fun m z' lt hz => ?_, q _ P2 H2 _ rfl r2 (e1.trans e2) (.int _)⟩
        obtain ⟨d, e3, rfl⟩ := pyAll_get' hz
        exact hno m d lt e3
/-- raise C(e, e') -/
theorem c_raise2 {Ro : Out → Prop} {f g : Str} {C : Addr} {E : XK} (h : EDs c ts es [x, y]) (hk : XtD c E Ro) (hR : Ro (.ex C [g, f] [y, x])) : Cont c ((fun (_ : Ends) σ H => tMkO C (spIni2 c.K C f g) [] ts σ H fun cls d H' => E cls d H') D) es := fun σ P H r =>
  h σ P H r _ fun vs P1 H1 l hl r1 e1 k1 => by
    subst hl
    cases k1 with
    | @cons v _ _ _ kx k1 =>
      cases k1 with
      | @cons u _ _ _ ky k1 =>
        cases k1
        refine ⟨by show 2 ≤ 1000; decide, fun a ha => ⟨a, v, u, rfl, upd_same, fun dx hdx ne => ⟨rfl, dx, [(g, u), (f, v)], ?_, upd_same, ?_, ?_⟩⟩⟩
        · rw [upd_ne (fun z => ne z.symm), upd_same]
        · rw [upd_ne ne] at hdx; exact hdx
        · have hd0 : H1 dx = none := by rw [upd_ne ne] at hdx; exact hdx
          have e : upd (del (upd (upd (upd (upd H1 a (exo a C none)) dx (exd dx [(f, v)])) a (exo a C (some dx))) dx (exd dx [(g, u), (f, v)])) a) dx (.xd [(g, u), (f, v)]) = upd H1 dx (.xd [(g, u), (f, v)]) := by
            funext b
            by_cases z : b = dx
            · subst z; rw [upd_same, upd_same]
            · rw [upd_ne z, upd_ne z]
              by_cases z2 : b = a
              · subst z2; rw [del_same, ha]
              · rw [del_ne z2, upd_ne z, upd_ne z2, upd_ne z, upd_ne z2]
          rw [e]
          have gg := grow_own (o := .xd [(g, u), (f, v)]) r1.ex hd0
          exact hk dx P1 _ σ es C [(g, u), (f, v)] [y, x] hR (r1.step gg) (r1.dom dx hd0) (none_back r1.ex hd0) upd_same (.cons ky (.cons kx .nil))
end
end My
set_option Elab.async false
set_option linter.all false
set_option maxRecDepth 100000
set_option maxHeartbeats 4000000
/-! More of ratios.py: is_sequence, merged_ratios, ascending_ratios, middle_of_two. -/
namespace Lw
open PySem PySem.Spec PyProof.Rows L2 My
local macro_rules | `(tactic| walk_at "ed") => `(tactic| first
  | exact ed_int | exact ed_bl | exact ed_str | exact ed_non
  | exact ed_var rfl
  | (apply ed_I0; (focus walk_at "ed"); (focus walk_at "ed"))
  | (apply ed_B0; (focus walk_at "ed"); (focus walk_at "ed"))
  | (apply ed_neg; (focus walk_at "ed"))
  | (apply ed_ixT; (focus walk_at "ed"); (focus walk_at "ed"); (focus rfl))
  | (apply ed_ixL; (focus walk_at "ed"); (focus walk_at "ed"); (focus rfl))
  | (apply ed_ixO; (focus rfl); (focus walk_at "ed"); (focus rfl))
  | (apply ed_len; (focus walk_at "ed"); (focus rfl))
  | (apply ed_lenO; (focus rfl))
  | (apply ed_tup; (focus walk_at "ed"); (focus (simp only [List.length_cons, List.length_nil]; decide)))
  | (apply ed_eq; (focus walk_at "ed"); (focus walk_at "ed"); (focus rfl); (focus rfl))
  | (apply ed_ne; (focus walk_at "ed"); (focus walk_at "ed"); (focus rfl); (focus rfl))
  | (apply ed_isN; (focus walk_at "ed"))
  | (apply ed_notN; (focus walk_at "ed"))
  | (apply ed_isB; (focus walk_at "ed"); (focus walk_at "ed"))
  | (apply ed_notB; (focus walk_at "ed"); (focus walk_at "ed"))
  | (apply ed_isi; (focus walk_at "ed"); (focus first | rfl | assumption); (focus decide +kernel))
  | (apply ed_isi2; (focus walk_at "ed"); (focus first | rfl | assumption); (focus decide +kernel); (focus decide +kernel))
  | (apply ed_not; (focus walk_at "ed"))
  | (apply ed_int1; (focus walk_at "ed"))
  | (apply ed_abs; (focus walk_at "ed"))
  | (apply ed_gcd; (focus walk_at "ed"); (focus walk_at "ed"))
  | exact es_nil
  | (apply es_cons; (focus walk_at "ed"); (focus walk_at "ed"))
  | (apply eb_test; (focus walk_at "ed"))
  | (apply eb_B; (focus walk_at "ed"))
  | (apply eb_not; (focus walk_at "ed")))
/-! promises -/
def isSeqB : Dt → Bool
  | .lst _ => true
  | .tup _ => true
  | .tupN _ => true
  | _ => false
def seqB (x lo hi : Dt) : Bool := match itemsD x with
  | some l => wholeB (.int l.length) lo hi
  | none => false
def NN (x : Dt) : Prop := ∀ l, x ≠ .tupN l
def R_is_sequence (ds : List Dt) (d : Dt) : Prop := ∃ x lo hi, ds = [x, lo, hi] ∧ Kin x ∧ NN x ∧ Lim lo ∧ Lim hi ∧ d = .bl (seqB x lo hi)
def sp_is_sequence (K : PySem.W.Frag) : Sp := spD K R_is_sequence
def mergeR : List Rat → List Rat → List Rat
  | [], b => b
  | a :: as, [] => a :: as
  | a :: as, b :: bs => if lessR a b then a :: mergeR as (b :: bs) else if lessR b a then b :: mergeR (a :: as) bs else b :: mergeR as bs
termination_by a b => a.length + b.length
def R_merged (ds : List Dt) (d : Dt) : Prop := ∃ a b : List Rat, ds = [.tup (a.map ratD), .tup (b.map ratD)] ∧ a.length + b.length ≤ 50000 ∧ (∀ q ∈ a, SzR 2000 q) ∧ (∀ q ∈ b, SzR 2000 q) ∧ d = .tup ((mergeR a b).map ratD)
def sp_merged_ratios (K : PySem.W.Frag) : Sp := spD K R_merged
/-- by halves, n turns deep -/
def sortR : Nat → List Rat → List Rat
  | 0, l => l
  | n + 1, l => if l.length < 2 then l else mergeR (sortR n (l.take (l.length / 2))) (sortR n (l.drop (l.length / 2)))
def R_ascend (n : Nat) (ds : List Dt) (d : Dt) : Prop := ∃ l : List Rat, ds = [.lst (l.map ratD)] ∧ l.length ≤ 2 ^ n ∧ l.length ≤ 50000 ∧ (∀ q ∈ l, SzR 2000 q) ∧ d = .tup ((sortR n l).map ratD)
def sp_asc (n : Nat) (K : PySem.W.Frag) : Sp := spD K (R_ascend n)
def sp_ascending_ratios (K : PySem.W.Frag) : Sp := sp_asc 8 K
def R_pairs (ds : List Dt) (l : List Dt) : Prop := ∃ n : Nat, ds = [.int n] ∧ n ≤ 1000 ∧ l = (List.range n).flatMap fun a => ((List.range n).filter fun b => decide (a < b)).map fun b => Dt.tup [.int (a : Nat), .int (b : Nat)]
def sp_number_pairs (K : PySem.W.Frag) : Sp := spO K R_pairs
def t_is_sequence (K : PySem.W.Frag) : TS :=
  (tRet (tAndV (tCB (rIsiT K) (tCons (tVar 0) (tCons (tTup (tCons (tC (.ty "list")) (tCons (tC (.ty "tuple")) tNil))) tNil))) (tCall (sp_is_whole K) [] E0 (tCons (tCB (Evl.rLenS K) (tCons (tVar 0) tNil)) (tCons (tVar 1) (tCons (tVar 2) tNil))))))
def t_number_pairs (K : PySem.W.Frag) : TS :=
  (tRet (tLc2 (iRng1 (tCons (tVar 0) tNil)) (gName 1) tYes (iRng2 (tCons (tOp (rI0 fun i j => .int (i + j)) (tVar 1) (tC (.int 1))) (tCons (tVar 0) tNil))) (gName 2) tYes (tTup (tCons (tVar 1) (tCons (tVar 2) tNil))) [1, 2] [2]))
def t_merged_ratios (K : PySem.W.Frag) : TS :=
  (tSeq (tAsg (tLst tNil) (gName 2))
    (tSeq (tAsg (tC (.int 0)) (gName 3))
    (tSeq (tAsg (tC (.int 0)) (gName 4))
    (tSeq (tWhile (tAnd (tTest (tOp (rI0 fun i j => .bl (decide (i < j))) (tVar 3) (tCB (Evl.rLenS K) (tCons (tVar 0) tNil)))) (tTest (tOp (rI0 fun i j => .bl (decide (i < j))) (tVar 4) (tCB (Evl.rLenS K) (tCons (tVar 1) tNil))))) (tSeq (tAsg (tCall (sp_compare K) [] E0 (tCons (tOp (rIx K) (tVar 0) (tVar 3)) (tCons (tOp (rIx K) (tVar 1) (tVar 4)) tNil))) (gName 5))
    (tSeq (tDrop (tBM K "list" rAppend (tVar 2) (tCons (tIf (tTest (tOp (rI0 fun i j => .bl (decide (i < j))) (tVar 5) (tC (.int 0)))) (tOp (rIx K) (tVar 0) (tVar 3)) (tOp (rIx K) (tVar 1) (tVar 4))) tNil)))
    (tSeq (tIfS (tTest (tOp (rI0 fun i j => .bl (decide (i ≤ j))) (tVar 5) (tC (.int 0)))) (tAug 3 (tC (.int 1)) (ipI fun i j => i + j)) tNext)
    (tIfS (tTest (tOp (rI0 fun i j => .bl (decide (j ≤ i))) (tVar 5) (tC (.int 0)))) (tAug 4 (tC (.int 1)) (ipI fun i j => i + j)) tNext)))))
    (tRet (tCB (rTupleOf K) (tCons (tOp rCat (tOp rCat (tVar 2) (tCB (Evl.rListS K) (tCons (tSl (rSlA K) (tVar 0) (tPart (tVar 3)) tNoPart) tNil))) (tCB (Evl.rListS K) (tCons (tSl (rSlA K) (tVar 1) (tPart (tVar 4)) tNoPart) tNil))) tNil)))))))
def t_ascending_ratios (K : PySem.W.Frag) (spR : Sp) : TS :=
  (tSeq (tIfS (tTest (tOp (rI0 fun i j => .bl (decide (i < j))) (tCB (Evl.rLenS K) (tCons (tVar 0) tNil)) (tC (.int 2)))) (tRet (tCB (rTupleOf K) (tCons (tVar 0) tNil))) tNext)
    (tSeq (tAsg (tOp (rI CDivA fun i j => .int (i.fdiv j)) (tCB (Evl.rLenS K) (tCons (tVar 0) tNil)) (tC (.int 2))) (gName 1))
    (tRet (tCall (sp_merged_ratios K) [] E0 (tCons (tCall spR [] E0 (tCons (tSl (rSlL K) (tVar 0) tNoPart (tPart (tVar 1))) tNil)) (tCons (tCall spR [] E0 (tCons (tSl (rSlL K) (tVar 0) (tPart (tVar 1)) tNoPart) tNil)) tNil))))))
def t_middle_of_two (K : PySem.W.Frag) : TS :=
  (tRet (tCall (sp_times K) [] E0 (tCons (tCall (sp_plus K) [] E0 (tCons (tVar 0) (tCons (tVar 1) tNil))) (tCons (tC (.ref (He.ga K "HALF"))) tNil))))
section
variable {c : Fr} {D : Ends} {E : XK} {es : List Sv} {ta tb te tx : TE} {x y lo hi : Dt} {p q : Rat} {a b : List Rat} {n i j : Nat}
theorem isi2_seq (hx : Kin x) : (match tyD x with | some t => isB t "list" || isB t "tuple" | none => false) = isSeqB x := by
  cases x with
  | obj _ _ _ => rfl
  | dct0 => exact (by decide +kernel : (isB "dict" "list" || isB "dict" "tuple") = false)
  | dctX => exact (by decide +kernel : (isB "dict" "list" || isB "dict" "tuple") = false)
  | non => exact (by decide +kernel : (isB "NoneType" "list" || isB "NoneType" "tuple") = false)
  | bl _ => exact (by decide +kernel : (isB "bool" "list" || isB "bool" "tuple") = false)
  | int _ => exact (by decide +kernel : (isB "int" "list" || isB "int" "tuple") = false)
  | str _ => exact (by decide +kernel : (isB "str" "list" || isB "str" "tuple") = false)
  | lst _ => exact (by decide +kernel : (isB "list" "list" || isB "list" "tuple") = true)
  | lstN _ => rfl
  | tup _ => exact (by decide +kernel : (isB "tuple" "list" || isB "tuple" "tuple") = true)
  | tupN _ => exact (by decide +kernel : (isB "tuple" "list" || isB "tuple" "tuple") = true)
theorem ed_isSeq (ha : ED c ta es x) (hx : Kin x) : ED c (tCB (rIsiT c.K) (tCons ta (tCons (tTup (tCons (tC (.ty "list")) (tCons (tC (.ty "tuple")) tNil))) tNil))) es (.bl (isSeqB x)) := by
  obtain ⟨t, e⟩ := kin_some hx
  have q := ed_isi2 (n := "list") (m := "tuple") ha e (kit_some (ty_mem e) (by decide)) (kit_some (ty_mem e) (by decide))
  have z := isi2_seq hx
  rw [e] at z
  rw [← z]
  exact q
theorem ed_wholeL {l u : Dt} {tl tu : TE} (h : ED c ta es x) (hl : ED c tl es l) (hu : ED c tu es u) (hx : Kin x) (hL : Lim l) (hU : Lim u) : ED c (tCall (sp_is_whole c.K) [] E (tCons ta (tCons tl (tCons tu tNil)))) es (.bl (wholeB x l u)) :=
  ed_call (es_cons h (es_cons hl (es_cons hu es_nil))) ⟨x, l, u, rfl, hx, hL, hU, rfl⟩ fun y ⟨a, b, d, e, _, _, _, ey⟩ => by
    cases e
    exact ey
theorem sem_is_sequence (hx : Kin x) (hN : NN x) (hL : Lim lo) (hU : Lim hi) (k : RetD c D.rt (fun d => d = .bl (seqB x lo hi))) : Cont c (t_is_sequence c.K D) [.dat x, .dat lo, .dat hi] := by
  cases e : itemsD x with
  | none =>
    have e1 : isSeqB x = false := by cases x <;> first | rfl | exact (hN _ rfl).elim | cases e
    have e2 : seqB x lo hi = false := by
      unfold seqB
      rw [e]
    rw [e2] at k
    refine c_ret (ED.is (ed_and (b := false) (b' := false) (e1 ▸ ed_isSeq (ed_var rfl) hx) fun z => by cases z) rfl) k
  | some l =>
    have e1 : isSeqB x = true := by cases x <;> first | rfl | cases e
    have e2 : seqB x lo hi = wholeB (.int l.length) lo hi := by
      unfold seqB
      rw [e]
    have el : lenD x = some l.length := by cases x <;> first | (cases e; rfl) | cases e
    rw [e2] at k
    refine c_ret (ED.is (ed_and (b := true) (b' := wholeB (.int l.length) lo hi) (e1 ▸ ed_isSeq (ed_var rfl) hx) fun _ => ed_wholeL (ed_len (ed_var rfl) el) (ed_var rfl) (ed_var rfl) rfl hL hU) rfl) k
theorem sem_middle (hz : ∀ H, SqT c.K H (He.ga c.K "HALF") [.int 1, .int 2]) (hp : SzR 500 p) (hq : SzR 500 q) (k : RetD c D.rt (fun d => d = ratD ((p + q) * Rat.divInt 1 2))) : Cont c (t_middle_of_two c.K D) [.dat (ratD p), .dat (ratD q)] := by
  have eh : ratD (Rat.divInt 1 2) = .tup [.int 1, .int 2] := by
    show Dt.tup [.int (Rat.divInt 1 2).num, .int (Rat.divInt 1 2).den] = _
    rw [show (Rat.divInt 1 2).num = 1 by decide +kernel, show (((Rat.divInt 1 2).den : Nat) : Int) = 2 by decide +kernel]
  refine c_ret (ed_two (f := fun p q => ratD (p * q)) (ed_two (f := fun p q => ratD (p + q)) (ed_var rfl) (ed_var rfl) (hp.mono (by decide)) (hq.mono (by decide))) (ED.is (ed_c fun P => .tup (hz P) (.cons (.int 1) (.cons (.int 2) .nil))) eh.symm) ((sz_add hp hq).mono (by decide)) ⟨?_, ?_⟩) k
  · show (Rat.divInt 1 2).num.natAbs < 2 ^ 2000
    exact Nat.lt_of_lt_of_le (show (Rat.divInt 1 2).num.natAbs < 2 ^ 2 by decide +kernel) (Nat.pow_le_pow_right (by decide) (by decide))
  · show (((Rat.divInt 1 2).den : Int)).natAbs < 2 ^ 2000
    exact Nat.lt_of_lt_of_le (show (((Rat.divInt 1 2).den : Int)).natAbs < 2 ^ 2 by decide +kernel) (Nat.pow_le_pow_right (by decide) (by decide))
theorem c_ifU {f : Int → Int → Int} {tt : TT} {te : TE} {n : Nat} {u v : Int} {b : Bool} (h : EBd c tt es b) (h0 : es[n]? = some (.dat (.int u))) (h1 : ED c te es (.int v)) (k1 : b = true → Cont c D.nx (es.set n (.dat (.int (f u v))))) (k2 : b = false → Cont c D.nx es) : Cont c (tIfS tt (tAug n te (ipI f)) tNext D) es :=
  c_if h (fun z => c_aug h0 h1 (k1 z)) k2
theorem s_ifU {f : Int → Int → Int} {tt : TT} {te : TE} {n : Nat} {u v : Int} {b : Bool} {w : TS} (h : EBd c tt es b) (h0 : es[n]? = some (.dat (.int u))) (h1 : ED c te es (.int v)) (k1 : b = true → Cont c (w D) (es.set n (.dat (.int (f u v))))) (k2 : b = false → Cont c (w D) es) : Cont c (tSeq (tIfS tt (tAug n te (ipI f)) tNext) w D) es :=
  c_seq (c_ifU h h0 h1 k1 k2)
theorem cmp_le : decide (cmpI p q ≤ 0) = !lessR q p := by
  have h := cmp_gt (p := p) (q := q)
  by_cases z : 0 < cmpI p q
  · rw [decide_eq_true z] at h
    rw [← h, decide_eq_false (by omega)] <;> rfl
  · rw [decide_eq_false z] at h
    rw [← h, decide_eq_true (by omega)] <;> rfl
theorem cmp_ge : decide (0 ≤ cmpI p q) = !lessR p q := by
  have h := cmp_lt (p := p) (q := q)
  by_cases z : cmpI p q < 0
  · rw [decide_eq_true z] at h
    rw [← h, decide_eq_false (by omega)] <;> rfl
  · rw [decide_eq_false z] at h
    rw [← h, decide_eq_true (by omega)] <;> rfl
theorem less_asym (h : lessR p q = true) : lessR q p = false := by
  unfold lessR at *
  have h := of_decide_eq_true h
  exact decide_eq_false (by omega)
theorem merge_nilR : ∀ a : List Rat, mergeR a [] = a
  | [] => by rw [mergeR]
  | _ :: _ => by rw [mergeR]
theorem cut_from (l : List Dt) (h : i ≤ l.length) : My.cutD l (some (i : Int)) none = l.drop i := by
  unfold My.cutD
  rw [HT.sIx_nat, HT.sIx_none, Nat.min_eq_left h]
  exact List.take_of_length_le (by rw [List.length_drop]; exact Nat.le_refl _)
theorem cut_to (l : List Dt) (h : i ≤ l.length) : My.cutD l none (some (i : Int)) = l.take i := by
  unfold My.cutD
  rw [HT.sIx_nat, HT.sIx_none, Nat.min_eq_left h, Nat.sub_zero, List.drop_zero]
theorem sem_merged (hm : c.mu = []) (hl : a.length + b.length ≤ 50000) (ha : ∀ q ∈ a, SzR 2000 q) (hb : ∀ q ∈ b, SzR 2000 q) (k : RetD c D.rt (fun d => d = .tup ((mergeR a b).map ratD))) : Cont c (t_merged_ratios c.K D) [.dat (.tup (a.map ratD)), .dat (.tup (b.map ratD)), .no, .no, .no, .no] := by
  refine s_asgO (eo_lst es_nil fun l e => by rw [e]; exact Nat.zero_le _) fun ad ds e => ?_
  subst e
  refine s_asg ed_int (s_asg ed_int ?_)
  refine s_while (I := fun m es => ∃ (f : List Rat) (i j : Nat) (s : Sv), es = [.dat (.tup (a.map ratD)), .dat (.tup (b.map ratD)), .own ad (f.map ratD), .dat (.int i), .dat (.int j), s] ∧ i ≤ a.length ∧ j ≤ b.length ∧ f.length ≤ i + j ∧ m + i + j = a.length + b.length ∧ f ++ mergeR (a.drop i) (b.drop j) = mergeR a b)
    (a.length + b.length) ⟨[], 0, 0, _, rfl, Nat.zero_le _, Nat.zero_le _, Nat.le_refl _, by omega, rfl⟩ fun m es ⟨f, i, j, s, e, hi, hj, hf, hmm, hM⟩ => ?_
  subst e
  have la : ∀ {es : List Sv}, es[0]? = some (.dat (.tup (a.map ratD))) → ED c (tCB (Evl.rLenS c.K) (tCons (tVar 0) tNil)) es (.int a.length) := fun h => ed_len (ed_var h) (by show some (a.map ratD).length = _; rw [List.length_map])
  have lb : ∀ {es : List Sv}, es[1]? = some (.dat (.tup (b.map ratD))) → ED c (tCB (Evl.rLenS c.K) (tCons (tVar 1) tNil)) es (.int b.length) := fun h => ed_len (ed_var h) (by show some (b.map ratD).length = _; rw [List.length_map])
  refine ⟨decide ((i : Int) < a.length) && decide ((j : Int) < b.length), eb_and (eb_test (ed_B0 (ed_var rfl) (la rfl))) fun _ => eb_test (ed_B0 (ed_var rfl) (lb rfl)), fun h => ?_, fun h => ?_⟩
  · obtain ⟨h1, h2⟩ := Bool.and_eq_true_iff.mp h
    have h1 : i < a.length := by have := of_decide_eq_true h1; omega
    have h2 : j < b.length := by have := of_decide_eq_true h2; omega
    have ea : a.drop i = a[i] :: a.drop (i + 1) := List.drop_eq_getElem_cons h1
    have eb : b.drop j = b[j] :: b.drop (j + 1) := List.drop_eq_getElem_cons h2
    have za := ha a[i] (List.getElem_mem h1)
    have zb := hb b[j] (List.getElem_mem h2)
    have ga : (a.map ratD)[i]? = some (ratD a[i]) := by rw [List.getElem?_map, List.getElem?_eq_getElem h1] <;> rfl
    have gb : (b.map ratD)[j]? = some (ratD b[j]) := by rw [List.getElem?_map, List.getElem?_eq_getElem h2] <;> rfl
    generalize a[i] = p at *
    generalize b[j] = q at *
    have xa : ∀ {es : List Sv}, es[0]? = some (.dat (.tup (a.map ratD))) → es[3]? = some (.dat (.int i)) → ED c (tOp (rIx c.K) (tVar 0) (tVar 3)) es (ratD p) := fun h g => ed_ixT (ed_var h) (ed_var g) (by unfold atI; rw [Evl.ixN_nat (List.getElem?_eq_some_iff.mp ga).1]; exact ga)
    have xb : ∀ {es : List Sv}, es[1]? = some (.dat (.tup (b.map ratD))) → es[4]? = some (.dat (.int j)) → ED c (tOp (rIx c.K) (tVar 1) (tVar 4)) es (ratD q) := fun h g => ed_ixT (ed_var h) (ed_var g) (by unfold atI; rw [Evl.ixN_nat (List.getElem?_eq_some_iff.mp gb).1]; exact gb)
    refine s_asg (ed_cmp (xa rfl rfl) (xb rfl rfl) za zb) ?_
    refine s_app (n := 2) (φ := fun d => d = ratD (if lessR p q then p else q)) rfl (ev_if (b := lessR p q) (EBd.is (eb_test (ed_B0 (ed_var rfl) ed_int)) cmp_lt) (fun z => ED.is (xa rfl rfl) (by rw [if_pos z])) fun z => ED.is (xb rfl rfl) (by rw [if_neg (by rw [z]; decide)])) (by rw [List.length_map]; omega) fun d e => ?_
    subst e
    have fm : f.map ratD ++ [ratD (if lessR p q then p else q)] = (f ++ [if lessR p q then p else q]).map ratD := by rw [List.map_append] <;> rfl
    rw [fm]
    rw [ea, eb] at hM
    have stop : ∀ (i' j' : Nat) (s : Sv) (k' : L2.St → Hp → Prop), k' = Less c (fun m es => ∃ (f : List Rat) (i j : Nat) (s : Sv), es = [.dat (.tup (a.map ratD)), .dat (.tup (b.map ratD)), .own ad (f.map ratD), .dat (.int i), .dat (.int j), s] ∧ i ≤ a.length ∧ j ≤ b.length ∧ f.length ≤ i + j ∧ m + i + j = a.length + b.length ∧ f ++ mergeR (a.drop i) (b.drop j) = mergeR a b) m →
        i' ≤ a.length → j' ≤ b.length → i + j < i' + j' → f ++ [if lessR p q then p else q] ++ mergeR (a.drop i') (b.drop j') = mergeR a b →
        Cont c k' [.dat (.tup (a.map ratD)), .dat (.tup (b.map ratD)), .own ad ((f ++ [if lessR p q then p else q]).map ratD), .dat (.int i'), .dat (.int j'), s] := fun i' j' s k' ek h1 h2 h3 h4 =>
      c_less ek (a.length + b.length - i' - j') (by omega) ⟨_, i', j', s, rfl, h1, h2, by rw [List.length_append, List.length_singleton]; omega, by omega, h4⟩
    have n1 : ((i : Int) + 1) = ((i + 1 : Nat) : Int) := rfl
    have n2 : ((j : Int) + 1) = ((j + 1 : Nat) : Int) := rfl
    refine s_ifU (u := i) (v := 1) (b := !lessR q p) (EBd.is (eb_test (ed_B0 (ed_var rfl) ed_int)) cmp_le) rfl ed_int (fun hqp => ?_) fun hqp => ?_
    · have hqp : lessR q p = false := by cases z : lessR q p with
        | false => rfl
        | true => rw [z] at hqp; cases hqp
      refine c_ifU (u := j) (v := 1) (b := !lessR p q) (EBd.is (eb_test (ed_B0 (ed_var rfl) ed_int)) cmp_ge) rfl ed_int (fun hpq => ?_) fun hpq => ?_
      · have hpq : lessR p q = false := by cases z : lessR p q with
          | false => rfl
          | true => rw [z] at hpq; cases hpq
        refine stop (i + 1) (j + 1) _ _ rfl (by omega) (by omega) (by omega) ?_
        rw [← hM, hpq, mergeR, hpq, hqp, if_neg (by decide), if_neg (by decide), if_neg (by decide), List.append_assoc] <;> rfl
      · have hpq : lessR p q = true := by cases z : lessR p q with
          | true => rfl
          | false => rw [z] at hpq; cases hpq
        refine stop (i + 1) j _ _ rfl (by omega) (by omega) (by omega) ?_
        rw [← hM, hpq, mergeR, hpq, if_pos rfl, if_pos rfl, List.append_assoc, eb] <;> rfl
    · have hqp : lessR q p = true := by cases z : lessR q p with
        | true => rfl
        | false => rw [z] at hqp; cases hqp
      have hpq := less_asym hqp
      refine c_ifU (u := j) (v := 1) (b := !lessR p q) (EBd.is (eb_test (ed_B0 (ed_var rfl) ed_int)) cmp_ge) rfl ed_int (fun _ => ?_) fun z => by rw [hpq] at z; cases z
      refine stop i (j + 1) _ _ rfl (by omega) (by omega) (by omega) ?_
      rw [← hM, hpq, mergeR, hpq, hqp, if_neg (by decide), if_neg (by decide), if_pos rfl, List.append_assoc, ea] <;> rfl
  · have hd : mergeR (a.drop i) (b.drop j) = a.drop i ++ b.drop j := by
      rcases Bool.and_eq_false_iff.mp h with h | h
      · have : a.drop i = [] := List.drop_of_length_le (by have := of_decide_eq_false h; omega)
        rw [this, mergeR, List.nil_append]
      · have : b.drop j = [] := List.drop_of_length_le (by have := of_decide_eq_false h; omega)
        rw [this, merge_nilR, List.append_nil]
    have el : ED c (tOp rCat (tOp rCat (tVar 2) (tCB (Evl.rListS c.K) (tCons (tSl (rSlA c.K) (tVar 0) (tPart (tVar 3)) tNoPart) tNil))) (tCB (Evl.rListS c.K) (tCons (tSl (rSlA c.K) (tVar 1) (tPart (tVar 4)) tNoPart) tNil)))
        [.dat (.tup (a.map ratD)), .dat (.tup (b.map ratD)), .own ad (f.map ratD), .dat (.int i), .dat (.int j), s] (.lst ((mergeR a b).map ratD)) := by
      refine EV.imp (ev_give hm (eo_cat (el_new (eo_cat (el_own (n := 2) rfl) (el_new (eo_list (ed_sliceT (ed_var rfl) (ep_some (ed_var rfl)) ep_none) rfl)) ?_)) (el_new (eo_list (ed_sliceT (ed_var rfl) (ep_some (ed_var rfl)) ep_none) rfl)) ?_)) ?_
      · rintro x y rfl rfl
        rw [cut_from _ (by rw [List.length_map]; exact hi), List.length_drop, List.length_map, List.length_map]
        omega
      · rintro x y ⟨x, z, rfl, rfl, rfl⟩ rfl
        rw [cut_from _ (by rw [List.length_map]; exact hi), cut_from _ (by rw [List.length_map]; exact hj), List.length_append, List.length_drop, List.length_drop, List.length_map, List.length_map, List.length_map]
        omega
      · rintro z ⟨l, rfl, _, _, ⟨_, _, rfl, rfl, rfl⟩, rfl, rfl⟩
        rw [cut_from _ (by rw [List.length_map]; exact hi), cut_from _ (by rw [List.length_map]; exact hj), ← hM, hd, List.map_append, List.map_append, List.map_drop, List.map_drop, List.append_assoc]
    exact c_ret (ed_tupleOf el rfl) k
end
theorem mem_merge : ∀ {a b : List Rat} {q : Rat}, q ∈ mergeR a b → q ∈ a ∨ q ∈ b
  | [], b, q, h => by rw [mergeR] at h; exact .inr h
  | a :: as, [], q, h => by rw [mergeR] at h; exact .inl h
  | a :: as, b :: bs, q, h => by
    rw [mergeR] at h
    split at h
    · rcases List.mem_cons.mp h with rfl | h
      · exact .inl List.mem_cons_self
      · exact (mem_merge h).imp (List.mem_cons_of_mem _) id
    · split at h
      · rcases List.mem_cons.mp h with rfl | h
        · exact .inr List.mem_cons_self
        · exact (mem_merge h).imp id (List.mem_cons_of_mem _)
      · rcases List.mem_cons.mp h with rfl | h
        · exact .inr List.mem_cons_self
        · exact (mem_merge h).imp (List.mem_cons_of_mem _) (List.mem_cons_of_mem _)
termination_by a b => a.length + b.length
theorem len_merge : ∀ {a b : List Rat}, (mergeR a b).length ≤ a.length + b.length
  | [], b => by rw [mergeR]; omega
  | a :: as, [] => by rw [mergeR]; omega
  | a :: as, b :: bs => by
    rw [mergeR]
    split
    · have := len_merge (a := as) (b := b :: bs)
      simp only [List.length_cons] at *
      omega
    · split
      · have := len_merge (a := a :: as) (b := bs)
        simp only [List.length_cons] at *
        omega
      · have := len_merge (a := as) (b := bs)
        simp only [List.length_cons] at *
        omega
termination_by a b => a.length + b.length
theorem mem_sort : ∀ {n : Nat} {l : List Rat} {q : Rat}, q ∈ sortR n l → q ∈ l
  | 0, _, _, h => h
  | n + 1, l, q, h => by
    rw [sortR] at h
    split at h
    · exact h
    · rcases mem_merge h with h | h
      · exact List.mem_of_mem_take (mem_sort h)
      · exact List.mem_of_mem_drop (mem_sort h)
theorem len_sort : ∀ {n : Nat} {l : List Rat}, (sortR n l).length ≤ l.length
  | 0, _ => Nat.le_refl _
  | n + 1, l => by
    rw [sortR]
    split
    · exact Nat.le_refl _
    · have h1 := len_merge (a := sortR n (l.take (l.length / 2))) (b := sortR n (l.drop (l.length / 2)))
      have h2 := len_sort (n := n) (l := l.take (l.length / 2))
      have h3 := len_sort (n := n) (l := l.drop (l.length / 2))
      rw [List.length_take] at h2
      rw [List.length_drop] at h3
      omega
section
variable {c : Fr} {D : Ends} {E : XK} {es : List Sv} {ta tb te tx : TE} {n : Nat} {l : List Rat} {spR : Sp}
theorem ed_merged {a b : List Rat} (h1 : ED c ta es (.tup (a.map ratD))) (h2 : ED c tb es (.tup (b.map ratD))) (hl : a.length + b.length ≤ 50000) (ha : ∀ q ∈ a, SzR 2000 q) (hb : ∀ q ∈ b, SzR 2000 q) : ED c (tCall (sp_merged_ratios c.K) [] E (tCons ta (tCons tb tNil))) es (.tup ((mergeR a b).map ratD)) :=
  ed_call (es_cons h1 (es_cons h2 es_nil)) ⟨a, b, rfl, hl, ha, hb, rfl⟩ fun y ⟨a', b', e, _, _, _, ey⟩ => by
    have e1 := maps_inj (Dt.tup.inj (List.cons.inj e).1)
    have e2 := maps_inj (Dt.tup.inj (List.cons.inj (List.cons.inj e).2).1)
    rw [ey, e1, e2]
theorem ed_asc (h : ED c ta es (.lst (l.map ratD))) (h1 : l.length ≤ 2 ^ n) (h2 : l.length ≤ 50000) (hs : ∀ q ∈ l, SzR 2000 q) : ED c (tCall (sp_asc n c.K) [] E (tCons ta tNil)) es (.tup ((sortR n l).map ratD)) :=
  ed_call (es_cons h es_nil) ⟨l, rfl, h1, h2, hs, rfl⟩ fun y ⟨l', e, _, _, _, ey⟩ => by
    have e1 := maps_inj (Dt.lst.inj (List.cons.inj e).1)
    rw [ey, e1]
theorem ed_cut {tl th : TO} {lo hi : Option Int} {m : List Dt} (hm : c.mu = []) (h : ED c te es (.lst m)) (h1 : EP1 c tl es lo) (h2 : EP1 c th es hi) : ED c (tSl (rSlL c.K) te tl th) es (.lst (My.cutD m lo hi)) :=
  EV.imp (ev_give hm (eo_slice h h1 h2)) fun z ⟨l, e1, e2⟩ => by rw [e1, e2]
theorem sem_asc (hm : c.mu = []) (hn : l.length ≤ 2 ^ n) (h5 : l.length ≤ 50000) (hs : ∀ q ∈ l, SzR 2000 q) (hR : ∀ m, n = m + 1 → spR = sp_asc m c.K) (k : RetD c D.rt (fun d => d = .tup ((sortR n l).map ratD))) : Cont c (t_ascending_ratios c.K spR D) [.dat (.lst (l.map ratD)), .no] := by
  have ln : ∀ {es : List Sv}, es[0]? = some (.dat (.lst (l.map ratD))) → ED c (tCB (Evl.rLenS c.K) (tCons (tVar 0) tNil)) es (.int l.length) := fun h => ed_len (ed_var h) (by show some (l.map ratD).length = _; rw [List.length_map])
  refine s_when (b := decide ((l.length : Int) < 2)) (eb_test (ed_B0 (ln rfl) ed_int)) (fun h => ?_) fun h => ?_
  · have h : l.length < 2 := by have := of_decide_eq_true h; omega
    have e : sortR n l = l := by
      cases n with
      | zero => rfl
      | succ n => rw [sortR, if_pos h]
    rw [e] at k
    exact c_ret (ed_tupleOf (ed_var rfl) rfl) k
  · have h : ¬ l.length < 2 := by have := of_decide_eq_false h; omega
    obtain ⟨m, rfl⟩ : ∃ m, n = m + 1 := by
      cases n with
      | zero => exact absurd hn (by show ¬ l.length ≤ 1; omega)
      | succ m => exact ⟨m, rfl⟩
    have hR := hR m rfl
    subst hR
    have p2 : 2 ^ (m + 1) = 2 ^ m * 2 := Nat.pow_succ 2 m
    have hd : ((l.length : Int)).fdiv 2 = ((l.length / 2 : Nat) : Int) := by
      rw [Int.fdiv_eq_ediv_of_nonneg _ (by decide)]
      omega
    refine s_asg (ED.is (ed_I (ln rfl) ed_int (divA (m := 2) (by decide) (by decide))) (congrArg Dt.int hd)) ?_
    generalize hh : l.length / 2 = h2 at *
    have c1 : My.cutD (l.map ratD) none (some (h2 : Int)) = (l.take h2).map ratD := by rw [cut_to _ (by rw [List.length_map]; omega), List.map_take]
    have c2 : My.cutD (l.map ratD) (some (h2 : Int)) none = (l.drop h2).map ratD := by rw [cut_from _ (by rw [List.length_map]; omega), List.map_drop]
    have e : sortR (m + 1) l = mergeR (sortR m (l.take h2)) (sortR m (l.drop h2)) := by rw [sortR, if_neg h, hh]
    rw [e] at k
    have l1 := len_sort (n := m) (l := l.take h2)
    have l2 := len_sort (n := m) (l := l.drop h2)
    rw [List.length_take] at l1
    rw [List.length_drop] at l2
    refine c_ret (ed_merged (ed_asc (ED.is (ed_cut hm (ed_var rfl) ep_none (ep_some (ed_var rfl))) (congrArg Dt.lst c1)) (by rw [List.length_take]; omega) (by rw [List.length_take]; omega) fun q hq => hs q (List.mem_of_mem_take hq))
      (ed_asc (ED.is (ed_cut hm (ed_var rfl) (ep_some (ed_var rfl)) ep_none) (congrArg Dt.lst c2)) (by rw [List.length_drop]; omega) (by rw [List.length_drop]; omega) fun q hq => hs q (List.mem_of_mem_drop hq)) (by omega)
      (fun q hq => hs q (List.mem_of_mem_take (mem_sort hq))) fun q hq => hs q (List.mem_of_mem_drop (mem_sort hq))) k
end
end Lw
set_option Elab.async false
set_option linter.all false
set_option maxRecDepth 100000
set_option maxHeartbeats 4000000
/-! enumerate over a tuple, and over a list or a tuple. -/
namespace My
open PySem PySem.Spec PyProof.Rows L2
open Evl (Ex)
section
variable {prog : Program} {w : World} {A : Around} {E : Value → Shared → Prop} {s : Shared}
abbrev enumO (it : Addr) : Obj := { cls := .type "enumerate", data := .fields #[.none, .bool false, .ref it, rawInt 0, .none, .none] }
theorem meets_enumOne {v : Value} {o : Obj} {H : Heap → Prop} (B : Begins v o H) :
    Meets (Builtin.«enumerate.__new__» ⟨[.type "enumerate", v], []⟩) (fun _ R s => H s.heap ∧ R (.ok (.ret (.ref (s.heap.push o).objs.size))) { s with heap := (s.heap.push o).push (enumO s.heap.objs.size) }) :=
  .of_wp fun prog w A R s h => by
    obtain ⟨hp, g, d, tk, os⟩ := s
    obtain ⟨h1, h⟩ := h
    have sub := sub_enumerate
    have q1 : ∀ {A' : Around} {E : Value → Shared → Prop} {Q : Value → Shared → Prop}, Q (.ref hp.objs.size) ⟨hp.push o, g, d, tk, os⟩ → wpAny (model prog w) A' (pyIter v) Q E ⟨hp, g, d, tk, os⟩ := fun q => B.iter prog w _ _ ⟨hp, g, d, tk, os⟩ _ h1 q
    wp_walk using q1
    refine wpAny_stack_any fun st => wpAny_pure ?_
    split
    · rename_i c _ _ _ _ _
      cases (c == Value.type "enumerate")
      · wp_walk using q1
        exact ⟨_, rfl, h⟩
      · wp_walk using q1
        exact ⟨_, rfl, h⟩
    · wp_walk using q1
      exact ⟨_, rfl, h⟩
theorem call_enumOne {v : Value} {o : Obj} {H : Heap → Prop} {Q : Value → Shared → Prop} (B : Begins v o H) (h1 : H s.heap)
    (h : ∀ h', IsEnum h' (s.heap.objs.size + 1) s.heap.objs.size 0 .none → h'.get? s.heap.objs.size = some o → h'.objs.size = s.heap.objs.size + 2 → (∀ b o, s.heap.get? b = some o → h'.get? b = some o) → Q (.ref (s.heap.objs.size + 1)) { s with heap := h' }) :
    wpAny (model prog w) A (call (.type "enumerate") [v]) Q E s := by
  refine callType_new F.called_enumerate (by decide) (F.typeCall_enumerate_1 _) (F.newCall_enumerate_1 _) (fun obj => F.args_object_init_2 obj _) F.entry_enumerate_new (meets_enumOne B) ⟨h1, ?_⟩
  have hz : (s.heap.push o).objs.size = s.heap.objs.size + 1 := Heap.size_push ..
  show _ ∧ _
  rw [hz]
  have he : IsEnum ((s.heap.push o).push (enumO s.heap.objs.size)) (s.heap.objs.size + 1) s.heap.objs.size 0 .none := by
    have e := Heap.get?_push_size (s.heap.push o) (o := enumO s.heap.objs.size) rfl
    rw [hz] at e
    exact e
  exact ⟨⟨_, he, rfl⟩, h _ he (Heap.get?_push_of_some _ (Heap.get?_push_size _ B.free)) (by rw [Heap.size_push, hz]) fun b o x => Heap.get?_push_of_some _ (Heap.get?_push_of_some _ x)⟩
end
/-- the tuple at a as it stands at each turn, each item in a new pair -/
def IteT (K : PySem.W.Frag) (a : Addr) : It :=
  ⟨fun i H => ∃ (xs : List V) (x : V), SqT K H a xs ∧ xs[i]? = some x, fun i H v H' => ∃ T x, v = .ref T ∧ H T = none ∧ H' = upd H T (.tup [.int (i : Nat), x]) ∧ ∀ xs, SqT K H a xs → xs[i]? = some x, fun i H => ∃ xs : List V, SqT K H a xs ∧ xs.length = i⟩
theorem turn_enumT {P : Program} {w : World} {K : PySem.W.Frag} {elts : List Expr} {kk : Nat} {tpos : Pos} (a e it : Addr) (h1 : e ≠ it) (h2 : e ≠ a) (h3 : a ≠ it) :
    L2.Turn P w K (.Tuple elts kk tpos) (IteT K a) [e, it] e (fun i h => (∃ old, IsEnum h e it ((i : Nat) : Int) old) ∧ h.IsTupleIter it a i) where
  mem := by simp
  obj := fun i h st b hb => by
    obtain ⟨⟨old, he⟩, o, ho, hc, hd⟩ := st
    have e' : b = e ∨ b = it := by simpa using hb
    rcases e' with z | z
    · subst z; exact ⟨_, he, fun v q => nomatch q⟩
    · subst z; exact ⟨o, ho, fun v q => by rw [hd] at q; cases q⟩
  keep := fun i h h' st k => let ⟨⟨old, he⟩, hi⟩ := st; ⟨⟨old, k e (by simp) _ he⟩, hi.at fun o q => k it (by simp) o q⟩
  item := by
    intro X hP hw hK hc i pins s σ H E I hf st hg
    subst hP hw hK
    obtain ⟨⟨old, he⟩, hit⟩ := st
    obtain ⟨xs, x, hq, hx⟩ := hg
    obtain ⟨its, rv, p, hz⟩ := I.tuple hq
    obtain ⟨u, hu, ru⟩ := rv.get hx
    have pl : s.heap.IsTuple a its.toArray := p
    have hel : e < s.heap.objs.size := Heap.lt_size he
    have hil : it < s.heap.objs.size := by obtain ⟨_, q, _⟩ := hit; exact Heap.lt_size q
    have hh : X.A.in1.handled = none := I.ok.hd hc
    have hi : i < its.toArray.size := by
      have := (List.getElem?_eq_some_iff.mp hu).1
      simpa using this
    refine wpAny_pyNext_enum_itemD (Draws.tuple hh it a h3 its.toArray) he ⟨hit, pl⟩ hi h1 (by simp [h1, h2]) fun y h' tk hy ho hst hT hsz hk => ?_
    have hyu : y = u := by
      have a1 : its[i]? = some y := by simpa using hy
      rw [hu] at a1
      exact (Option.some.inj a1).symm
    subst hyu
    refine ⟨_, rfl, wpAny_letOwnedTupleGo_enum (s := { s with heap := h', toks := tk + 1 }) ho fun h'' he' sb => ?_⟩
    have hT2 : h''.get? s.heap.objs.size = some { cls := .type "tuple", data := .seq #[.int i tk, y] } := (sb.2 _ (Nat.ne_of_gt hel)).trans hT
    have new : ObjOk X.prog X.w (upd H s.heap.objs.size (.tup [.int (i : Nat), x])) h'' s.heap.objs.size (.tup [.int (i : Nat), x]) :=
      ⟨by show 2 ≤ sizeLine; decide, [.int i tk, y], .cons ⟨_, rfl⟩ (.cons ru .nil), ⟨_, hT2, rfl, _, rfl⟩⟩
    have I1 : Inv X pins σ (upd H s.heap.objs.size (.tup [.int (i : Nat), x])) { s with heap := h'', toks := tk + 1 } :=
      I.turnedNew (ch := [e, it]) (fun b ob hb q => (sb.2 b (fun z => hb (by simp [z]))).trans (hk b ob (fun z => hb (by simp [z])) (fun z => hb (by simp [z])) q)) hf (Nat.le_refl _) new
    refine ⟨.ref s.heap.objs.size, _, I1, rfl, ⟨_, x, rfl, I.hok.fresh (Nat.le_refl _), rfl, fun ys hy => by rw [I.tuple_inj hy hq]; exact hx⟩, ⟨⟨y, ?_⟩, hst.1.at fun o q => (sb.2 it (Ne.symm h1)).trans q⟩, fun b hb => ?_⟩
    · have e1 : ((i + 1 : Nat) : Int) = (i : Int) + 1 := by omega
      rw [e1]; exact he'
    · have hb' : b < s.heap.objs.size := by
        have e' : b = e ∨ b = it := by simpa using hb
        rcases e' with z | z
        · rw [z]; exact hel
        · rw [z]; exact hil
      rw [upd_ne (Nat.ne_of_lt hb')]
      exact (hf b hb).1
  done := by
    intro X hP hw hK hc i pins s σ H E I hf st hg
    subst hP hw hK
    obtain ⟨⟨old, he⟩, hit⟩ := st
    obtain ⟨xs, hq, hx⟩ := hg
    obtain ⟨its, rv, p, hz⟩ := I.tuple hq
    have pl : s.heap.IsTuple a its.toArray := p
    obtain ⟨f0, f1, f2, f3, f4, f5⟩ := hf it (by simp)
    have hl := rv.length
    have hh : X.A.in1.handled = none := I.ok.hd hc
    have hn : i = its.toArray.size := by simp; omega
    subst hn
    exact wpAny_pyNext_enum_endD (Draws.tuple hh it a h3 its.toArray) he ⟨hit, pl⟩ fun h' eb => ⟨rfl, I.turned (t' := s.toks) (fun b o hb q => eb b o hb q) f0 f1 f3 f4 f5⟩
  self := fun A i s Q E st h => let ⟨⟨_, he⟩, _⟩ := st; wpAny_pyIter_enum he h
/-- enumerate(x), x a list or a tuple -/
def iEnumA (K : PySem.W.Frag) (ta : TA) : TI := fun σ H R => ta σ H fun vs H1 => ∃ a xs, vs = [.ref a] ∧ ((SqL K H1 a xs ∧ R (Ite K a) H1) ∨ (SqT K H1 a xs ∧ R (IteT K a) H1))
theorem pi_enumA {X : Cx} {e : Expr} {ta : TA} {p pos tpos : Pos} {elts : List Expr} {kk : Nat} (hg : Gl X "enumerate") (hm : X.mg "enumerate" = none) (ha : PA X [e] ta) (hs : starEach [e] X.env = [(false, eval e X.env)] := by rfl) :
    PI X (.Tuple elts kk tpos) (.Call (.Name "enumerate" p) [e] [] pos) (iEnumA X.K ta) := by
  refine ⟨fun pins s σ H R I h => ?_⟩
  refine Call_ (ld_blt I hg hm boot_enumerate (PyProof.Rows.callWith_type1 (thn (ha.run pos pins s σ H _ I h) fun us s1 ⟨vs, H1, I1, r1, q1⟩ => ?_) hs rfl))
  obtain ⟨a, xs, ex, q⟩ := q1
  subst ex
  cases r1 with
  | cons r rr =>
    cases rr
    cases r
    have two : ∀ b ∈ [s1.heap.objs.size + 1, s1.heap.objs.size], FpOk X pins H1 b := fun b hb => by
      have e' : b = s1.heap.objs.size + 1 ∨ b = s1.heap.objs.size := by simpa using hb
      have hle : s1.heap.objs.size ≤ b := by omega
      exact I1.fpOk hle (I1.hok.fresh hle)
    rcases q with ⟨hq, q⟩ | ⟨hq, q⟩
    · obtain ⟨its, rv, p', hz⟩ := I1.list hq
      refine call_enumerate_list p'.isList fun h' he hit hsz hk => wpAny_pyIter_enum he ?_
      have I2 : Inv X pins σ H1 { s1 with heap := h' } := I1.kept (t' := s1.toks) hk
      exact ⟨s1.heap.objs.size + 1, [s1.heap.objs.size + 1, s1.heap.objs.size], _, _, H1, rfl, I2, turn_enum a (s1.heap.objs.size + 1) s1.heap.objs.size, ⟨⟨.none, he⟩, hit, Nat.succ_ne_self _⟩, two, q⟩
    · obtain ⟨its, rv, p', hz⟩ := I1.tuple hq
      have pl : s1.heap.IsTuple a its.toArray := p'
      have la : a < s1.heap.objs.size := p'.lt
      refine call_enumOne (begins_tuple a its.toArray) pl fun h' he hit hsz hk => wpAny_pyIter_enum he ?_
      have I2 : Inv X pins σ H1 { s1 with heap := h' } := I1.kept (t' := s1.toks) hk
      exact ⟨s1.heap.objs.size + 1, [s1.heap.objs.size + 1, s1.heap.objs.size], _, _, H1, rfl, I2, turn_enumT a (s1.heap.objs.size + 1) s1.heap.objs.size (Nat.succ_ne_self _) (Nat.ne_of_gt (Nat.lt_succ_of_lt la)) (Nat.ne_of_lt la), ⟨⟨.none, he⟩, ⟨_, hit, rfl, rfl⟩⟩, two, q⟩
theorem walk_enumT {K : PySem.W.Frag} {a : Addr} {xs : List V} : Walk (IteT K a) xs.length (fun H => SqT K H a xs) (YPair (fun i => some (.int (i : Nat))) (fun i => xs[i]?)) :=
  ⟨fun i _ hi q => ⟨xs, xs[i], q, List.getElem?_eq_getElem hi⟩, fun _ q => ⟨xs, q, rfl⟩, fun i H v H' _ q y => by
    obtain ⟨T, x, e1, e2, e3, e4⟩ := y
    exact ⟨T, .int (i : Nat), x, e1, e2, e3, rfl, e4 xs q⟩⟩
theorem wi_enumA {c : Fr} {es : List Sv} {ta : TE} {x : Dt} {l : List Dt} (h : ED c ta es x) (hx : itemsD x = some l) : WI c (iEnumA c.K (tCons ta tNil)) es (l.mapIdx fun k y => .tup [.int k, y]) := fun σ P H r R q =>
  h σ P H r _ fun v P1 H1 z hz r1 e1 h1 => by
    subst hz
    cases h1 with
    | @lst a xs _ s ha =>
      cases Option.some.inj hx
      refine ⟨_, _, rfl, .inl ⟨Evl.ex_l r1.ex s, q _ P1 H1 _ _ r1 e1 (by rw [List.length_mapIdx, ← ha.len]; exact walk_enum) (fun P' H' a b => Evl.ex_l (a.trans b) s) fun i P' H' x H'' hi a b y => ?_⟩⟩
      obtain ⟨T, x1, x2, rfl, nT, rfl, e2, e3⟩ := y
      obtain ⟨d, e4, hd⟩ := ha.get' e3
      have g := grow_new (o := .tup [x1, x2]) b nT
      refine ⟨_, .tup [.int i, d], g, by rw [List.getElem?_mapIdx, e4] <;> rfl, ?_⟩
      cases Option.some.inj e2
      exact .tup (Evl.st_of upd_same) (.cons (.int _) (.cons (Has.mono (a.trans g.p) _ hd) .nil))
    | @tup a xs _ s ha =>
      cases Option.some.inj hx
      refine ⟨_, _, rfl, .inr ⟨Evl.ex_t r1.ex s, q _ P1 H1 _ _ r1 e1 (by rw [List.length_mapIdx, ← ha.len]; exact walk_enumT) (fun P' H' a b => Evl.ex_t (a.trans b) s) fun i P' H' x H'' hi a b y => ?_⟩⟩
      obtain ⟨T, x1, x2, rfl, nT, rfl, e2, e3⟩ := y
      obtain ⟨d, e4, hd⟩ := ha.get' e3
      have g := grow_new (o := .tup [x1, x2]) b nT
      refine ⟨_, .tup [.int i, d], g, by rw [List.getElem?_mapIdx, e4] <;> rfl, ?_⟩
      cases Option.some.inj e2
      exact .tup (Evl.st_of upd_same) (.cons (.int _) (.cons (Has.mono (a.trans g.p) _ hd) .nil))
    | _ => cases hx
/-! calls whose errors go on -/
section
variable {X : Cx} {k : Nat} {x : Str} {ps : List Str} {sp : Sp} {dvs : List V} {p pos : Pos} {e : Expr} {es : List Expr} {t : TA} {E : XK} {W : WX}
theorem pe_fdE (C : Fd X.prog X.w X.K X.mg X.base k x ps dvs sp) (hr : Room k X.A) (tk : Takes X W) (hW : ∀ cls d σ H, E cls d H → W cls d σ H) (ha : PA X (e :: es) t) (hg : Gl X x := by rfl) (hdb : (x == ("__debug__" : Str)) = false := by decide)
    (he : starEach (e :: es) X.env = (false, eval e X.env) :: starEach es X.env := by rfl) (hpl : (backTo pos (starEach es X.env)).any (·.1) = false := by rfl) : PE X (.Call (.Name x p) (e :: es) [] pos) (tCall sp dvs E t) := by
  obtain ⟨f, fd, ds, F, hb, hd, hm, hk⟩ := C.ex
  exact pe_call F hr hg hm hk hb hd (passes_call tk hW) ha hdb he hpl
end
section
variable {c : Fr} {es : List Sv} {ts : TA} {ds dd : List Dt} {R : List Dt → Out → Prop} {Ro : Out → Prop} {dvs : List V} {E : XK}
theorem ev_callE (h : EDs c ts es ds) (hd : ∀ P, HasAll c.K P dvs dd) (hR : ∃ o, R (ds ++ dd) o) (hx : ∀ C ns fd, R (ds ++ dd) (.ex C ns fd) → Ro (.ex C ns fd)) (hk : XtD c E Ro) : EV c (tCall (spX c.K R) dvs E ts) es (fun d => R (ds ++ dd) (.ok d)) := fun σ P H r Q q =>
  h σ P H r _ fun vs P1 H1 l hl r1 e1 k1 => by
    subst hl
    exact ⟨P1, l ++ dd, r1.ex, k1.append (hd P1), hR, fun v P2 H2 d hr g hv => q v P2 H2 d hr (r1.step g) (e1.trans (.of g)) hv, fun dx P2 H2 C fs fd hr g h0 hP hx' hf => hk dx P2 H2 σ es C fs fd (hx _ _ _ hr) (r1.step g) (r1.dom dx h0) hP hx' hf⟩
theorem XtD.low {P1 : Hp} (L : Low c P1) (h : XtD c E Ro) : XtD (c.at P1) E Ro := fun dx P H σ es C fs fd e r h0 h1 h2 h3 => h dx P H σ es C fs fd e (L r) h0 h1 h2 h3
end
theorem units65 {k : Nat} {A : Around} (r : Room k A) : A.units + 65 < cLine := by
  have := r.un
  omega
end My
set_option Elab.async false
set_option linter.all false
set_option maxRecDepth 100000
set_option maxHeartbeats 4000000
/-! stands.py: rows of slips. -/
namespace Lw
open PySem PySem.Spec PyProof.Rows L2 My StX
local macro_rules | `(tactic| walk_at "ed") => `(tactic| first
  | exact ed_int | exact ed_bl | exact ed_str | exact ed_non
  | exact ed_var rfl
  | (apply ed_I0; (focus walk_at "ed"); (focus walk_at "ed"))
  | (apply ed_B0; (focus walk_at "ed"); (focus walk_at "ed"))
  | (apply ed_neg; (focus walk_at "ed"))
  | (apply ed_ixT; (focus walk_at "ed"); (focus walk_at "ed"); (focus rfl))
  | (apply ed_ixL; (focus walk_at "ed"); (focus walk_at "ed"); (focus rfl))
  | (apply ed_ixO; (focus rfl); (focus walk_at "ed"); (focus rfl))
  | (apply ed_len; (focus walk_at "ed"); (focus rfl))
  | (apply ed_lenO; (focus rfl))
  | (apply ed_tup; (focus walk_at "ed"); (focus (simp only [List.length_cons, List.length_nil]; decide)))
  | (apply ed_eq; (focus walk_at "ed"); (focus walk_at "ed"); (focus rfl); (focus rfl))
  | (apply ed_ne; (focus walk_at "ed"); (focus walk_at "ed"); (focus rfl); (focus rfl))
  | (apply ed_isN; (focus walk_at "ed"))
  | (apply ed_notN; (focus walk_at "ed"))
  | (apply ed_isB; (focus walk_at "ed"); (focus walk_at "ed"))
  | (apply ed_notB; (focus walk_at "ed"); (focus walk_at "ed"))
  | (apply ed_isi; (focus walk_at "ed"); (focus first | rfl | assumption); (focus decide +kernel))
  | (apply ed_isi2; (focus walk_at "ed"); (focus first | rfl | assumption); (focus decide +kernel); (focus decide +kernel))
  | (apply ed_not; (focus walk_at "ed"))
  | (apply ed_int1; (focus walk_at "ed"))
  | (apply ed_abs; (focus walk_at "ed"))
  | (apply ed_gcd; (focus walk_at "ed"); (focus walk_at "ed"))
  | exact es_nil
  | (apply es_cons; (focus walk_at "ed"); (focus walk_at "ed"))
  | (apply eb_test; (focus walk_at "ed"))
  | (apply eb_B; (focus walk_at "ed"))
  | (apply eb_not; (focus walk_at "ed")))
/-! promises -/
def toR : Dt → Rat
  | .tup [.int a, .int b] => Rat.divInt a b
  | _ => 0
def m2 : Rat := Rat.divInt (-2) 1
def p2 : Rat := Rat.divInt 2 1
def rowWord (y : Dt) : Option Str := if ratioB y then (if lessR (toR y) m2 || lessR p2 (toR y) then some "far" else none) else some "ratio"
def scan : Nat → List Dt → Option (Nat × Str)
  | _, [] => none
  | k, y :: l => match rowWord y with
    | some w => some (k, w)
    | none => scan (k + 1) l
def slipEx (C : Addr) (k : Nat) (w : Str) : Out := .ex C ["what", "index"] [.str w, .int k]
def rowO (C : Addr) (x : Dt) : Out := match itemsD x with
  | some l => if 1 ≤ l.length ∧ l.length ≤ 3 then (match scan 0 l with
    | some (k, w) => slipEx C k w
    | none => .ok (.tup l)) else slipEx C 0 "many"
  | none => slipEx C 0 "many"
/-- a row that may be handed in -/
def RowIn (x : Dt) : Prop := Kin x ∧ NN x ∧ ∀ l, itemsD x = some l → ∀ y ∈ l, Kins y ∧ (ratioB y = true → SzR 2000 (toR y))
def R_check_slip_row (C : Addr) (ds : List Dt) (o : Out) : Prop := ∃ x, ds = [x] ∧ RowIn x ∧ o = rowO C x
def sp_check_slip_row (K : PySem.W.Frag) : Sp := spX K (R_check_slip_row (He.ga K "BadSlipRow"))
/-! what is broken off -/
theorem broken_red (p : Rat) : ((p.num % (p.den : Int)).natAbs).Coprime p.den := by
  have hg := p.reduced
  unfold Nat.Coprime at *
  generalize hk : Nat.gcd (p.num % (p.den : Int)).natAbs p.den = g
  have d1 : (g : Int) ∣ p.num % (p.den : Int) := Int.ofNat_dvd_left.mpr (by rw [← hk]; exact Nat.gcd_dvd_left _ _)
  have d2 : g ∣ p.den := by rw [← hk]; exact Nat.gcd_dvd_right _ _
  have d3 : (g : Int) ∣ p.num := by
    have e := Int.emod_add_mul_ediv p.num p.den
    rw [← e]
    exact Int.dvd_add d1 (Int.dvd_mul_of_dvd_left (Int.ofNat_dvd.mpr d2))
  have d4 := Nat.dvd_gcd (Int.ofNat_dvd_left.mp d3) d2
  rw [hg] at d4
  exact Nat.dvd_one.mp d4
def brokR (p : Rat) : Rat := ⟨p.num % (p.den : Int), p.den, p.den_nz, broken_red p⟩
theorem brok_D (p : Rat) : ratD (brokR p) = .tup [.int (p.num % p.den), .int p.den] := rfl
/-- the ratios broken off that are not 0, ascending -/
def brokenR (l : List Rat) : List Rat := sortR 8 ((l.map brokR).filter fun p => !decide (p = 0))
def R_broken_parts (ds : List Dt) (d : Dt) : Prop := ∃ l : List Rat, ds = [.tup (l.map ratD)] ∧ l.length ≤ 200 ∧ (∀ q ∈ l, SzR 1000 q) ∧ d = .tup ((brokenR l).map ratD)
def sp_broken_parts (K : PySem.W.Frag) : Sp := spD K R_broken_parts
/-- the place of q -/
def idxR (q : Rat) : List Rat → Nat
  | [] => 0
  | a :: l => if a = q then 0 else idxR q l + 1
def standL (rs : List Rat) : List Dt := rs.map fun p => Dt.tup [.int (p.num / p.den), .int (idxR (brokR p) (0 :: brokenR rs) : Nat)]
def standOf : Dt → Dt
  | .tup l => .tup (standL (l.map toR))
  | d => d
def standO (C : Addr) (x : Dt) : Out := match rowO C x with
  | .ok d => .ok (standOf d)
  | .ex C ns ds => .ex C ns ds
def RowSz (x : Dt) : Prop := ∀ l, itemsD x = some l → ∀ y ∈ l, ratioB y = true → SzR 1000 (toR y)
def R_stand_of (C : Addr) (ds : List Dt) (o : Out) : Prop := ∃ x, ds = [x] ∧ RowIn x ∧ RowSz x ∧ o = standO C x
def sp_stand_of (K : PySem.W.Frag) : Sp := spX K (R_stand_of (He.ga K "BadSlipRow"))
def t_check_slip_row (K : PySem.W.Frag) (E : XK) : TS :=
  (tSeq (tIfS (tNot (tB (tCall (sp_is_sequence K) [] E0 (tCons (tVar 0) (tCons (tC (.int 1)) (tCons (tC (.int 3)) tNil)))))) (fun (_ : Ends) σ H => tMkO (He.ga K "BadSlipRow") (spIni2 K (He.ga K "BadSlipRow") "index" "what") [] (tCons (tC (.int 0)) (tCons (tC (.str "many")) tNil)) σ H fun cls d H2 => E cls d H2) tNext)
    (tSeq (tFor (iEnumA K (tCons (tVar 0) tNil)) (gTup K 2 (gCons (gName 1) (gCons (gName 2) gNil))) (tSeq (tIfS (tNot (tB (tCall (sp_is_ratio K) [] E0 (tCons (tVar 2) tNil)))) (fun (_ : Ends) σ H => tMkO (He.ga K "BadSlipRow") (spIni2 K (He.ga K "BadSlipRow") "index" "what") [] (tCons (tVar 1) (tCons (tC (.str "ratio")) tNil)) σ H fun cls d H2 => E cls d H2) tNext)
    (tIfS (tOr (tTest (tOp (rI0 fun i j => .bl (decide (i < j))) (tCall (sp_compare K) [] E0 (tCons (tVar 2) (tCons (tTup (tCons (tUn (rU fun i => .int (-i)) (tC (.int 2))) (tCons (tC (.int 1)) tNil))) tNil))) (tC (.int 0)))) (tTest (tOp (rI0 fun i j => .bl (decide (j < i))) (tCall (sp_compare K) [] E0 (tCons (tVar 2) (tCons (tTup (tCons (tC (.int 2)) (tCons (tC (.int 1)) tNil))) tNil))) (tC (.int 0))))) (fun (_ : Ends) σ H => tMkO (He.ga K "BadSlipRow") (spIni2 K (He.ga K "BadSlipRow") "index" "what") [] (tCons (tVar 1) (tCons (tC (.str "far")) tNil)) σ H fun cls d H2 => E cls d H2) tNext)))
    (tRet (tCB (rTupleOf K) (tCons (tVar 0) tNil)))))
def t_broken_parts (K : PySem.W.Frag) : TS :=
  (tSeq (tAsg (tLc (iSeq K (tVar 0)) (gName 2) tYes (tCall (sp_broken_of K) [] E0 (tCons (tVar 2) tNil)) [2]) (gName 1))
    (tRet (tCall (sp_ascending_ratios K) [] E0 (tCons (tLc (iSeq K (tVar 1)) (gName 3) (tTest (tOp (rNeD K) (tVar 3) (tC (.ref (He.ga K "ZERO"))))) (tVar 3) [3]) tNil))))
def t_stand_of (K : PySem.W.Frag) (E : XK) : TS :=
  (tSeq (tAsg (tCall (sp_check_slip_row K) [] E (tCons (tVar 0) tNil)) (gName 1))
    (tSeq (tAsg (tCall (sp_broken_parts K) [] E0 (tCons (tVar 1) tNil)) (gName 2))
    (tSeq (tAsg (tTupN (tCons (tC (.ref (He.ga K "ZERO"))) (tStar K (tVar 2) tNil))) (gName 3))
    (tRet (tCB (rTupleOf K) (tCons (tLc (iSeq K (tVar 1)) (gName 4) tYes (tTup (tCons (tCall (sp_floor_of K) [] E0 (tCons (tVar 4) tNil)) (tCons (tBMN (rTIndexD K) (tVar 3) (tCons (tCall (sp_broken_of K) [] E0 (tCons (tVar 4) tNil)) tNil)) tNil))) [4]) tNil))))))
section
variable {c : Fr} {D : Ends} {E : XK} {es : List Sv} {ta tb te tx : TE} {x y lo hi : Dt} {p q : Rat} {a b : List Rat} {n i j : Nat}
theorem two_D : ratD m2 = .tup [.int (-2), .int 1] ∧ ratD p2 = .tup [.int 2, .int 1] := by
  constructor
  · show Dt.tup [.int m2.num, .int m2.den] = _
    rw [show m2.num = -2 by decide +kernel, show ((m2.den : Nat) : Int) = 1 by decide +kernel]
  · show Dt.tup [.int p2.num, .int p2.den] = _
    rw [show p2.num = 2 by decide +kernel, show ((p2.den : Nat) : Int) = 1 by decide +kernel]
theorem two_Sz : SzR 2000 m2 ∧ SzR 2000 p2 := by
  have up : ∀ {x : Nat}, x < 2 ^ 2 → x < 2 ^ 2000 := fun h => Nat.lt_of_lt_of_le h (Nat.pow_le_pow_right (by decide) (by decide))
  exact ⟨⟨up (show m2.num.natAbs < 2 ^ 2 by decide +kernel), up (show ((m2.den : Nat) : Int).natAbs < 2 ^ 2 by decide +kernel)⟩, up (show p2.num.natAbs < 2 ^ 2 by decide +kernel), up (show ((p2.den : Nat) : Int).natAbs < 2 ^ 2 by decide +kernel)⟩
theorem ratio_toR (h : ratioB y = true) : y = ratD (toR y) := by
  unfold ratioB at h
  split at h
  · rename_i a b
    obtain ⟨h1, h2⟩ := Bool.and_eq_true_iff.mp h
    have h1 := of_decide_eq_true h1
    have h2 := of_decide_eq_true h2
    have hb : b ≠ 0 := by omega
    have pa : partOf a b = 1 := by
      unfold partOf
      rw [if_neg (by omega), h2] <;> rfl
    have e1 := low_num (a := a) hb
    have e2 := low_den (a := a) hb
    rw [pa, Int.fdiv_one] at e1 e2
    show Dt.tup [.int a, .int b] = Dt.tup [.int (Rat.divInt a b).num, .int (Rat.divInt a b).den]
    rw [← e1, ← e2]
  · cases h
theorem ed_isSeqC (ha : ED c ta es x) (hl : ED c tb es lo) (hh : ED c tx es hi) (hx : Kin x) (hN : NN x) (hL : Lim lo) (hU : Lim hi) : ED c (tCall (sp_is_sequence c.K) [] E (tCons ta (tCons tb (tCons tx tNil)))) es (.bl (seqB x lo hi)) :=
  ed_call (es_cons ha (es_cons hl (es_cons hh es_nil))) ⟨x, lo, hi, rfl, hx, hN, hL, hU, rfl⟩ fun y ⟨a, b, d, e, _, _, _, _, ey⟩ => by
    cases e
    exact ey
theorem sem_check_slip_row (hx : RowIn x) (k : RetD c D.rt (fun d => rowO (He.ga c.K "BadSlipRow") x = .ok d)) (kx : XtD c E (fun o => o = rowO (He.ga c.K "BadSlipRow") x)) : Cont c (t_check_slip_row c.K E D) [.dat x, .no, .no] := by
  obtain ⟨h1, h2, h3⟩ := hx
  refine s_when (b := !seqB x (.int 1) (.int 3)) (eb_not (eb_B (ed_isSeqC (ed_var rfl) ed_int ed_int h1 h2 (.inr ⟨_, rfl⟩) (.inr ⟨_, rfl⟩)))) (fun h => ?_) fun h => ?_
  · refine c_raise2 (D := D) (es_cons ed_int (es_cons ed_str es_nil)) kx ?_
    unfold rowO
    unfold seqB at h
    cases e : itemsD x with
    | none => rfl
    | some l =>
      rw [e] at h
      have h : (!wholeB (.int l.length) (.int 1) (.int 3)) = true := h
      have : ¬ (1 ≤ l.length ∧ l.length ≤ 3) := fun z => by
        have w : wholeB (.int l.length) (.int 1) (.int 3) = true := by
          show (decide ((1 : Int) ≤ l.length) && decide ((l.length : Int) ≤ 3)) = true
          rw [decide_eq_true (by omega), decide_eq_true (by omega)] <;> rfl
        rw [show wholeB (.int l.length) (.int 1) (.int 3) = true from w] at h
        cases h
      show _ = (if 1 ≤ l.length ∧ l.length ≤ 3 then _ else _)
      rw [if_neg this] <;> rfl
  · unfold seqB at h
    cases e : itemsD x with
    | none => rw [e] at h; cases h
    | some l =>
      rw [e] at h
      have h : (!wholeB (.int l.length) (.int 1) (.int 3)) = false := h
      have hl : 1 ≤ l.length ∧ l.length ≤ 3 := by
        have w : (decide ((1 : Int) ≤ l.length) && decide ((l.length : Int) ≤ 3)) = true := by
          cases z : (decide ((1 : Int) ≤ l.length) && decide ((l.length : Int) ≤ 3)) with
          | true => rfl
          | false =>
            rw [show wholeB (.int l.length) (.int 1) (.int 3) = false from z] at h
            cases h
        obtain ⟨w1, w2⟩ := Bool.and_eq_true_iff.mp w
        have w1 := of_decide_eq_true w1
        have w2 := of_decide_eq_true w2
        omega
      have eo : rowO (He.ga c.K "BadSlipRow") x = match scan 0 l with
          | some (k, w) => slipEx (He.ga c.K "BadSlipRow") k w
          | none => .ok (.tup l) := by
        unfold rowO
        rw [e]
        exact if_pos hl
      refine s_for (I := fun k es => scan k (l.drop k) = scan 0 l ∧ ∃ s s', es = [.dat x, s, s']) (f := fun y es => match y with
        | .tup [a, b] => (es.set 1 (.dat a)).set 2 (.dat b)
        | _ => es) (vs := [1, 2]) (wi_enumA (ed_var rfl) e) ⟨rfl, _, _, rfl⟩ (fun P y hy => ?_) (fun P1 L k y es ey ⟨hsc, s, s', h4⟩ => ?_) fun es ⟨hsc, s, s', h4⟩ => ?_
      · obtain ⟨i, hi, rfl⟩ := List.mem_mapIdx.mp hy
        exact tg_two
      · subst h4
        obtain ⟨z, hz, rfl⟩ : ∃ z, l[k]? = some z ∧ Dt.tup [.int (k : Nat), z] = y := by
          rw [List.getElem?_mapIdx] at ey
          cases q : l[k]? with
          | none => rw [q] at ey; cases ey
          | some z => rw [q] at ey; exact ⟨z, rfl, Option.some.inj ey⟩
        have hk := (List.getElem?_eq_some_iff.mp hz).1
        have hd : l.drop k = z :: l.drop (k + 1) := by
          rw [List.drop_eq_getElem_cons hk]
          congr 1
          exact (List.getElem?_eq_some_iff.mp hz).2
        rw [hd] at hsc
        obtain ⟨zk, zs⟩ := h3 l e z (List.mem_of_getElem? hz)
        have bad : ∀ {w : Str}, rowWord z = some w → rowO (He.ga c.K "BadSlipRow") x = slipEx (He.ga c.K "BadSlipRow") k w := fun {w} hw => by
          rw [eo, ← hsc]
          show (match (match rowWord z with
            | some w => some (k, w)
            | none => scan (k + 1) (l.drop (k + 1))) with
            | some (k, w) => slipEx (He.ga c.K "BadSlipRow") k w
            | none => .ok (.tup l)) = _
          rw [hw]
        refine s_when (b := !ratioB z) (eb_not (eb_B (ed_isratio (ed_var rfl) zk))) (fun h => ?_) fun h => ?_
        · have hr : ratioB z = false := by cases q : ratioB z with
            | false => rfl
            | true => rw [q] at h; cases h
          refine c_raise2 (D := D) (es_cons (ed_var rfl) (es_cons ed_str es_nil)) (kx.low L) ?_
          rw [bad (w := "ratio") (by unfold rowWord; rw [hr] <;> rfl)] <;> rfl
        · have hr : ratioB z = true := by cases q : ratioB z with
            | true => rfl
            | false => rw [q] at h; cases h
          have ez := ratio_toR hr
          have sz := zs hr
          have hw : rowWord z = (if lessR (toR z) m2 || lessR p2 (toR z) then some ("far" : Str) else none) := by
            unfold rowWord
            rw [if_pos hr]
          generalize toR z = q at ez sz hw
          subst ez
          refine c_if (b := lessR q m2 || lessR p2 q) (eb_or (EBd.is (eb_test (ed_B0 (ed_cmp (ed_var rfl) (ED.is (ed_tup (es_cons (ed_neg ed_int) (es_cons ed_int es_nil)) (by show 2 ≤ 100000; decide)) two_D.1.symm) sz two_Sz.1) ed_int)) cmp_lt) fun _ => EBd.is (eb_test (ed_B0 (ed_cmp (ed_var rfl) (ED.is (ed_tup (es_cons ed_int (es_cons ed_int es_nil)) (by show 2 ≤ 100000; decide)) two_D.2.symm) sz two_Sz.2) ed_int)) cmp_gt) (fun h => ?_) fun h => c_next ?_
          · refine c_raise2 (D := D) (es_cons (ed_var rfl) (es_cons ed_str es_nil)) (kx.low L) ?_
            rw [bad (w := "far") (by rw [hw, h] <;> rfl)] <;> rfl
          · refine c_turn' rfl ⟨?_, .dat (.int (k : Nat)), .dat (ratD q), rfl⟩
            rw [← hsc]
            show _ = (match rowWord (ratD q) with
              | some w => some (k, w)
              | none => scan (k + 1) (l.drop (k + 1)))
            rw [hw, h] <;> rfl
      · subst h4
        rw [List.length_mapIdx, List.drop_length] at hsc
        have eo2 : rowO (He.ga c.K "BadSlipRow") x = .ok (.tup l) := by
          rw [eo, ← hsc] <;> rfl
        refine c_ret (ed_tupleOf (ed_var rfl) e) (RetD.imp k fun d ed => ?_)
        rw [ed, eo2]
end
section
variable {c : Fr} {D : Ends} {E : XK} {es : List Sv} {ta tb te tx : TE} {x y : Dt} {p q : Rat} {l : List Rat}
theorem ed_broken (h : ED c ta es (ratD p)) : ED c (tCall (sp_broken_of c.K) [] E (tCons ta tNil)) es (ratD (brokR p)) :=
  ed_call (es_cons h es_nil) ⟨p, rfl, brok_D p⟩ fun y ⟨p', e, ey⟩ => by rw [ey, ratD_inj (List.cons.inj e).1, brok_D]
def brokD : Dt → Dt
  | .tup [.int a, .int b] => .tup [.int (a % b), .int b]
  | d => d
theorem rats_brok (l : List Rat) : ((l.map ratD).filter fun _ => true).map brokD = (l.map brokR).map ratD := by
  rw [List.filter_eq_self.mpr (fun _ _ => rfl), List.map_map, List.map_map] <;> rfl
theorem rats_some (l : List Rat) : ((l.map ratD).filter fun y => !eqv y (ratD 0)).map id = (l.filter fun p => !decide (p = 0)).map ratD := by
  rw [List.map_id, List.filter_map]
  congr 1
  exact List.filter_congr fun q _ => by
    show (!eqv (ratD q) (ratD 0)) = _
    rw [eqv_ratD]
theorem brok_sz {n : Nat} (h : SzR n q) : SzR n (brokR q) := by
  refine ⟨?_, h.den⟩
  have h1 := Int.emod_nonneg q.num (den_ne q)
  have h2 := Int.emod_lt_of_pos q.num (den_pos q)
  have h3 := h.den
  show (q.num % (q.den : Int)).natAbs < 2 ^ n
  unfold Sz at h3
  omega
theorem sem_broken_parts (hm : c.mu = []) (hz : ∀ H, SqT c.K H (He.ga c.K "ZERO") [.int 0, .int 1]) (hl : l.length ≤ 200) (hs : ∀ q ∈ l, SzR 1000 q) (k : RetD c D.rt (fun d => d = .tup ((brokenR l).map ratD))) : Cont c (t_broken_parts c.K D) [.dat (.tup (l.map ratD)), .no, .no, .no] := by
  refine s_asgO (eo_lc (f := fun y es => es.set 2 (.dat y)) (p := fun _ => true) (fn := brokD) rfl (wi_seq (ed_var rfl) rfl) (by rw [List.length_map]; omega) (fun P y hy => tg_name) (fun y hy => rfl) (fun P _ y _ => eb_yes) fun P _ y hy _ => ?_) fun a ds e => ?_
  · obtain ⟨p, _, rfl⟩ := List.mem_map.mp hy
    exact ed_broken (ed_var rfl)
  rw [rats_brok] at e
  subst e
  refine c_give (n := 1) rfl hm ?_
  have el : ED c (tLc (iSeq c.K (tVar 1)) (gName 3) (tTest (tOp (rNeD c.K) (tVar 3) (tC (.ref (He.ga c.K "ZERO"))))) (tVar 3) [3]) [.dat (.tup (l.map ratD)), .dat (.lst ((l.map brokR).map ratD)), .no, .no] (.lst (((l.map brokR).filter fun p => !decide (p = 0)).map ratD)) := by
    refine EV.imp (ev_give hm (eo_lc (f := fun y es => es.set 3 (.dat y)) (p := fun y => !eqv y (ratD 0)) (fn := id) rfl (wi_seq (ed_var rfl) rfl) (by rw [List.length_map, List.length_map]; omega) (fun P y hy => tg_name) (fun y hy => rfl) (fun P _ y hy => ?_) fun P _ y hy _ => ed_var rfl)) fun z ⟨r, e1, e2⟩ => by rw [e1, e2, rats_some]
    obtain ⟨p, _, rfl⟩ := List.mem_map.mp hy
    exact eb_test (ed_ne (y := ratD 0) (ed_var rfl) (ed_c fun P => .tup (hz P) (.cons (.int 0) (.cons (.int 1) .nil))) rfl rfl)
  have ln : ((l.map brokR).filter fun p => !decide (p = 0)).length ≤ l.length := Nat.le_trans (List.length_filter_le _ _) (by rw [List.length_map]; exact Nat.le_refl _)
  refine c_ret (ed_asc (n := 8) el (Nat.le_trans ln (Nat.le_trans hl (by decide))) (by omega) fun q hq => ?_) k
  obtain ⟨p, hp, rfl⟩ := List.mem_map.mp (List.mem_filter.mp hq).1
  exact (brok_sz (hs p hp)).mono (by decide)
end
theorem idx_get {q : Rat} : ∀ {l : List Rat}, q ∈ l → l[idxR q l]? = some q
  | [], h => by cases h
  | a :: l, h => by
    unfold idxR
    by_cases e : a = q
    · rw [if_pos e, e] <;> rfl
    · rw [if_neg e, List.getElem?_cons_succ]
      exact idx_get ((List.mem_cons.mp h).resolve_left fun z => e z.symm)
theorem idx_no {q a : Rat} : ∀ {l : List Rat} {m : Nat}, m < idxR q l → l[m]? = some a → a ≠ q
  | [], _, h, _ => absurd h (Nat.not_lt_zero _)
  | b :: l, m, h, e => by
    unfold idxR at h
    by_cases z : b = q
    · rw [if_pos z] at h
      exact absurd h (Nat.not_lt_zero _)
    · rw [if_neg z] at h
      cases m with
      | zero =>
        cases Option.some.inj e
        exact z
      | succ m => exact idx_no (l := l) (m := m) (by omega) (by simpa using e)
theorem less_none {p q : Rat} (h1 : lessR p q = false) (h2 : lessR q p = false) : p = q := by
  unfold lessR at *
  have h1 := of_decide_eq_false h1
  have h2 := of_decide_eq_false h2
  have e : p.num * q.den = q.num * p.den := by omega
  have d := (Rat.divInt_eq_divInt_iff (z₁ := den_ne p) (z₂ := den_ne q)).mpr e
  rwa [divInt_of, divInt_of] at d
theorem mem_merge' : ∀ {a b : List Rat} {q : Rat}, q ∈ a ∨ q ∈ b → q ∈ mergeR a b
  | [], b, q, h => by
    rw [mergeR]
    exact h.resolve_left List.not_mem_nil
  | a :: as, [], q, h => by
    rw [mergeR]
    exact h.resolve_right List.not_mem_nil
  | a :: as, b :: bs, q, h => by
    rw [mergeR]
    cases h1 : lessR a b with
    | true =>
      rw [if_pos rfl]
      rcases h with h | h
      · rcases List.mem_cons.mp h with z | z
        · rw [z]; exact List.mem_cons_self
        · exact List.mem_cons_of_mem _ (mem_merge' (.inl z))
      · exact List.mem_cons_of_mem _ (mem_merge' (.inr h))
    | false =>
      rw [if_neg (by decide)]
      cases h2 : lessR b a with
      | true =>
        rw [if_pos rfl]
        rcases h with h | h
        · exact List.mem_cons_of_mem _ (mem_merge' (.inl h))
        · rcases List.mem_cons.mp h with z | z
          · rw [z]; exact List.mem_cons_self
          · exact List.mem_cons_of_mem _ (mem_merge' (.inr z))
      | false =>
        rw [if_neg (by decide)]
        have e := less_none h1 h2
        rcases h with h | h
        · rcases List.mem_cons.mp h with z | z
          · rw [z, e]; exact List.mem_cons_self
          · exact List.mem_cons_of_mem _ (mem_merge' (.inl z))
        · rcases List.mem_cons.mp h with z | z
          · rw [z]; exact List.mem_cons_self
          · exact List.mem_cons_of_mem _ (mem_merge' (.inr z))
termination_by a b => a.length + b.length
theorem mem_sort' : ∀ {n : Nat} {l : List Rat} {q : Rat}, q ∈ l → q ∈ sortR n l
  | 0, _, _, h => h
  | n + 1, l, q, h => by
    rw [sortR]
    split
    · exact h
    · rw [← List.take_append_drop (l.length / 2) l] at h
      exact mem_merge' ((List.mem_append.mp h).imp mem_sort' mem_sort')
theorem brok_in {l : List Rat} {p : Rat} (h : p ∈ l) : brokR p ∈ 0 :: brokenR l := by
  by_cases z : brokR p = 0
  · rw [z]; exact List.mem_cons_self
  · exact List.mem_cons_of_mem _ (mem_sort' (List.mem_filter.mpr ⟨List.mem_map.mpr ⟨p, h, rfl⟩, by rw [decide_eq_false z] <;> rfl⟩))
theorem toR_D (q : Rat) : toR (ratD q) = q := divInt_of q
theorem toR_map (l : List Rat) : (l.map ratD).map toR = l := by
  rw [List.map_map]
  conv => rhs; rw [← List.map_id l]
  exact List.map_congr_left fun q _ => toR_D q
theorem scan_none : ∀ {k : Nat} {l : List Dt}, scan k l = none → ∃ rs : List Rat, l = rs.map ratD
  | _, [], _ => ⟨[], rfl⟩
  | k, y :: l, h => by
    unfold scan at h
    cases w : rowWord y with
    | some w' => rw [w] at h; cases h
    | none =>
      rw [w] at h
      obtain ⟨rs, e⟩ := scan_none (k := k + 1) (l := l) h
      have hr : ratioB y = true := by
        cases z : ratioB y with
        | true => rfl
        | false =>
          unfold rowWord at w
          rw [z] at w
          cases w
      exact ⟨toR y :: rs, by rw [List.map_cons, ← ratio_toR hr, e]⟩
theorem rowO_ok {C : Addr} {x d : Dt} (h : rowO C x = .ok d) : ∃ rs : List Rat, d = .tup (rs.map ratD) ∧ itemsD x = some (rs.map ratD) ∧ 1 ≤ rs.length ∧ rs.length ≤ 3 := by
  unfold rowO at h
  cases e : itemsD x with
  | none => rw [e] at h; cases h
  | some l =>
    rw [e] at h
    have h : (if 1 ≤ l.length ∧ l.length ≤ 3 then (match scan 0 l with
      | some (k, w) => slipEx C k w
      | none => .ok (.tup l)) else slipEx C 0 "many") = Out.ok d := h
    by_cases hl : 1 ≤ l.length ∧ l.length ≤ 3
    · rw [if_pos hl] at h
      cases s : scan 0 l with
      | some kw => rw [s] at h; cases h
      | none =>
        rw [s] at h
        obtain ⟨rs, rfl⟩ := scan_none s
        cases h
        rw [List.length_map] at hl
        exact ⟨rs, rfl, rfl, hl.1, hl.2⟩
    · rw [if_neg hl] at h
      cases h
theorem fine_ratsN (l : List Rat) : fine (.tupN (l.map ratD)) = true := fine_rats l
section
variable {c : Fr} {D : Ends} {E : XK} {es : List Sv} {ta tb te tx : TE} {x y : Dt} {p q : Rat} {l : List Rat}
theorem sem_stand_of (hm : c.mu = []) (hz : ∀ H, SqT c.K H (He.ga c.K "ZERO") [.int 0, .int 1]) (hx : RowIn x) (hs : RowSz x) (k : RetD c D.rt (fun d => standO (He.ga c.K "BadSlipRow") x = .ok d)) (kx : XtD c E (fun o => o = standO (He.ga c.K "BadSlipRow") x)) : Cont c (t_stand_of c.K E D) [.dat x, .no, .no, .no, .no] := by
  refine s_asgV (ev_callE (Ro := fun o => o = standO (He.ga c.K "BadSlipRow") x) (dd := []) (es_cons (ed_var rfl) es_nil) (fun _ => .nil) ⟨_, x, rfl, hx, rfl⟩ (fun C' ns fd ⟨x', e, _, eo⟩ => ?_) kx) fun d ⟨x', e, _, eo⟩ => ?_
  · have e' : [x] = [x'] := e
    cases e'
    unfold standO
    rw [← eo] <;> rfl
  · have e' : [x] = [x'] := e
    cases e'
    obtain ⟨rs, rfl, hi, l1, l2⟩ := rowO_ok eo.symm
    have sz : ∀ q ∈ rs, SzR 1000 q := fun q hq => by
      have := hs _ hi (ratD q) (List.mem_map.mpr ⟨q, hq, rfl⟩) (ratio_of q)
      rwa [toR_D] at this
    have so : standO (He.ga c.K "BadSlipRow") x = .ok (.tup (standL rs)) := by
      unfold standO
      rw [← eo]
      show Out.ok (.tup (standL ((rs.map ratD).map toR))) = _
      rw [toR_map]
    refine s_asg (ed_call (d := .tup ((brokenR rs).map ratD)) (es_cons (ed_var rfl) es_nil) ⟨rs, rfl, by omega, sz, rfl⟩ fun y ⟨rs', e, _, _, ey⟩ => ?_) ?_
    · rw [ey, maps_inj (Dt.tup.inj (List.cons.inj e).1)]
    have lb : (brokenR rs).length ≤ rs.length := Nat.le_trans len_sort (Nat.le_trans (List.length_filter_le _ _) (by rw [List.length_map]; exact Nat.le_refl _))
    refine s_asg (ED.is (ed_tupN (es_cons (ed_c (d := ratD 0) fun P => .tup (hz P) (.cons (.int 0) (.cons (.int 1) .nil))) (es_star (ed_var rfl) rfl es_nil)) (by rw [List.append_nil, List.length_cons, List.length_map]; omega)) (congrArg Dt.tupN (show _ = (0 :: brokenR rs).map ratD by rw [List.append_nil] <;> rfl))) ?_
    have el : ED c (tLc (iSeq c.K (tVar 1)) (gName 4) tYes (tTup (tCons (tCall (sp_floor_of c.K) [] E0 (tCons (tVar 4) tNil)) (tCons (tBMN (rTIndexD c.K) (tVar 3) (tCons (tCall (sp_broken_of c.K) [] E0 (tCons (tVar 4) tNil)) tNil)) tNil))) [4])
        [.dat x, .dat (.tup (rs.map ratD)), .dat (.tup ((brokenR rs).map ratD)), .dat (.tupN ((0 :: brokenR rs).map ratD)), .no] (.lst (standL rs)) := by
      refine EV.imp (ev_give hm (eo_lc (f := fun y es => es.set 4 (.dat y)) (p := fun _ => true) (fn := fun y => .tup [.int ((toR y).num / (toR y).den), .int (idxR (brokR (toR y)) (0 :: brokenR rs) : Nat)]) rfl (wi_seq (ed_var rfl) rfl) (by rw [List.length_map]; omega) (fun P y hy => tg_name) (fun y hy => rfl) (fun P _ y _ => eb_yes) fun P _ y hy _ => ?_)) fun z ⟨r, e1, e2⟩ => ?_
      · obtain ⟨p, hp, rfl⟩ := List.mem_map.mp hy
        rw [toR_D]
        have g := idx_get (brok_in hp)
        refine ed_tup (es_cons (ed_floor (ed_var rfl) ((sz p hp).mono (by decide))) (es_cons (ed_tindex (l := (0 :: brokenR rs).map ratD) (y := ratD (brokR p)) (ed_var rfl) (ed_broken (ed_var rfl)) (fine_ratsN _) rfl (by rw [List.getElem?_map, g] <;> rfl) (by rw [eqv_ratD, decide_eq_true rfl]) fun m z lt e => ?_) es_nil)) (by show 2 ≤ 100000; decide)
        rw [List.getElem?_map] at e
        obtain ⟨a, e1, rfl⟩ := Option.map_eq_some_iff.mp e
        rw [eqv_ratD, decide_eq_false (idx_no lt e1)]
      · rw [e1, e2, List.filter_eq_self.mpr (fun _ _ => rfl), List.map_map]
        refine congrArg Dt.lst (List.map_congr_left fun q _ => ?_)
        show Dt.tup [.int ((toR (ratD q)).num / (toR (ratD q)).den), .int (idxR (brokR (toR (ratD q))) (0 :: brokenR rs) : Nat)] = _
        rw [toR_D]
    refine c_ret (ed_tupleOf el rfl) (RetD.imp k fun d ed => ?_)
    rw [ed, so]
end
end Lw
set_option Elab.async false
set_option linter.all false
set_option maxRecDepth 100000
set_option maxHeartbeats 2000000
/-! Sa: tables of sets of any size: masks that are one less than a power of two. -/
namespace My
open PySem PySem.Spec PyProof.Rows L2
/-- 1 + 5 + 25 + .. -/
def fives : Nat → Nat
  | 0 => 0
  | n + 1 => fives n * 5 + 1
theorem fives_add (a b : Nat) : fives (a + b) = fives a * (4 * fives b + 1) + fives b := by
  induction a with
  | zero => simp [fives]
  | succ a ih =>
    have e : a + 1 + b = (a + b) + 1 := by omega
    rw [e]
    show fives (a + b) * 5 + 1 = (fives a * 5 + 1) * (4 * fives b + 1) + fives b
    rw [ih, Nat.add_mul, Nat.add_mul, Nat.mul_right_comm (fives a) 5]
    omega
theorem fives_two (n : Nat) : fives (2 * n) = 2 * (fives n * (2 * fives n + 1)) := by
  have e : 2 * n = n + n := by omega
  rw [e, fives_add, Nat.mul_add, Nat.mul_add, Nat.mul_one]
  have h : fives n * (4 * fives n) = 2 * (fives n * (2 * fives n)) := by
    rw [Nat.mul_left_comm, Nat.mul_left_comm (fives n) 2, ← Nat.mul_assoc 2 2]
  rw [h]
  omega
theorem fives_even (n : Nat) : fives n % 2 = n % 2 := by
  induction n with
  | zero => rfl
  | succ n ih =>
    show (fives n * 5 + 1) % 2 = (n + 1) % 2
    omega
theorem cop_odd (k j : Nat) : Nat.Coprime (2 ^ k) (2 * j + 1) := by
  refine Nat.Coprime.pow_left k ?_
  show Nat.gcd 2 (2 * j + 1) = 1
  rw [Nat.gcd_rec]
  have e : (2 * j + 1) % 2 = 1 := by omega
  rw [e]
  rfl
theorem fives_pow : ∀ k n, 2 ^ k ∣ fives n → 2 ^ k ∣ n
  | 0, n, _ => ⟨n, by rw [Nat.pow_zero, Nat.one_mul]⟩
  | k + 1, n, h => by
    have h2 : 2 ∣ fives n := Nat.dvd_trans ⟨2 ^ k, by rw [Nat.pow_succ, Nat.mul_comm]⟩ h
    have z : fives n % 2 = 0 := Nat.mod_eq_zero_of_dvd h2
    rw [fives_even] at z
    obtain ⟨j, e⟩ : ∃ j, n = 2 * j := ⟨n / 2, by omega⟩
    subst e
    rw [fives_two, Nat.pow_succ, Nat.mul_comm (2 ^ k) 2] at h
    have h3 : 2 ^ k ∣ fives j * (2 * fives j + 1) := Nat.dvd_of_mul_dvd_mul_left (by decide) h
    have h4 : 2 ^ k ∣ fives j := (cop_odd k _).dvd_of_dvd_mul_right h3
    rw [Nat.pow_succ, Nat.mul_comm (2 ^ k) 2]
    exact Nat.mul_dvd_mul_left 2 (fives_pow k j h4)
theorem fives_round : ∀ k, 2 ^ k ∣ fives (2 ^ k)
  | 0 => ⟨fives 1, by simp⟩
  | k + 1 => by
    rw [Nat.pow_succ, Nat.mul_comm (2 ^ k) 2, fives_two]
    exact Nat.mul_dvd_mul_left 2 (Nat.dvd_trans (fives_round k) ⟨_, rfl⟩)
theorem lcg_fives (m : Nat) : ∀ n, lcgN m n = fives n % (m + 1)
  | 0 => by
    show 0 = 0 % (m + 1)
    rw [Nat.zero_mod]
  | n + 1 => by
    show (lcgN m n * 5 + 1) % (m + 1) = (fives n * 5 + 1) % (m + 1)
    rw [lcg_fives m n]
    conv => rhs; rw [Nat.add_mod, Nat.mul_mod]
    rw [Nat.add_mod, Nat.mul_mod, Nat.mod_mod]
/-- no two of a round are one -/
theorem fives_inj {k a b : Nat} (hb : b < 2 ^ k) (h : a < b) : fives a % 2 ^ k ≠ fives b % 2 ^ k := fun e => by
  obtain ⟨d, ed⟩ : ∃ d, b = d + a := ⟨b - a, by omega⟩
  have hd : 2 ^ k ∣ fives d * (4 * fives a + 1) := by
    have e2 : fives b = fives d * (4 * fives a + 1) + fives a := by rw [ed, fives_add]
    rw [e2] at e
    have q : (fives d * (4 * fives a + 1) + fives a - fives a) % 2 ^ k = 0 := Nat.sub_mod_eq_zero_of_mod_eq e.symm
    rw [Nat.add_sub_cancel] at q
    exact Nat.dvd_of_mod_eq_zero q
  have e4 : 4 * fives a + 1 = 2 * (2 * fives a) + 1 := by omega
  rw [e4] at hd
  have h3 := fives_pow k d ((cop_odd k _).dvd_of_dvd_mul_right hd)
  have h4 := Nat.le_of_dvd (by omega) h3
  omega
theorem all_of_nodup {l : List Nat} {n : Nat} (nd : l.Nodup) (hl : l.length = n) (hb : ∀ x ∈ l, x < n) {j : Nat} (hj : j < n) : j ∈ l := by
  rcases Classical.em (j ∈ l) with c | c
  · exact c
  · exfalso
    have q := nat_nodup_len l ((List.range n).erase j) nd fun x hx => (List.mem_erase_of_ne fun e => c (by rw [← e]; exact hx)).2 (List.mem_range.mpr (hb x hx))
    rw [List.length_erase_of_mem (List.mem_range.mpr hj), List.length_range] at q
    omega
/-- the masks of tables -/
def Pow2 (m : Nat) : Prop := ∃ k, 3 ≤ k ∧ k ≤ 40 ∧ m + 1 = 2 ^ k
theorem Pow2.odd {m : Nat} (h : Pow2 m) : m % 2 = 1 := by
  obtain ⟨k, h1, _, e⟩ := h
  obtain ⟨j, rfl⟩ : ∃ j, k = j + 1 := ⟨k - 1, by omega⟩
  rw [Nat.pow_succ] at e
  omega
theorem Pow2.seven {m : Nat} (h : Pow2 m) : 7 ≤ m := by
  obtain ⟨k, h1, _, e⟩ := h
  have q : 2 ^ 3 ≤ 2 ^ k := Nat.pow_le_pow_right (by decide) h1
  omega
theorem round_all {m : Nat} (hm : Pow2 m) {j : Nat} (hj : j ≤ m) : ∃ b, b ≤ m ∧ lcgN m b = j := by
  obtain ⟨k, _, _, e⟩ := hm
  have q := all_of_nodup (l := (List.range (m + 1)).map (lcgN m)) (n := m + 1) (by
      refine List.pairwise_map.mpr (List.pairwise_iff_getElem.mpr fun i i' hi hi' lt => ?_)
      rw [List.length_range] at hi hi'
      rw [List.getElem_range, List.getElem_range, lcg_fives, lcg_fives, e]
      exact fives_inj (by omega) lt) (by rw [List.length_map, List.length_range]) (fun x hx => by
      obtain ⟨b, _, eb⟩ := List.mem_map.mp hx
      rw [← eb, lcg_fives]
      exact Nat.mod_lt _ (Nat.succ_pos _)) (Nat.lt_succ_of_le hj)
  obtain ⟨b, hb, eb⟩ := List.mem_map.mp q
  exact ⟨b, Nat.le_of_lt_succ (List.mem_range.mp hb), eb⟩
theorem round_back {m : Nat} (hm : Pow2 m) : ∀ k, lcgN m (m + 1 + k) = lcgN m k
  | 0 => by
    obtain ⟨k, _, _, e⟩ := hm
    show lcgN m (m + 1) = 0
    rw [lcg_fives, e]
    exact Nat.mod_eq_zero_of_dvd (fives_round k)
  | k + 1 => congrArg (fun z => (z * 5 + 1) % (m + 1)) (round_back hm k)
/-- from any place on a round meets every place -/
theorem round_meets {m i j : Nat} (hm : Pow2 m) (hi : i ≤ m) (hj : j ≤ m) : ∃ k, k ≤ m ∧ lcgI m i k = j := by
  obtain ⟨a, ha, rfl⟩ := round_all hm hi
  obtain ⟨b, hb, rfl⟩ := round_all hm hj
  by_cases c : a ≤ b
  · exact ⟨b - a, by omega, by rw [lcgN_add, Nat.add_sub_cancel' c]⟩
  · have e : a + (m + 1 + b - a) = m + 1 + b := by omega
    exact ⟨m + 1 + b - a, by omega, by rw [lcgN_add, e, round_back hm]⟩
theorem runs_meet {m j : Nat} (hm : Pow2 m) (h : Int) (hj : j ≤ m) : ∃ n, n ≤ m + 12 ∧ runI m (SetTable.bits h) n = j := by
  obtain ⟨k, hk, e⟩ := round_meets hm (runI_le m (SetTable.bits h) 12) hj
  exact ⟨12 + k, by omega, (runI_tail (bits_lt h) k).trans e⟩
theorem ways_meet {m j : Nat} (hm : Pow2 m) (h : Int) (hj : j ≤ m) : ∃ k, k < 10 * SetTable.turns m ∧ way m h k = j := by
  obtain ⟨n, hn, e⟩ := runs_meet hm h hj
  obtain ⟨k, hk, e2⟩ := run_nth m (SetTable.bits h) n
  have hk2 : 10 * n < 10 * SetTable.turns m := by
    unfold SetTable.turns
    omega
  exact ⟨k, Nat.lt_of_le_of_lt hk hk2, (congrArg SetTable.Probe.j e2).trans e⟩
theorem ways_le (m : Nat) (h : Int) (k : Nat) : way m h k ≤ m := by
  have b : SetTable.bits h % (m + 1) ≤ m := Nat.le_of_lt_succ (Nat.mod_lt (SetTable.bits h) (Nat.succ_pos m))
  have r := runEnd_bd b
  have q := nth_in (m := m) k (runAt m (SetTable.bits h % (m + 1)) (SetTable.bits h)) (by
    show SetTable.bits h % (m + 1) + (SetTable.runEnd m (SetTable.bits h % (m + 1)) - _) ≤ m
    omega)
  exact Nat.le_trans (Nat.le_add_right _ _) q
/-- a table in which each hash is found again -/
structure TabG (t : SetTable) (hs : List Int) : Prop where
  asc : Ris t.place.toList
  clean : t.dummies = #[]
  size : t.place.size = hs.length
  mask : Pow2 t.mask
  low : ∀ j ∈ t.place.toList, j ≤ t.mask
  met : ∀ (i : Nat) (h : Int) (j : Nat), hs[i]? = some h → t.place.toList[i]? = some j → ∃ k, way t.mask h k = j ∧ ∀ c, c < k → way t.mask h c ∈ t.place.toList
variable {t : SetTable} {hs : List Int}
theorem TabG.len (T : TabG t hs) : t.place.toList.length = hs.length := by
  rw [Array.length_toList]
  exact T.size
theorem TabG.hole (T : TabG t hs) (hl : hs.length ≤ t.mask) (h : Int) : ∃ K, K < 10 * SetTable.turns t.mask ∧ way t.mask h K ∉ t.place.toList ∧ ∀ c, c < K → way t.mask h c ∈ t.place.toList := by
  obtain ⟨j, hj, hn⟩ := st_missing t.place.toList (t.mask + 1) (by rw [T.len]; omega)
  obtain ⟨k, hk, e⟩ := ways_meet T.mask h (Nat.le_of_lt_succ hj)
  obtain ⟨K, h1, h2, h3⟩ := st_least (p := fun c => way t.mask h c ∉ t.place.toList) k (fun z => hn (e ▸ z))
  refine ⟨K, Nat.lt_of_le_of_lt h1 hk, h2, fun c hc => ?_⟩
  exact Classical.byContradiction fun z => h3 c hc z
theorem TabG.ahead (T : TabG t hs) {h : Int} {K i j : Nat} (hK : way t.mask h K ∉ t.place.toList) (hi : hs[i]? = some h) (hj : t.place.toList[i]? = some j) : ∃ k, k < K ∧ way t.mask h k = j := by
  obtain ⟨k, e, hb⟩ := T.met i h j hi hj
  have hj2 := List.mem_of_getElem? hj
  refine ⟨k, ?_, e⟩
  by_cases c : k < K
  · exact c
  · exfalso
    by_cases c2 : k = K
    · rw [← c2, e] at hK
      exact hK hj2
    · exact hK (hb K (by omega))
/-- a hash more -/
theorem TabG.more (T : TabG t hs) {h : Int} {K j p : Nat} (ej : j = way t.mask h K) (ep : p = SetTable.below t.place j) (hK : j ∉ t.place.toList) (hb : ∀ c, c < K → way t.mask h c ∈ t.place.toList) :
    p ≤ hs.length ∧ TabG (t.put j).1 (hs.take p ++ h :: hs.drop p) ∧ (t.put j).1.fill = hs.length + 1 := by
  obtain ⟨c1, _, _⟩ := below_cut T.asc j
  rw [← ep, T.size] at c1
  have hpl : p ≤ t.place.toList.length := by rw [T.len]; exact c1
  have hpp := put_place t j
  rw [← ep] at hpp
  have hno : t.place[SetTable.below t.place j]? ≠ some j := fun e => hK (List.mem_of_getElem? (by rw [Array.getElem?_toList]; exact e))
  have hsize : (t.put j).1.place.size = hs.length + 1 := by
    rw [← Array.length_toList, hpp, len_ins _ hpl, T.len]
  have up : ∀ {x : Nat}, x ∈ t.place.toList → x ∈ (t.put j).1.place.toList := fun hx => by
    rw [hpp]
    exact mem_ins.2 (.inr hx)
  refine ⟨c1, ⟨ris_insert T.asc hno, put_dm T.clean j, by rw [hsize, len_ins _ c1], T.mask, fun x hx => ?_, fun i h' j' h1 h2 => ?_⟩, ?_⟩
  · rw [hpp] at hx
    rcases mem_ins.1 hx with z | z
    · rw [z, ej]
      exact ways_le _ _ _
    · exact T.low x z
  · show ∃ k, way t.mask h' k = j' ∧ ∀ c, c < k → way t.mask h' c ∈ (t.put j).1.place.toList
    rw [tins_get hs c1] at h1
    rw [hpp, tins_get _ hpl] at h2
    by_cases c : i < p
    · rw [if_pos c] at h1 h2
      obtain ⟨k, e, z⟩ := T.met i h' j' h1 h2
      exact ⟨k, e, fun c hc => up (z c hc)⟩
    · rw [if_neg c] at h1 h2
      by_cases d : i = p
      · rw [if_pos d] at h1 h2
        cases h1
        cases h2
        exact ⟨K, ej.symm, fun c hc => up (hb c hc)⟩
      · rw [if_neg d] at h1 h2
        obtain ⟨k, e, z⟩ := T.met (i - 1) h' j' h1 h2
        exact ⟨k, e, fun c hc => up (z c hc)⟩
  · show (t.put j).1.place.size + (t.put j).1.dummies.size = hs.length + 1
    rw [hsize, put_dm T.clean j]
    rfl
/-! laid anew -/
theorem seat {m : Nat} (hm : Pow2 m) (owner : Array (Option Nat)) (h : Int) {j : Nat} (hj : j ≤ m) (hf : oAt owner j = none) :
    ∃ K, SetTable.layClean.free m owner (SetTable.turns m) (SetTable.bits h % (m + 1)) (SetTable.bits h) = some (way m h K) ∧ oAt owner (way m h K) = none ∧ ∀ c, c < K → oAt owner (way m h c) ≠ none := by
  obtain ⟨n, hn, e⟩ := runs_meet hm h hj
  have hw : oAt owner (way m h (off m (SetTable.bits h % (m + 1)) (SetTable.bits h) n)) = none := by
    have q : way m h (off m (SetTable.bits h % (m + 1)) (SetTable.bits h) n) = runI m (SetTable.bits h) n := by
      unfold way
      rw [nth_off, itL_run]
      rfl
    rw [q, e]
    exact hf
  obtain ⟨K, k1, k2, k3⟩ := st_least (p := fun c => oAt owner (way m h c) = none) _ hw
  have hn2 : n < SetTable.turns m := by
    unfold SetTable.turns
    omega
  refine ⟨K, free_spec m owner _ n _ _ K hn2 k1 (fun c hc => ?_) ?_, k2, k3⟩
  · have q := k3 c hc
    unfold way at q
    cases z : oAt owner (nth m (runAt m (SetTable.bits h % (m + 1)) (SetTable.bits h)) c).j
    · exact absurd z q
    · rfl
  · have q := k2
    unfold way at q
    rw [q]
    rfl
theorem seat_own {m : Nat} (hm : Pow2 m) {done : List Int} {owner : Array (Option Nat)} (W : Own m done owner) (hl : done.length ≤ m) (h : Int) :
    ∃ j, SetTable.layClean.free m owner (SetTable.turns m) (SetTable.bits h % (m + 1)) (SetTable.bits h) = some j ∧ Own m (done ++ [h]) (owner.setIfInBounds j (some done.length)) := by
  obtain ⟨ps, hps, hin⟩ := W.ps
  obtain ⟨j0, h0, hn0⟩ := st_missing ps (m + 1) (by omega)
  have hj0 : oAt owner j0 = none := Classical.byContradiction fun z => hn0 (hin j0 (Nat.le_of_lt_succ h0) z)
  obtain ⟨K, e1, e2, e3⟩ := seat hm owner h (Nat.le_of_lt_succ h0) hj0
  have hjm := ways_le m h K
  have hjs : way m h K < owner.size := by rw [W.sz]; omega
  have self : oAt (owner.setIfInBounds (way m h K) (some done.length)) (way m h K) = some done.length := oAt_set_self _ hjs
  have keep : ∀ {i : Nat}, oAt owner i ≠ none → oAt (owner.setIfInBounds (way m h K) (some done.length)) i ≠ none := fun {i} hi => by
    by_cases c : i = way m h K
    · rw [c, self]
      exact fun e => nomatch e
    · rw [oAt_set_ne _ c]
      exact hi
  refine ⟨way m h K, e1, ⟨by rw [Array.size_setIfInBounds, W.sz], fun j k hj e => ?_, fun k hk => ?_, way m h K :: ps, ?_, fun j hj e => ?_⟩⟩
  · by_cases c : j = way m h K
    · rw [c, self] at e
      cases e
      exact ⟨h, K, by rw [List.getElem?_append_right (Nat.le_refl _), Nat.sub_self]; rfl, c.symm, fun c hc => keep (e3 c hc)⟩
    · rw [oAt_set_ne _ c] at e
      obtain ⟨h', K', a1, a2, a3⟩ := W.at_ j k hj e
      exact ⟨h', K', by rw [List.getElem?_append_left (List.getElem?_eq_some_iff.mp a1).1]; exact a1, a2, fun c hc => keep (a3 c hc)⟩
  · rw [List.length_append, List.length_singleton] at hk
    by_cases c : k = done.length
    · exact ⟨way m h K, hjm, c ▸ self⟩
    · obtain ⟨j, hj, e⟩ := W.all k (by omega)
      exact ⟨j, hj, by rw [oAt_set_ne _ (fun z => by rw [z, e2] at e; cases e)]; exact e⟩
  · rw [List.length_cons, List.length_append, hps]
    rfl
  · by_cases c : j = way m h K
    · rw [c]
      exact List.mem_cons_self
    · rw [oAt_set_ne _ c] at e
      exact List.mem_cons_of_mem _ (hin j hj e)
theorem seats {m : Nat} (hm : Pow2 m) : ∀ (rest done : List Int) (owner : Array (Option Nat)), Own m done owner → done.length + rest.length ≤ m + 1 →
    ∃ owner', rest.foldl (stepF m) (some (owner, done.length)) = some (owner', (done ++ rest).length) ∧ Own m (done ++ rest) owner'
  | [], done, owner, W, _ => ⟨owner, by rw [List.append_nil]; rfl, by rw [List.append_nil]; exact W⟩
  | h :: rest, done, owner, W, hl => by
    rw [List.length_cons] at hl
    obtain ⟨j, e, W2⟩ := seat_own hm W (by omega) h
    have l2 : (done ++ [h]).length = done.length + 1 := List.length_append
    obtain ⟨owner', f, W3⟩ := seats hm rest (done ++ [h]) _ W2 (by omega)
    have ea : done ++ h :: rest = done ++ [h] ++ rest := by simp
    refine ⟨owner', ?_, ea ▸ W3⟩
    rw [List.foldl_cons, stepF_some e, ← l2, ea]
    exact f
theorem layG {m : Nat} (hm : Pow2 m) {hs : Array Int} (hn : hs.size ≤ m) : ∃ owner, SetTable.layClean m hs = some owner ∧ Own m hs.toList owner := by
  obtain ⟨owner, f, W⟩ := seats hm hs.toList [] _ (Own.init m) (by
    show 0 + hs.toList.length ≤ m + 1
    rw [Array.length_toList]
    omega)
  rw [List.nil_append] at f W
  refine ⟨owner, ?_, W⟩
  rw [layClean_eq]
  exact congrArg (Option.map (·.1)) f
theorem relaidG (t : SetTable) {hs : Array Int} {wanted M : Nat} (hw : SetTable.sizeAbove wanted - 1 = M) (hM : Pow2 M) (hn : hs.size ≤ M) :
    ∃ t' order, t.relaid hs wanted = some (t', order) ∧ order.toList.Perm (List.range hs.size) ∧ TabG t' (order.toList.map fun i => hs.getD i 0) ∧ t'.mask = M ∧ t'.led = t.led ∧ t'.plain = t.plain ∧ t'.dummies = #[] := by
  obtain ⟨owner, e, W⟩ := layG hM hn
  have hr : t.relaid hs wanted = some (tabOf t M owner, ((liveOf M owner).map (·.2)).toArray) := by
    rw [relaid_eq, hw, e]
    rfl
  have ris := ris_live (fun j => owner.getD j none) (List.range (M + 1)) List.pairwise_lt_range
  have r1 : Ris ((liveOf M owner).map (·.1)) := ris.1
  have r2 : ∀ x ∈ (liveOf M owner).map (·.1), x ∈ List.range (M + 1) := ris.2
  have len : (liveOf M owner).length = hs.size := by
    obtain ⟨ps, p1, p2⟩ := W.ps
    have nd : ((liveOf M owner).map (·.1)).Nodup := List.Pairwise.imp (fun h => Nat.ne_of_lt h) r1
    have a := nat_nodup_len _ ps nd fun x hx => by
      obtain ⟨⟨y, k⟩, hq, ey⟩ := List.mem_map.mp hx
      cases ey
      obtain ⟨b1, b2⟩ := (mem_live W.sz).1 hq
      exact p2 y b1 (by rw [b2]; exact fun z => nomatch z)
    have b := nat_nodup_len (List.range hs.size) ((liveOf M owner).map (·.2)) List.nodup_range fun k hk => by
      obtain ⟨j, b1, b2⟩ := W.all k (List.mem_range.mp hk)
      exact List.mem_map.mpr ⟨(j, k), (mem_live W.sz).2 ⟨b1, b2⟩, rfl⟩
    rw [List.length_map, p1, Array.length_toList] at a
    rw [List.length_map, List.length_range] at b
    exact Nat.le_antisymm a b
  refine ⟨_, _, hr, perm_range hs.size _ (by rw [List.length_map]; exact len) fun k hk => ?_, ⟨r1, rfl, ?_, hM, fun x hx => Nat.le_of_lt_succ (List.mem_range.mp (r2 x hx)), fun i h j h1 h2 => ?_⟩, rfl, rfl, rfl, rfl⟩
  · obtain ⟨j, b1, b2⟩ := W.all k hk
    exact List.mem_map.mpr ⟨(j, k), (mem_live W.sz).2 ⟨b1, b2⟩, rfl⟩
  · show ((liveOf M owner).map (·.1)).toArray.size = _
    rw [List.size_toArray, List.length_map, List.length_map, List.length_map]
  · have h1' : (((liveOf M owner).map (·.2)).map fun i => hs.getD i 0)[i]? = some h := h1
    have h2' : ((liveOf M owner).map (·.1))[i]? = some j := h2
    rw [List.getElem?_map, List.getElem?_map] at h1'
    rw [List.getElem?_map] at h2'
    cases hq : (liveOf M owner)[i]? with
    | none =>
      rw [hq] at h2'
      cases h2'
    | some q =>
      obtain ⟨y, k⟩ := q
      rw [hq] at h1' h2'
      cases h2'
      obtain ⟨b1, b2⟩ := (mem_live W.sz).1 (List.mem_of_getElem? hq)
      obtain ⟨h0, K, a1, a2, a3⟩ := W.at_ _ k b1 b2
      have e0 : hs.getD k 0 = h0 := by
        rw [Array.getD_eq_getD_getElem?, ← Array.getElem?_toList, a1]
        rfl
      have eh : h0 = h := e0.symm.trans (Option.some.inj h1')
      subst eh
      refine ⟨K, a2, fun c hc => ?_⟩
      show way M h0 c ∈ (liveOf M owner).map (·.1)
      cases z : oAt owner (way M h0 c) with
      | none => exact absurd z (a3 c hc)
      | some k2 => exact List.mem_map.mpr ⟨(_, k2), (mem_live W.sz).2 ⟨ways_le _ _ _, z⟩, rfl⟩
/-- how large a table gets -/
theorem sizeAbove_go : ∀ (f n size k : Nat), size = 2 ^ k → n < 2 ^ (k + f) → ∃ q, k ≤ q ∧ SetTable.sizeAbove.go n f size = 2 ^ q ∧ n < 2 ^ q ∧ (q = k ∨ 2 ^ q ≤ 2 * n)
  | 0, n, size, k, e, h => ⟨k, Nat.le_refl _, e, h, .inl rfl⟩
  | f + 1, n, size, k, e, h => by
    unfold SetTable.sizeAbove.go
    by_cases c : size ≤ n
    · rw [if_pos c]
      obtain ⟨q, h1, h2, h3, h4⟩ := sizeAbove_go f n (size * 2) (k + 1) (by rw [e, Nat.pow_succ]) (by rw [show k + 1 + f = k + (f + 1) by omega]; exact h)
      refine ⟨q, by omega, h2, h3, ?_⟩
      rcases h4 with h4 | h4
      · right
        rw [h4, Nat.pow_succ, ← e]
        omega
      · exact .inr h4
    · rw [if_neg c]
      exact ⟨k, Nat.le_refl _, e, by omega, .inl rfl⟩
theorem sizeAbove_pow {n : Nat} (h : n < 2 ^ 30) : ∃ q, 3 ≤ q ∧ q ≤ 31 ∧ SetTable.sizeAbove n = 2 ^ q ∧ n < 2 ^ q ∧ 2 ^ q ≤ 8 + 2 * n := by
  obtain ⟨q, h1, h2, h3, h4⟩ := sizeAbove_go 64 n 8 3 rfl (Nat.lt_of_lt_of_le h (Nat.pow_le_pow_right (by decide) (by decide)))
  refine ⟨q, h1, ?_, h2, h3, ?_⟩
  · rcases h4 with e | e
    · omega
    · have z : 2 ^ q < 2 ^ 32 := by omega
      have := (Nat.pow_lt_pow_iff_right (by decide : 1 < 2)).mp z
      omega
  · rcases h4 with e | e
    · rw [e]
      omega
    · omega
end My
set_option Elab.async false
set_option linter.all false
set_option maxRecDepth 100000
set_option maxHeartbeats 4000000
/-! Sb: sets of things that are no scalars, of up to some thousands: search, add, laid anew. -/
namespace My
open PySem PySem.Spec PyProof.Rows L2
/-- things that may be members: told apart by keys -/
structure SKind (P : Program) (w : World) (κ : Type) [DecidableEq κ] where
  is : Heap → κ → Addr → Prop
  hash : κ → Int
  cost : κ → Nat
  keep : ∀ {h h' : Heap} {k : κ} {b : Addr}, is h k b → (∀ c o, h.get? c = some o → h'.get? c = some o) → is h' k b
  side : ∀ {h h' : Heap} {k : κ} {a b : Addr} {o : Obj} {es : Array (Int × Value)} {ep : Nat} {t : SetTable}, is h k b → h.get? a = some o → o.data = .set es ep t → Heap.SameBut a h h' → is h' k b
  inj : ∀ {h : Heap} {k k' : κ} {b : Addr}, is h k b → is h k' b → k = k'
  same : ∀ {A : Around} {E : Value → Shared → Prop} {s : Shared} {k k' : κ} {b c : Addr} {Q : Bool → Shared → Prop}, A.units + 3 < cLine → is s.heap k b → is s.heap k' c → Q (decide (k = k')) s → wpAny (model P w) A (eqBool (.ref b) (.ref c)) Q E s
  seen : ∀ {A : Around} {E : Value → Shared → Prop} {s : Shared} {k : κ} {b : Addr} {ys : List Value} {Q : Bool → Shared → Prop}, is s.heap k b → (∀ y ∈ ys, ∃ k' c, y = Value.ref c ∧ is s.heap k' c) → Q false s → wpAny (model P w) A (searchCouldBeSeen (.ref b) ys) Q E s
  byv : ∀ {A : Around} {E : Value → Shared → Prop} {s : Shared} {k : κ} {b : Addr} {Q : Bool → Shared → Prop}, is s.heap k b → Q true s → wpAny (model P w) A (hashByValue 8 (.ref b)) Q E s
  pyh : ∀ {A : Around} {E : Value → Shared → Prop} {s : Shared} {k : κ} {b : Addr} {Q : Int → Shared → Prop}, A.units + 3 < cLine → is s.heap k b → Q (hash k) { s with toks := s.toks + cost k } → wpAny (model P w) A (pyHash (.ref b)) Q E s
/-- tuples of ints -/
def tupK (P : Program) (w : World) : SKind P w (List Int) where
  is := fun h k b => IsT P w h k b
  hash := thash P w
  cost := fun k => k.length + 1
  keep := fun x h => isT_keep x h
  side := fun x a b c => isT_same x a b c
  inj := fun x y => IsTupleKey.inj x y
  same := fun hu x y q => wpAny_eqBool_tuple (by omega) x y q
  seen := fun x y q => seen_tup x y q
  byv := fun x q => hashBy_tup x q
  pyh := fun hu x q => wpAny_pyHash_tuple (by omega) x q
variable {κ : Type} [DecidableEq κ] {P : Program} {w : World} {A : Around} {E : Value → Shared → Prop} {s : Shared} {S : SKind P w κ}
def lineG (S : SKind P w κ) (p : Addr × κ) : Int × Value := (S.hash p.2, Value.ref p.1)
def MaskS (m : Nat) : Prop := m = 7 ∨ m = 31 ∨ m = 127 ∨ m = 511 ∨ m = 2047 ∨ m = 8191
theorem MaskS.pow {m : Nat} (h : MaskS m) : Pow2 m ∧ m ≤ 8191 := by
  rcases h with e | e | e | e | e | e <;> subst e
  · exact ⟨⟨3, by decide, by decide, rfl⟩, by decide⟩
  · exact ⟨⟨5, by decide, by decide, rfl⟩, by decide⟩
  · exact ⟨⟨7, by decide, by decide, rfl⟩, by decide⟩
  · exact ⟨⟨9, by decide, by decide, rfl⟩, by decide⟩
  · exact ⟨⟨11, by decide, by decide, rfl⟩, by decide⟩
  · exact ⟨⟨13, by decide, by decide, rfl⟩, by decide⟩
/-- the set at a has the members L -/
structure SetG (S : SKind P w κ) (h : Heap) (a : Addr) (L : List (Addr × κ)) (es : Array (Int × Value)) (ep : Nat) (t : SetTable) : Prop where
  ob : ∃ o, h.get? a = some o ∧ o.ExactSet ∧ o.data = .set es ep t
  rows : es.toList = L.map (lineG S)
  tab : TabG t (L.map fun p => S.hash p.2)
  nd : (L.map (·.2)).Nodup
  mem : ∀ p ∈ L, S.is h p.2 p.1
  plain : t.plain = true
  led : w.params.followText "set-order" = true ∨ t.led = true
  msk : MaskS t.mask
  room : L.length * 5 < t.mask * 3
  few : L.length < 4000
variable {a : Addr} {L : List (Addr × κ)} {es : Array (Int × Value)} {ep : Nat} {t : SetTable}
theorem SetG.size (R : SetG S s.heap a L es ep t) : es.size = L.length := by
  have h := congrArg List.length R.rows
  rwa [Array.length_toList, List.length_map] at h
theorem fitsG {n : Nat} (h1 : t.place.size = n) (h2 : t.dummies = #[]) (h3 : n ≤ t.mask) : t.fits n = true := by
  unfold SetTable.fits SetTable.fill
  rw [h2, h1, Bool.and_eq_true]
  exact ⟨beq_self_eq_true _, decide_eq_true h3⟩
theorem SetG.fits (R : SetG S s.heap a L es ep t) : t.fits es.size = true := by
  have h1 := R.tab.size
  have h3 := R.room
  rw [List.length_map, ← R.size] at h1
  rw [← R.size] at h3
  exact fitsG h1 R.tab.clean (by omega)
theorem SetG.entry (R : SetG S s.heap a L es ep t) {i : Nat} {p : Addr × κ} (h : L[i]? = some p) : es[i]? = some (lineG S p) := by
  rw [← Array.getElem?_toList, R.rows, List.getElem?_map, h]
  rfl
/-- the steps of a search -/
abbrev stepG (m : Nat) (h : Int) (c : Nat) : SetTable.Probe := nth m (runAt m (SetTable.bits h % (m + 1)) (SetTable.bits h)) c
theorem stepG_more (m : Nat) (h : Int) (c q : Nat) : nth m (stepG m h c) q = stepG m h (c + q) := (nth_add m c _ q).symm
theorem stepG_free (m : Nat) (h : Int) : ∀ c, (stepG m h c).dummy = none := by
  have key : ∀ (n : Nat) (p : SetTable.Probe), p.dummy = none → (nth m p n).dummy = none := by
    intro n
    induction n with
    | zero => exact fun _ h => h
    | succ n ih =>
      intro p h
      refine ih _ ?_
      unfold adv
      split <;> exact h
  exact fun c => key c _ rfl
/-- the search from the c-th step on -/
theorem seekG (R : SetG S s.heap a L es ep t) {x : Addr} {k : κ} (hx : S.is s.heap k x) (hu : A.units + 3 < cLine) {K : Nat} (hKf : K < 10 * SetTable.turns t.mask)
    (hK : way t.mask (S.hash k) K ∉ t.place.toList) (hKb : ∀ c, c < K → way t.mask (S.hash k) c ∈ t.place.toList) {Q : SetFound → Shared → Prop}
    (yes : k ∈ L.map (·.2) → Q (.there none) s) (no : k ∉ L.map (·.2) → Q (.free (way t.mask (S.hash k) K) false) s) :
    ∀ (f c : Nat) (stand : Option SetTable.Probe), stand.getD (t.probeStart (S.hash k)) = stepG t.mask (S.hash k) c → c ≤ K → K - c < f →
      (∀ (i : Nat) p, L[i]? = some p → p.2 = k → ∃ d, c ≤ d ∧ d < K ∧ t.place.toList[i]? = some (way t.mask (S.hash k) d)) →
      wpAny (model P w) A (setSearchFrom a (.ref x) (S.hash k) true f stand) Q E s := by
  intro f
  induction f with
  | zero => exact fun c _ _ _ hf _ => absurd hf (Nat.not_lt_zero _)
  | succ f ih =>
    intro c stand hst hc hf hre
    obtain ⟨o, ho, hex, hd⟩ := R.ob
    have hgw : ¬ t.gaveWay = true := by
      unfold SetTable.gaveWay
      rw [R.tab.mask.odd]
      decide
    rw [setSearchFrom_succ]
    refine wpAny_bind (wpAny_setState_of ho hd R.fits ?_)
    dsimp only
    refine wp_if_neg hgw ?_
    try refine wpAny_bind (wpAny_pure ?_)
    have at_ : ∀ q, (nth t.mask (stepG t.mask (S.hash k) c) q).j = way t.mask (S.hash k) (c + q) := fun q => congrArg SetTable.Probe.j (stepG_more _ _ c q)
    have hcK : c + (K - c) = K := by omega
    have spec := go_spec t R.tab.asc R.tab.clean (fun i => (es[i]?.map (·.1)).getD 0) (S.hash k) (10 * SetTable.turns t.mask) (K - c) _ (stepG_free _ _ c) (by omega)
      (fun q hq => by rw [at_]; exact hKb _ (by omega)) (by rw [at_, hcK]; exact hK)
    have hashAt : ∀ (i : Nat) p, L[i]? = some p → (es[i]?.map (·.1)).getD 0 = S.hash p.2 := fun i p hp => by
      rw [R.entry hp]
      rfl
    have hlen : t.place.toList.length = L.length := by rw [R.tab.len, List.length_map]
    rcases spec with ⟨q, i, hq, hi, hh, hno, hpr⟩ | ⟨hno, hpr⟩
    · have hpr2 : t.probe (fun i => (es[i]?.map (·.1)).getD 0) (S.hash k) (stand.getD (t.probeStart (S.hash k))) = some (.candidate (way t.mask (S.hash k) (c + q)) i (stepG t.mask (S.hash k) (c + (q + 1)))) := by
        rw [hst, ← at_, ← stepG_more]
        exact hpr
      rw [hpr2]
      dsimp only
      rw [at_] at hi
      have hil : i < L.length := hlen ▸ (List.getElem?_eq_some_iff.mp hi).1
      obtain ⟨p, hp⟩ : ∃ p, L[i]? = some p := ⟨_, List.getElem?_eq_getElem hil⟩
      have hmem : p ∈ L := List.mem_of_getElem? hp
      have rest : wpAny (model P w) A (searchRest a (.ref x) (S.hash k) true f es t (way t.mask (S.hash k) (c + q)) i (stepG t.mask (S.hash k) (c + (q + 1)))) Q E s := by
        unfold searchRest
        rw [R.entry hp]
        dsimp only [lineG]
        refine wpAny_bind (wpAny_holding (S.same hu (R.mem p hmem) hx ?_))
        refine wpAny_bind (wpAny_setState_of ho hd R.fits ?_)
        dsimp only
        by_cases hkk : p.2 = k
        · exact wp_if_pos (by simp [hkk]) (wpAny_pure (yes (List.mem_map.mpr ⟨p, hmem, hkk⟩)))
        · refine wp_if_neg (by simp [hkk]) ?_
          try refine wpAny_bind (wpAny_pure ?_)
          rw [sameMem]
          dsimp only
          have hsl := slot_live R.tab.asc hi
          simp only [if_true, hsl, R.entry hp, lineG]
          refine wpAny_bind (wpAny_isSame_ref_self (wpAny_bind (wpAny_pure ?_)))
          simp only [if_true]
          refine wp_if_neg (by simp [hkk]) (ih (c + (q + 1)) _ rfl (by omega) (by omega) fun i0 p0 h0 hk0 => ?_)
          obtain ⟨d, a1, a2, a3⟩ := hre i0 p0 h0 hk0
          refine ⟨d, ?_, a2, a3⟩
          have ne1 : ¬ d < c + q := fun z => hno (d - c) i0 (by omega) (by rw [at_, show c + (d - c) = d by omega]; exact a3) (by rw [hashAt i0 p0 h0, hk0])
          have ne2 : d ≠ c + q := fun z => by
            rw [z] at a3
            have s0 := slot_live R.tab.asc a3
            rw [hsl] at s0
            injection s0 with s0
            rw [← s0, hp] at h0
            exact hkk ((congrArg Prod.snd (Option.some.inj h0)).trans hk0)
          omega
      by_cases hl : t.led = true
      · refine wp_if_neg (by simp [hl]) ?_
        try refine wpAny_bind (wpAny_pure ?_)
        exact rest
      · refine wp_if_pos (by simp [hl]) (wpAny_bind (S.seen hx (fun y hy => ?_) ?_))
        · obtain ⟨e, he, ee⟩ := List.mem_map.mp hy
          have he2 : e ∈ es.toList := by
            have z : e ∈ es ∧ e.1 = S.hash k := by simpa using he
            simpa using z.1
          rw [R.rows] at he2
          obtain ⟨p2, hp2, rfl⟩ := List.mem_map.mp he2
          exact ⟨p2.2, p2.1, ee.symm, R.mem p2 hp2⟩
        · refine wp_if_neg Bool.false_ne_true ?_
          try refine wpAny_bind (wpAny_pure ?_)
          exact rest
    · have hpr2 : t.probe (fun i => (es[i]?.map (·.1)).getD 0) (S.hash k) (stand.getD (t.probeStart (S.hash k))) = some (.empty (way t.mask (S.hash k) K) none) := by
        have e2 := at_ (K - c)
        rw [hcK] at e2
        rw [hst, ← e2]
        exact hpr
      rw [hpr2]
      dsimp only
      refine wpAny_pure (no fun hm => ?_)
      obtain ⟨p0, h0, hk0⟩ := List.mem_map.mp hm
      obtain ⟨i0, hi0⟩ := List.mem_iff_getElem?.mp h0
      obtain ⟨d, a1, a2, a3⟩ := hre i0 p0 hi0 hk0
      exact hno (d - c) i0 (by omega) (by rw [at_, show c + (d - c) = d by omega]; exact a3) (by rw [hashAt i0 p0 hi0, hk0])
/-- the search for one to be added -/
theorem seek_addG (R : SetG S s.heap a L es ep t) {x : Addr} {k : κ} (hx : S.is s.heap k x) (hu : A.units + 3 < cLine) {Q : SetFound → Shared → Prop} (yes : k ∈ L.map (·.2) → Q (.there none) s)
    (no : ∀ K, k ∉ L.map (·.2) → way t.mask (S.hash k) K ∉ t.place.toList → (∀ c, c < K → way t.mask (S.hash k) c ∈ t.place.toList) → Q (.free (way t.mask (S.hash k) K) false) s) :
    wpAny (model P w) A (setSearch a (.ref x) (S.hash k) true) Q E s := by
  have hroom := R.room
  obtain ⟨K, hKf, hK, hKb⟩ := R.tab.hole (by rw [List.length_map]; omega) (S.hash k)
  have hbig : K < 100000 := by
    have := R.msk.pow.2
    unfold SetTable.turns at hKf
    omega
  unfold setSearch
  refine seekG R hx hu hKf hK hKb yes (fun hn => no K hn hK hKb) 100000 0 none rfl (Nat.zero_le _) hbig fun i p hp hk => ?_
  have hil : i < t.place.toList.length := by
    rw [R.tab.len, List.length_map]
    exact (List.getElem?_eq_some_iff.mp hp).1
  obtain ⟨d, hd, e⟩ := R.tab.ahead hK (i := i) (by rw [List.getElem?_map, hp, ← hk]; rfl) (List.getElem?_eq_getElem hil)
  exact ⟨d, Nat.zero_le _, hd, by rw [List.getElem?_eq_getElem hil, e]⟩
theorem order_linesG (L : List (Addr × κ)) (es : Array (Int × Value)) (order : Array Nat) (hr : es.toList = L.map (lineG S)) (hp : order.toList.Perm (List.range L.length)) :
    ∃ L2 : List (Addr × κ), (order.filterMap (es[·]?)).toList = L2.map (lineG S) ∧ L2.Perm L ∧ (L2.map fun p => S.hash p.2) = order.toList.map fun i => (es.map (·.1)).getD i 0 := by
  have ent : ∀ i p, L[i]? = some p → es[i]? = some (lineG S p) := fun i p h => by
    rw [← Array.getElem?_toList, hr, List.getElem?_map, h]
    rfl
  have key : ∀ l : List Nat, (∀ i ∈ l, i < L.length) → l.filterMap (fun i => es[i]?) = (l.filterMap fun i => L[i]?).map (lineG S) ∧ ((l.filterMap fun i => L[i]?).map fun p => S.hash p.2) = l.map fun i => (es.map (·.1)).getD i 0 := by
    intro l
    induction l with
    | nil => exact fun _ => ⟨rfl, rfl⟩
    | cons i l ih =>
      intro hl
      obtain ⟨e1, e2⟩ := ih fun j hj => hl j (List.mem_cons_of_mem _ hj)
      have hi := hl i List.mem_cons_self
      have e0 := List.getElem?_eq_getElem hi
      refine ⟨?_, ?_⟩
      · rw [List.filterMap_cons_some (ent i _ e0), List.filterMap_cons_some e0, List.map_cons, e1]
      · rw [List.filterMap_cons_some e0, List.map_cons, List.map_cons, e2]
        refine congrArg (· :: _) ?_
        rw [Array.getD_eq_getD_getElem?, Array.getElem?_map, ent i _ e0]
        rfl
  obtain ⟨e1, e2⟩ := key order.toList fun i hi => List.mem_range.mp (hp.mem_iff.mp hi)
  refine ⟨order.toList.filterMap fun i => L[i]?, by simpa using e1, ?_, e2⟩
  have h1 := hp.filterMap fun i => L[i]?
  have h2 : ∀ n, n ≤ L.length → (List.range n).filterMap (fun i => L[i]?) = L.take n := by
    intro n
    induction n with
    | zero => exact fun _ => rfl
    | succ n ih =>
      intro hn
      rw [List.range_succ, List.filterMap_append, ih (by omega), List.take_succ, List.getElem?_eq_getElem (show n < L.length by omega)]
      rw [List.filterMap_cons_some (List.getElem?_eq_getElem (show n < L.length by omega))]
      rfl
  rw [h2 _ (Nat.le_refl _), List.take_length] at h1
  exact h1
/-- laid anew, larger -/
theorem relayG {o : Obj} (ho : s.heap.get? a = some o) (hex : o.ExactSet) (hd : o.data = .set es ep t) (hrows : es.toList = L.map (lineG S)) (hsz : t.place.size = es.size) (hdm : t.dummies = #[]) (hfl : es.size ≤ t.mask)
    (nd : (L.map (·.2)).Nodup) (mem : ∀ p ∈ L, S.is s.heap p.2 p.1) (pl : t.plain = true) (ld : w.params.followText "set-order" = true ∨ t.led = true) (few : L.length < 4000) {wanted M : Nat}
    (hw : SetTable.sizeAbove wanted = M + 1) (hM : MaskS M) (hn : L.length * 5 < M * 3) {Q : Unit → Shared → Prop}
    (hQ : ∀ h' L' es' ep' t', Heap.SameBut a s.heap h' → SetG S h' a L' es' ep' t' → L'.Perm L → Q () { s with heap := h' }) : wpAny (model P w) A (setRelay a wanted) Q E s := by
  have hsl : es.size = L.length := by
    have h := congrArg List.length hrows
    rwa [Array.length_toList, List.length_map] at h
  obtain ⟨t', order, e, hp, T, em, el, epl, ed⟩ := relaidG t (hs := es.map (·.1)) (wanted := wanted) (M := M) (by rw [hw]; rfl) hM.pow.1 (by rw [Array.size_map, hsl]; omega)
  rw [Array.size_map, hsl] at hp
  obtain ⟨L2, r1, r2, r3⟩ := order_linesG L es order hrows hp
  rw [← r3] at T
  have hs2 : (order.filterMap (es[·]?)).size = es.size := by
    have h := congrArg List.length r1
    rw [Array.length_toList, List.length_map, r2.length_eq] at h
    rw [h, hsl]
  rw [setRelay_eq]
  refine wpAny_bind (wpAny_setState_of ho hd (fitsG hsz hdm hfl) ?_)
  dsimp only
  refine wp_if_neg (by rw [hw, sizeLine_eq]; have := hM.pow.2; omega) ?_
  try refine wpAny_bind (wpAny_pure ?_)
  rw [e]
  dsimp only
  refine wpAny_bind (wp_if_neg (by rw [hs2]; simp) ?_)
  try refine wpAny_bind (wpAny_pure ?_)
  refine wpAny_pure ?_
  dsimp only
  refine wpAny_storeSet_of ho hd ?_ (by rw [hs2, hsl, sizeLine_eq]; omega)
  have sb := Heap.SameBut.update s.heap a (Obj.putSet (order.filterMap (es[·]?)) t')
  exact hQ _ L2 _ (ep + 1) t' sb ⟨⟨_, store_at ho hd, ⟨hex.1, hex.2.1, hex.2.2⟩, rfl⟩, r1, T, (r2.map (·.2)).nodup_iff.mpr nd, fun p hpm => S.side (mem p (r2.mem_iff.mp hpm)) ho hd sb, epl.trans pl, by rw [el]; exact ld, em ▸ hM,
    by rw [r2.length_eq, em]; exact hn, by rw [r2.length_eq]; exact few⟩ r2
theorem next_maskG {m n : Nat} (hm : MaskS m) (h1 : n * 5 < m * 3) (h2 : m * 3 ≤ (n + 1) * 5) (h3 : n + 1 < 4000) : ∃ M, MaskS M ∧ SetTable.sizeAbove (SetTable.grown (n + 1)) = M + 1 ∧ (n + 1) * 5 < M * 3 ∧ n + 1 ≤ m := by
  rcases hm with e | e | e | e | e | e <;> subst e
  · have e2 : n = 4 := by omega
    subst e2
    exact ⟨31, .inr (.inl rfl), by decide +kernel, by decide, by decide⟩
  · have e2 : n = 18 := by omega
    subst e2
    exact ⟨127, .inr (.inr (.inl rfl)), by decide +kernel, by decide, by decide⟩
  · have e2 : n = 76 := by omega
    subst e2
    exact ⟨511, .inr (.inr (.inr (.inl rfl))), by decide +kernel, by decide, by decide⟩
  · have e2 : n = 306 := by omega
    subst e2
    exact ⟨2047, .inr (.inr (.inr (.inr (.inl rfl)))), by decide +kernel, by decide, by decide⟩
  · have e2 : n = 1228 := by omega
    subst e2
    exact ⟨8191, .inr (.inr (.inr (.inr (.inr rfl)))), by decide +kernel, by decide, by decide⟩
  · omega
/-- one is added -/
theorem addG (R : SetG S s.heap a L es ep t) {x : Addr} {k : κ} (hx : S.is s.heap k x) (hu : A.units + 3 < cLine) (hfew : L.length + 1 < 4000) {Q : Bool → Shared → Prop}
    (hQ : ∀ b h' L' es' ep' t', Heap.SameBut a s.heap h' → SetG S h' a L' es' ep' t' → (k ∈ L.map (·.2) → L' = L) → (k ∉ L.map (·.2) → L'.Perm ((x, k) :: L)) → Q b { s with heap := h' }) :
    wpAny (model P w) A (setAddHashed a (.ref x) (S.hash k)) Q E s := by
  obtain ⟨o, ho, hex, hd⟩ := R.ob
  have hsl := R.size
  have hroom := R.room
  unfold setAddHashed
  refine wpAny_holding ?_
  rw [show (100000 : Nat) = 99999 + 1 from rfl, setAddHashedIn_succ]
  refine wpAny_bind (wpAny_setState_of ho hd R.fits ?_)
  dsimp only
  refine wp_if_neg (by simp [byScan, Value.scannable]) ?_
  try refine wpAny_bind (wpAny_pure ?_)
  refine wpAny_bind (seek_addG R hx hu (fun hm => ?_) fun K hm hK hb => ?_)
  · dsimp only
    exact wpAny_pure (hQ false s.heap L es ep t (Heap.SameBut.refl a s.heap) R (fun _ => rfl) fun z => absurd hm z)
  · dsimp only
    refine wpAny_bind (wpAny_setState_of ho hd R.fits ?_)
    dsimp only
    obtain ⟨q2, q3, q9⟩ := R.tab.more rfl rfl hK hb
    have q1 : (t.put (way t.mask (S.hash k) K)).2 = SetTable.below t.place (way t.mask (S.hash k) K) := rfl
    have q4 : (t.put (way t.mask (S.hash k) K)).1.mask = t.mask := rfl
    have q5 : (t.put (way t.mask (S.hash k) K)).1.led = t.led := rfl
    have q6 : (t.put (way t.mask (S.hash k) K)).1.plain = true := R.plain
    generalize SetTable.below t.place (way t.mask (S.hash k) K) = p at q1 q2 q3
    generalize t.put (way t.mask (S.hash k) K) = pt at q1 q3 q4 q5 q6 q9 ⊢
    obtain ⟨t1, p'⟩ := pt
    dsimp only at q1 q3 q4 q5 q6 q9 ⊢
    subst q1
    first
      | (refine wpAny_bind ?_; refine wp_if_pos q6 ?_; refine S.byv hx ?_)
      | refine wp_if_pos q6 (wpAny_bind (S.byv hx ?_))
    simp only [if_true]
    rw [List.length_map] at q2 q9
    have pm := put_perm L p' (x, k)
    have hlen : (L.take p' ++ (x, k) :: L.drop p').length = L.length + 1 := pm.length_eq
    have hin : (SetTable.insertAt es p' (S.hash k, Value.ref x)).toList = (L.take p' ++ (x, k) :: L.drop p').map (lineG S) := by
      rw [SetTable.toList_insertAt, R.rows, List.map_append, List.map_cons, List.map_take, List.map_drop]
      rfl
    have hhs : (L.take p' ++ (x, k) :: L.drop p').map (fun p => S.hash p.2) = (L.map fun p => S.hash p.2).take p' ++ S.hash k :: (L.map fun p => S.hash p.2).drop p' := by
      rw [List.map_append, List.map_cons, List.map_take, List.map_drop]
    rw [← hhs] at q3
    have nd1 : ((L.take p' ++ (x, k) :: L.drop p').map (·.2)).Nodup := (pm.map (·.2)).nodup_iff.mpr (List.nodup_cons.mpr ⟨hm, R.nd⟩)
    have hes : (SetTable.insertAt es p' (S.hash k, Value.ref x)).size = L.length + 1 := by
      have h := congrArg List.length hin
      rwa [Array.length_toList, List.length_map, hlen] at h
    generalize SetTable.insertAt es p' (S.hash k, Value.ref x) = es1 at hin hes ⊢
    generalize L.take p' ++ (x, k) :: L.drop p' = L1 at pm hlen q3 nd1 hin
    refine wpAny_bind (wpAny_storeSet_of ho hd ?_ (by rw [hes, sizeLine_eq]; omega))
    have sb := Heap.SameBut.update s.heap a (Obj.putSet es1 t1)
    have ho1 := store_at (es' := es1) (t' := t1) ho hd
    generalize s.heap.update a (Obj.putSet es1 t1) = h1 at sb ho1 ⊢
    have mem1 : ∀ p ∈ L1, S.is h1 p.2 p.1 := fun p hp => by
      rcases List.mem_cons.mp (pm.mem_iff.mp hp) with e | hp
      · rw [e]
        exact S.side hx ho hd sb
      · exact S.side (R.mem p hp) ho hd sb
    have ld1 : w.params.followText "set-order" = true ∨ t1.led = true := by rw [q5]; exact R.led
    have full : t1.tooFull = decide (t.mask * 3 ≤ (L.length + 1) * 5) := by
      unfold SetTable.tooFull
      rw [q9, q4]
    by_cases hf : t1.tooFull = true
    · rw [full, decide_eq_true_eq] at hf
      rw [full]
      first
        | (refine wpAny_bind ?_; refine wp_if_pos (by simp [hf]) ?_)
        | (refine wp_if_pos (by simp [hf]) ?_; refine wpAny_bind ?_)
      rw [hsl]
      obtain ⟨M, hM, hM2, hM3, hM4⟩ := next_maskG R.msk hroom hf hfew
      have hsz1 : t1.place.size = es1.size := by
        rw [q3.size, List.length_map, hlen, hes]
      refine relayG (s := { s with heap := h1 }) ho1 ⟨hex.1, hex.2.1, hex.2.2⟩ rfl hin hsz1 q3.clean (by rw [hes, q4]; exact hM4) nd1 mem1 q6 ld1 (by rw [hlen]; exact hfew) hM2 hM (by rw [hlen]; exact hM3) ?_
      intro h2 L2 es2 ep2 t2 sb2 R2 pm2
      exact wpAny_pure (hQ true h2 L2 es2 ep2 t2 (sb.trans sb2) R2 (fun z => absurd z hm) fun _ => pm2.trans pm)
    · have nf : ¬ t.mask * 3 ≤ (L.length + 1) * 5 := by
        rw [full, decide_eq_true_eq] at hf
        exact hf
      rw [full]
      first
        | refine wp_if_neg (by simp; omega) ?_
        | (refine wpAny_bind ?_; refine wp_if_neg (by simp; omega) ?_; refine wpAny_pure ?_)
      exact wpAny_pure (hQ true h1 L1 es1 (ep + 1) t1 sb ⟨⟨_, ho1, ⟨hex.1, hex.2.1, hex.2.2⟩, rfl⟩, hin, q3, nd1, mem1, q6, ld1, q4 ▸ R.msk, by rw [hlen, q4]; omega, by rw [hlen]; exact hfew⟩ (fun z => absurd z hm) fun _ => pm)
/-- found.add(x) -/
theorem call_addG (R : SetG S s.heap a L es ep t) {x : Addr} {k : κ} (hx : S.is s.heap k x) (hu : A.units + 4 < cLine) (hfew : L.length + 1 < 4000) {Q : Value → Shared → Prop}
    (hQ : ∀ h' tk L' es' ep' t', Heap.SameBut a s.heap h' → SetG S h' a L' es' ep' t' → (k ∈ L.map (·.2) → L' = L) → (k ∉ L.map (·.2) → L'.Perm ((x, k) :: L)) → Q .none { s with heap := h', toks := tk }) :
    wpAny (model P w) A (call (.builtin "set.add") [.ref a, .ref x]) Q E s := by
  have hT : s.TypeIs (.ref a) "set" := by
    obtain ⟨o, ho, hex, _⟩ := R.ob
    exact ⟨o, ho, hex.1⟩
  refine wpAny_call_entry F.slot_set_add hT F.entry_set_add ?_ (F.args_set_add_2 _ _)
  unfold Builtin.«set.add» Builtin.Frozenset.oneOther
  simp only [List.isEmpty_nil, bind_assoc]
  unfold Builtin.Frozenset.addrOf setAdd
  refine wpAny_bind (wpAny_pure ?_)
  try dsimp only
  refine wpAny_bind (wpAny_pure ?_)
  try dsimp only
  refine wpAny_bind (wpAny_holding (wpAny_bind (S.pyh (by show A.in1.units + 3 < cLine; exact hu) hx ?_)))
  refine addG (s := { s with toks := s.toks + S.cost k }) R hx (by show A.in1.units + 3 < cLine; exact hu) hfew fun b h' L' es' ep' t' sb R' c1 c2 => ?_
  show wpAny _ _ (ret Value.none) _ _ _
  exact wpAny_pure ⟨_, rfl, hQ h' _ L' es' ep' t' sb R' c1 c2⟩
end My
set_option Elab.async false
set_option linter.all false
set_option maxRecDepth 100000
set_option maxHeartbeats 4000000
/-! Sc: set comprehensions of tuples of ints, their sorted lists and lengths. -/
namespace My
open PySem PySem.Spec PyProof.Rows L2
section
variable {P : Program} {w : World}
/-- the set at a, its members' own objects left out -/
def SetG0 (P : Program) (w : World) (h : Heap) (a : Addr) (L : List (Addr × List Int)) : Prop :=
  ∃ (es : Array (Int × Value)) (ep : Nat) (t : SetTable), (∃ o, h.get? a = some o ∧ o.ExactSet ∧ o.data = .set es ep t) ∧ es.toList = L.map (lineG (tupK P w)) ∧ TabG t (L.map fun p => thash P w p.2) ∧ (L.map (·.2)).Nodup ∧
    t.plain = true ∧ (w.params.followText "set-order" = true ∨ t.led = true) ∧ MaskS t.mask ∧ L.length * 5 < t.mask * 3 ∧ L.length < 4000
def SetGO (P : Program) (w : World) (a : Addr) (L : List (Addr × List Int)) : HO := .ext fun h => SetG0 P w h a L
theorem SetG.bare {h : Heap} {a : Addr} {L : List (Addr × List Int)} {es : Array (Int × Value)} {ep : Nat} {t : SetTable} (R : SetG (tupK P w) h a L es ep t) : SetG0 P w h a L :=
  ⟨es, ep, t, R.ob, R.rows, R.tab, R.nd, R.plain, R.led, R.msk, R.room, R.few⟩
theorem SetG0.full {h : Heap} {a : Addr} {L : List (Addr × List Int)} (R : SetG0 P w h a L) (hm : ∀ p ∈ L, IsT P w h p.2 p.1) : ∃ es ep t, SetG (tupK P w) h a L es ep t := by
  obtain ⟨es, ep, t, h1, h2, h3, h4, h5, h6, h7, h8, h9⟩ := R
  exact ⟨es, ep, t, h1, h2, h3, h4, hm, h5, h6, h7, h8, h9⟩
theorem SetG0.keep {h h' : Heap} {a : Addr} {L : List (Addr × List Int)} (R : SetG0 P w h a L) (k : ∀ o, h.get? a = some o → h'.get? a = some o) : SetG0 P w h' a L := by
  obtain ⟨es, ep, t, ⟨o, ho, r⟩, q⟩ := R
  exact ⟨es, ep, t, ⟨o, k o ho, r⟩, q⟩
theorem setGO_ok {H : Hp} {h : Heap} {a : Addr} {L : List (Addr × List Int)} (R : SetG0 P w h a L) : ObjOk P w H h a (SetGO P w a L) := by
  have ⟨_, _, _, ⟨o, ho, _⟩, _⟩ := R
  exact ⟨R, ⟨o, ho⟩, fun h1 h2 p k => SetG0.keep p k⟩
theorem setG0_new (w : World) {h : Heap} : SetG0 P w (h.push { cls := .type "set", dict := none, data := .set #[] 0 (.fresh 0 0 (!w.params.followText "set-order")) }) h.objs.size [] := by
  refine ⟨#[], 0, _, ⟨_, Heap.get?_push_size _ rfl, ⟨rfl, rfl, rfl⟩, rfl⟩, rfl, ⟨List.Pairwise.nil, rfl, rfl, ⟨3, by decide, by decide, rfl⟩, fun x hx => (by cases hx), fun i _ j hi => (by simp at hi)⟩, List.nodup_nil, rfl, ?_, .inl rfl, (by show 0 * 5 < 7 * 3; decide), (by show 0 < 4000; decide)⟩
  show _ ∨ (!w.params.followText "set-order") = true
  cases w.params.followText "set-order"
  · exact .inr rfl
  · exact .inl rfl
end
section
variable {X : Cx}
/-- members of the abstract heap -/
abbrev MemG (K : PySem.W.Frag) (H : Hp) (L : List (Addr × List Int)) : Prop := ∀ p ∈ L, SqT K H p.1 (p.2.map V.int)
theorem addG_ok {pins : List (Addr × Obj)} {σ : L2.St} {H : Hp} {s : Shared} {E : Value → Shared → Prop} {D x : Addr} {k : List Int} {L : List (Addr × List Int)} {Q : Value → Shared → Prop} (hu : X.A.units + 4 < cLine) (I : Inv X pins σ H s) (hD : H D = some (SetGO X.prog X.w D L))
    (hm : MemG X.K H L) (hx : SqT X.K H x (k.map V.int)) (few : L.length + 1 < 4000)
    (h : ∀ s' L', (k ∈ L.map (·.2) → L' = L) → (k ∉ L.map (·.2) → L'.Perm ((x, k) :: L)) → Inv X pins σ (upd H D (SetGO X.prog X.w D L')) s' → Q .none s') : wpAny (model X.prog X.w) X.A (call (.builtin "set.add") [.ref D, .ref x]) Q E s := by
  have R0 : SetG0 X.prog X.w s.heap D L := (I.hok D _ hD).1
  obtain ⟨es, ep, t, R⟩ := R0.full fun p hp => I.isT (hm p hp)
  refine call_addG R (I.isT hx) hu few fun h' tk L' es' ep' t' sb R' c1 c2 => ?_
  have he : ∃ u, h'.get? D = some u := by
    obtain ⟨o, ho, _⟩ := R'.ob
    exact ⟨o, ho⟩
  exact h _ L' c1 c2 (I.write (e := D) (t' := tk) (by rw [hD]; trivial) (.inl rfl) (fun b u hb hu => (sb.2 b hb).trans hu) he (setGO_ok R'.bare))
/-- what the member that comes does -/
def putG (P : Program) (w : World) (K : PySem.W.Frag) (te : TE) (D : Addr) (σ : L2.St) (H : Hp) (Nx : Hp → Prop) : Prop := te σ H fun y H4 => ∃ (p : Addr) (k : List Int) (L : List (Addr × List Int)), y = .ref p ∧ SqT K H4 p (k.map V.int) ∧
  H4 D = some (SetGO P w D L) ∧ MemG K H4 L ∧ L.length + 1 < 4000 ∧ ∀ L', (k ∈ L.map (·.2) → L' = L) → (k ∉ L.map (·.2) → L'.Perm ((p, k) :: L)) → Nx (upd H4 D (SetGO P w D L'))
/-- {elt for target in iter if ..} -/
def tSg (P : Program) (w : World) (K : PySem.W.Frag) (wi : TI) (g : TG) (tt : TT) (te : TE) (vs : List Nat) : TE := fun σ H Q => wi σ H fun J H1 => ∀ D, H1 D = none → ∃ W : Nat → Nat → Hp → Prop, (∃ m, W 0 m (upd H1 D (SetGO P w D []))) ∧
  ∀ i m H, W i m H → (J.stop i H ∧ Q (.ref D) H) ∨ (J.go i H ∧ ∃ Nx : Hp → Prop, (∀ H', Nx H' → ∃ m', m' < m ∧ W (i + 1) m' H') ∧
    ∀ x H', J.yld i H x H' → g x (wipe σ vs) H' fun σ2 H2 => wipe σ2 vs = wipe σ vs ∧ tt σ2 H2 fun b H3 => if b = true then putG P w K te D σ2 H3 Nx else Nx H3)
/-- .. with two sources -/
def tSg2 (P : Program) (w : World) (K : PySem.W.Frag) (wi : TI) (g : TG) (tt : TT) (wi1 : TI) (g1 : TG) (tt1 : TT) (te : TE) (vs vs1 : List Nat) : TE := fun σ H Q => wi σ H fun J H1 => ∀ D, H1 D = none → ∃ W : Nat → Nat → Hp → Prop, (∃ m, W 0 m (upd H1 D (SetGO P w D []))) ∧
  ∀ i m H, W i m H → (J.stop i H ∧ Q (.ref D) H) ∨ (J.go i H ∧ ∃ Nx : Hp → Prop, (∀ H', Nx H' → ∃ m', m' < m ∧ W (i + 1) m' H') ∧
    ∀ x H', J.yld i H x H' → g x (wipe σ vs) H' fun σ2 H2 => wipe σ2 vs = wipe σ vs ∧ tt σ2 H2 fun b H3 => if b = true then
      wi1 σ2 H3 fun J1 H4 => ∃ W1 : Nat → Nat → Hp → Prop, (∃ m, W1 0 m H4) ∧ ∀ j k H, W1 j k H → (J1.stop j H ∧ Nx H) ∨ (J1.go j H ∧ ∃ Nx1 : Hp → Prop, (∀ H', Nx1 H' → ∃ k', k' < k ∧ W1 (j + 1) k' H') ∧
        ∀ x H', J1.yld j H x H' → g1 x (wipe σ2 vs1) H' fun σ3 H5 => wipe σ3 vs1 = wipe σ2 vs1 ∧ tt1 σ3 H5 fun b H6 => if b = true then putG P w K te D σ3 H6 Nx1 else Nx1 H6) else Nx H3)
abbrev newS (w : World) : Obj := { cls := .type "set", dict := none, data := .set #[] 0 (.fresh 0 0 (!w.params.followText "set-order")) }
/-- readings of a block's parts, in whatever block it is -/
abbrev InBlk (X : Cx) (scope : Scope) (R : Cx → Prop) : Prop := ∀ (s : Shared) (H : Hp) (C : Addr) (cl : List (PySem.Str × Addr)) (fp : List Addr), R (X.blk s H scope (compEnvC scope cl C X.env) fp)
theorem sg_core {pins : List (Addr × Obj)} {s : Shared} {σ : L2.St} {H : Hp} {Q : VK} {elt tg iter : Expr} {ifs : List Expr} {scope : Scope} {own : List (PySem.Str × Nat)} {pos pos' : Pos} {wi : TI} {g : TG} {tt : TT} {te : TE} {use : Option (Value → Sem Unit)} {Qf : Value → Shared → Prop}
    (hu : X.A.units + 4 < cLine) (hc : X.calm = true) (hN : X.N.Nodup) (I : Inv X pins σ H s) (hi : PI X tg iter wi) (ok : BlkOk X.N X.env.scope scope own) (hg : InBlk X scope fun B => PG B tg g) (ht : InBlk X scope fun B => PTs B ifs tt) (he : InBlk X scope fun B => PE B elt te)
    (hs : ∀ x, foldedSetIterable iter X.env x = pure x) (h : tSg X.prog X.w X.K wi g tt te (own.map (·.2)) σ H Q)
    (out : ∀ D C s' m H', Inv X pins σ H' s' → Q (.ref D) H' → s'.heap.Ns C m → FpOk X pins H' C → compPost (model X.prog X.w) X.A X.xe use Qf (.ref D) C (.ok .next) s') :
    wpAny (model X.prog X.w) X.A (comprehension (.SetComp elt [⟨tg, iter, ifs, 0⟩] scope pos) scope X.env pos' (newSet (.type "set")) false (eval iter X.env) use) Qf X.xe s := by
  have free : ∀ y ∈ scope.names, y.2 = .free → ∃ c, X.env.cells.lookup y.1 = some c := fun y hy e => (ok.free y hy e).elim (fun k => I.ok.has _ (.inl k)) fun k => I.ok.has _ (.inr k)
  refine wpAny_comprehension_free (use := use) rfl hs (closure_ok free) ok.kind (fun y hy e => (ok.uniq y hy).trans (congrArg some e)) (thn (hi.run pins s σ H _ I h) fun xv s1 hx => thn hx fun itv s2 h2 => ?_)
  obtain ⟨it, fp, tn, J, H2, rfl, I2, T, st2, f2, q⟩ := h2
  refine PpSet.newSet_ok (newEnv_comp ?_)
  generalize hD : s2.heap.objs.size = D
  obtain ⟨W, ⟨m0, w0⟩, turn⟩ := q D (I2.hok.fresh (Nat.le_of_eq hD))
  generalize hs3 : ({ s2 with heap := s2.heap.push (newS X.w) } : Shared) = s3
  have h3 : s3.heap = s2.heap.push (newS X.w) := by rw [← hs3]
  have I3 : Inv X pins σ (upd H2 D (SetGO X.prog X.w D [])) s3 := by
    subst hs3 hD
    exact I2.laid (t' := s2.toks) (fun b o e => Heap.get?_push_of_some _ e) (Nat.le_refl _) (setGO_ok (setG0_new X.w))
  have f3 : ∀ b ∈ fp, FpOk X pins (upd H2 D (SetGO X.prog X.w D [])) b ∧ b < s3.heap.objs.size := fun b hb => by
    obtain ⟨o, e, _⟩ := T.obj _ _ st2 b hb
    have hlt : b < s2.heap.objs.size := Heap.lt_size e
    refine ⟨⟨?_, (f2 b hb).2⟩, h3 ▸ (Heap.size_push s2.heap (newS X.w)).symm ▸ Nat.lt_succ_of_lt hlt⟩
    rw [upd_ne (hD ▸ Nat.ne_of_lt hlt)]
    exact (f2 b hb).1
  have st3 : tn 0 s3.heap := T.keep _ _ _ st2 fun b _ o e => h3 ▸ Heap.get?_push_of_some _ e
  generalize hH3 : upd H2 D (SetGO X.prog X.w D []) = H3 at I3 w0 f3
  have I4 := block_start I3 ok hN f3
  show codeAny _ _ (.compStart _ 0 (.ref it) (.ref D) (compEnvC scope (cellsFrom (s3.heap.objs.size + 1) scope.names (cloFrom X.env.cells scope.names [])) s3.heap.objs.size X.env)) (compPost _ X.A X.xe use Qf (.ref D) s3.heap.objs.size) { s3 with heap := pushCells (s3.heap.push { cls := .type "dict", data := .dict #[] }) scope.names }
  generalize hcl : cellsFrom (s3.heap.objs.size + 1) scope.names (cloFrom X.env.cells scope.names []) = cl at I4 ⊢
  have pg := hg s3 H3 s3.heap.objs.size cl fp
  have pt := ht s3 H3 s3.heap.objs.size cl fp
  have pe := he s3 H3 s3.heap.objs.size cl fp
  generalize hce : compEnvC scope cl s3.heap.objs.size X.env = ce at I4 pg pt pe ⊢
  have cL : ce.locals = s3.heap.objs.size := by subst hce; rfl
  generalize hs4 : ({ s3 with heap := pushCells (s3.heap.push { cls := .type "dict", data := .dict #[] }) scope.names } : Shared) = s4 at I4 ⊢
  have st4 : tn 0 s4.heap := T.keep _ _ _ st3 fun b _ o e => hs4 ▸ pushCells_keeps _ _ _ _ (Heap.get?_push_of_some _ e)
  have stat : ∀ {σ' : L2.St} {H' : Hp} {s' : Shared}, Inv (X.blk s3 H3 scope ce fp) [] σ' H' s' → (∀ b ∈ fp, H' b = none) → ∀ b ∈ fp, FpOk (X.blk s3 H3 scope ce fp) [] H' b := fun I' hn b hb =>
    ⟨hn b hb, (I'.ok.exf b hb).1, I'.ok.exfs b hb, .inl hb, (I'.ok.exf b hb).2, fun p hp => (by cases hp)⟩
  have loop : codeAny (model X.prog X.w) X.A (.compLoop (.SetComp elt [⟨tg, iter, ifs, 0⟩] scope pos) 0 (.ref it) (.ref D) ce) (compPost (model X.prog X.w) X.A X.xe use Qf (.ref D) s3.heap.objs.size) s4 := by
    refine PpSet.compLoopS_any (fun n s' => ∃ i H', Inv (X.blk s3 H3 scope ce fp) [] (wipe σ (own.map (·.2))) H' s' ∧ tn i s'.heap ∧ (∀ b ∈ fp, H' b = none) ∧ W i n H') ?_ m0 ⟨0, H3, I4, st4, fun b hb => (f3 b hb).1.1, w0⟩
    rintro n s5 ⟨i, H5, I5, st5, n5, w5⟩
    rcases turn i n H5 w5 with ⟨stop, qq⟩ | ⟨go, Nx, hNx, step⟩
    · refine thnF (T.done (X.blk s3 H3 scope ce fp) rfl rfl rfl hc i [] s5 _ H5 _ I5 (stat I5 n5) st5 stop) fun r s6 ⟨hr, I6⟩ => ?_
      subst hr
      have I7 : Inv X pins σ H5 s6 := I3.call' (ch := fp) I6.os I6.base I6.hok I6.bare fun b hb => by
        obtain ⟨_, z2, z3, z4, z5, z6⟩ := (f3 b hb).1
        exact ⟨z4, z2, z5, z6⟩
      have nC : H5 ce.locals = none := I6.free
      obtain ⟨m, hn, _⟩ := I6.loc
      have hn2 : s6.heap.Ns ce.locals m := hn
      rw [cL] at nC hn2
      exact out D _ s6 m H5 I7 qq hn2 (I3.fpOk (Nat.le_refl _) nC)
    · refine thnF (T.item (X.blk s3 H3 scope ce fp) rfl rfl rfl hc i [] s5 _ H5 _ I5 (stat I5 n5) st5 go) fun r s6 ⟨u, hr, h6⟩ => ?_
      subst hr
      refine thnF h6 fun _ s7 ⟨x, H7, I7, r7, y7, st7, n7⟩ => ?_
      refine thnF (pg.run _ s7 _ H7 x u _ (I7.pinned (stat I7 n7) (T.obj _ _ st7)) r7 (step x H7 y7)) fun _ s8 ⟨σ8, H8, I8, hw8, q8⟩ => ?_
      refine thnF (pt.run _ s8 σ8 H8 _ I8 q8) fun b s9 ⟨H9, I9, q9⟩ => ?_
      have fin : ∀ {s' : Shared} {H' : Hp}, Inv (X.blk s3 H3 scope ce fp) ([] ++ pinsAt fp s7.heap) σ8 H' s' → Nx H' → ∃ m, m < n ∧ ∃ i H', Inv (X.blk s3 H3 scope ce fp) [] (wipe σ (own.map (·.2))) H' s' ∧ tn i s'.heap ∧ (∀ b ∈ fp, H' b = none) ∧ W i m H' := fun {s' H'} I' nx => by
        obtain ⟨m', hm, w'⟩ := hNx H' nx
        have pinned : ∀ b ∈ fp, ∀ o, s7.heap.get? b = some o → s'.heap.get? b = some o ∧ H' b = none := fun b hb o e => by
          obtain ⟨z1, z2, _⟩ := I'.pin (b, o) (List.mem_append_right _ (List.mem_append_right _ (mem_pinsAt hb e)))
          exact ⟨z1, z2⟩
        refine ⟨m', hm, i + 1, H', (I'.unpinned (pins := [])).weak (by rw [← hw8, wipe_length]) (fun j v e => (wipe_some (hw8.symm ▸ e)).1), T.keep _ _ _ st7 fun b hb o e => (pinned b hb o e).1, fun b hb => ?_, w'⟩
        obtain ⟨o, e, _⟩ := T.obj _ _ st7 b hb
        exact (pinned b hb o e).2
      cases b with
      | false => exact fin I9 (by simpa using q9)
      | true =>
        have q9' : putG X.prog X.w X.K te D σ8 H9 Nx := by simpa using q9
        refine thnF (pe.run _ s9 σ8 H9 _ I9 q9') fun z s10 ⟨yv, H10, I10, r10, p, k, L, ey, hx10, hD10, hm10, hz10, nx⟩ => ?_
        subst ey
        cases (show z = Value.ref p from r10)
        exact addG_ok (X := X.blk s3 H3 scope ce fp) hu I10 hD10 hm10 hx10 hz10 fun s11 L' c1 c2 I11 => fin I11 (nx L' c1 c2)
  exact PpSet.codeAny_compStart_set loop (T.self X.A 0 _ _ _ st4 loop)
theorem pe_sg {elt tg iter : Expr} {ifs : List Expr} {scope : Scope} {own : List (PySem.Str × Nat)} {pos : Pos} {wi : TI} {g : TG} {tt : TT} {te : TE} (hu : X.A.units + 4 < cLine) (hc : X.calm = true) (hN : X.N.Nodup) (hi : PI X tg iter wi) (ok : BlkOk X.N X.env.scope scope own)
    (hg : InBlk X scope fun B => PG B tg g) (ht : InBlk X scope fun B => PTs B ifs tt) (he : InBlk X scope fun B => PE B elt te) (hs : ∀ x, foldedSetIterable iter X.env x = pure x := by intro _; rfl) :
    PE X (.SetComp elt [⟨tg, iter, ifs, 0⟩] scope pos) (tSg X.prog X.w X.K wi g tt te (own.map (·.2))) := by
  refine ⟨fun pins s σ H Q I h => ?_⟩
  rw [PpSet.eval_SetComp]
  refine sg_core hu hc hN I hi ok hg ht he hs h fun D C s' m H' I' q hn f => ⟨m, hn, fun h'' sb => ?_⟩
  exact ⟨.ref D, H', I'.turned (t' := s'.toks) (fun b o hb e => (sb.2 b hb).trans e) f.1 f.2.1 f.2.2.2.1 f.2.2.2.2.1 f.2.2.2.2.2, rfl, q⟩
end
/-! two sources -/
section
variable {prog : Program} {w : World} {A : Around} {R : Result → Shared → Prop} {s : Shared} {elt t0 i0 t1 i1 : Expr} {ifs0 ifs1 : List Expr} {scope : Scope} {pos : Pos} {it acc : Value} {env : Env}
abbrev setc2 (elt t0 i0 t1 i1 : Expr) (ifs0 ifs1 : List Expr) (scope : Scope) (pos : Pos) : Expr := .SetComp elt [⟨t0, i0, ifs0, 0⟩, ⟨t1, i1, ifs1, 0⟩] scope pos
theorem turnS_out : compTurn (setc2 elt t0 i0 t1 i1 ifs0 ifs1 scope pos) 0 it acc env = (do
      standAt i0.pos
      match ← pyNext it with
      | none => pure (.done .next)
      | some v0 =>
        letOwnedTupleGo t0 it v0
        assign t0 env v0
        let mut on := true
        for c0 in ifs0 do
          if on then on ← isTrue c0 env (eval c0 env)
        if on then
          let x1 ← eval i1 env
          standAt i1.pos
          let x1 ← foldedSetIterable i1 env x1
          let _ ← runOwn (.compStart (setc2 elt t0 i0 t1 i1 ifs0 ifs1 scope pos) 1 (← holding [x1] (pyIter x1)) acc env) env
        again (.compLoop (setc2 elt t0 i0 t1 i1 ifs0 ifs1 scope pos) 0 it acc env)) := by rfl
theorem turnS_in : compTurn (setc2 elt t0 i0 t1 i1 ifs0 ifs1 scope pos) 1 it acc env = (do
      standAt i1.pos
      match ← pyNext it with
      | none => pure (.done .next)
      | some v1 =>
        letOwnedTupleGo t1 it v1
        assign t1 env v1
        let mut on := true
        for c1 in ifs1 do
          if on then on ← isTrue c1 env (eval c1 env)
        if on then
          (do let y ← eval elt env; standAt elt.pos; let _ ← call (.builtin "set.add") [acc, y])
        again (.compLoop (setc2 elt t0 i0 t1 i1 ifs0 ifs1 scope pos) 1 it acc env)) := by rfl
/-- what goes wrong is noted -/
abbrev errG (prog : Program) (w : World) (A : Around) (env : Env) (R : Result → Shared → Prop) : Value → Shared → Prop := notedBy (model prog w) A env fun e s' => R (.error e) s'
abbrev testsG (ifs : List Expr) (env : Env) : Sem Bool := forIn ifs true fun c r => if r = true then do let ok ← isTrue c env (eval c env); pure (ForInStep.yield ok) else pure (ForInStep.yield r)
theorem loopS_out (hs : ∀ x, foldedSetIterable i1 env x = pure x) (I : Nat → Shared → Prop)
    (turn : ∀ n s, I n s → wpAny (model prog w) A (pyNext it) (fun r s₁ => match r with
      | none => R (.ok .next) s₁
      | some v => wpAny (model prog w) A (letOwnedTupleGo t0 it v) (fun _ sa => wpAny (model prog w) A (assign t0 env v) (fun _ s₂ => wpAny (model prog w) A (testsG ifs0 env) (fun on s₃ =>
            if on = true then wpAny (model prog w) A (eval i1 env) (fun x s₄ => wpAny (model prog w) A (pyIter x) (fun it1 s₅ => codeAny (model prog w) A (.compStart (setc2 elt t0 i0 t1 i1 ifs0 ifs1 scope pos) 1 it1 acc env) (fun r s' => match r with
                | .ok _ => ∃ m, m < n ∧ I m s'
                | .error _ => False) s₅) (errG prog w A env R) s₄) (errG prog w A env R) s₃
            else ∃ m, m < n ∧ I m s₃) (errG prog w A env R) s₂) (errG prog w A env R) sa) (errG prog w A env R) s₁) (errG prog w A env R) s)
    (n : Nat) (h : I n s) : codeAny (model prog w) A (.compLoop (setc2 elt t0 i0 t1 i1 ifs0 ifs1 scope pos) 0 it acc env) R s := by
  refine codeAny_loop rfl I (fun n s hI => ?_) n h
  show wpAny _ A ((compTurn (setc2 elt t0 i0 t1 i1 ifs0 ifs1 scope pos) 0 it acc env).onRaise _) _ _ s
  refine wpAny_noted ?_
  rw [turnS_out]
  refine wpAny_bind (wpAny_standAt (wpAny_bind (wpAny_mono (turn n s hI) (fun r s₁ h₁ => ?_) fun _ _ z => z)))
  match r, h₁ with
  | none, h₁ => exact wpAny_pure h₁
  | some v, h₁ =>
    refine wpAny_bind (wpAny_mono h₁ (fun _ sa ha => wpAny_bind (wpAny_mono ha (fun _ s₂ h₂ => wpAny_bind (wpAny_mono h₂ (fun on s₃ h₃ => ?_) fun _ _ z => z)) fun _ _ z => z)) fun _ _ z => z)
    match on, h₃ with
    | false, h₃ => exact wpAny_pure ⟨rfl, h₃⟩
    | true, h₃ =>
      refine wpAny_bind (wpAny_mono h₃ (fun x s₄ h₄ => wpAny_bind (wpAny_standAt (wpAny_bind (wpAny_of_eq (hs x) (wpAny_bind (wpAny_holding (wpAny_mono h₄ (fun it1 s₅ h₅ => ?_) fun _ _ z => z))))))) fun _ _ z => z)
      refine wpAny_bind (wpAny_runOwn ?_)
      rw [Around.mark_none]
      refine codeAny_mono h₅ fun r s' hr => ?_
      match r, hr with
      | .ok f, hr => first | exact wpAny_pure ⟨rfl, hr⟩ | exact wpAny_bind (wpAny_pure (wpAny_pure ⟨rfl, hr⟩))
theorem loopS_in (I : Nat → Shared → Prop)
    (turn : ∀ n s, I n s → wpAny (model prog w) A (pyNext it) (fun r s₁ => match r with
      | none => R (.ok .next) s₁
      | some v => wpAny (model prog w) A (letOwnedTupleGo t1 it v) (fun _ sa => wpAny (model prog w) A (assign t1 env v) (fun _ s₂ => wpAny (model prog w) A (testsG ifs1 env) (fun on s₃ =>
            if on = true then wpAny (model prog w) A (eval elt env) (fun x s₄ => wpAny (model prog w) A (call (.builtin "set.add") [acc, x]) (fun _ s₅ => ∃ m, m < n ∧ I m s₅) (errG prog w A env R) s₄) (errG prog w A env R) s₃
            else ∃ m, m < n ∧ I m s₃) (errG prog w A env R) s₂) (errG prog w A env R) sa) (errG prog w A env R) s₁) (errG prog w A env R) s)
    (n : Nat) (h : I n s) : codeAny (model prog w) A (.compLoop (setc2 elt t0 i0 t1 i1 ifs0 ifs1 scope pos) 1 it acc env) R s := by
  refine codeAny_loop rfl I (fun n s hI => ?_) n h
  show wpAny _ A ((compTurn (setc2 elt t0 i0 t1 i1 ifs0 ifs1 scope pos) 1 it acc env).onRaise _) _ _ s
  refine wpAny_noted ?_
  rw [turnS_in]
  refine wpAny_bind (wpAny_standAt (wpAny_bind (wpAny_mono (turn n s hI) (fun r s₁ h₁ => ?_) fun _ _ z => z)))
  match r, h₁ with
  | none, h₁ => exact wpAny_pure h₁
  | some v, h₁ =>
    refine wpAny_bind (wpAny_mono h₁ (fun _ sa ha => wpAny_bind (wpAny_mono ha (fun _ s₂ h₂ => wpAny_bind (wpAny_mono h₂ (fun on s₃ h₃ => ?_) fun _ _ z => z)) fun _ _ z => z)) fun _ _ z => z)
    match on, h₃ with
    | false, h₃ => exact wpAny_pure ⟨rfl, h₃⟩
    | true, h₃ =>
      exact wpAny_bind (wpAny_bind (wpAny_mono h₃ (fun x s₄ h₄ => wpAny_bind (wpAny_standAt (wpAny_bind (wpAny_mono h₄ (fun _ s₅ h₅ => wpAny_pure (wpAny_pure ⟨rfl, h₅⟩)) fun _ _ z => z)))) fun _ _ z => z))
theorem startS_in (h0 : codeAny (model prog w) A (.compLoop (setc2 elt t0 i0 t1 i1 ifs0 ifs1 scope pos) 1 it acc env) R s)
    (h : wpAny (model prog w) A (pyIter it) (fun it' s' => codeAny (model prog w) A (.compLoop (setc2 elt t0 i0 t1 i1 ifs0 ifs1 scope pos) 1 it' acc env) R s') (errG prog w A env R) s) :
    codeAny (model prog w) A (.compStart (setc2 elt t0 i0 t1 i1 ifs0 ifs1 scope pos) 1 it acc env) R s := by
  refine codeAny_of_tree ?_
  show wpAny _ _ ((compStart (setc2 elt t0 i0 t1 i1 ifs0 ifs1 scope pos) 1 it acc env).onRaise (fun x => do noteFrame x env; standAt theWindowsPlace)) _ _ s
  refine wpAny_notedAt ?_
  unfold compStart
  show wpAny _ _ (ask >>= _) _ _ s
  refine wpAny_bind (wpAny_askSetting (wpAny_ite ?_))
  split
  · first | exact wpAny_bind (wpAny_pure (wpAny_pure ⟨rfl, h0⟩)) | exact wpAny_pure ⟨rfl, h0⟩
  · refine wpAny_bind (wpAny_rule ?_)
    first
      | exact wpAny_bind (wpAny_standAt (wpAny_bind (wpAny_mono h (fun it' s' z => wpAny_pure ⟨rfl, z⟩) fun _ _ x => x)))
      | (show wpAny _ _ (standAt i1.pos >>= _) _ _ s; exact wpAny_bind (wpAny_standAt (wpAny_bind (wpAny_mono h (fun it' s' z => wpAny_pure ⟨rfl, z⟩) fun _ _ x => x))))
end
section
variable {X : Cx}
theorem sg2_core {pins : List (Addr × Obj)} {s : Shared} {σ : L2.St} {H : Hp} {Q : VK} {elt tg iter tg1 iter1 : Expr} {ifs ifs1 : List Expr} {scope : Scope} {own : List (PySem.Str × Nat)} {vs1 : List Nat} {pos pos' : Pos} {wi wi1 : TI} {g g1 : TG} {tt tt1 : TT} {te : TE} {use : Option (Value → Sem Unit)} {Qf : Value → Shared → Prop}
    (hu : X.A.units + 4 < cLine) (hc : X.calm = true) (hN : X.N.Nodup) (I : Inv X pins σ H s) (hi : PI X tg iter wi) (ok : BlkOk X.N X.env.scope scope own) (hv : ∀ i ∈ vs1, i ∈ own.map (·.2)) (hg : InBlk X scope fun B => PG B tg g) (ht : InBlk X scope fun B => PTs B ifs tt) (he : InBlk X scope fun B => PE B elt te)
    (hs : ∀ x, foldedSetIterable iter X.env x = pure x) (hi1 : InBlk X scope fun B => PI B tg1 iter1 wi1) (hg1 : InBlk X scope fun B => PG B tg1 g1) (ht1 : InBlk X scope fun B => PTs B ifs1 tt1) (hs1 : ∀ env x, foldedSetIterable iter1 env x = pure x) (h : tSg2 X.prog X.w X.K wi g tt wi1 g1 tt1 te (own.map (·.2)) vs1 σ H Q)
    (out : ∀ D C s' m H', Inv X pins σ H' s' → Q (.ref D) H' → s'.heap.Ns C m → FpOk X pins H' C → compPost (model X.prog X.w) X.A X.xe use Qf (.ref D) C (.ok .next) s') :
    wpAny (model X.prog X.w) X.A (comprehension (setc2 elt tg iter tg1 iter1 ifs ifs1 scope pos) scope X.env pos' (newSet (.type "set")) false (eval iter X.env) use) Qf X.xe s := by
  have free : ∀ y ∈ scope.names, y.2 = .free → ∃ c, X.env.cells.lookup y.1 = some c := fun y hy e => (ok.free y hy e).elim (fun k => I.ok.has _ (.inl k)) fun k => I.ok.has _ (.inr k)
  refine wpAny_comprehension_free (use := use) rfl hs (closure_ok free) ok.kind (fun y hy e => (ok.uniq y hy).trans (congrArg some e)) (thn (hi.run pins s σ H _ I h) fun xv s1 hx => thn hx fun itv s2 h2 => ?_)
  obtain ⟨it, fp, tn, J, H2, rfl, I2, T, st2, f2, q⟩ := h2
  refine PpSet.newSet_ok (newEnv_comp ?_)
  generalize hD : s2.heap.objs.size = D
  obtain ⟨W, ⟨m0, w0⟩, turn⟩ := q D (I2.hok.fresh (Nat.le_of_eq hD))
  generalize hs3 : ({ s2 with heap := s2.heap.push (newS X.w) } : Shared) = s3
  have h3 : s3.heap = s2.heap.push (newS X.w) := by rw [← hs3]
  have I3 : Inv X pins σ (upd H2 D (SetGO X.prog X.w D [])) s3 := by
    subst hs3 hD
    exact I2.laid (t' := s2.toks) (fun b o e => Heap.get?_push_of_some _ e) (Nat.le_refl _) (setGO_ok (setG0_new X.w))
  have f3 : ∀ b ∈ fp, FpOk X pins (upd H2 D (SetGO X.prog X.w D [])) b ∧ b < s3.heap.objs.size := fun b hb => by
    obtain ⟨o, e, _⟩ := T.obj _ _ st2 b hb
    have hlt : b < s2.heap.objs.size := Heap.lt_size e
    refine ⟨⟨?_, (f2 b hb).2⟩, h3 ▸ (Heap.size_push s2.heap (newS X.w)).symm ▸ Nat.lt_succ_of_lt hlt⟩
    rw [upd_ne (hD ▸ Nat.ne_of_lt hlt)]
    exact (f2 b hb).1
  have st3 : tn 0 s3.heap := T.keep _ _ _ st2 fun b _ o e => h3 ▸ Heap.get?_push_of_some _ e
  generalize hH3 : upd H2 D (SetGO X.prog X.w D []) = H3 at I3 w0 f3
  have I4 := block_start I3 ok hN f3
  show codeAny _ _ (.compStart _ 0 (.ref it) (.ref D) (compEnvC scope (cellsFrom (s3.heap.objs.size + 1) scope.names (cloFrom X.env.cells scope.names [])) s3.heap.objs.size X.env)) (compPost _ X.A X.xe use Qf (.ref D) s3.heap.objs.size) { s3 with heap := pushCells (s3.heap.push { cls := .type "dict", data := .dict #[] }) scope.names }
  generalize hcl : cellsFrom (s3.heap.objs.size + 1) scope.names (cloFrom X.env.cells scope.names []) = cl at I4 ⊢
  have pg := hg s3 H3 s3.heap.objs.size cl fp
  have pt := ht s3 H3 s3.heap.objs.size cl fp
  have pe := he s3 H3 s3.heap.objs.size cl fp
  have pi1 := hi1 s3 H3 s3.heap.objs.size cl fp
  have pg1 := hg1 s3 H3 s3.heap.objs.size cl fp
  have pt1 := ht1 s3 H3 s3.heap.objs.size cl fp
  generalize hce : compEnvC scope cl s3.heap.objs.size X.env = ce at I4 pg pt pe pi1 pg1 pt1 ⊢
  have cL : ce.locals = s3.heap.objs.size := by subst hce; rfl
  generalize hs4 : ({ s3 with heap := pushCells (s3.heap.push { cls := .type "dict", data := .dict #[] }) scope.names } : Shared) = s4 at I4 ⊢
  have st4 : tn 0 s4.heap := T.keep _ _ _ st3 fun b _ o e => hs4 ▸ pushCells_keeps _ _ _ _ (Heap.get?_push_of_some _ e)
  generalize hB : X.blk s3 H3 scope ce fp = B at I4 pg pt pe pi1 pg1 pt1
  have bA : B.A = X.A := by subst hB; rfl
  have bp : B.prog = X.prog := by subst hB; rfl
  have bw : B.w = X.w := by subst hB; rfl
  have stat : ∀ {σ' : L2.St} {H' : Hp} {s' : Shared}, Inv B [] σ' H' s' → (∀ b ∈ fp, H' b = none) → ∀ b ∈ fp, FpOk B [] H' b := by
    subst hB
    exact fun I' hn b hb => ⟨hn b hb, (I'.ok.exf b hb).1, I'.ok.exfs b hb, .inl hb, (I'.ok.exf b hb).2, fun p hp => (by cases hp)⟩
  have loop : codeAny (model X.prog X.w) X.A (.compLoop (setc2 elt tg iter tg1 iter1 ifs ifs1 scope pos) 0 (.ref it) (.ref D) ce) (compPost (model X.prog X.w) X.A X.xe use Qf (.ref D) s3.heap.objs.size) s4 := by
    subst hB
    refine loopS_out (hs1 ce) (fun n s' => ∃ i H', Inv (X.blk s3 H3 scope ce fp) [] (wipe σ (own.map (·.2))) H' s' ∧ tn i s'.heap ∧ (∀ b ∈ fp, H' b = none) ∧ W i n H') ?_ m0 ⟨0, H3, I4, st4, fun b hb => (f3 b hb).1.1, w0⟩
    rintro n s5 ⟨i, H5, I5, st5, n5, w5⟩
    rcases turn i n H5 w5 with ⟨stop, qq⟩ | ⟨go, Nx, hNx, step⟩
    · refine thnF (T.done (X.blk s3 H3 scope ce fp) rfl rfl rfl hc i [] s5 _ H5 _ I5 (stat I5 n5) st5 stop) fun r s6 ⟨hr, I6⟩ => ?_
      subst hr
      have I7 : Inv X pins σ H5 s6 := I3.call' (ch := fp) I6.os I6.base I6.hok I6.bare fun b hb => by
        obtain ⟨_, z2, z3, z4, z5, z6⟩ := (f3 b hb).1
        exact ⟨z4, z2, z5, z6⟩
      have nC : H5 ce.locals = none := I6.free
      obtain ⟨m, hn, _⟩ := I6.loc
      have hn2 : s6.heap.Ns ce.locals m := hn
      rw [cL] at nC hn2
      exact out D _ s6 m H5 I7 qq hn2 (I3.fpOk (Nat.le_refl _) nC)
    · refine thnF (T.item (X.blk s3 H3 scope ce fp) rfl rfl rfl hc i [] s5 _ H5 _ I5 (stat I5 n5) st5 go) fun r s6 ⟨u, hr, h6⟩ => ?_
      subst hr
      refine thnF h6 fun _ s7 ⟨x, H7, I7, r7, y7, st7, n7⟩ => ?_
      refine thnF (pg.run _ s7 _ H7 x u _ (I7.pinned (stat I7 n7) (T.obj _ _ st7)) r7 (step x H7 y7)) fun _ s8 ⟨σ8, H8, I8, hw8, q8⟩ => ?_
      refine thnF (pt.run _ s8 σ8 H8 _ I8 q8) fun b s9 ⟨H9, I9, q9⟩ => ?_
      have fin : ∀ {σ9 : L2.St} {s' : Shared} {H' : Hp}, Inv (X.blk s3 H3 scope ce fp) ([] ++ pinsAt fp s7.heap) σ9 H' s' → (wipe σ (own.map (·.2))).length = σ9.length → (∀ (j : Nat) v, (wipe σ (own.map (·.2)))[j]? = some (some v) → σ9[j]? = some (some v)) → Nx H' →
          ∃ m, m < n ∧ ∃ i H', Inv (X.blk s3 H3 scope ce fp) [] (wipe σ (own.map (·.2))) H' s' ∧ tn i s'.heap ∧ (∀ b ∈ fp, H' b = none) ∧ W i m H' := fun {σ9 s' H'} I' hl hk nx => by
        obtain ⟨m', hm, w'⟩ := hNx H' nx
        have pinned : ∀ b ∈ fp, ∀ o, s7.heap.get? b = some o → s'.heap.get? b = some o ∧ H' b = none := fun b hb o e => by
          obtain ⟨z1, z2, _⟩ := I'.pin (b, o) (List.mem_append_right _ (List.mem_append_right _ (mem_pinsAt hb e)))
          exact ⟨z1, z2⟩
        refine ⟨m', hm, i + 1, H', (I'.unpinned (pins := [])).weak hl hk, T.keep _ _ _ st7 fun b hb o e => (pinned b hb o e).1, fun b hb => ?_, w'⟩
        obtain ⟨o, e, _⟩ := T.obj _ _ st7 b hb
        exact (pinned b hb o e).2
      have hl8 : (wipe σ (own.map (·.2))).length = σ8.length := by rw [← hw8, wipe_length]
      have hk8 : ∀ (j : Nat) v, (wipe σ (own.map (·.2)))[j]? = some (some v) → σ8[j]? = some (some v) ∧ j ∉ own.map (·.2) := fun j v e => wipe_some (hw8.symm ▸ e)
      cases b with
      | false => exact fin I9 hl8 (fun j v e => (hk8 j v e).1) (by simpa using q9)
      | true =>
        rw [if_pos rfl] at q9
        show wpAny _ _ (eval iter1 ce) _ _ s9
        refine thnF (pi1.run _ s9 σ8 H9 _ I9 q9) fun xv s10 hx => thnF hx fun itv s11 h11 => ?_
        obtain ⟨it1, fp1, tn1, J1, H11, rfl, I11, T1, st11, f11, W1, ⟨m1, w1⟩, turn1⟩ := h11
        have stat1 : ∀ {H' : Hp}, (∀ b ∈ fp1, H' b = none) → ∀ b ∈ fp1, FpOk (X.blk s3 H3 scope ce fp) ([] ++ pinsAt fp s7.heap) H' b := fun hn b hb => ⟨hn b hb, (f11 b hb).2⟩
        have loop1 : codeAny (model X.prog X.w) X.A (.compLoop (setc2 elt tg iter tg1 iter1 ifs ifs1 scope pos) 1 (.ref it1) (.ref D) ce)
            (fun r s' => match r with
              | .ok _ => ∃ m, m < n ∧ ∃ i H', Inv (X.blk s3 H3 scope ce fp) [] (wipe σ (own.map (·.2))) H' s' ∧ tn i s'.heap ∧ (∀ b ∈ fp, H' b = none) ∧ W i m H'
              | .error _ => False) s11 := by
          refine loopS_in (fun k s' => ∃ j H', Inv (X.blk s3 H3 scope ce fp) ([] ++ pinsAt fp s7.heap) (wipe σ8 vs1) H' s' ∧ tn1 j s'.heap ∧ (∀ b ∈ fp1, H' b = none) ∧ W1 j k H') ?_ m1 ⟨0, H11, I11.weak (wipe_length _ _) (fun j v e => (wipe_some e).1), st11, fun b hb => (f11 b hb).1, w1⟩
          rintro k s12 ⟨j, H12, I12, st12, n12, w12⟩
          rcases turn1 j k H12 w12 with ⟨stop1, nx1⟩ | ⟨go1, Nx1, hNx1, step1⟩
          · refine thnF (T1.done (X.blk s3 H3 scope ce fp) rfl rfl rfl hc j _ s12 (wipe σ8 vs1) H12 _ I12 (stat1 n12) st12 stop1) fun r s13 ⟨hr, I13⟩ => ?_
            subst hr
            exact fin I13 (hl8.trans (wipe_length σ8 vs1).symm) (fun j v e => (wipe_out fun z => (hk8 j v e).2 (hv j z)).trans (hk8 j v e).1) nx1
          · refine thnF (T1.item (X.blk s3 H3 scope ce fp) rfl rfl rfl hc j _ s12 (wipe σ8 vs1) H12 _ I12 (stat1 n12) st12 go1) fun r s13 ⟨u1, hr, h13⟩ => ?_
            subst hr
            refine thnF h13 fun _ s14 ⟨x1, H14, I14, r14, y14, st14, n14⟩ => ?_
            refine thnF (pg1.run _ s14 (wipe σ8 vs1) H14 x1 u1 _ (I14.pinned (stat1 n14) (T1.obj _ _ st14)) r14 (step1 x1 H14 y14)) fun _ s15 ⟨σ15, H15, I15, hw15, q15⟩ => ?_
            refine thnF (pt1.run _ s15 σ15 H15 _ I15 q15) fun b1 s16 ⟨H16, I16, q16⟩ => ?_
            have fin1 : ∀ {s' : Shared} {H' : Hp}, Inv (X.blk s3 H3 scope ce fp) (([] ++ pinsAt fp s7.heap) ++ pinsAt fp1 s14.heap) σ15 H' s' → Nx1 H' →
                ∃ m, m < k ∧ ∃ j H', Inv (X.blk s3 H3 scope ce fp) ([] ++ pinsAt fp s7.heap) (wipe σ8 vs1) H' s' ∧ tn1 j s'.heap ∧ (∀ b ∈ fp1, H' b = none) ∧ W1 j m H' := fun {s' H'} I' nx => by
              obtain ⟨m', hm, w'⟩ := hNx1 H' nx
              have pinned : ∀ b ∈ fp1, ∀ o, s14.heap.get? b = some o → s'.heap.get? b = some o ∧ H' b = none := fun b hb o e => by
                obtain ⟨z1, z2, _⟩ := I'.pin (b, o) (List.mem_append_right _ (List.mem_append_right _ (mem_pinsAt hb e)))
                exact ⟨z1, z2⟩
              refine ⟨m', hm, j + 1, H', I'.unpinned.weak (by rw [← hw15, wipe_length]) (fun j v e => (wipe_some (hw15.symm ▸ e)).1), T1.keep _ _ _ st14 fun b hb o e => (pinned b hb o e).1, fun b hb => ?_, w'⟩
              obtain ⟨o, e, _⟩ := T1.obj _ _ st14 b hb
              exact (pinned b hb o e).2
            cases b1 with
            | false => exact fin1 I16 (by simpa using q16)
            | true =>
              have q16' : putG X.prog X.w X.K te D σ15 H16 Nx1 := by simpa using q16
              refine thnF (pe.run _ s16 σ15 H16 _ I16 q16') fun z s17 ⟨yv, H17, I17, r17, p, k1, L, ey, hx17, hD17, hm17, hz17, nx⟩ => ?_
              subst ey
              cases (show z = Value.ref p from r17)
              exact addG_ok (X := X.blk s3 H3 scope ce fp) hu I17 hD17 hm17 hx17 hz17 fun s18 L' c1 c2 I18 => fin1 I18 (nx L' c1 c2)
        exact startS_in loop1 (T1.self X.A 0 _ _ _ st11 loop1)
  exact PpSet.codeAny_compStart_set loop (T.self X.A 0 _ _ _ st4 loop)
theorem pe_sg2 {elt tg iter tg1 iter1 : Expr} {ifs ifs1 : List Expr} {scope : Scope} {own : List (PySem.Str × Nat)} {vs1 : List Nat} {pos : Pos} {wi wi1 : TI} {g g1 : TG} {tt tt1 : TT} {te : TE} (hu : X.A.units + 4 < cLine) (hc : X.calm = true) (hN : X.N.Nodup) (hi : PI X tg iter wi) (ok : BlkOk X.N X.env.scope scope own)
    (hv : ∀ i ∈ vs1, i ∈ own.map (·.2)) (hg : InBlk X scope fun B => PG B tg g) (ht : InBlk X scope fun B => PTs B ifs tt) (hi1 : InBlk X scope fun B => PI B tg1 iter1 wi1) (hg1 : InBlk X scope fun B => PG B tg1 g1) (ht1 : InBlk X scope fun B => PTs B ifs1 tt1) (he : InBlk X scope fun B => PE B elt te)
    (hs : ∀ x, foldedSetIterable iter X.env x = pure x := by intro _; rfl) (hs1 : ∀ env x, foldedSetIterable iter1 env x = pure x := by intro _ _; rfl) :
    PE X (.SetComp elt [⟨tg, iter, ifs, 0⟩, ⟨tg1, iter1, ifs1, 0⟩] scope pos) (tSg2 X.prog X.w X.K wi g tt wi1 g1 tt1 te (own.map (·.2)) vs1) := by
  refine ⟨fun pins s σ H Q I h => ?_⟩
  rw [PpSet.eval_SetComp]
  refine sg2_core hu hc hN I hi ok hv hg ht he hs hi1 hg1 ht1 hs1 h fun D C s' m H' I' q hn f => ⟨m, hn, fun h'' sb => ?_⟩
  exact ⟨.ref D, H', I'.turned (t' := s'.toks) (fun b o hb e => (sb.2 b hb).trans e) f.1 f.2.1 f.2.2.2.1 f.2.2.2.2.1 f.2.2.2.2.2, rfl, q⟩
end
end My
set_option Elab.async false
set_option linter.all false
set_option maxRecDepth 100000
set_option maxHeartbeats 2000000
/-! Zip of tuples, comprehensions with two sources, own lists looked at, errors with two fields told. -/
namespace My
open PySem PySem.Spec PyProof.Rows L2 RZ
open Evl (Ex)
/-! zip of tuples -/
theorem walk_zipT {K : PySem.W.Frag} {a b : Addr} {xs ys : List V} {n : Nat} (hn : n = min xs.length ys.length) : Walk (ItzT K a b) n (fun H => SqT K H a xs ∧ SqT K H b ys) (YPair (fun i => xs[i]?) (fun i => ys[i]?)) := by
  subst hn
  constructor
  · intro i H lt gx
    have l1 : i < xs.length := Nat.lt_of_lt_of_le lt (Nat.min_le_left _ _)
    have l2 : i < ys.length := Nat.lt_of_lt_of_le lt (Nat.min_le_right _ _)
    exact ⟨xs, ys, _, _, gx.1, gx.2, List.getElem?_eq_getElem l1, List.getElem?_eq_getElem l2⟩
  · intro H gx
    refine ⟨xs, ys, gx.1, gx.2, ?_⟩
    rcases Nat.le_total xs.length ys.length with z | z
    · left; rw [Nat.min_eq_left z]; exact Nat.le_refl _
    · right; rw [Nat.min_eq_right z]; exact Nat.le_refl _
  · intro i H v H' _ gx ⟨T, x, z, e1, e2, e3, e4, e5⟩
    exact ⟨T, x, z, e1, e2, e3, e4 xs gx.1, e5 ys gx.2⟩
section
variable {c : Fr} {es : List Sv} {ta tb te : TE} {ts : TA} {x y d : Dt} {l m : List Dt} {tt tu : TT} {D : Ends} {t u : TS} {n : Nat} {i j : Int} {b : Bool}
theorem wi_zipT (h : EDs c ts es [.tup l, .tup m]) : WI c (iZipA c.K ts) es (List.zipWith (fun a b => Dt.tup [a, b]) l m) := fun σ P H r R q =>
  h σ P H r _ fun vs P1 H1 z hz r1 e1 h1 => by
    subst hz
    cases h1 with
    | cons a1 h1 =>
      cases h1 with
      | cons a2 h1 =>
        cases h1
        cases a1 with
        | @tup A xs _ s k =>
          cases a2 with
          | @tup B ys _ s2 k2 =>
            refine ⟨_, _, _, _, rfl, .inr ⟨Evl.ex_t r1.ex s, Evl.ex_t r1.ex s2, q (ItzT c.K A B) P1 H1 (fun H => SqT c.K H A xs ∧ SqT c.K H B ys) (YPair (fun i => xs[i]?) fun i => ys[i]?) r1 e1 (by rw [List.length_zipWith, ← k.len, ← k2.len]; exact walk_zipT rfl) (fun P' H' a b => ⟨Evl.ex_t (a.trans b) s, Evl.ex_t (a.trans b) s2⟩) fun i P' H' x H'' hi a b y => ?_⟩⟩
            obtain ⟨T, x1, x2, rfl, nT, rfl, e2, e3⟩ := y
            obtain ⟨d1, e4, hd1⟩ := k.get' e2
            obtain ⟨d2, e5, hd2⟩ := k2.get' e3
            have g := grow_new (o := .tup [x1, x2]) b nT
            refine ⟨_, .tup [d1, d2], g, by rw [List.getElem?_zipWith, e4, e5], ?_⟩
            exact .tup (Evl.st_of upd_same) (.cons (Has.mono (a.trans g.p) _ hd1) (.cons (Has.mono (a.trans g.p) _ hd2) .nil))
theorem wi_zipL (h : EDs c ts es [.lst l, .lst m]) : WI c (iZipA c.K ts) es (List.zipWith (fun a b => Dt.tup [a, b]) l m) := fun σ P H r R q =>
  h σ P H r _ fun vs P1 H1 z hz r1 e1 h1 => by
    subst hz
    cases h1 with
    | cons a1 h1 =>
      cases h1 with
      | cons a2 h1 =>
        cases h1
        cases a1 with
        | @lst A xs _ s k =>
          cases a2 with
          | @lst B ys _ s2 k2 =>
            refine ⟨_, _, _, _, rfl, .inl ⟨Evl.ex_l r1.ex s, Evl.ex_l r1.ex s2, q (Itz c.K A B) P1 H1 (fun H => SqL c.K H A xs ∧ SqL c.K H B ys) (YPair (fun i => xs[i]?) fun i => ys[i]?) r1 e1 (by rw [List.length_zipWith, ← k.len, ← k2.len]; exact walk_zip rfl) (fun P' H' a b => ⟨Evl.ex_l (a.trans b) s, Evl.ex_l (a.trans b) s2⟩) fun i P' H' x H'' hi a b y => ?_⟩⟩
            obtain ⟨T, x1, x2, rfl, nT, rfl, e2, e3⟩ := y
            obtain ⟨d1, e4, hd1⟩ := k.get' e2
            obtain ⟨d2, e5, hd2⟩ := k2.get' e3
            have g := grow_new (o := .tup [x1, x2]) b nT
            refine ⟨_, .tup [d1, d2], g, by rw [List.getElem?_zipWith, e4, e5], ?_⟩
            exact .tup (Evl.st_of upd_same) (.cons (Has.mono (a.trans g.p) _ hd1) (.cons (Has.mono (a.trans g.p) _ hd2) .nil))
/-! own lists: walked, looked into, put together -/
/-- as WI, where it may be read off the slots too -/
def WR (c : Fr) (wi : TI) (es : List Sv) (l : List Dt) : Prop :=
  ∀ σ P H, Rep c P H σ es → ∀ R : It → Hp → Prop, (∀ J P1 H1 G Y, Rep c P1 H1 σ es → Kp es P H P1 H1 → Walk J l.length G Y → (∀ P' H', Rep (c.at P1) P' H' σ es → G H') →
    (∀ i P' H' x H'', i < l.length → Rep (c.at P1) P' H' σ es → Y i H' x H'' → ∃ P'' d, Grow P' H' P'' H'' ∧ l[i]? = some d ∧ Has c.K P'' x d) → R J H1) → wi σ H R
theorem WI.r {wi : TI} (h : WI c wi es l) : WR c wi es l := fun σ P H r R q => h σ P H r R fun J P1 H1 G Y r1 e1 w hG hY => q J P1 H1 G Y r1 e1 w (fun P' H' r' => hG P' H' r'.b r'.ex) fun i P' H' x H'' hi r' y => hY i P' H' x H'' hi r'.b r'.ex y
theorem wr_own {a : Addr} (hn : es[n]? = some (.own a l)) : WR c (iSeq c.K (tVar n)) es l := fun σ P H r R q => by
  obtain ⟨e0, m1, m2, xs, hx, hd⟩ := r.sl.getO hn
  refine ⟨_, e0, a, rfl, .inl ⟨⟨xs, Evl.sq_of hx⟩, q (Itl c.K a) P H (fun H => ∃ ys, H a = some (.lst ys) ∧ ys.length = l.length) (fun i H x H' => H' = H ∧ ∃ ys, H a = some (.lst ys) ∧ ys[i]? = some x) r Kp.refl ?_ (fun P' H' r' => ?_) fun i P' H' x H'' hi r' y => ?_⟩⟩
  · constructor
    · intro i H lt ⟨ys, e, el⟩
      exact (walk_list (xs := ys)).goes i H (by rw [el]; exact lt) (Evl.sq_of e)
    · intro H ⟨ys, e, el⟩
      rw [← el]
      exact (walk_list (xs := ys)).stops H (Evl.sq_of e)
    · intro i H x H' lt ⟨ys, e, el⟩ y
      obtain ⟨e1, e2⟩ := (walk_list (xs := ys)).yields i H x H' (by rw [el]; exact lt) (Evl.sq_of e) y
      exact ⟨e1, ys, e, e2⟩
  · obtain ⟨_, _, _, ys, hy, hd'⟩ := r'.sl.getO hn
    exact ⟨ys, hy, hd'.len⟩
  · obtain ⟨_, _, _, ys, hy, hd'⟩ := r'.sl.getO hn
    obtain ⟨rfl, zs, hz, e⟩ := y
    rw [hy] at hz
    cases hz
    obtain ⟨d, e4, h4⟩ := hd'.get' e
    exact ⟨P', d, .refl r'.ex, e4, h4⟩
theorem Rep.turnO {P H : Hp} {σ : L2.St} {a : Addr} {ys : List V} (r : Rep c P H σ es) (h0 : c.H0 a = none) (hP : P a = none) (na : a ∉ owns es) : Rep c P (upd H a (.lst ys)) σ es :=
  ⟨r.b, fun b o m h => by
    by_cases z : b = a
    · subst z; rw [h0] at h; cases h
    · rw [upd_ne z]; exact r.old b o m h, fun b h => by
    by_cases z : b = a
    · subst z; rw [upd_same] at h; cases h
    · rw [upd_ne z] at h; exact r.dom b h, fun b o h => by
    by_cases z : b = a
    · subst z; rw [hP] at h; cases h
    · rw [upd_ne z]; exact r.ex b o h, r.fr, r.sl.turn hP na, r.nd⟩
theorem grow_none {P H P' H' : Hp} {a : Addr} {o : HO} (g : Grow P H P' H') (h : P a = none) (hH : H a = some o) : P' a = none := by
  cases z : P' a with
  | none => rfl
  | some u =>
    rcases g.f _ _ z with w | w
    · rw [h] at w; cases w
    · rw [hH] at w; cases w
theorem kp_none {P H P' H' : Hp} {a : Addr} {o : HO} (g : Kp es P H P' H') (h : P a = none) (hH : H a = some o) : P' a = none := by
  cases z : P' a with
  | none => rfl
  | some u =>
    rcases g.f _ _ z with w | w
    · rw [h] at w; cases w
    · rw [hH] at w; cases w
theorem eo_lcR {wi : TI} {g : TG} {f : Dt → List Sv → List Sv} {vs : List Nat} {p : Dt → Bool} {fn : Dt → Dt} (hh : handsOf es = []) (h : WR c wi es l) (hl : l.length ≤ 1000000) (hg : ∀ P y, y ∈ l → TgD (c.at P) g (f y) vs y)
    (hf : ∀ y ∈ l, handsOf (f y (wipeE es vs)) = []) (ht : ∀ P, Low c P → ∀ y ∈ l, EBd (c.at P) tt (f y (wipeE es vs)) (p y)) (he : ∀ P, Low c P → ∀ y ∈ l, p y = true → ED (c.at P) te (f y (wipeE es vs)) (fn y)) :
    EO c (tLc wi g tt te vs) es (fun r => r = (l.filter p).map fn) := fun σ P H r Q q =>
  h σ P H r _ fun J P1 H1 G Y r1 e1 w hG hY => fun a ha => by
    have L : Low c P1 := r1.low
    have na := r1.fresh ha
    let Pv : Nat → Hp → Prop := fun i H => ∃ P xs, Rep (c.at P1) P H σ es ∧ Kp es P1 H1 P H ∧ P a = none ∧ H a = some (.lst xs) ∧ HasAll c.K P xs (((l.take i).filter p).map fn)
    have g0 := grow_own (o := .lst []) r1.ex ha
    refine lc_it w Pv ⟨P1, [], r1.at.step g0, .of g0, none_back r1.ex ha, upd_same, .nil⟩ (fun i H _ ⟨P, xs, r, _⟩ => hG P H r) (fun i x H H' hi ⟨P, xs, r, eH, hPa, hHa, hd⟩ y => ?_) fun H ⟨P, xs, r, eH, hPa, hHa, hd⟩ => ?_
    · obtain ⟨P', d, g', e, hx⟩ := hY i P H x H' hi r y
      have hm : d ∈ l := List.mem_of_getElem? e
      have r2 := r.step g'
      have tk : l.take (i + 1) = l.take i ++ [d] := by rw [List.take_add_one, e] <;> rfl
      refine hg P1 d hm x P' H' _ _ _ (r2.wipe vs) hx fun σ' hw r3 => ⟨by rw [hw]; exact wipe_wipe, ?_⟩
      refine ht P1 L d hm σ' P' H' r3 _ fun b P3 H3 hb r4 k4 => ?_
      have hPa' := grow_none g' hPa hHa
      have hHa' := g'.h _ _ hHa
      subst hb
      have g4 := k4.grow (hf d hm) r4.ex
      cases hp : p d with
      | false =>
        refine iteF ?_
        refine ⟨P3, xs, r2.step g4, (eH.trans (.of g')).trans (.of g4), grow_none g4 hPa' hHa', g4.h _ _ hHa', ?_⟩
        rw [tk, List.filter_append, List.filter_cons, if_neg (by rw [hp]; decide), List.filter_nil, List.append_nil]
        exact HasAll.mono (g'.p.trans g4.p) _ hd
      | true =>
        refine iteT ?_
        refine he P1 L d hm hp σ' P3 H3 r4 _ fun v P4 H4 dv hv r6 k6 hx6 => ?_
        subst hv
        have g7 := g4.trans (k6.grow (hf d hm) r6.ex)
        have len : xs.length ≤ l.length := by
          rw [hd.len, List.length_map]
          exact Nat.le_trans (List.length_filter_le _ _) (by rw [List.length_take]; omega)
        refine ⟨xs, g7.h _ _ hHa', Nat.lt_of_le_of_lt (Nat.le_trans len hl) (by decide), P4, xs ++ [v], (r2.step g7).turnO (r1.dom a ha) (grow_none g7 hPa' hHa') na, ((eH.trans (.of g')).trans (.of g7)).put ha, grow_none g7 hPa' hHa', upd_same, ?_⟩
        rw [tk, List.filter_append, List.filter_cons, if_pos hp, List.filter_nil, List.map_append]
        exact (HasAll.mono (g'.p.trans g7.p) _ hd).append (.cons hx6 .nil)
    · have et : l.take l.length = l := List.take_length
      rw [et] at hd
      have r' := L r
      exact q a P H _ rfl r' (e1.trans eH) na (e1.n a ha) ⟨.inl (r1.dom a ha), hPa, xs, hHa, hd⟩
/-- the item draws from a hand -/
theorem eo_lcH {wi : TI} {g : TG} {f : Dt → List Sv → List Sv} {vs : List Nat} {φ : Dt → Prop} {ad : Addr} {k : Nat} (hk : es[k]? = some (.hand ad)) (h : WR c wi es l) (hl : l.length ≤ 100000) (hg : ∀ P y, y ∈ l → TgD (c.at P) g (f y) vs y)
    (hf : ∀ y ∈ l, handsOf (f y (wipeE es vs)) = [ad] ∧ (f y (wipeE es vs))[k]? = some (.hand ad)) (he : ∀ P, Low c P → ∀ y ∈ l, EV (c.at P) te (f y (wipeE es vs)) φ) :
    EO c (tLc wi g tYes te vs) es (fun r => r.length = l.length ∧ ∀ d ∈ r, φ d) := fun σ P H r Q q =>
  h σ P H r _ fun J P1 H1 G Y r1 e1 w hG hY => fun a ha => by
    have L : Low c P1 := r1.low
    have na := r1.fresh ha
    have nad : a ≠ ad := fun z => na (by rw [z]; exact owns_mem (ds := []) (.inr hk))
    let Pv : Nat → Hp → Prop := fun i H => ∃ P xs ds, Rep (c.at P1) P H σ es ∧ Kp es P1 H1 P H ∧ P a = none ∧ H a = some (.lst xs) ∧ HasAll c.K P xs ds ∧ ds.length = i ∧ ∀ d ∈ ds, φ d
    have g0 := grow_own (o := .lst []) r1.ex ha
    refine lc_it w Pv ⟨P1, [], [], r1.at.step g0, .of g0, none_back r1.ex ha, upd_same, .nil, rfl, fun d m => by cases m⟩ (fun i H _ ⟨P, xs, ds, r, _⟩ => hG P H r) (fun i x H H' hi ⟨P, xs, ds, r, eH, hPa, hHa, hd, hn, hφ⟩ y => ?_) fun H ⟨P, xs, ds, r, eH, hPa, hHa, hd, hn, hφ⟩ => ?_
    · obtain ⟨P', d, g', e, hx⟩ := hY i P H x H' hi r y
      have hm : d ∈ l := List.mem_of_getElem? e
      have r2 := r.step g'
      obtain ⟨hf1, hf2⟩ := hf d hm
      refine hg P1 d hm x P' H' _ _ _ (r2.wipe vs) hx fun σ' hw r3 => ⟨by rw [hw]; exact wipe_wipe, ?_⟩
      have hPa' := grow_none g' hPa hHa
      have hHa' := g'.h _ _ hHa
      refine iteT (B := Pv (i + 1) H') ?_
      refine he P1 L d hm σ' P' H' r3 _ fun v P4 H4 dv hv r6 k6 hx6 => ?_
      obtain ⟨_, hs, ok, n1, n2, us, hu, hud⟩ := r6.sl.getH hf2
      have kk : ∀ b o, b ≠ ad → H' b = some o → H4 b = some o := fun b o ne h => k6.k b o (by rw [hf1]; exact fun m => ne (List.mem_singleton.mp m)) h
      have r7 : Rep (c.at P1) P4 H4 σ es := r2.hands hk k6.p kk k6.n r6.ex k6.f n2 hu hud ok
      have hPa4 : P4 a = none := kp_none k6 hPa' hHa'
      have K4 : Kp es P' H' P4 H4 := ⟨k6.p, fun b o n h => kk b o (fun z => n (by rw [z]; exact hands_mem hk)) h, k6.n, k6.f⟩
      refine ⟨xs, kk a _ nad hHa', Nat.lt_of_le_of_lt (show xs.length ≤ 100000 by rw [hd.len, hn]; omega) (by decide), P4, xs ++ [v], ds ++ [dv], r7.turnO (r1.dom a ha) hPa4 na, ((eH.trans (.of g')).trans K4).put ha, hPa4, upd_same, (HasAll.mono (g'.p.trans k6.p) _ hd).append (.cons hx6 .nil), by rw [List.length_append, hn] <;> rfl, fun z m => ?_⟩
      rcases List.mem_append.mp m with m | m
      · exact hφ z m
      · cases List.mem_singleton.mp m; exact hv
    · exact q a P H ds ⟨hn, hφ⟩ (L r) (e1.trans eH) na (e1.n a ha) ⟨.inl (r1.dom a ha), hPa, xs, hHa, hd⟩
/-- a fresh list handed on as data where one draws from a hand -/
theorem ev_giveH {ρ : List Dt → Prop} {ad : Addr} {k : Nat} (hm : c.mu = [ad]) (hk : es[k]? = some (.hand ad)) (h : EO c te es ρ) : EV c te es (fun z => ∃ l, z = .lst l ∧ ρ l) := fun σ P H r Q q =>
  h σ P H r _ fun l P1 H1 ds hρ r1 e1 hn h0 ⟨m1, m2, xs, hx, hd⟩ => by
    have m0 : c.H0 l = none := m1.elim id fun z => by
      rw [hm] at z
      cases List.mem_singleton.mp z
      exact (hn (owns_mem (ds := []) (.inr hk))).elim
    exact q _ _ _ _ ⟨ds, rfl, hρ⟩ (r1.give hn m0 m2 hx) (e1.give h0 m2) (.lst (Evl.sq_of upd_same) (HasAll.mono (Ex.new m2) _ hd))
theorem own_gone {a : Addr} {ds : List Dt} : ∀ {es : List Sv} {n : Nat}, (owns es).Nodup → es[n]? = some (.own a ds) → a ∉ owns (es.set n .no)
  | [], _, _, e => by simp at e
  | s :: es, 0, nd, e => by
    cases Option.some.inj e
    exact (List.nodup_cons.mp nd).1
  | s :: es, n + 1, nd, e => by
    have e' : es[n]? = some (.own a ds) := by simpa using e
    cases s with
    | no => exact own_gone (es := es) nd e'
    | dat _ => exact own_gone (es := es) nd e'
    | own b _ =>
      have nd' := List.nodup_cons.mp (show (b :: owns es).Nodup from nd)
      intro m
      rcases List.mem_cons.mp (show a ∈ b :: owns (es.set n .no) from m) with z | z
      · exact nd'.1 (by rw [← z]; exact owns_mem (.inl e'))
      · exact own_gone nd'.2 e' z
    | hand b =>
      have nd' := List.nodup_cons.mp (show (b :: owns es).Nodup from nd)
      intro m
      rcases List.mem_cons.mp (show a ∈ b :: owns (es.set n .no) from m) with z | z
      · exact nd'.1 (by rw [← z]; exact owns_mem (ds := ds) (.inl e'))
      · exact own_gone nd'.2 e' z
    | gen b ins _ =>
      have nd' := List.nodup_append.mp (show ((b :: ins) ++ owns es).Nodup from nd)
      intro m
      rcases List.mem_append.mp (show a ∈ (b :: ins) ++ owns (es.set n .no) from m) with z | z
      · exact nd'.2.2 a z a (owns_mem (ds := ds) (.inl e')) rfl
      · exact own_gone nd'.2.1 e' z
theorem c_giveH {k : L2.St → Hp → Prop} {ad : Addr} {j : Nat} {a : Addr} {ds : List Dt} (hn : es[n]? = some (.own a ds)) (hk : es[j]? = some (.hand ad)) (hm : c.mu = [ad]) (h : Cont c k (es.set n (.dat (.lst ds)))) : Cont c k es := fun σ P H r => by
  obtain ⟨e0, m1, m2, xs, hx, hd⟩ := r.sl.getO hn
  have m0 : c.H0 a = none := m1.elim id fun z => by
    rw [hm] at z
    cases List.mem_singleton.mp z
    exact (own_hand hn r.nd (hands_mem hk)).elim
  have r2 := (r.drop (o := none) n).give (own_gone r.nd hn) m0 m2 hx
  have r3 := r2.put n (v := .ref a) (d := .lst ds) (.lst (Evl.sq_of upd_same) (HasAll.mono (Ex.new m2) _ hd))
  rw [List.set_set, List.set_set] at r3
  have e1 : σ.set n (some (.ref a)) = σ := by
    obtain ⟨hl, hv⟩ := List.getElem?_eq_some_iff.mp e0
    rw [← hv]
    exact List.set_getElem_self hl
  rw [e1] at r3
  exact h σ _ H r3
/-- own lists compared, looked into -/
theorem own_dp {P H : Hp} {σ : L2.St} {a : Addr} (r : Rep c P H σ es) (hn : es[n]? = some (.own a l)) (hb : bareAll l = true) : Dp c.K H (.ref a) (.list (pyAll l)) := by
  obtain ⟨_, _, _, xs, hx, hd⟩ := r.sl.getO hn
  exact .lst (Evl.sq_of hx) (HasAll.dp l (HasAll.mono r.ex _ hd) hb)
theorem ed_inO {a : Addr} (ha : ED c ta es x) (hn : es[n]? = some (.own a l)) (hx : fine x = true) (hy : fine (.lst l) = true) : ED c (tOp (rInD c.K) ta (tVar n)) es (.bl (l.any fun y => eqv y x)) := fun σ P H r Q q =>
  ha σ P H r _ fun v P1 H1 z hz r1 e1 h1 => by
    subst hz
    refine ⟨_, (r1.sl.getO hn).1, py z, pyAll l, Has.dp z (Has.mono r1.ex _ h1) (fine_bare hx), own_dp r1 hn (fine_bare hy), fine_shaped hx, fine_shaped hy, ?_⟩
    rw [any_eqv]
    exact q _ P1 H1 _ rfl r1 e1 (.bl _)
theorem ed_notInO {a : Addr} (ha : ED c ta es x) (hn : es[n]? = some (.own a l)) (hx : fine x = true) (hy : fine (.lst l) = true) : ED c (tOp (rNotInD c.K) ta (tVar n)) es (.bl (!l.any fun y => eqv y x)) := fun σ P H r Q q =>
  ha σ P H r _ fun v P1 H1 z hz r1 e1 h1 => by
    subst hz
    refine ⟨_, (r1.sl.getO hn).1, py z, pyAll l, Has.dp z (Has.mono r1.ex _ h1) (fine_bare hx), own_dp r1 hn (fine_bare hy), fine_shaped hx, fine_shaped hy, ?_⟩
    rw [any_eqv]
    exact q _ P1 H1 _ rfl r1 e1 (.bl _)
theorem ed_neO {a : Addr} (hn : es[n]? = some (.own a l)) (hb : EO c tb es (fun r => r = m)) (hx : fine (.lst l) = true) (hy : fine (.lst m) = true) : ED c (tOp (rNeD c.K) (tVar n) tb) es (.bl (!eqv (.lst l) (.lst m))) := fun σ P H r Q q => by
  refine ⟨_, (r.sl.getO hn).1, hb σ P H r _ fun b P1 H1 ds hd r1 e1 hb1 h0 ⟨m1, m2, ys, hy1, hy2⟩ => ?_⟩
  subst hd
  refine ⟨.list (pyAll l), .list (pyAll ds), own_dp r1 hn (fine_bare hx), .lst (Evl.sq_of hy1) (HasAll.dp ds (HasAll.mono r1.ex _ hy2) (fine_bare hy)), fine_shaped hx, fine_shaped hy, q _ P1 H1 _ rfl r1 e1 (.bl _)⟩
abbrev rInsert : V → List V → Hp → VK → Prop := fun x vs H Q => ∃ (l : Addr) (xs : List V) (i : Int) (y : V), x = .ref l ∧ vs = [.int i, y] ∧ H l = some (.lst xs) ∧ xs.length < sizeLine ∧ 0 ≤ i ∧ i < 2 ^ 63 ∧ Q .non (upd H l (.lst (xs.take i.toNat ++ [y] ++ xs.drop i.toNat)))
theorem s_ins {a : Addr} {ds : List Dt} {k : Nat} (h0 : es[n]? = some (.own a ds)) (h : EDs c ts es [.int k, d]) (hk : k ≤ ds.length) (hz : ds.length < 100000) (q : Cont c D.nx (es.set n (.own a (ds.take k ++ [d] ++ ds.drop k)))) :
    Cont c (tDrop (tBM c.K "list" rInsert (tVar n) ts) D) es := fun σ P H r0 => by
  obtain ⟨e0, _, _, xs, hx, hd⟩ := r0.sl.getO h0
  refine ⟨_, e0, .inl ⟨rfl, xs, Evl.sq_of hx⟩, h σ P H r0 _ fun vs P1 H1 l hl r1 e1 h1 => ?_⟩
  subst hl
  cases h1 with
  | cons a1 h1 =>
    cases h1 with
    | cons a2 h1 =>
      cases h1
      cases a1
      obtain ⟨_, _, _, ys, hy, hd⟩ := r1.sl.getO h0
      have hlt : ys.length < 100000 := by rw [hd.len]; exact hz
      refine ⟨a, ys, k, _, rfl, rfl, hy, Evl.sz_lt hlt, by omega, ?_, q _ P1 _ (r1.change h0 ?_)⟩
      · have : (2 : Int) ^ 63 = 9223372036854775808 := rfl
        omega
      · exact ((HasAll.take k hd).append (.cons a2 .nil)).append (HasAll.drop k hd)
theorem s_ext {a : Addr} {ds : List Dt} {ρ : List Dt → Prop} (h0 : es[n]? = some (.own a ds)) (h : EO c te es ρ) (hz : ∀ l, ρ l → ds.length + l.length ≤ 100000) (k : ∀ l, ρ l → Cont c (u D) (es.set n (.own a (ds ++ l)))) :
    Cont c (tSeq (tDrop (tBM c.K "list" rExtend (tVar n) (tCons te tNil))) u D) es := c_seq fun σ P H r => by
  obtain ⟨e0, _, _, xs, hx, hd⟩ := r.sl.getO h0
  refine ⟨_, e0, .inl ⟨rfl, xs, Evl.sq_of hx⟩, h σ P H r _ fun b P1 H1 l hl r1 e1 hb h00 ⟨m1, m2, zs, hz1, hz2⟩ => ?_⟩
  obtain ⟨_, _, _, ys, hy, hd⟩ := r1.sl.getO h0
  exact ⟨a, b, ys, zs, rfl, rfl, hy, hz1, Evl.sz_of (by rw [hd.len, hz2.len]; exact hz l hl), k l hl _ P1 _ (r1.change h0 (hd.append hz2))⟩
/-! two sources -/
theorem eo_lc2 {wi wi1 : TI} {g g1 : TG} {f f1 : Dt → List Sv → List Sv} {vs vs1 : List Nat} {lz : Dt → List Dt} {fn : Dt → Dt → Dt} (h : WI c wi es l) (hl : (l.flatMap fun y => (lz y).map (fn y)).length ≤ 100000)
    (hg : ∀ P y, y ∈ l → TgD (c.at P) g (f y) vs y) (hf : ∀ y ∈ l, handsOf (f y (wipeE es vs)) = [] ∧ ∀ x ∈ owns (f y (wipeE es vs)), x ∈ owns es)
    (h1 : ∀ P, Low c P → ∀ y ∈ l, WI (c.at P) wi1 (f y (wipeE es vs)) (lz y)) (hg1 : ∀ P y z, y ∈ l → z ∈ lz y → TgD (c.at P) g1 (f1 z) vs1 z)
    (hf1 : ∀ y ∈ l, ∀ z ∈ lz y, handsOf (f1 z (wipeE (f y (wipeE es vs)) vs1)) = [])
    (he : ∀ P, Low c P → ∀ y ∈ l, ∀ z ∈ lz y, ED (c.at P) te (f1 z (wipeE (f y (wipeE es vs)) vs1)) (fn y z)) :
    EO c (tLc2 wi g tYes wi1 g1 tYes te vs vs1) es (fun r => r = l.flatMap fun y => (lz y).map (fn y)) := fun σ P H r Q q =>
  h σ P H r _ fun J P1 H1 G Y r1 e1 w hG hY => fun a ha => by
    have L : Low c P1 := r1.low
    have na := r1.fresh ha
    let res : Nat → List Dt := fun i => (l.take i).flatMap fun y => (lz y).map (fn y)
    let Pv : Nat → Hp → Prop := fun i H => ∃ P xs, Rep (c.at P1) P H σ es ∧ Kp es P1 H1 P H ∧ P a = none ∧ H a = some (.lst xs) ∧ HasAll c.K P xs (res i)
    have g0 := grow_own (o := .lst []) r1.ex ha
    refine ⟨fun i m H => m = l.length - i ∧ i ≤ l.length ∧ Pv i H, ⟨_, rfl, Nat.zero_le _, P1, [], r1.at.step g0, .of g0, none_back r1.ex ha, upd_same, .nil⟩, ?_⟩
    rintro i m H ⟨rfl, hi, P, xs, r, eH, hPa, hHa, hd⟩
    have q0 := hG P H r.b r.ex
    by_cases lt : i < l.length
    · refine .inr ⟨w.goes i H lt q0, Pv (i + 1), fun H' p => ⟨l.length - (i + 1), by omega, rfl, lt, p⟩, fun x H' y => ?_⟩
      obtain ⟨P', d, g', e, hx⟩ := hY i P H x H' lt r.b r.ex (w.yields i H x H' lt q0 y)
      have hm : d ∈ l := List.mem_of_getElem? e
      have r2 := r.step g'
      obtain ⟨hf2, hf3⟩ := hf d hm
      refine hg P1 d hm x P' H' _ _ _ (r2.wipe vs) hx fun σ2 hw r3 => ⟨by rw [hw]; exact wipe_wipe, ?_⟩
      refine iteT (B := Pv (i + 1) H') ?_
      refine h1 P1 L d hm σ2 P' H' r3 _ fun J1 P2 H2 G1 Y1 r4 e4 w1 hG1 hY1 => ?_
      have gA : Grow P' H' P2 H2 := e4.grow hf2 r4.ex
      have hPa' := grow_none g' hPa hHa
      have hHa' := g'.h _ _ hHa
      have na2 : a ∉ owns (f d (wipeE es vs)) := fun z => na (hf3 a z)
      let Pw : Nat → Hp → Prop := fun j H => ∃ P xs, Rep (c.at P1) P H σ2 (f d (wipeE es vs)) ∧ Rep (c.at P1) P H σ es ∧ Kp es P1 H1 P H ∧ Ex P2 P ∧ P a = none ∧ H a = some (.lst xs) ∧ HasAll c.K P xs (res i ++ ((lz d).take j).map (fn d))
      refine ⟨fun j k H => k = (lz d).length - j ∧ j ≤ (lz d).length ∧ Pw j H, ⟨_, rfl, Nat.zero_le _, P2, xs, r4, r2.step gA, (eH.trans (.of g')).trans (.of gA), .refl P2, grow_none gA hPa' hHa', gA.h _ _ hHa', ?_⟩, ?_⟩
      · rw [List.take_zero, List.map_nil, List.append_nil]
        exact HasAll.mono (g'.p.trans gA.p) _ hd
      have rs : res (i + 1) = res i ++ (lz d).map (fn d) := by
        show (l.take (i + 1)).flatMap _ = _
        rw [List.take_add_one, e, Option.toList_some, List.flatMap_append, List.flatMap_cons, List.flatMap_nil, List.append_nil]
      have rl : ∀ k, (res k).length ≤ 100000 := fun k => by
        refine Nat.le_trans ?_ hl
        show ((l.take k).flatMap _).length ≤ _
        conv => rhs; rw [← List.take_append_drop k l]
        rw [List.flatMap_append, List.length_append]
        omega
      rintro j k H3 ⟨rfl, hj, P3, ys, s1, s2, eK, eP, hPa3, hHa3, hd3⟩
      have q1 := hG1 P3 H3 eP s1.ex
      by_cases lt1 : j < (lz d).length
      · refine .inr ⟨w1.goes j H3 lt1 q1, Pw (j + 1), fun H' p => ⟨(lz d).length - (j + 1), by omega, rfl, lt1, p⟩, fun x1 H4 y1 => ?_⟩
        obtain ⟨P4, z, g3, ez, hz⟩ := hY1 j P3 H3 x1 H4 lt1 eP s1.ex (w1.yields j H3 x1 H4 lt1 q1 y1)
        have hmz : z ∈ lz d := List.mem_of_getElem? ez
        refine hg1 P1 d z hm hmz x1 P4 H4 _ _ _ ((s1.step g3).wipe vs1) hz fun σ3 hw3 r5 => ⟨by rw [hw3]; exact wipe_wipe, ?_⟩
        refine iteT (B := Pw (j + 1) H4) ?_
        refine he P1 L d hm z hmz σ3 P4 H4 r5 _ fun v P5 H5 dv hv r6 k6 hx6 => ?_
        subst hv
        have gg := g3.trans (k6.grow (hf1 d hm z hmz) r6.ex)
        have hPa5 := grow_none gg hPa3 hHa3
        have len : ys.length < 100000 := by
          have h3 := rl (i + 1)
          rw [rs, List.length_append, List.length_map] at h3
          rw [hd3.len, List.length_append, List.length_map, List.length_take]
          omega
        refine ⟨ys, gg.h _ _ hHa3, Evl.sz_lt len, P5, ys ++ [v], (s1.step gg).turnO (r1.dom a ha) hPa5 na2, (s2.step gg).turnO (r1.dom a ha) hPa5 na, (eK.trans (.of gg)).put ha, eP.trans gg.p, hPa5, upd_same, ?_⟩
        have tk : ((lz d).take (j + 1)).map (fn d) = ((lz d).take j).map (fn d) ++ [fn d z] := by rw [List.take_add_one, ez, Option.toList_some, List.map_append] <;> rfl
        rw [tk, ← List.append_assoc]
        exact (HasAll.mono gg.p _ hd3).append (.cons hx6 .nil)
      · have ej : j = (lz d).length := by omega
        subst ej
        rw [List.take_length, ← rs] at hd3
        exact .inl ⟨w1.stops H3 q1, P3, ys, s2, eK, hPa3, hHa3, hd3⟩
    · have ei : i = l.length := by omega
      subst ei
      have hd' : HasAll c.K P xs (l.flatMap fun y => (lz y).map (fn y)) := by
        have e : res l.length = l.flatMap fun y => (lz y).map (fn y) := by
          show (l.take l.length).flatMap _ = _
          rw [List.take_length]
        rw [← e]
        exact hd
      exact .inl ⟨w.stops H q0, q a P H _ rfl (L r) (e1.trans eH) na (e1.n a ha) ⟨.inl (r1.dom a ha), hPa, xs, hHa, hd'⟩⟩
theorem tg_three {n1 n2 n3 : Nat} {x1 x2 x3 : Dt} : TgD c (gTup c.K 3 (gCons (gName n1) (gCons (gName n2) (gCons (gName n3) gNil)))) (fun es => ((es.set n1 (.dat x1)).set n2 (.dat x2)).set n3 (.dat x3)) [n1, n2, n3] (.tup [x1, x2, x3]) := fun v P H σ es Q r h q => by
  cases h with
  | tup s h1 =>
    cases h1 with
    | cons a h1 =>
      cases h1 with
      | cons b h1 =>
        cases h1 with
        | cons e h1 =>
          cases h1
          exact ⟨_, _, rfl, Evl.ex_t r.ex s, rfl, _, _, rfl, _, _, rfl, _, _, rfl, rfl, q _ (by rw [wipe_mem (by simp), wipe_mem (by simp), wipe_mem (by simp)]) (((r.put n1 a).put n2 b).put n3 e)⟩
theorem eo_if {b : Bool} {ρ : List Dt → Prop} (h : EBd c tt es b) (h1 : b = true → EO c ta es ρ) (h2 : b = false → EO c tb es ρ) : EO c (tIf tt ta tb) es ρ := fun σ P H r Q q =>
  h σ P H r _ fun a P1 H1 z r1 e1 => by
    subst z
    cases a with
    | true => exact iteT (h1 rfl σ P1 H1 r1 _ fun l P2 H2 ds hd r2 e2 n1 n2 m => q l P2 H2 ds hd r2 (e1.trans e2) n1 (e1.n l n2) m)
    | false => exact iteF (h2 rfl σ P1 H1 r1 _ fun l P2 H2 ds hd r2 e2 n1 n2 m => q l P2 H2 ds hd r2 (e1.trans e2) n1 (e1.n l n2) m)
/-! an error with two fields, told -/
theorem pairs_two {f g : Str} {fs : List (Str × V)} (h : fs.map (·.1) = [g, f]) : ∃ u v, fs = [(g, u), (f, v)] := by
  match fs, h with
  | [(_, u), (_, v)], h =>
    have e := List.cons.inj h
    exact ⟨u, v, by rw [← e.1, ← (List.cons.inj e.2).1]⟩
  | [], h => cases h
  | [_], h => cases (List.cons.inj h).2
  | _ :: _ :: _ :: _, h => cases (List.cons.inj (List.cons.inj h).2).2
theorem c_tryR2 {ds : List Dt} {R : List Dt → Out → Prop} {C : Addr} {f g : Str} {i : Nat} {Wout : WX} (hfg : (f == g) = false) (h : EDs c ts es ds) (hi : i < es.length) (hm : PySem.W.exmOne c.K (.ref C) (.ref C) = some true) (hR : ∃ o, R ds o) (hok : ∀ d, R ds (.ok d) → Cont c D.nx es)
    (hex : ∀ C' ns fd, R ds (.ex C' ns fd) → C' = C ∧ ns = [g, f] ∧ ∃ y x, fd = [y, x] ∧ RetD c D.rt (fun z => z = .tup [x, y])) :
    Cont c ((fun D σ H => (fun W => tDrop (tCallS (spX c.K R) (WE W) ts)) (wAs c.K (.ref C) i (fun a cls d => tRet (tTup (tCons (tXf a cls d C f (tVar i)) (tCons (tXf a cls d C g (tVar i)) tNil)))) Wout D) D σ H) D) es := fun σ P H r =>
  h σ P H r _ fun vs P1 H1 l hl r1 e1 h1 => by
    subst hl
    refine ⟨P1, l, r1.ex, h1, hR, fun v P2 H2 d hr g hv => hok d hr _ P2 H2 (r1.step g), fun dx P2 H2 C' fs fd hr gr h0 hP hx hf => ?_⟩
    obtain ⟨rfl, hn, y, x, rfl, k⟩ := hex _ _ _ hr
    obtain ⟨u, v, rfl⟩ := pairs_two hn
    cases hf with
    | cons hy hf =>
      cases hf with
      | cons hx1 _ =>
        refine ⟨true, hm, fun _ a ha => ?_, fun z => by cases z⟩
        have r3 := (r1.step gr).drop (o := some (.ref a)) i
        have sa : (σ.set i (some (V.ref a)))[i]? = some (some (.ref a)) := List.getElem?_set_self (by rw [r1.sl.len]; exact hi)
        refine ⟨.ref a, sa, rfl, rfl, dx, _, v, rfl, hx, ?_, .ref a, sa, rfl, rfl, dx, _, u, rfl, hx, ?_, ?_⟩
        · show ([(g, u), (f, v)] : List (Str × V)).lookup f = some v
          rw [List.lookup_cons, hfg, List.lookup_cons, beq_self_eq_true]
        · show ([(g, u), (f, v)] : List (Str × V)).lookup g = some u
          rw [List.lookup_cons, beq_self_eq_true]
        · refine ⟨(by show 2 ≤ sizeLine; decide), fun p hp => ?_⟩
          have g5 := grow_new (o := .tup [v, u]) r3.ex hp
          exact k _ _ _ _ _ _ rfl (r3.step g5) (.tup (Evl.st_of upd_same) (.cons (Has.mono g5.p _ hx1) (.cons (Has.mono g5.p _ hy) .nil)))
end
end My
set_option Elab.async false
set_option linter.all false
set_option maxRecDepth 100000
set_option maxHeartbeats 4000000
/-! Sd: the sorted list of a set of pairs, its length; over data. -/
namespace My
open PySem PySem.Spec PyProof.Rows L2
open Evl (Ex)
/-! pairs in order -/
abbrev ltC (p q : Int × Int) : Bool := SrtO.lexB p q
theorem ltC_iff {p q : Int × Int} : ltC p q = true ↔ p.1 < q.1 ∨ (p.1 = q.1 ∧ p.2 < q.2) := SrtO.lexB_iff
theorem ltC_trans {p q r : Int × Int} (h : ltC p q = true) (k : ltC q r = true) : ltC p r = true := by
  rw [ltC_iff] at *
  omega
theorem ltC_irr (p : Int × Int) : ltC p p = false := by
  cases h : ltC p p with
  | false => rfl
  | true =>
    rw [ltC_iff] at h
    omega
theorem ltC_or {p q : Int × Int} (h : ltC p q = false) (n : p ≠ q) : ltC q p = true := by
  rw [ltC_iff]
  have h2 : ¬ (p.1 < q.1 ∨ (p.1 = q.1 ∧ p.2 < q.2)) := fun z => by rw [ltC_iff.mpr z] at h; cases h
  have h3 : ¬ (p.1 = q.1 ∧ p.2 = q.2) := fun z => n (Prod.ext z.1 z.2)
  omega
def insC (p : Int × Int) : List (Int × Int) → List (Int × Int)
  | [] => [p]
  | q :: l => if ltC p q = true then p :: q :: l else if p = q then q :: l else q :: insC p l
/-- the unlike pairs of a list, ascending -/
def ascC (l : List (Int × Int)) : List (Int × Int) := l.foldr insC []
abbrev AscC (l : List (Int × Int)) : Prop := l.Pairwise fun p q => ltC p q = true
theorem mem_insC {p x : Int × Int} : ∀ {l : List (Int × Int)}, x ∈ insC p l ↔ x = p ∨ x ∈ l
  | [] => by simp [insC]
  | q :: l => by
    unfold insC
    split
    · exact List.mem_cons
    · split
      · rename_i _ e
        rw [e, List.mem_cons]
        exact ⟨.inr, fun z => z.elim .inl id⟩
      · rw [List.mem_cons, List.mem_cons, mem_insC]
        exact ⟨fun z => z.elim (fun e => .inr (.inl e)) fun z => z.elim .inl fun z => .inr (.inr z), fun z => z.elim (fun e => .inr (.inl e)) fun z => z.elim .inl fun z => .inr (.inr z)⟩
theorem asc_insC {p : Int × Int} : ∀ {l : List (Int × Int)}, AscC l → AscC (insC p l)
  | [], _ => List.pairwise_singleton _ _
  | q :: l, h => by
    obtain ⟨h1, h2⟩ := List.pairwise_cons.mp h
    unfold insC
    split
    · rename_i c
      refine List.pairwise_cons.mpr ⟨fun x hx => ?_, h⟩
      rcases List.mem_cons.mp hx with e | hx
      · rw [e]; exact c
      · exact ltC_trans c (h1 x hx)
    · split
      · exact h
      · rename_i c e
        refine List.pairwise_cons.mpr ⟨fun x hx => ?_, asc_insC h2⟩
        rcases mem_insC.mp hx with z | z
        · rw [z]
          exact ltC_or (by simpa using c) e
        · exact h1 x z
theorem mem_ascC {x : Int × Int} : ∀ {l : List (Int × Int)}, x ∈ ascC l ↔ x ∈ l
  | [] => Iff.rfl
  | p :: l => by
    show x ∈ insC p (ascC l) ↔ _
    rw [mem_insC, mem_ascC, List.mem_cons]
theorem asc_ascC : ∀ (l : List (Int × Int)), AscC (ascC l)
  | [] => List.Pairwise.nil
  | p :: l => asc_insC (asc_ascC l)
theorem AscC.nodup {l : List (Int × Int)} (h : AscC l) : l.Nodup := h.imp fun {a b} z e => by
  rw [e, ltC_irr] at z
  cases z
/-- ascending lists of the same pairs are one -/
theorem AscC.one : ∀ {l m : List (Int × Int)}, AscC l → AscC m → (∀ x, x ∈ l ↔ x ∈ m) → l = m
  | [], [], _, _, _ => rfl
  | [], q :: m, _, _, h => absurd ((h q).mpr List.mem_cons_self) List.not_mem_nil
  | p :: l, [], _, _, h => absurd ((h p).mp List.mem_cons_self) List.not_mem_nil
  | p :: l, q :: m, hl, hm, h => by
    obtain ⟨l1, l2⟩ := List.pairwise_cons.mp hl
    obtain ⟨m1, m2⟩ := List.pairwise_cons.mp hm
    have e : p = q := by
      rcases List.mem_cons.mp ((h p).mp List.mem_cons_self) with e | z
      · exact e
      · rcases List.mem_cons.mp ((h q).mpr List.mem_cons_self) with e | y
        · exact e.symm
        · have := ltC_trans (m1 p z) (l1 q y)
          rw [ltC_irr] at this
          cases this
    subst e
    refine congrArg (p :: ·) (AscC.one l2 m2 fun x => ⟨fun hx => ?_, fun hx => ?_⟩)
    · rcases List.mem_cons.mp ((h x).mp (List.mem_cons_of_mem _ hx)) with e | z
      · have := l1 x hx
        rw [e, ltC_irr] at this
        cases this
      · exact z
    · rcases List.mem_cons.mp ((h x).mpr (List.mem_cons_of_mem _ hx)) with e | z
      · have := m1 x hx
        rw [e, ltC_irr] at this
        cases this
      · exact z
theorem ascC_of {l m : List (Int × Int)} (h : AscC l) (k : ∀ x, x ∈ l ↔ x ∈ m) : l = ascC m := h.one (asc_ascC m) fun x => (k x).trans mem_ascC.symm
theorem ascC_self {l : List (Int × Int)} (h : AscC l) : ascC l = l := (ascC_of h fun _ => Iff.rfl).symm
theorem ascC_congr {l m : List (Int × Int)} (h : ∀ x, x ∈ l ↔ x ∈ m) : ascC l = ascC m := ascC_of (asc_ascC l) fun x => mem_ascC.trans (h x)
/-! the machine's side -/
def prI : List Int → Int × Int
  | [x, y] => (x, y)
  | _ => (0, 0)
def ofP (p : Int × Int) : List Int := [p.1, p.2]
theorem prI_ofP (p : Int × Int) : prI (ofP p) = p := rfl
section
variable {P : Program} {w : World} {A : Around} {E : Value → Shared → Prop} {s : Shared} {a : Addr} {L : List (Addr × List Int)} {es : Array (Int × Value)} {ep : Nat} {t : SetTable}
theorem isPair_of {h : Heap} {b : Addr} {x y : Int} (q : IsT P w h [x, y] b) : Srt.IsPair h (.ref b) x y := by
  obtain ⟨o, items, n, ho, hc, hd, hi⟩ := q
  obtain ⟨items⟩ := items
  cases hi with
  | @cons _ v1 _ _ i1 i2 =>
  cases i2 with
  | @cons _ v2 _ _ i2 i3 =>
  cases i3
  obtain ⟨t1, e1⟩ := Value.isInt_shape i1
  obtain ⟨t2, e2⟩ := Value.isInt_shape i2
  refine ⟨b, o, t1, t2, n, rfl, ho, hc, ?_⟩
  rw [hd, ← e1, ← e2]
/-- sorted(s), s a set of pairs -/
theorem sorted_setG {Q : Value → Shared → Prop} (R : SetG (tupK P w) s.heap a L es ep t) (hh : A.handled = none) (h2 : ∀ p ∈ L, ∃ x y, p.2 = [x, y])
    (hQ : ∀ s' p (out : Array Value) (c : Nat) (L' : List (Addr × List Int)), (∀ b o, s.heap.get? b = some o → s'.heap.get? b = some o) → s'.gens = s.gens → s'.os = s.os → s.heap.objs.size ≤ p →
      s'.heap.get? p = some (seqObj "list" out c) → out.toList = L'.map (fun q => Value.ref q.1) → L'.Perm L → L'.Pairwise (fun q r => ltC (prI r.2) (prI q.2) = false) → Q (.ref p) s') :
    wpAny (model P w) A (call (.builtin "sorted") [.ref a]) Q E s := by
  obtain ⟨o, ho, hex, hd⟩ := R.ob
  have hsz := R.size
  have hfew := R.few
  refine Calls.call_function_entry kind_sorted plain_sorted entry_sorted (args_sorted1 _) ?_
  unfold Builtin.«sorted»
  refine wpAny_bind (m := checkCount "sorted" 1 1 _) (wpAny_pure ?_)
  refine wpAny_bind (collect_set (A := A.in1) hh ⟨o, ho, hex.1, hd⟩ R.fits (by rw [hsz]; exact Nat.lt_of_lt_of_le hfew (by decide)) R.tab.asc R.led fun s1 vs k1 hz g1 o1 pm => ?_)
  have hes : es.toList.map (·.2) = L.map fun q => Value.ref q.1 := by
    rw [R.rows, List.map_map]
    rfl
  rw [hes] at pm
  have one : ∀ q ∈ L, ∀ r ∈ L, q.1 = r.1 → q = r := fun q hq r hr e => Prod.ext e ((tupK P w).inj (h := s.heap) (b := q.1) (R.mem q hq) (e ▸ R.mem r hr))
  have back : ∀ vs : List Value, (∀ v ∈ vs, v ∈ L.map fun q => Value.ref q.1) → ∃ L1 : List (Addr × List Int), vs = L1.map (fun q => Value.ref q.1) ∧ ∀ q ∈ L1, q ∈ L := by
    intro vs
    induction vs with
    | nil => exact fun _ => ⟨[], rfl, fun q hq => (by cases hq)⟩
    | cons v vs ih =>
      intro hv
      obtain ⟨q, hq, e⟩ := List.mem_map.mp (hv v List.mem_cons_self)
      obtain ⟨L1, e1, hs⟩ := ih fun u hu => hv u (List.mem_cons_of_mem _ hu)
      exact ⟨q :: L1, by rw [List.map_cons, e, e1], fun r hr => (List.mem_cons.mp hr).elim (fun z => z ▸ hq) (hs r)⟩
  have nref : (L.map fun q => Value.ref q.1).Nodup := by
    refine List.pairwise_map.mpr (List.Pairwise.imp_of_mem (fun {q r} hq hr hne e => ?_) (nodup_of_map R.nd))
    injection e with e
    exact hne (one q hq r hr e)
  have perm_of : ∀ L1 : List (Addr × List Int), (∀ q ∈ L1, q ∈ L) → (L1.map (fun q => Value.ref q.1)).Perm (L.map fun q => Value.ref q.1) → L1.Perm L := by
    intro L1 hs pm1
    refine (List.perm_ext_iff_of_nodup (nodup_of_map (pm1.nodup_iff.mpr nref)) (nodup_of_map R.nd)).mpr fun q => ⟨hs q, fun hq => ?_⟩
    obtain ⟨r, hr, e⟩ := List.mem_map.mp (pm1.mem_iff.mpr (List.mem_map.mpr ⟨q, hq, rfl⟩))
    injection e with e
    exact one r (hs r hr) q hq e ▸ hr
  have hvl : vs.length < 4000 := by rw [pm.length_eq, List.length_map]; exact hfew
  have hvz : vs.length ≤ sizeLine := by rw [sizeLine_eq]; omega
  -- what a value tells
  let k : Value → Int × Int := fun v => prI (((L.find? fun q => decide (Value.ref q.1 = v)).map (·.2)).getD [])
  have hk : ∀ q ∈ L, k (.ref q.1) = prI q.2 := fun q hq => by
    show prI (((L.find? fun r => decide (Value.ref r.1 = Value.ref q.1)).map (·.2)).getD []) = prI q.2
    cases hf : L.find? fun r => decide (Value.ref r.1 = Value.ref q.1) with
    | none =>
      have z := List.find?_eq_none.mp hf q hq
      simp at z
    | some r =>
      have hr := List.mem_of_find?_eq_some hf
      have e : Value.ref r.1 = Value.ref q.1 := by simpa using List.find?_some hf
      injection e with e
      rw [one r hr q hq e]
      rfl
  refine wpAny_bind (wpAny_newList ?_ hvz)
  have hoL : (s1.heap.push (seqObj "list" vs.toArray 0)).get? s1.heap.objs.size = some (seqObj "list" vs.toArray 0) := Heap.get?_push_size _ rfl
  have hp : ∀ v ∈ vs, Srt.IsPair (s1.heap.push (seqObj "list" vs.toArray 0)) v (k v).1 (k v).2 := fun v hv => by
    obtain ⟨q, hq, e⟩ := List.mem_map.mp (pm.mem_iff.mp hv)
    obtain ⟨x, y, exy⟩ := h2 q hq
    have ek := hk q hq
    rw [exy] at ek
    rw [← e, ek]
    have m := R.mem q hq
    rw [exy] at m
    exact isPair_of (P := P) (w := w) (isT_keep (P := P) (w := w) m fun b u z => Heap.get?_push_of_some _ (k1 b u z))
  refine wpAny_bind (wpAny_holding (wpAny_call_entry slot_list_sort ⟨_, hoL, rfl⟩ entry_list_sort (SrtO.list_sort_ord (s := { s1 with heap := s1.heap.push (seqObj "list" vs.toArray 0) }) (SrtO.swo_lex k) hoL hvz (fun hl => ?_) fun out hs hb => ⟨_, rfl, ?_⟩) (args_list_sort _)))
  · refine SrtO.pairs_sortableO (by omega) hp fun u e => ?_
    have e' : some u = some (seqObj "list" vs.toArray 0) := e.symm.trans hoL
    cases e'
    intro c
    exact absurd (Value.type.inj c) (by decide)
  · obtain ⟨c, hc⟩ := sortedHeap_at (vs := vs) (out := out.toArray) hoL
    obtain ⟨L', e', hs'⟩ := back out fun v hv => pm.mem_iff.mp (hb.perm.mem_iff.mp hv)
    have pL : L'.Perm L := perm_of L' hs' (e' ▸ hb.perm.trans pm)
    have pw : L'.Pairwise (fun q r => ltC (prI r.2) (prI q.2) = false) := by
      have z : (L'.map fun q => Value.ref q.1).Pairwise fun v u => ltC (k u) (k v) = false := e' ▸ hs
      refine List.Pairwise.imp_of_mem (fun {q r} hq hr hle => ?_) (List.pairwise_map.mp z)
      rw [← hk q (hs' q hq), ← hk r (hs' r hr)]
      exact hle
    refine wpAny_pure ⟨_, rfl, hQ _ s1.heap.objs.size out.toArray c L' (fun b u e => ?_) g1 o1 hz hc e' pL pw⟩
    have q := k1 b u e
    have hlt : b < s1.heap.objs.size := Heap.lt_size q
    have hlt2 : b ≠ (s1.heap.push (seqObj "list" vs.toArray 0)).objs.size := by
      rw [size_push']
      exact Nat.ne_of_lt (Nat.lt_succ_of_lt hlt)
    exact (sortedHeap_old (Nat.ne_of_lt hlt) (by rw [size_push']; exact Nat.lt_succ_of_lt hlt)).trans (Heap.get?_push_of_some _ q)
end
section
variable {X : Cx}
def rSortSg (P : Program) (w : World) (K : PySem.W.Frag) : List V → Hp → VK → Prop := fun vs H Q => ∃ (a : Addr) (L : List (Addr × List Int)), vs = [V.ref a] ∧ H a = some (SetGO P w a L) ∧ MemG K H L ∧ (∀ p ∈ L, ∃ x y, p.2 = [x, y]) ∧
  ∀ (L' : List (Addr × List Int)) (p : Addr), L'.Perm L → L'.Pairwise (fun q r => ltC (prI r.2) (prI q.2) = false) → (L'.map (·.2)).Nodup → H p = none → Q (.ref p) (upd H p (.lst (L'.map fun q => V.ref q.1)))
theorem cr_sortSg (hc : X.calm = true) : CallR X (.builtin "sorted") (rSortSg X.prog X.w X.K) := by
  intro pins s σ H vs us Q I r h
  obtain ⟨a, L, rfl, ha, hm, h2, q⟩ := h
  have R0 : SetG0 X.prog X.w s.heap a L := (I.hok a _ ha).1
  obtain ⟨es, ep, t, R⟩ := R0.full fun p hp => I.isT (hm p hp)
  rw [Vals.ref1 r]
  refine sorted_setG R (I.ok.hd hc) h2 fun s' p out c L' k g o hp hg hout pm pw => ?_
  have hfew := R.few
  have hlen : (L'.map fun q => V.ref q.1).length ≤ sizeLine := by rw [List.length_map, pm.length_eq, sizeLine_eq]; omega
  have hn : H p = none := I.hok.fresh hp
  have hv : Vals (L'.map fun q => V.ref q.1) out.toList := by rw [hout]; exact vals_of_refs L'
  have J : Inv X pins σ (upd H p (.lst (L'.map fun q => V.ref q.1))) { s with heap := s'.heap, gens := s'.gens, drawn := s'.drawn, toks := s'.toks } :=
    I.call (ch := []) (Un.laid k hp hn) (I.hok.laid k hp ⟨hlen, out.toList, c, hv, hg⟩) (by rw [g]; exact I.bare) fun _ z => nomatch z
  obtain ⟨hp', g', d', tk', os'⟩ := s'
  cases (show os' = s.os from o)
  exact ⟨.ref p, _, J, rfl, q L' p pm pw ((pm.map (·.2)).nodup_iff.mpr R.nd) hn⟩
def rLenSg (P : Program) (w : World) : List V → Hp → VK → Prop := fun vs H Q => ∃ (a : Addr) (L : List (Addr × List Int)), vs = [V.ref a] ∧ H a = some (SetGO P w a L) ∧ Q (.int L.length) H
theorem cr_lenSg : CallR X (.builtin "len") (rLenSg X.prog X.w) := by
  intro pins s σ H vs us Q I r h
  obtain ⟨a, L, rfl, ha, q⟩ := h
  obtain ⟨es, ep, t, ⟨o, ho, hex, hd⟩, h1, h2, h3, h4, h5, h6, h7, h8⟩ := (I.hok a _ ha).1
  have hsz : es.size = L.length := by
    have z := congrArg List.length h1
    rwa [Array.length_toList, List.length_map] at z
  have hsz2 := h2.size
  rw [List.length_map, ← hsz] at hsz2
  rw [Vals.ref1 r]
  refine call_len_set ho hex hd (fitsG hsz2 h2.clean (by omega)) (by omega) ?_
  exact ⟨.int L.length, H, I.tok _, ⟨_, by rw [hsz]⟩, q⟩
/-- sorted({..}), whatever the program is -/
def tSortSg (K : PySem.W.Frag) (f : Program → World → TE) : TE := fun σ H Q => ∀ P w, tCB (rSortSg P w K) (tCons (f P w) tNil) σ H Q
def tLenSg (f : Program → World → TE) : TE := fun σ H Q => ∀ P w, tCB (rLenSg P w) (tCons (f P w) tNil) σ H Q
theorem pe_sortSg {e : Expr} {f : Program → World → TE} {p pos : Pos} (hc : X.calm = true) (hg : Gl X "sorted") (hm : X.mg "sorted" = none) (he : PE X e (f X.prog X.w)) (hs : starEach [e] X.env = (false, eval e X.env) :: starEach [] X.env := by rfl) : PE X (.Call (.Name "sorted" p) [e] [] pos) (tSortSg X.K f) :=
  ⟨fun pins s σ H Q I h => (pe_callB (cr_sortSg hc) hg hm (by decide +kernel) (pa_cons he pa_nil hs) (he := hs)).run pins s σ H Q I (h X.prog X.w)⟩
theorem pe_lenSg {e : Expr} {f : Program → World → TE} {p pos : Pos} (hg : Gl X "len") (hm : X.mg "len" = none) (he : PE X e (f X.prog X.w)) (hs : starEach [e] X.env = (false, eval e X.env) :: starEach [] X.env := by rfl) : PE X (.Call (.Name "len" p) [e] [] pos) (tLenSg f) :=
  ⟨fun pins s σ H Q I h => (pe_callB cr_lenSg hg hm (by decide +kernel) (pa_cons he pa_nil hs) (he := hs)).run pins s σ H Q I (h X.prog X.w)⟩
end
/-! over data -/
variable {c : Fr} {es : List Sv} {te tb : TE} {tt : TT} {l : List Dt} {wi wi1 : TI} {g g1 : TG} {D : Ends} {u : TS} {n : Nat} {P : Program} {w : World}
theorem Sl.turnA {P H : Hp} {l : Addr} {o : HO} (hP : P l = none) : ∀ {σ : L2.St} {es : List Sv}, l ∉ owns es → Sl c P H σ es → Sl c P (upd H l o) σ es
  | _, _, _, .nil => .nil
  | _, _, n, .no h => .no (h.turnA hP n)
  | _, _, n, .dat a h => .dat a (h.turnA hP n)
  | _, .own a _ :: _, n, .own ⟨m1, m2, ys, q, z⟩ h => .own ⟨m1, m2, ys, (upd_ne fun e => n (by rw [← e]; exact List.mem_cons_self)).trans q, z⟩ (h.turnA hP fun m => n (List.mem_cons_of_mem _ m))
  | _, .hand a :: _, n, .hand ⟨ds, k, m1, m2, ys, q, z⟩ h => .hand ⟨ds, k, m1, m2, ys, (upd_ne fun e => n (by rw [← e]; exact List.mem_cons_self)).trans q, z⟩ (h.turnA hP fun m => n (List.mem_cons_of_mem _ m))
  | _, .gen a ins _ :: _, n, .gen g h => .gen (g.turn fun m => n (List.mem_append_left _ m)) (h.turnA hP fun m => n (List.mem_append_right _ m))
theorem Rep.turnA {P H : Hp} {σ : L2.St} {a : Addr} {o : HO} (r : Rep c P H σ es) (h0 : c.H0 a = none) (hP : P a = none) (na : a ∉ owns es) : Rep c P (upd H a o) σ es :=
  ⟨r.b, fun b u m h => by
    rw [upd_ne fun z => by rw [z, h0] at h; cases h]
    exact r.old b u m h, fun b h => by
    by_cases z : b = a
    · exact z ▸ h0
    · rw [upd_ne z] at h
      exact r.dom b h, fun b u h => by
    rw [upd_ne fun z => by rw [z, hP] at h; cases h]
    exact r.ex b u h, r.fr, r.sl.turnA hP na, r.nd⟩
def tupI (k : List Int) : Dt := .tup (k.map Dt.int)
theorem ints_back {K : PySem.W.Frag} {H : Hp} : ∀ {k : List Int} {vs : List V}, HasAll K H vs (k.map Dt.int) → vs = k.map V.int
  | [], _, h => by cases h; rfl
  | n :: k, _, h => by
    cases h with
    | cons a b =>
      cases a
      rw [ints_back b]
      rfl
/-- te gives a fresh set of just the members ins -/
def ES (P : Program) (w : World) (c : Fr) (te : TE) (es : List Sv) (ins : List (List Int)) : Prop :=
  ∀ σ P0 H, Rep c P0 H σ es → ∀ Q : VK, (∀ D P' H' L, (∀ k, k ∈ L.map (·.2) ↔ k ∈ ins) → (L.map (·.2)).Nodup → Rep c P' H' σ es → Kp es P0 H P' H' → P' D = none → H' D = some (SetGO P w D L) → (∀ p ∈ L, Has c.K P' (.ref p.1) (tupI p.2)) → Q (.ref D) H') → te σ H Q
theorem memG_of {K : PySem.W.Frag} {P H : Hp} {L : List (Addr × List Int)} (e : Ex P H) (h : ∀ p ∈ L, Has K P (.ref p.1) (tupI p.2)) : MemG K H L := fun p hp => by
  cases h p hp with
  | tup s r => exact ints_back r ▸ Evl.ex_t e s
/-- a member more -/
structure Stay (P : Program) (w : World) (c : Fr) (es : List Sv) (σ : L2.St) (P1 H1 : Hp) (a : Addr) (ins : List (List Int)) (H : Hp) : Prop where
  ex : ∃ P' L, Rep (c.at P1) P' H σ es ∧ Kp es P1 H1 P' H ∧ P' a = none ∧ H a = some (SetGO P w a L) ∧ (∀ p ∈ L, Has c.K P' (.ref p.1) (tupI p.2)) ∧ (∀ k, k ∈ L.map (·.2) ↔ k ∈ ins) ∧ (L.map (·.2)).Nodup ∧ L.length ≤ ins.length
theorem stay_put {P1 H1 P4 H4 : Hp} {σ : L2.St} {a : Addr} {ins : List (List Int)} {L L' : List (Addr × List Int)} {p : Addr} {k : List Int} (h0 : c.H0 a = none) (h1 : H1 a = none) (na : a ∉ owns es) (r : Rep (c.at P1) P4 H4 σ es) (e : Kp es P1 H1 P4 H4) (hP : P4 a = none)
    (hm : ∀ q ∈ L, Has c.K P4 (.ref q.1) (tupI q.2)) (hL : ∀ k, k ∈ L.map (·.2) ↔ k ∈ ins) (nd : (L.map (·.2)).Nodup) (len : L.length ≤ ins.length) (hv : Has c.K P4 (.ref p) (tupI k)) (c1 : k ∈ L.map (·.2) → L' = L) (c2 : k ∉ L.map (·.2) → L'.Perm ((p, k) :: L)) :
    Stay P w c es σ P1 H1 a (ins ++ [k]) (upd H4 a (SetGO P w a L')) := by
  refine ⟨P4, L', Rep.turnA (c := c.at P1) r h0 hP na, e.put h1, hP, upd_same, ?_⟩
  have mk : ∀ j, j ∈ ins ++ [k] ↔ j ∈ ins ∨ j = k := fun j => by rw [List.mem_append, List.mem_singleton]
  by_cases d : k ∈ L.map (·.2)
  · rw [c1 d]
    refine ⟨hm, fun j => ?_, nd, by rw [List.length_append]; omega⟩
    rw [mk, hL]
    exact ⟨.inl, fun z => z.elim id fun e => e ▸ (hL k).mp d⟩
  · have pm := c2 d
    refine ⟨fun q hq => ?_, fun j => ?_, (pm.map (·.2)).nodup_iff.mpr (List.nodup_cons.mpr ⟨d, nd⟩), by rw [pm.length_eq, List.length_append]; simp; exact len⟩
    · rcases List.mem_cons.mp (pm.mem_iff.mp hq) with z | z
      · rw [z]; exact hv
      · exact hm q z
    · rw [mk, (pm.map (·.2)).mem_iff, List.map_cons, List.mem_cons, hL]
      exact Or.comm
theorem es_sg {f : Dt → List Sv → List Sv} {vs : List Nat} {p : Dt → Bool} {fn : Dt → List Int} (hh : handsOf es = []) (h : WI c wi es l) (hl : l.length ≤ 3900) (hg : ∀ P y, y ∈ l → TgD (c.at P) g (f y) vs y)
    (hf : ∀ y ∈ l, handsOf (f y (wipeE es vs)) = []) (ht : ∀ P, Low c P → ∀ y ∈ l, EBd (c.at P) tt (f y (wipeE es vs)) (p y)) (he : ∀ P, Low c P → ∀ y ∈ l, p y = true → ED (c.at P) te (f y (wipeE es vs)) (tupI (fn y))) :
    ES P w c (tSg P w c.K wi g tt te vs) es ((l.filter p).map fn) := fun σ P0 H r Q q =>
  h σ P0 H r _ fun J P1 H1 G Y r1 e1 wk hG hY => fun a ha => by
    have L0 : Low c P1 := r1.low
    have na := r1.fresh ha
    let Pv : Nat → Hp → Prop := fun i H => Stay P w c es σ P1 H1 a (((l.take i).filter p).map fn) H
    have g0 := grow_own (o := SetGO P w a []) r1.ex ha
    refine ⟨fun i m H => m = l.length - i ∧ i ≤ l.length ∧ Pv i H, ⟨_, rfl, Nat.zero_le _, P1, [], r1.at.step g0, .of g0, none_back r1.ex ha, upd_same, fun q hq => (by cases hq), fun k => Iff.rfl, List.nodup_nil, Nat.zero_le _⟩, ?_⟩
    rintro i m H ⟨rfl, hi, ⟨P', L, r, eH, hPa, hHa, hm, hL, nd, len⟩⟩
    have q0 := hG P' H r.b r.ex
    by_cases lt : i < l.length
    · refine .inr ⟨wk.goes i H lt q0, Pv (i + 1), fun H' z => ⟨l.length - (i + 1), by omega, rfl, lt, z⟩, fun x H' y => ?_⟩
      obtain ⟨P2, d, g', e, hx⟩ := hY i P' H x H' lt r.b r.ex (wk.yields i H x H' lt q0 y)
      have hd : d ∈ l := List.mem_of_getElem? e
      have r2 := r.step g'
      have tk : l.take (i + 1) = l.take i ++ [d] := by rw [List.take_add_one, e]; rfl
      refine hg P1 d hd x P2 H' _ _ _ (r2.wipe vs) hx fun σ' hw r3 => ⟨by rw [hw]; exact wipe_wipe, ?_⟩
      refine ht P1 L0 d hd σ' P2 H' r3 _ fun b P3 H3 hb r4 k4 => ?_
      have g4 := k4.grow (hf d hd) r4.ex
      subst hb
      cases hp : p d with
      | false =>
        refine iteF ?_
        have gg := g'.trans g4
        have ee : ((l.take (i + 1)).filter p).map fn = ((l.take i).filter p).map fn := by
          rw [tk, List.filter_append, List.filter_cons, if_neg (by rw [hp]; decide), List.filter_nil, List.append_nil]
        show Stay P w c es σ P1 H1 a (((l.take (i + 1)).filter p).map fn) H3
        rw [ee]
        exact ⟨P3, L, r2.step g4, eH.trans (.of gg), grow_none gg hPa hHa, gg.h _ _ hHa, fun q hq => Has.mono gg.p _ (hm q hq), hL, nd, len⟩
      | true =>
        refine iteT ?_
        refine he P1 L0 d hd hp σ' P3 H3 r4 _ fun v P4 H4 dv hv r6 k6 hx6 => ?_
        subst hv
        have g6 := k6.grow (hf d hd) r6.ex
        have gg := g'.trans (g4.trans g6)
        have hm4 : ∀ q ∈ L, Has c.K P4 (.ref q.1) (tupI q.2) := fun q hq => Has.mono gg.p _ (hm q hq)
        have ee : ((l.take (i + 1)).filter p).map fn = ((l.take i).filter p).map fn ++ [fn d] := by
          rw [tk, List.filter_append, List.filter_cons, if_pos hp, List.filter_nil, List.map_append]
          rfl
        have hlen : L.length + 1 < 4000 := by
          have z := List.length_filter_le p (l.take i)
          rw [List.length_map] at len
          rw [List.length_take] at z
          omega
        cases hx6 with
        | @tup b xs _ st ra =>
          have ex : xs = (fn d).map V.int := ints_back ra
          refine ⟨b, fn d, L, rfl, ex ▸ Evl.ex_t r6.ex st, gg.h _ _ hHa, memG_of r6.ex hm4, hlen, fun L' c1 c2 => ?_⟩
          show Stay P w c es σ P1 H1 a (((l.take (i + 1)).filter p).map fn) (upd H4 a (SetGO P w a L'))
          rw [ee]
          exact stay_put (r1.dom a ha) ha na (r.step gg) (eH.trans (.of gg)) (grow_none gg hPa hHa) hm4 hL nd len (.tup st ra) c1 c2
    · have ei : i = l.length := by omega
      subst ei
      rw [List.take_length] at hL
      exact .inl ⟨wk.stops H q0, q a P' H L hL nd (L0 r) (e1.trans eH) hPa hHa hm⟩
theorem es_sg2 {f f1 : Dt → List Sv → List Sv} {vs vs1 : List Nat} {lz : Dt → List Dt} {fn : Dt → Dt → List Int} (h : WI c wi es l) (hl : (l.flatMap fun y => (lz y).map (fn y)).length ≤ 3900)
    (hg : ∀ P y, y ∈ l → TgD (c.at P) g (f y) vs y) (hf : ∀ y ∈ l, handsOf (f y (wipeE es vs)) = [] ∧ ∀ x ∈ owns (f y (wipeE es vs)), x ∈ owns es)
    (h1 : ∀ P, Low c P → ∀ y ∈ l, WI (c.at P) wi1 (f y (wipeE es vs)) (lz y)) (hg1 : ∀ P y z, y ∈ l → z ∈ lz y → TgD (c.at P) g1 (f1 z) vs1 z)
    (hf1 : ∀ y ∈ l, ∀ z ∈ lz y, handsOf (f1 z (wipeE (f y (wipeE es vs)) vs1)) = []) (he : ∀ P, Low c P → ∀ y ∈ l, ∀ z ∈ lz y, ED (c.at P) te (f1 z (wipeE (f y (wipeE es vs)) vs1)) (tupI (fn y z))) :
    ES P w c (tSg2 P w c.K wi g tYes wi1 g1 tYes te vs vs1) es (l.flatMap fun y => (lz y).map (fn y)) := fun σ P0 H r Q q =>
  h σ P0 H r _ fun J P1 H1 G Y r1 e1 wk hG hY => fun a ha => by
    have L0 : Low c P1 := r1.low
    have na := r1.fresh ha
    let res : Nat → List (List Int) := fun i => (l.take i).flatMap fun y => (lz y).map (fn y)
    let Pv : Nat → Hp → Prop := fun i H => Stay P w c es σ P1 H1 a (res i) H
    have g0 := grow_own (o := SetGO P w a []) r1.ex ha
    refine ⟨fun i m H => m = l.length - i ∧ i ≤ l.length ∧ Pv i H, ⟨_, rfl, Nat.zero_le _, P1, [], r1.at.step g0, .of g0, none_back r1.ex ha, upd_same, fun q hq => (by cases hq), fun k => Iff.rfl, List.nodup_nil, Nat.zero_le _⟩, ?_⟩
    rintro i m H ⟨rfl, hi, ⟨P', L, r, eH, hPa, hHa, hm, hL, nd, len⟩⟩
    have q0 := hG P' H r.b r.ex
    have rl : ∀ k, (res k).length ≤ 3900 := fun k => by
      refine Nat.le_trans ?_ hl
      show ((l.take k).flatMap _).length ≤ _
      conv => rhs; rw [← List.take_append_drop k l]
      rw [List.flatMap_append, List.length_append]
      omega
    by_cases lt : i < l.length
    · refine .inr ⟨wk.goes i H lt q0, Pv (i + 1), fun H' z => ⟨l.length - (i + 1), by omega, rfl, lt, z⟩, fun x H' y => ?_⟩
      obtain ⟨P2, d, g', e, hx⟩ := hY i P' H x H' lt r.b r.ex (wk.yields i H x H' lt q0 y)
      have hd : d ∈ l := List.mem_of_getElem? e
      have r2 := r.step g'
      obtain ⟨hf2, hf3⟩ := hf d hd
      have rs : res (i + 1) = res i ++ (lz d).map (fn d) := by
        show (l.take (i + 1)).flatMap _ = _
        rw [List.take_add_one, e, Option.toList_some, List.flatMap_append, List.flatMap_cons, List.flatMap_nil, List.append_nil]
      refine hg P1 d hd x P2 H' _ _ _ (r2.wipe vs) hx fun σ2 hw r3 => ⟨by rw [hw]; exact wipe_wipe, ?_⟩
      refine iteT (B := Pv (i + 1) H') ?_
      refine h1 P1 L0 d hd σ2 P2 H' r3 _ fun J1 P3 H3 G1 Y1 r4 e4 w1 hG1 hY1 => ?_
      have gA : Grow P2 H' P3 H3 := e4.grow hf2 r4.ex
      have gB := g'.trans gA
      have na2 : a ∉ owns (f d (wipeE es vs)) := fun z => na (hf3 a z)
      let Pw : Nat → Hp → Prop := fun j H => ∃ P' L, Rep (c.at P1) P' H σ2 (f d (wipeE es vs)) ∧ Rep (c.at P1) P' H σ es ∧ Kp es P1 H1 P' H ∧ Ex P3 P' ∧ P' a = none ∧ H a = some (SetGO P w a L) ∧ (∀ p ∈ L, Has c.K P' (.ref p.1) (tupI p.2)) ∧
        (∀ k, k ∈ L.map (·.2) ↔ k ∈ res i ++ ((lz d).take j).map (fn d)) ∧ (L.map (·.2)).Nodup ∧ L.length ≤ (res i ++ ((lz d).take j).map (fn d)).length
      refine ⟨fun j k H => k = (lz d).length - j ∧ j ≤ (lz d).length ∧ Pw j H, ⟨_, rfl, Nat.zero_le _, P3, L, r4, r.step gB, eH.trans (.of gB), .refl P3, grow_none gB hPa hHa, gB.h _ _ hHa, fun q hq => Has.mono gB.p _ (hm q hq), ?_, nd, ?_⟩, ?_⟩
      · rw [List.take_zero, List.map_nil, List.append_nil]
        exact hL
      · rw [List.take_zero, List.map_nil, List.append_nil]
        exact len
      rintro j k H4 ⟨rfl, hj, P4, L4, s1, s2, eK, eP, hPa4, hHa4, hm4, hL4, nd4, len4⟩
      have q1 := hG1 P4 H4 eP s1.ex
      by_cases lt1 : j < (lz d).length
      · refine .inr ⟨w1.goes j H4 lt1 q1, Pw (j + 1), fun H' z => ⟨(lz d).length - (j + 1), by omega, rfl, lt1, z⟩, fun x1 H5 y1 => ?_⟩
        obtain ⟨P5, z, g3, ez, hz⟩ := hY1 j P4 H4 x1 H5 lt1 eP s1.ex (w1.yields j H4 x1 H5 lt1 q1 y1)
        have hmz : z ∈ lz d := List.mem_of_getElem? ez
        refine hg1 P1 d z hd hmz x1 P5 H5 _ _ _ ((s1.step g3).wipe vs1) hz fun σ3 hw3 r5 => ⟨by rw [hw3]; exact wipe_wipe, ?_⟩
        refine iteT (B := Pw (j + 1) H5) ?_
        refine he P1 L0 d hd z hmz σ3 P5 H5 r5 _ fun v P6 H6 dv hv r6 k6 hx6 => ?_
        subst hv
        have gg := g3.trans (k6.grow (hf1 d hd z hmz) r6.ex)
        have hm6 : ∀ q ∈ L4, Has c.K P6 (.ref q.1) (tupI q.2) := fun q hq => Has.mono gg.p _ (hm4 q hq)
        have hlen : L4.length + 1 < 4000 := by
          have h3 := rl (i + 1)
          rw [rs, List.length_append, List.length_map] at h3
          rw [List.length_append, List.length_map, List.length_take] at len4
          omega
        have tk : res i ++ ((lz d).take (j + 1)).map (fn d) = (res i ++ ((lz d).take j).map (fn d)) ++ [fn d z] := by
          rw [List.take_add_one, ez, Option.toList_some, List.map_append, List.append_assoc]
          rfl
        cases hx6 with
        | @tup b xs _ st ra =>
          have ex : xs = (fn d z).map V.int := ints_back ra
          refine ⟨b, fn d z, L4, rfl, ex ▸ Evl.ex_t r6.ex st, gg.h _ _ hHa4, memG_of r6.ex hm6, hlen, fun L' c1 c2 => ?_⟩
          have hPa6 := grow_none gg hPa4 hHa4
          obtain ⟨P7, L7, t1, t2, t3, t4, t5, t6, t7, t8⟩ := (stay_put (P := P) (w := w) (r1.dom a ha) ha na (s2.step gg) (eK.trans (.of gg)) hPa6 hm6 hL4 nd4 len4 (.tup st ra) c1 c2).ex
          have hL7 : ∀ k, k ∈ L'.map (·.2) ↔ k ∈ (res i ++ ((lz d).take j).map (fn d)) ++ [fn d z] := by
            have e7 : L' = L' := rfl
            obtain ⟨P8, L8, v1, v2, v3, v4, v5, v6, v7, v8⟩ := (stay_put (P := P) (w := w) (r1.dom a ha) ha na (s2.step gg) (eK.trans (.of gg)) hPa6 hm6 hL4 nd4 len4 (.tup st ra) c1 c2).ex
            intro k
            rw [List.mem_append, List.mem_singleton]
            by_cases d7 : fn d z ∈ L4.map (·.2)
            · rw [c1 d7, hL4]
              exact ⟨.inl, fun y => y.elim id fun e => e ▸ (hL4 _).mp d7⟩
            · rw [((c2 d7).map (·.2)).mem_iff, List.map_cons, List.mem_cons, hL4]
              exact Or.comm
          refine ⟨P6, L', Rep.turnA (c := c.at P1) (s1.step gg) (r1.dom a ha) hPa6 na2, Rep.turnA (c := c.at P1) (s2.step gg) (r1.dom a ha) hPa6 na, (eK.trans (.of gg)).put ha, eP.trans gg.p, hPa6, upd_same, ?_, tk ▸ hL7, ?_, ?_⟩
          · intro q hq
            by_cases d7 : fn d z ∈ L4.map (·.2)
            · rw [c1 d7] at hq
              exact hm6 q hq
            · rcases List.mem_cons.mp ((c2 d7).mem_iff.mp hq) with y | y
              · rw [y]
                exact .tup st ra
              · exact hm6 q y
          · by_cases d7 : fn d z ∈ L4.map (·.2)
            · rw [c1 d7]
              exact nd4
            · exact ((c2 d7).map (·.2)).nodup_iff.mpr (List.nodup_cons.mpr ⟨d7, nd4⟩)
          · rw [tk, List.length_append]
            by_cases d7 : fn d z ∈ L4.map (·.2)
            · rw [c1 d7]
              omega
            · rw [(c2 d7).length_eq, List.length_cons]
              exact Nat.add_le_add_right len4 1
      · have ej : j = (lz d).length := by omega
        subst ej
        rw [List.take_length, ← rs] at hL4 len4
        exact .inl ⟨w1.stops H4 q1, P4, L4, s2, eK, hPa4, hHa4, hm4, hL4, nd4, len4⟩
    · have ei : i = l.length := by omega
      subst ei
      have e : res l.length = l.flatMap fun y => (lz y).map (fn y) := by
        show (l.take l.length).flatMap _ = _
        rw [List.take_length]
      rw [e] at hL
      exact .inl ⟨wk.stops H q0, q a P' H L hL nd (L0 r) (e1.trans eH) hPa hHa hm⟩
/-- pairs as data -/
def cellD (p : Int × Int) : Dt := .tup [.int p.1, .int p.2]
def cellsD (l : List (Int × Int)) : List Dt := l.map cellD
theorem eo_sortSg {f : Program → World → TE} {ins : List (Int × Int)} (h : ∀ P w, ES P w c (f P w) es (ins.map ofP)) : EO c (tSortSg c.K f) es (fun r => r = cellsD (ascC ins)) := fun σ P0 H r Q q => fun P w =>
  h P w σ P0 H r _ fun D P' H' L hL nd r1 e1 hPD hHD hm => by
    have h2 : ∀ p ∈ L, ∃ x y, p.2 = [x, y] := fun p hp => by
      obtain ⟨y, _, e⟩ := List.mem_map.mp ((hL p.2).mp (List.mem_map.mpr ⟨p, hp, rfl⟩))
      exact ⟨y.1, y.2, e.symm⟩
    refine ⟨D, L, rfl, hHD, memG_of r1.ex hm, h2, fun L' p pm pw nd' hp => ?_⟩
    have g := grow_own (o := .lst (L'.map fun q => V.ref q.1)) r1.ex hp
    have hk : ∀ q ∈ L', q.2 = ofP (prI q.2) := fun q hq => by
      obtain ⟨x, y, e⟩ := h2 q (pm.mem_iff.mp hq)
      rw [e]
      rfl
    have asc : L'.map (fun q => prI q.2) = ascC ins := by
      refine ascC_of ?_ fun x => ?_
      · have nd2 : L'.Pairwise fun q r => q.2 ≠ r.2 := List.pairwise_map.mp nd'
        refine List.pairwise_map.mpr ((List.Pairwise.and pw nd2).imp_of_mem fun {q r} hq hr z => ltC_or z.1 fun e => z.2 ?_ |>.elim)
        rw [hk q hq, hk r hr, e]
      · constructor
        · intro hx
          obtain ⟨q, hq, e⟩ := List.mem_map.mp hx
          obtain ⟨y, hy, ey⟩ := List.mem_map.mp ((hL q.2).mp (List.mem_map.mpr ⟨q, pm.mem_iff.mp hq, rfl⟩))
          rw [← e, ← ey]
          exact hy
        · intro hx
          obtain ⟨q, hq, e⟩ := List.mem_map.mp ((hL (ofP x)).mpr (List.mem_map.mpr ⟨x, hx, rfl⟩))
          exact List.mem_map.mpr ⟨q, pm.mem_iff.mpr hq, by rw [e]; rfl⟩
    have hall : ∀ M : List (Addr × List Int), (∀ q ∈ M, q ∈ L) → HasAll c.K P' (M.map fun q => V.ref q.1) (cellsD (M.map fun q => prI q.2)) := by
      intro M
      induction M with
      | nil => exact fun _ => .nil
      | cons q M ih =>
        intro hM
        refine .cons ?_ (ih fun r hr => hM r (List.mem_cons_of_mem _ hr))
        have hq := hM q List.mem_cons_self
        have z := hm q hq
        obtain ⟨x, y, e⟩ := h2 q hq
        show Has c.K P' (V.ref q.1) (cellD (prI q.2))
        rw [e] at z ⊢
        exact z
    exact q p P' _ _ rfl (r1.step g) (e1.trans (.of g)) (r1.fresh hp) (e1.n p hp) ⟨.inl (r1.dom p hp), none_back r1.ex hp, _, upd_same, asc ▸ hall L' fun q hq => pm.mem_iff.mp hq⟩
theorem ed_lenSg {f : Program → World → TE} {ins : List (Int × Int)} (h : ∀ P w, ES P w c (f P w) es (ins.map ofP)) : ED c (tLenSg f) es (.int (ascC ins).length) := fun σ P0 H r Q q => fun P w =>
  h P w σ P0 H r _ fun D P' H' L hL nd r1 e1 hPD hHD hm => by
    have len : L.length = (ascC ins).length := by
      have pm : (L.map (·.2)).Perm ((ascC ins).map ofP) := by
        refine (List.perm_ext_iff_of_nodup nd ?_).mpr fun k => ?_
        · refine List.pairwise_map.mpr ((asc_ascC ins).nodup.imp fun {a b} ne e => ne ?_)
          have := congrArg prI e
          exact this
        · rw [hL, List.mem_map, List.mem_map]
          exact ⟨fun ⟨x, hx, e⟩ => ⟨x, mem_ascC.mpr hx, e⟩, fun ⟨x, hx, e⟩ => ⟨x, mem_ascC.mp hx, e⟩⟩
      have z := pm.length_eq
      rwa [List.length_map, List.length_map] at z
    exact ⟨D, L, rfl, hHD, q _ P' H' _ (by rw [len]) r1 e1 (.int _)⟩
end My
set_option Elab.async false
set_option linter.all false
set_option maxRecDepth 100000
set_option maxHeartbeats 2000000
/-! Small words: hands handed back, tests that know both sides, items by drawn places. -/
namespace My
open PySem PySem.Spec PyProof.Rows L2 RZ
open Evl (Ex)
section
variable {c : Fr} {es : List Sv} {ta tb te : TE} {ts : TA} {x y d : Dt} {l m : List Dt} {tt tu : TT} {D : Ends} {t u w : TS} {n : Nat} {i j : Int} {b : Bool} {φ ψ χ : Dt → Prop}
theorem EO.imp {ρ τ : List Dt → Prop} (h : EO c te es ρ) (k : ∀ l, ρ l → τ l) : EO c te es τ := fun σ P H r Q q => h σ P H r Q fun a P' H' ds hd => q a P' H' ds (k ds hd)
theorem tg_in {vs : List Nat} (hn : n ∈ vs) : TgD c (gName n) (fun es => es.set n (.dat x)) vs x := fun v P H σ es Q r h q => q _ (wipe_mem hn) (r.put n h)
theorem c_retHh {a : Addr} (h : EV c te es φ) (k : RetH c a D.rt φ) (hm : c.mu = [a]) (e : es[n]? = some (.hand a)) : Cont c (tRet te D) es := fun σ P H r =>
  h σ P H r _ fun v P1 H1 d hd r1 e1 hv => k.ofH hm hd r1 e hv
theorem eb_andW {ρ : Bool → Prop} (ha : EBd c tt es b) (hb : b = true → EB c tu es ρ) : EB c (tAnd tt tu) es (fun r => r = true → b = true ∧ ρ true) := fun σ P H r Q q =>
  ha σ P H r _ fun a P1 H1 z r1 e1 => by
    subst z
    cases a with
    | false => exact q false P1 H1 (fun z => by cases z) r1 e1
    | true => exact hb rfl σ P1 H1 r1 _ fun b P2 H2 hb2 r2 e2 => q b P2 H2 (fun z => ⟨rfl, z ▸ hb2⟩) r2 (e1.trans e2)
theorem eb_any {ρ : Bool → Prop} (h : EB c tt es ρ) : EB c tt es (fun _ => True) := h.imp fun _ _ => trivial
/-- the item at a place that is drawn -/
theorem ev_ixD (ha : ED c ta es x) (hx : itemsD x = some l) {α : Int → Prop} (hb : EV c tb es (IsI α)) (hα : ∀ z, α z → 0 ≤ z ∧ z < l.length) : EV c (tOp (rIx c.K) ta tb) es (fun d => d ∈ l) :=
  ev_op ha hb fun v0 u0 hv0 hu0 => by
    obtain ⟨z, rfl, az⟩ := hu0
    obtain ⟨h0, h1⟩ := hα z az
    obtain ⟨d, hd, e⟩ := atI_ex (l := l) (i := z) (by omega) h1
    have hx' : itemsD v0 = some l := by rw [hv0]; exact hx
    intro v u P H ex hv hu Q q
    cases v0 with
    | lst m =>
      cases Option.some.inj hx'
      exact rd_ixL (c := c) e v u P H ex hv hu Q fun w P' H' z hz => q w P' H' z (by rw [hz]; exact hd)
    | tup m =>
      cases Option.some.inj hx'
      exact rd_ixT (c := c) e v u P H ex hv hu Q fun w P' H' z hz => q w P' H' z (by rw [hz]; exact hd)
    | _ => cases hx'
theorem c_ext {a : Addr} {ds : List Dt} {ρ : List Dt → Prop} (h0 : es[n]? = some (.own a ds)) (h : EO c te es ρ) (hz : ∀ l, ρ l → ds.length + l.length ≤ 100000) (k : ∀ l, ρ l → Cont c D.nx (es.set n (.own a (ds ++ l)))) :
    Cont c (tDrop (tBM c.K "list" rExtend (tVar n) (tCons te tNil)) D) es := fun σ P H r => by
  obtain ⟨e0, _, _, xs, hx, hd⟩ := r.sl.getO h0
  refine ⟨_, e0, .inl ⟨rfl, xs, Evl.sq_of hx⟩, h σ P H r _ fun b P1 H1 l hl r1 e1 hb h00 ⟨m1, m2, zs, hz1, hz2⟩ => ?_⟩
  obtain ⟨_, _, _, ys, hy, hd⟩ := r1.sl.getO h0
  exact ⟨a, b, ys, zs, rfl, rfl, hy, hz1, Evl.sz_of (by rw [hd.len, hz2.len]; exact hz l hl), k l hl _ P1 _ (r1.change h0 (hd.append hz2))⟩
theorem ixN_last (n : Nat) : ixN (n + 1) (-1) = some n := by
  unfold ixN
  rw [if_neg (by decide), if_pos (by omega)]
  congr 1
  omega
theorem atI_last {α : Type} (l : List α) (a : α) : atI (l ++ [a]) (-1) = some a := by
  unfold atI
  rw [List.length_append, List.length_singleton, ixN_last]
  show (l ++ [a])[l.length]? = some a
  rw [List.getElem?_append_right (Nat.le_refl _), Nat.sub_self] <;> rfl
theorem c_setN {a : Addr} (h0 : es[n]? = some (.own a (l ++ [y]))) (h : EV c te es φ) (hj : ED c tb es (.int (-1))) (k : ∀ d, φ d → Cont c D.nx (es.set n (.own a (l ++ [d])))) :
    Cont c (tAsg te (gSub (tVar n) tb rSetL) D) es := fun σ P H r =>
  h σ P H r _ fun v P1 H1 d hφ r1 e1 h1 => by
    refine ⟨_, (r1.sl.getO h0).1, ?_⟩
    refine hj σ P1 H1 r1 _ fun u P2 H2 z hz r2 e2 h2 => ?_
    subst hz
    cases h2
    obtain ⟨_, _, _, ys, hy, hd⟩ := r2.sl.getO h0
    have hl : ys.length = l.length + 1 := by rw [hd.len, List.length_append, List.length_singleton]
    refine ⟨a, ys, _, l.length, rfl, rfl, hy, by rw [hl]; exact ixN_last _, ?_⟩
    have e : (l ++ [y]).set l.length d = l ++ [d] := by rw [List.set_append_right _ _ (Nat.le_refl _), Nat.sub_self] <;> rfl
    exact k d hφ _ P2 _ (e ▸ r2.change h0 (hd.set l.length (Has.mono e2.p _ h1)))
end
end My
set_option Elab.async false
set_option linter.all false
set_option maxRecDepth 100000
set_option maxHeartbeats 2000000
/-! Comprehensions beside a hand. -/
namespace My
open PySem PySem.Spec PyProof.Rows L2 RZ
open Evl (Ex)
section
variable {c : Fr} {es : List Sv} {te : TE} {l : List Dt} {tt : TT}
/-- a comprehension that looks at things while a hand stands by -/
theorem eo_lcJ {wi : TI} {g : TG} {f : Dt → List Sv → List Sv} {vs : List Nat} {p : Dt → Bool} {fn : Dt → Dt} {ad : Addr} {k : Nat} (hk : es[k]? = some (.hand ad)) (h : WR c wi es l) (hl : l.length ≤ 100000) (hg : ∀ P y, y ∈ l → TgD (c.at P) g (f y) vs y)
    (hf : ∀ y ∈ l, handsOf (f y (wipeE es vs)) = [ad] ∧ (f y (wipeE es vs))[k]? = some (.hand ad)) (ht : ∀ P, Low c P → ∀ y ∈ l, EBd (c.at P) tt (f y (wipeE es vs)) (p y)) (he : ∀ P, Low c P → ∀ y ∈ l, p y = true → ED (c.at P) te (f y (wipeE es vs)) (fn y)) :
    EO c (tLc wi g tt te vs) es (fun r => r = (l.filter p).map fn) := fun σ P H r Q q =>
  h σ P H r _ fun J P1 H1 G Y r1 e1 w hG hY => fun a ha => by
    have L : Low c P1 := r1.low
    have na := r1.fresh ha
    have nad : a ≠ ad := fun z => na (by rw [z]; exact owns_mem (ds := []) (.inr hk))
    let Pv : Nat → Hp → Prop := fun i H => ∃ P xs, Rep (c.at P1) P H σ es ∧ Kp es P1 H1 P H ∧ P a = none ∧ H a = some (.lst xs) ∧ HasAll c.K P xs (((l.take i).filter p).map fn)
    have g0 := grow_own (o := .lst []) r1.ex ha
    have step : ∀ {P H P' H' : Hp} {σ' : L2.St} {y : Dt}, y ∈ l → Rep (c.at P1) P H σ es → Rep (c.at P1) P' H' σ' (f y (wipeE es vs)) → Kp (f y (wipeE es vs)) P H P' H' → Rep (c.at P1) P' H' σ es ∧ Kp es P H P' H' ∧ ∀ b o, b ≠ ad → H b = some o → H' b = some o := fun {P H P' H' σ' y} hm r2 r6 k6 => by
      obtain ⟨hf1, hf2⟩ := hf y hm
      obtain ⟨_, hs, ok, n1, n2, us, hu, hud⟩ := r6.sl.getH hf2
      have kk : ∀ b o, b ≠ ad → H b = some o → H' b = some o := fun b o ne h => k6.k b o (by rw [hf1]; exact fun m => ne (List.mem_singleton.mp m)) h
      exact ⟨r2.hands hk k6.p kk k6.n r6.ex k6.f n2 hu hud ok, ⟨k6.p, fun b o n h => kk b o (fun z => n (by rw [z]; exact hands_mem hk)) h, k6.n, k6.f⟩, kk⟩
    refine lc_it w Pv ⟨P1, [], r1.at.step g0, .of g0, none_back r1.ex ha, upd_same, .nil⟩ (fun i H _ ⟨P, xs, r, _⟩ => hG P H r) (fun i x H H' hi ⟨P, xs, r, eH, hPa, hHa, hd⟩ y => ?_) fun H ⟨P, xs, r, eH, hPa, hHa, hd⟩ => ?_
    · obtain ⟨P', d, g', e, hx⟩ := hY i P H x H' hi r y
      have hm : d ∈ l := List.mem_of_getElem? e
      have r2 := r.step g'
      have tk : l.take (i + 1) = l.take i ++ [d] := by rw [List.take_add_one, e] <;> rfl
      refine hg P1 d hm x P' H' _ _ _ (r2.wipe vs) hx fun σ' hw r3 => ⟨by rw [hw]; exact wipe_wipe, ?_⟩
      refine ht P1 L d hm σ' P' H' r3 _ fun b P3 H3 hb r4 k4 => ?_
      have hPa' := grow_none g' hPa hHa
      have hHa' := g'.h _ _ hHa
      subst hb
      obtain ⟨t3, K3, kk3⟩ := step hm r2 r4 k4
      have hPa3 := kp_none k4 hPa' hHa'
      have hHa3 := kk3 a _ nad hHa'
      cases hp : p d with
      | false =>
        refine iteF ?_
        refine ⟨P3, xs, t3, (eH.trans (.of g')).trans K3, hPa3, hHa3, ?_⟩
        rw [tk, List.filter_append, List.filter_cons, if_neg (by rw [hp]; decide), List.filter_nil, List.append_nil]
        exact HasAll.mono (g'.p.trans k4.p) _ hd
      | true =>
        refine iteT ?_
        refine he P1 L d hm hp σ' P3 H3 r4 _ fun v P4 H4 dv hv r6 k6 hx6 => ?_
        subst hv
        obtain ⟨t4, K4, kk4⟩ := step hm t3 r6 k6
        have hPa4 := kp_none k6 hPa3 hHa3
        have len : xs.length ≤ l.length := by
          rw [hd.len, List.length_map]
          exact Nat.le_trans (List.length_filter_le _ _) (by rw [List.length_take]; omega)
        refine ⟨xs, kk4 a _ nad hHa3, Nat.lt_of_le_of_lt (Nat.le_trans len hl) (by decide), P4, xs ++ [v], t4.turnO (r1.dom a ha) hPa4 na, (((eH.trans (.of g')).trans K3).trans K4).put ha, hPa4, upd_same, ?_⟩
        rw [tk, List.filter_append, List.filter_cons, if_pos hp, List.filter_nil, List.map_append]
        exact (HasAll.mono ((g'.p.trans k4.p).trans k6.p) _ hd).append (.cons hx6 .nil)
    · have et : l.take l.length = l := List.take_length
      rw [et] at hd
      exact q a P H _ rfl (L r) (e1.trans eH) na (e1.n a ha) ⟨.inl (r1.dom a ha), hPa, xs, hHa, hd⟩
end
end My
set_option Elab.async false
set_option linter.all false
set_option maxRecDepth 100000
set_option maxHeartbeats 2000000
/-! Errors made of nothing; several clauses, some with a name. -/
namespace My
open PySem PySem.Spec PyProof.Rows L2
open Evl (Ex)
/-- a class of errors without an __init__ of its own -/
structure OwnC (K : PySem.W.Frag) (C : Addr) : Prop where
  q : PySem.W.excIn K C He.veBase "ValueError.__new__" = true
  k : PySem.W.keepIn K (.ref C) = true
  s : PySem.W.subIn K (.ref C) (.type "BaseException") = some true
  t : PySem.W.typeIn K (.ref C) = some (.type "type")
theorem pmk_own0 {X : Cx} {C : Addr} {x : Str} {p pos : Pos} (O : OwnC X.K C) (gC : X.mg x = some (.ref C)) (hg : Gl X x := by rfl) (hdb : (x == ("__debug__" : Str)) = false := by decide) : PMk X (.Call (.Name x p) [] [] pos) (fun _ H Q => Q (.ref C) none H) := by
  intro pins s σ H Q I h
  refine wpAny_Call_Name_kw (ld_glob I hg gC ?_ hdb)
  refine PySem.W.callWith_K0 I.kIn O.k ?_
  show wpAny _ _ (call (.ref C) []) _ _ _
  obtain ⟨bm, N, nm, qn, bs, hdct, sn, sub, ab, col, dd, k0, k1, k2, k3, k5, mN, hC, hN, hni, T⟩ := exc_obj I.kIn O.q
  exact wpAny_call_exc_subT PySem.F.excBase_ValueError T hC hN hni (fun h' e hm => mk_of I hm (raises_own O.s O.t) h (I.hok.gone hm.new)) (Nat.zero_le _)
/-! several clauses -/
abbrev Clause := Value × Option Nat × (Addr → Value → Option Addr → TS)
def wManyN (K : PySem.W.Frag) (Wout : WX) (D : Ends) : List Clause → WX
  | [] => Wout
  | (c, none, ts) :: r => fun cls d σ H => ∃ b, PySem.W.exmOne K cls c = some b ∧ (b = true → ∀ a, H a = none → ts a cls d D σ H) ∧ (b = false → wManyN K Wout D r cls d σ H)
  | (c, some i, ts) :: r => fun cls d σ H => ∃ b, PySem.W.exmOne K cls c = some b ∧
    (b = true → ∀ a, H a = none → ts a cls d { nx := fun σ' H' => D.nx (σ'.set i none) H', rt := D.rt, bk := fun σ' H' => D.bk (σ'.set i none) H', ct := fun σ' H' => D.ct (σ'.set i none) H' } (σ.set i (some (.ref a))) H) ∧ (b = false → wManyN K Wout D r cls d σ H)
inductive HdsN (X : Cx) : List ExceptHandler → List Clause → Prop
  | nil : HdsN X [] []
  | cons {x : Str} {c : Value} {ts : Addr → Value → Option Addr → TS} {b₀ : Stmt} {suite : List Stmt} {np pos' : Pos} {hds : List ExceptHandler} {l : List Clause} (hc : Names X x c)
      (hsu : ∀ (a : Addr) (oe : Obj) (cls : Value) (d : Option Addr) (pn : List (Addr × Obj)), Zc cls d oe → (∃ vs, oe.data = .fields vs) → PSs (X.suite a ((a, oe) :: pn)) (b₀ :: suite) (ts a cls d)) (r : HdsN X hds l) :
      HdsN X (.ExceptHandler (some (.Name x np)) none (b₀ :: suite) pos' :: hds) ((c, none, ts) :: l)
  | named {x n : Str} {c : Value} {i : Nat} {ts : Addr → Value → Option Addr → TS} {b₀ : Stmt} {suite : List Stmt} {np pos' : Pos} {hds : List ExceptHandler} {l : List Clause} (hN : X.N.Nodup) (hi : X.N[i]? = some n) (hln : X.env.kindOf n = some .local) (hc : Names X x c)
      (hsu : ∀ (a : Addr) (oe : Obj) (cls : Value) (d : Option Addr) (pn : List (Addr × Obj)), Zc cls d oe → (∃ vs, oe.data = .fields vs) → PSs (X.suite a ((a, oe) :: pn)) (b₀ :: suite) (ts a cls d)) (r : HdsN X hds l) :
      HdsN X (.ExceptHandler (some (.Name x np)) (some n) (b₀ :: suite) pos' :: hds) ((c, some i, ts) :: l)
section
variable {X : Cx} {body : List Stmt} {h₀ : ExceptHandler} {hds : List ExceptHandler} {l : List Clause} {pos : Pos} {tb : WX → TS} {Wout : WX}
theorem ps_try_manyN (hs : X.stack = X.env :: X.outer) (hf : X.env.frame = some X.env.locals) (tk : Takes X Wout)
    (hb : ∀ (W : WX) (pn : List (Addr × Obj)) (xe : Value → Shared → Prop), Takes (X.tr pn xe) W → PassesOwn (model X.prog X.w) X.A X.env xe → PSs (X.tr pn xe) body (tb W))
    (hh : HdsN X (h₀ :: hds) l) : PS X (.Try body (h₀ :: hds) [] [] pos) (fun D σ H => tb (wManyN X.K Wout D l) D σ H) := by
  refine ⟨fun pins s σ H D I h => ?_⟩
  have ok := I.ok
  have hfr : X.A.frames = some (X.env :: X.outer) := by rw [ok.frames, hs]
  refine wpAny_Try_except ?_
  refine wpAny_mono ((hb (wManyN X.K Wout D l) (X.pn ++ pins) (fun e s₁ => wpAny (model X.prog X.w) X.A (noteFrame e X.env) (fun _ s₂ => wpAny (model X.prog X.w) X.A (setFlight e none) (fun _ s₃ =>
    wpAny (model X.prog X.w) X.A (handleBy e X.env (h₀ :: hds)) (SP X pins D) X.xe s₃) X.xe s₂) X.xe s₁) (fun u s' xx => ?_) PassesOwn.looking).run [] s σ H D (I.toTry _) h) (fun f s1 hsp => ?_) (fun e s1 he => he)
  · obtain ⟨a, B, sI, pins', σ', H', cls, d, rfl, J', nb, up, sky, na, os, ag, w⟩ := xx
    have J : Inv X pins σ' H' sI := J'.ofTry ok
    have sky' : Sky B (X.env :: X.outer) a (Zc cls d) X.env.locals s'.heap := by rw [← hs]; exact sky
    show wpAny (model X.prog X.w) X.A (noteFrame (.ref a) X.env) _ _ _
    refine Sky.land Zc.steady hfr hf sky' fun h3 fl3 up3 => ?_
    have J3 : Inv X pins σ' H' { s' with heap := h3 } := J.landed nb fl3.1 (up.trans up3) os ag
    obtain ⟨oe3, vs3, he3, hz3, hd3⟩ := fl3.there
    have nfr : a ∉ frs (X.env :: X.outer) := fun hm => by
      obtain ⟨_, o', e', hnf⟩ := fl3.2.2.1.mem hm
      rw [he3] at e'; cases e'
      exact hnf _ hd3
    have nL : a ≠ X.env.locals := fun z => nfr (List.mem_filterMap.mpr ⟨X.env, List.mem_cons_self, by rw [hf, z]⟩)
    have nF : a ∉ X.fs := fun hm => by
      obtain ⟨e, he, q⟩ := List.mem_filterMap.mp hm
      exact nfr (List.mem_filterMap.mpr ⟨e, List.mem_cons_of_mem _ he, q⟩)
    have S3 := J3.suite he3 hd3 na nL nF
    have test : ∀ {x : Str} {c : Value} {np : Pos} {b : Bool} {Q : Value → Shared → Prop} {E : Value → Shared → Prop}, Names X x c → Q c { s' with heap := h3 } → wpAny (model X.prog X.w) (X.A.mark (some (.ref a))) (eval (.Name x np) X.env) Q E { s' with heap := h3 } := fun {x c np b Q E} hc q => by
      obtain ⟨hg, hdbg, hm | ⟨hm, hv, hnn⟩⟩ := hc
      · exact ld_glob (X := X.suite a ((a, oe3) :: (X.pn ++ pins))) S3 hg hm q hdbg
      · exact ld_blt (X := X.suite a ((a, oe3) :: (X.pn ++ pins))) S3 hg hm hv q hnn hdbg
    have LT : PySem.W.Looks (model X.prog X.w) h3 (typeOf (.ref a)) cls := fun A Q E s k q => wpAny_typeOf_ref (k _ _ he3) (by rw [hz3.1]; exact q)
    have go : ∀ {hds' : List ExceptHandler} {l' : List Clause}, HdsN X hds' l' → wManyN X.K Wout D l' cls d σ' H' →
        wpAny (model X.prog X.w) X.A (handleBy (.ref a) X.env hds') (SP X pins D) X.xe { s' with heap := h3 } := by
      intro hds' l' hk
      induction hk with
      | nil =>
        intro w
        refine wpAny_handleBy_nil ?_
        obtain ⟨k1, k2, k3, oe, vs, T, oT, ts', he, hz, hd, h1, hr⟩ := id fl3
        unfold PySem.passOn
        refine wpAny_bind (wpAny_field he hd h1 ?_)
        rw [if_neg (show ¬ ((Value.ref T == Value.none) = true) from by simp)]
        have fin : wpAny (model X.prog X.w) X.A (setFlight (.ref a) X.env.frame) (fun _ s4 => wpAny (model X.prog X.w) X.A (throw (.ref a) : Sem Flow) (SP X pins D) X.xe s4) X.xe { s' with heap := h3 } := by
          rw [hf]
          refine HandSPX.setFlight_upZ fl3 fun h4 hh4 up4 => wpAny_throw (tk _ _ ?_)
          exact ⟨a, B, sI, pins, σ', H', cls, d, rfl, J, nb, (up.trans up3).trans up4, .inr (.inr (by rw [hs]; exact hh4)), na, os, ag, w⟩
        first
          | exact wpAny_bind (wpAny_pure (wpAny_bind fin))
          | exact wpAny_bind fin
      | @cons x c ts b₀ suite np pos' hds2 l2 hc hsu r ih =>
        intro w
        obtain ⟨b, hb1, hyes, hno⟩ := w
        refine wpAny_handleBy_cons (codeAny_handlers_test ?_) (by intro q; cases q)
        have LM := PySem.W.exm_one (M := model X.prog X.w) (J3.kIn) LT hb1
        refine test (b := b) hc (LM.here ?_)
        cases b with
        | true =>
          refine codeAny_handlers_suite ?_
          refine HandSPX.lands_againZ fl3 fun h4 fl4 up4 => ?_
          have J4 : Inv X pins σ' H' { s' with heap := h4 } := J.landed nb fl4.1 ((up.trans up3).trans up4) os ag
          obtain ⟨oe4, vs4, he4, hz4, hd4⟩ := fl4.there
          have S4 := J4.suite he4 hd4 na nL nF
          refine wpAny_mono ((hsu a oe4 cls d (X.pn ++ pins) hz4 ⟨_, hd4⟩).run [] _ _ H' _ S4 (hyes rfl a na)) (fun f s6 hsp => ?_) (fun _ _ z => False.elim z)
          cases f with
          | next => obtain ⟨_, _, S6, q6⟩ := hsp; exact ⟨_, _, S6.unsuite ok, q6⟩
          | brk => obtain ⟨_, _, S6, q6⟩ := hsp; exact ⟨_, _, S6.unsuite ok, q6⟩
          | cont => obtain ⟨_, _, S6, q6⟩ := hsp; exact ⟨_, _, S6.unsuite ok, q6⟩
          | ret u => obtain ⟨_, _, _, S6, r6, q6⟩ := hsp; exact ⟨_, _, _, S6.unsuite ok, r6, q6⟩
        | false =>
          show wpAny _ X.A (handleBy (.ref a) X.env hds2) _ _ _
          exact ih (hno rfl)
      | @named x n c i ts b₀ suite np pos' hds2 l2 hN hi hln hc hsu r ih =>
        intro w
        obtain ⟨b, hb1, hyes, hno⟩ := w
        have hloc : Loc X.env.scope n := .inl hln
        refine wpAny_handleBy_cons (codeAny_handlers_test ?_) (by intro q; cases q)
        have LM := PySem.W.exm_one (M := model X.prog X.w) (J3.kIn) LT hb1
        refine test (b := b) hc (LM.here ?_)
        cases b with
        | true =>
          refine codeAny_handlers_suite_as ?_
          refine HandSPX.lands_againZ fl3 fun h4 fl4 up4 => ?_
          have J4 : Inv X pins σ' H' { s' with heap := h4 } := J.landed nb fl4.1 ((up.trans up3).trans up4) os ag
          obtain ⟨oe4, vs4, he4, hz4, hd4⟩ := fl4.there
          have S4 := J4.suite he4 hd4 na nL nF
          refine store_ok (X := X.suite a ((a, oe4) :: (X.pn ++ pins))) (v := .ref a) S4 hN hi hloc rfl (fun s5 S5 => ?_) (.inr hln)
          refine wpAny_mono ((hsu a oe4 cls d (X.pn ++ pins) hz4 ⟨_, hd4⟩).run [] s5 _ H' _ S5 (hyes rfl a na)) (fun f s6 hsp => ?_) (fun _ _ z => False.elim z)
          have fin : ∀ {σ6 : L2.St} {H6 : Hp} {Q : Shared → Prop}, Inv (X.suite a ((a, oe4) :: (X.pn ++ pins))) [] σ6 H6 s6 → (∀ s7, Inv X pins (σ6.set i none) H6 s7 → Q s7) →
              wpAny (model X.prog X.w) X.A (do bindName X.env n .none; unbindBehindTheSuite X.env n pos') (fun _ s7 => Q s7) X.xe s6 := fun {σ6 H6 Q} S6 hq => gone_ok (S6.unsuite ok) hN hi hln hq
          cases f with
          | next => obtain ⟨_, _, S6, q6⟩ := hsp; exact fin S6 fun s7 J7 => ⟨_, _, J7, q6⟩
          | brk => obtain ⟨_, _, S6, q6⟩ := hsp; exact fin S6 fun s7 J7 => ⟨_, _, J7, q6⟩
          | cont => obtain ⟨_, _, S6, q6⟩ := hsp; exact fin S6 fun s7 J7 => ⟨_, _, J7, q6⟩
          | ret u => obtain ⟨_, _, _, S6, r6, q6⟩ := hsp; exact fin S6 fun s7 J7 => ⟨_, _, _, J7, r6, q6⟩
        | false =>
          show wpAny _ X.A (handleBy (.ref a) X.env hds2) _ _ _
          exact ih (hno rfl)
    exact go hh w
  · cases f with
    | next => obtain ⟨_, _, J', q⟩ := hsp; exact wpAny_execs_nil ⟨_, _, J'.ofTry ok, q⟩
    | brk => obtain ⟨_, _, J', q⟩ := hsp; exact ⟨_, _, J'.ofTry ok, q⟩
    | cont => obtain ⟨_, _, J', q⟩ := hsp; exact ⟨_, _, J'.ofTry ok, q⟩
    | ret u => obtain ⟨_, _, _, J', r, q⟩ := hsp; exact ⟨_, _, _, J'.ofTry ok, r, q⟩
end
/-! by data: errors that may have no fields -/
def spY (K : PySem.W.Frag) (R : List Dt → Out → Prop) : Sp := fun vs H Q E => ∃ P ds, Ex P H ∧ HasAll K P vs ds ∧ (∃ o, R ds o) ∧
  (∀ v P' H' d, R ds (.ok d) → Grow P H P' H' → Has K P' v d → Q v H') ∧
  (∀ dx P' H' C fs fd, R ds (.ex C (fs.map (·.1)) fd) → Grow P H P' H' → H dx = none → P' dx = none → H' dx = some (.xd fs) → HasAll K P' (fs.map (·.2)) fd → E (.ref C) (some dx) H') ∧
  (∀ P' H' C, R ds (.ex C [] []) → Grow P H P' H' → E (.ref C) none H')
def XtY (c : Fr) (E : XK) (R : Out → Prop) : Prop := XtD c E R ∧ ∀ P H σ es C, R (.ex C [] []) → Rep c P H σ es → E (.ref C) none H
section
variable {c : Fr} {es : List Sv} {te ta tb tx : TE} {tt tu : TT} {ts : TA} {d x y : Dt} {ds dd : List Dt} {R : List Dt → Out → Prop} {Ro : Out → Prop} {dvs : List V} {D : Ends} {E : XK} {C : Addr} {f : Str}
theorem c_raise0 (hk : XtY c E Ro) (hR : Ro (.ex C [] [])) : Cont c ((fun (_ : Ends) σ H => (fun (_ : L2.St) (H : Hp) (Q : XK) => Q (.ref C) none H) σ H fun cls d H' => E cls d H') D) es := fun σ P H r => hk.2 P H σ es C hR r
theorem ev_callY (h : EDs c ts es ds) (hd : ∀ P, HasAll c.K P dvs dd) (hR : ∃ o, R (ds ++ dd) o) (hx : ∀ C ns fd, R (ds ++ dd) (.ex C ns fd) → Ro (.ex C ns fd)) (hk : XtY c E Ro) : EV c (tCall (spY c.K R) dvs E ts) es (fun d => R (ds ++ dd) (.ok d)) := fun σ P H r Q q =>
  h σ P H r _ fun vs P1 H1 l hl r1 e1 k1 => by
    subst hl
    exact ⟨P1, l ++ dd, r1.ex, k1.append (hd P1), hR, fun v P2 H2 d hr g hv => q v P2 H2 d hr (r1.step g) (e1.trans (.of g)) hv, fun dx P2 H2 C fs fd hr g h0 hP hx' hf => hk.1 dx P2 H2 σ es C fs fd (hx _ _ _ hr) (r1.step g) (r1.dom dx h0) hP hx' hf, fun P2 H2 C hr g => hk.2 P2 H2 σ es C (hx _ _ _ hr) (r1.step g)⟩
theorem XtY.low {P1 : Hp} (L : Low c P1) (h : XtY c E Ro) : XtY (c.at P1) E Ro := ⟨h.1.low L, fun P H σ es C e r => h.2 P H σ es C e (L r)⟩
/-- a call that surely comes back -/
theorem ed_callY (h : EDs c ts es ds) (hd : ∀ P, HasAll c.K P dvs dd) (hR : R (ds ++ dd) (.ok d)) (h1 : ∀ o, R (ds ++ dd) o → o = .ok d) : ED c (tCall (spY c.K R) dvs E ts) es d := fun σ P H r Q q =>
  h σ P H r _ fun vs P1 H1 l hl r1 e1 k1 => by
    subst hl
    refine ⟨P1, l ++ dd, r1.ex, k1.append (hd P1), ⟨_, hR⟩, fun v P2 H2 x hr g hv => ?_, (fun dx P2 H2 C fs fd hr _ _ _ _ _ => by cases h1 _ hr), fun P2 H2 C hr _ => by cases h1 _ hr⟩
    cases h1 _ hr
    exact q v P2 H2 _ rfl (r1.step g) (e1.trans (.of g)) hv
theorem pairs_none {fs : List (Str × V)} (h : fs.map (·.1) = []) : fs = [] := List.map_eq_nil_iff.mp h
/-- try: f(..) / except CA as e: found.append((e.f, e.g)) / except CB: found.append(w) -/
theorem c_try2 {CA CB : Addr} {f g : Str} {w : Dt} {te : TE} {i n : Nat} {lo : Addr} {l0 : List Dt} {Wout : WX} (hfg : (f == g) = false) (h : EDs c ts es ds) (hi : i < es.length) (hne : i ≠ n) (h0 : es[n]? = some (.own lo l0)) (hz : l0.length < 100000)
    (mAA : PySem.W.exmOne c.K (.ref CA) (.ref CA) = some true) (mBA : PySem.W.exmOne c.K (.ref CB) (.ref CA) = some false) (mBB : PySem.W.exmOne c.K (.ref CB) (.ref CB) = some true) (hR : ∃ o, R ds o) (hok : ∀ d, R ds (.ok d) → Cont c D.nx es) (hw : ED c te es w)
    (hex : ∀ C' ns fd, R ds (.ex C' ns fd) → (C' = CA ∧ ns = [g, f] ∧ ∃ y x, fd = [y, x] ∧ Cont c D.nx (((es.set i .no).set n (.own lo (l0 ++ [.tup [x, y]]))).set i .no)) ∨ (C' = CB ∧ Cont c D.nx (es.set n (.own lo (l0 ++ [w]))))) :
    Cont c ((fun D σ H => (fun W => tDrop (tCallS (spY c.K R) (WE W) ts)) (wManyN c.K Wout D [(.ref CA, some i, fun a cls d => tDrop (tBM c.K "list" rAppend (tVar n) (tCons (tTup (tCons (tXf a cls d CA f (tVar i)) (tCons (tXf a cls d CA g (tVar i)) tNil))) tNil))), (.ref CB, none, fun _ _ _ => tDrop (tBM c.K "list" rAppend (tVar n) (tCons te tNil)))]) D σ H) D) es := fun σ P H r =>
  h σ P H r _ fun vs P1 H1 l hl r1 e1 h1 => by
    subst hl
    have second : ∀ {P2 H2 cls d}, Rep c P2 H2 σ es → PySem.W.exmOne c.K cls (.ref CA) = some false → PySem.W.exmOne c.K cls (.ref CB) = some true → Cont c D.nx (es.set n (.own lo (l0 ++ [w]))) → wManyN c.K Wout D [(.ref CA, some i, fun a cls d => tDrop (tBM c.K "list" rAppend (tVar n) (tCons (tTup (tCons (tXf a cls d CA f (tVar i)) (tCons (tXf a cls d CA g (tVar i)) tNil))) tNil))), (.ref CB, none, fun _ _ _ => tDrop (tBM c.K "list" rAppend (tVar n) (tCons te tNil)))] cls d σ H2 := fun {P2 H2 cls d} r2 m1 m2 k =>
      ⟨false, m1, (fun z => by cases z), fun _ => ⟨true, m2, fun _ a ha => c_app (D := D) (φ := fun x => x = w) h0 hw hz (fun x e => by rw [e]; exact k) σ P2 H2 r2, fun z => by cases z⟩⟩
    refine ⟨P1, l, r1.ex, h1, hR, fun v P2 H2 d hr g hv => hok d hr _ P2 H2 (r1.step g), fun dx P2 H2 C' fs fd hr gr hd0 hP hx hf => ?_, fun P2 H2 C' hr gr => ?_⟩
    · rcases hex _ _ _ hr with ⟨rfl, hn, y, x, rfl, k⟩ | ⟨rfl, k⟩
      · obtain ⟨u, v, rfl⟩ := pairs_two hn
        cases hf with
        | cons hy hf =>
          cases hf with
          | cons hx1 _ =>
            refine ⟨true, mAA, fun _ a ha => ?_, fun z => by cases z⟩
            have r3 := (r1.step gr).drop (o := some (.ref a)) i
            have sa : (σ.set i (some (V.ref a)))[i]? = some (some (.ref a)) := List.getElem?_set_self (by rw [r1.sl.len]; exact hi)
            have hn2 : (es.set i .no)[n]? = some (.own lo l0) := by rw [List.getElem?_set_ne hne]; exact h0
            obtain ⟨e0, _, _, xs, hxs, hds⟩ := r3.sl.getO hn2
            refine ⟨_, e0, .inl ⟨rfl, xs, Evl.sq_of hxs⟩, .ref a, sa, rfl, rfl, dx, _, v, rfl, hx, ?_, .ref a, sa, rfl, rfl, dx, _, u, rfl, hx, ?_, ?_⟩
            · show ([(g, u), (f, v)] : List (Str × V)).lookup f = some v
              rw [List.lookup_cons, hfg, List.lookup_cons, beq_self_eq_true]
            · show ([(g, u), (f, v)] : List (Str × V)).lookup g = some u
              rw [List.lookup_cons, beq_self_eq_true]
            · refine ⟨(by show 2 ≤ sizeLine; decide), fun p hp => ?_⟩
              have g5 := grow_new (o := .tup [v, u]) r3.ex hp
              have r5 := r3.step g5
              obtain ⟨_, _, _, ys, hys, hds⟩ := r5.sl.getO hn2
              have hv : Has c.K _ (.ref p) (.tup [x, y]) := .tup (Evl.st_of upd_same) (.cons (Has.mono g5.p _ hx1) (.cons (Has.mono g5.p _ hy) .nil))
              exact ⟨lo, ys, .ref p, rfl, rfl, hys, Evl.sz_lt (by rw [hds.len]; exact hz), k _ _ _ ((r5.change hn2 (hds.append (.cons hv .nil))).drop (o := none) i)⟩
      · exact second (r1.step gr) mBA mBB k
    · rcases hex _ _ _ hr with ⟨rfl, hn, _⟩ | ⟨rfl, k⟩
      · cases hn
      · exact second (r1.step gr) mBA mBB k
/-- try: x = f(..) / except C as e: return e.f -/
theorem c_tryAR {C : Addr} {f : Str} {i m : Nat} {Wout : WX} (h : EDs c ts es ds) (hi : i < es.length) (hm : PySem.W.exmOne c.K (.ref C) (.ref C) = some true) (hR : ∃ o, R ds o) (hok : ∀ d, R ds (.ok d) → Cont c D.nx (es.set m (.dat d)))
    (hex : ∀ C' ns fd, R ds (.ex C' ns fd) → C' = C ∧ ns = [f] ∧ ∃ d, fd = [d] ∧ RetD c D.rt (fun z => z = d)) :
    Cont c ((fun D σ H => (fun W => tAsg (tCallS (spY c.K R) (WE W) ts) (gName m)) (wAs c.K (.ref C) i (fun a cls d => tRet (tXf a cls d C f (tVar i))) Wout D) D σ H) D) es := fun σ P H r =>
  h σ P H r _ fun vs P1 H1 l hl r1 e1 h1 => by
    subst hl
    refine ⟨P1, l, r1.ex, h1, hR, fun v P2 H2 d hr g hv => hok d hr _ P2 H2 ((r1.step g).put m hv), fun dx P2 H2 C' fs fd hr g h0 hP hx hf => ?_, fun P2 H2 C' hr g => ?_⟩
    · obtain ⟨rfl, hn, d, rfl, k⟩ := hex _ _ _ hr
      obtain ⟨v, rfl⟩ := pairs_one hn
      cases hf with
      | cons hv _ =>
        refine ⟨true, hm, fun _ a ha => ?_, fun z => by cases z⟩
        have r3 := (r1.step g).drop (o := some (.ref a)) i
        have sa : (σ.set i (some (V.ref a)))[i]? = some (some (.ref a)) := List.getElem?_set_self (by rw [r1.sl.len]; exact hi)
        exact ⟨.ref a, sa, rfl, rfl, dx, _, v, rfl, hx, (by rw [List.lookup_cons, beq_self_eq_true]), k _ _ _ _ _ _ rfl r3 hv⟩
    · obtain ⟨_, hn, _⟩ := hex _ _ _ hr
      cases hn
/-- a def that may raise an error without fields -/
theorem fnY {P : Program} {w : World} {K : PySem.W.Frag} {mg : Str → Option Value} {base : Heap} {f : Addr} {fd : FuncData} {x : Str} {st : Stmt} {N ps : List Str} {da : List V} {kw : List (Str × V)} {n m : Nat} {tx : XK → TS} {RX : List Dt → Out → Prop} (F : FunD K x x (defArgs st) (defBody st) (defScope st) da kw f fd) (S : FnScope N ps (defScope st)) (hN : N.length = ps.length + n) (hl : ∀ ds d, RX ds d → ds.length = ps.length) (drv : Drv P w K mg base x st N m tx)
    (sem : ∀ (P0 H0 : Hp) (D : Ends) (E : XK) (ds : List Dt), (∃ d, RX ds d) → RetD ⟨K, [], P0, H0⟩ D.rt (fun d => RX ds (.ok d)) → XtY ⟨K, [], P0, H0⟩ E (RX ds) → Cont ⟨K, [], P0, H0⟩ (tx E D) (args ds n)) : FnOk P w K mg base (L2.CX P w) (m + 1) f fd ps (spY K RX) := by
  refine F.ok S (fun vs H Q E h => ?_) (fun cdv A outer s H vs Q E hr h => ⟨tx E, drv _ _ _ _ _ _ _ hr, ?_⟩)
  · obtain ⟨P, ds, e, ha, ⟨d, hd⟩, _⟩ := h
    rw [ha.len, hl ds d hd]
  · obtain ⟨P, ds, e, ha, ⟨d, hd⟩, q, qx, qy⟩ := h
    rw [start_eq (n := n) (by rw [hN, ha.len, hl ds d hd])]
    exact sem P H _ E ds ⟨d, hd⟩ (fun v P' H' σ es x hx r hv => q v P' H' x hx (r.grow rfl) hv) ⟨fun dx P' H' σ es C fs fd hx r h0 h1 h2 h3 => qx dx P' H' C fs fd hx (r.grow rfl) h0 h1 h2 h3, fun P' H' σ es C hx r => qy P' H' C hx (r.grow rfl)⟩ _ P H (rep_start e ha)
end
end My
set_option Elab.async false
set_option linter.all false
set_option maxRecDepth 100000
set_option maxHeartbeats 2000000
/-! A list or a tuple taken apart; an item of either; the greatest of a list. -/
namespace My
open PySem PySem.Spec PyProof.Rows L2 RZ StX
open Evl (Ex)
def gSeqA (K : PySem.W.Frag) (n : Nat) (t : TGs) : TG := fun v σ H Q => gTup K n t v σ H Q ∨ gLst K n t v σ H Q
theorem pg_seqA {X : Cx} {es : List Expr} {k : Nat} {t : TGs} {n : Nat} {pos : Pos} (hc : X.calm = true) (h : PGs X es t)
    (hn : (assignEach es X.env).length = n := by rfl) (hst : (assignEach es X.env).findIdx? (·.1) = none := by rfl) : PG X (.Tuple es k pos) (gSeqA X.K n t) :=
  ⟨fun pins s σ H v u Q I r hw => hw.elim (fun w => (pg_tup hc h hn hst).run pins s σ H v u Q I r w) fun w => (pg_lst hc h hn hst).run pins s σ H v u Q I r w⟩
section
variable {c : Fr} {es : List Sv} {te ta tb : TE} {tt : TT} {t u w : TS} {d x y z : Dt} {l : List Dt} {i : Int} {D : Ends} {n m : Nat}
theorem c_unpackS (h : ED c te es z) (hz : itemsD z = some [x, y]) (k : Cont c D.nx ((es.set n (.dat x)).set m (.dat y))) : Cont c (tAsg te (gSeqA c.K 2 (gCons (gName n) (gCons (gName m) gNil))) D) es := fun σ P H r =>
  h σ P H r _ fun v P1 H1 a ha r1 e1 h1 => by
    subst ha
    cases h1 with
    | @lst p xs _ s h1 =>
      cases Option.some.inj hz
      cases h1 with
      | cons a h1 =>
        cases h1 with
        | cons b h1 =>
          cases h1
          exact .inr ⟨_, _, rfl, Evl.ex_l r1.ex s, rfl, _, _, rfl, _, _, rfl, rfl, k _ P1 H1 ((r1.put n a).put m b)⟩
    | @tup p xs _ s h1 =>
      cases Option.some.inj hz
      cases h1 with
      | cons a h1 =>
        cases h1 with
        | cons b h1 =>
          cases h1
          exact .inl ⟨_, _, rfl, Evl.ex_t r1.ex s, rfl, _, _, rfl, _, _, rfl, rfl, k _ P1 H1 ((r1.put n a).put m b)⟩
    | _ => cases hz
theorem s_unpackS (h : ED c te es z) (hz : itemsD z = some [x, y]) (k : Cont c (u D) ((es.set n (.dat x)).set m (.dat y))) : Cont c (tSeq (tAsg te (gSeqA c.K 2 (gCons (gName n) (gCons (gName m) gNil)))) u D) es := c_seq (c_unpackS h hz k)
theorem ed_ixI (ha : ED c ta es x) (hx : itemsD x = some l) (hb : ED c tb es (.int i)) (e : atI l i = some d) : ED c (tOp (rIx c.K) ta tb) es d := by
  cases x with
  | lst m => cases Option.some.inj hx; exact ed_ixL ha hb e
  | tup m => cases Option.some.inj hx; exact ed_ixT ha hb e
  | _ => cases hx
/-- max of a list of ints -/
theorem ed_maxL {ns : List Int} {mx : Int} (h : ED c ta es (.lst (ns.map Dt.int))) (hm : mx ∈ ns) (hg : ∀ y ∈ ns, y ≤ mx) : ED c (tCB (rMax c.K) (tCons ta tNil)) es (.int mx) := fun σ P H r Q q =>
  h σ P H r _ fun v P1 H1 z hz r1 e1 h1 => by
    subst hz
    cases h1 with
    | @lst p xs _ s k =>
      have hxs : xs = ns.map V.int := by
        clear h s q r e1 r1 hm hg
        induction ns generalizing xs with
        | nil => cases k; rfl
        | cons a ns ih =>
          cases k with
          | cons h1 h2 =>
            cases h1
            rw [ih h2] <;> rfl
      subst hxs
      refine ⟨p, ns, rfl, Evl.ex_l r1.ex s, List.length_pos_of_mem hm, fun m h1 h2 => ?_⟩
      have e : m = mx := by
        have := hg m h1
        have := h2 mx hm
        omega
      subst e
      exact q _ P1 H1 _ rfl r1 e1 (.int _)
theorem evs_starV {φ : Dt → Prop} {ρ : List Dt → Prop} {ts : TA} (h : EV c te es φ) (hx : ∀ d, φ d → ∃ l, itemsD d = some l) (hr : EVs c ts es ρ) : EVs c (tStar c.K te ts) es (fun r => ∃ d l m, φ d ∧ itemsD d = some l ∧ r = l ++ m ∧ ρ m) := fun σ P H r Q q =>
  h σ P H r _ fun v P1 H1 a ha r1 e1 h1 => by
    obtain ⟨l, hl⟩ := hx a ha
    cases h1 with
    | @lst p xs _ s k => exact ⟨p, xs, rfl, .inr (Evl.ex_l r1.ex s), hr σ P1 H1 r1 _ fun vs P2 H2 m hm r2 e2 h2 => q _ P2 H2 _ ⟨_, _, m, ha, rfl, rfl, hm⟩ r2 (e1.trans e2) ((HasAll.mono e2.p _ k).append h2)⟩
    | @tup p xs _ s k => exact ⟨p, xs, rfl, .inl (Evl.ex_t r1.ex s), hr σ P1 H1 r1 _ fun vs P2 H2 m hm r2 e2 h2 => q _ P2 H2 _ ⟨_, _, m, ha, rfl, rfl, hm⟩ r2 (e1.trans e2) ((HasAll.mono e2.p _ k).append h2)⟩
    | _ => cases hl
theorem s_unpackV {φ : Dt → Prop} (h : EV c te es φ) (hφ : ∀ d, φ d → ∃ x y, d = .tup [x, y]) (k : ∀ x y, φ (.tup [x, y]) → Cont c (u D) ((es.set n (.dat x)).set m (.dat y))) : Cont c (tSeq (tAsg te (gTup c.K 2 (gCons (gName n) (gCons (gName m) gNil)))) u D) es := c_seq (fun σ P H r =>
  h σ P H r _ fun v P1 H1 a ha r1 e1 h1 => by
    obtain ⟨x, y, rfl⟩ := hφ a ha
    cases h1 with
    | tup s h1 =>
      cases h1 with
      | cons a h1 =>
        cases h1 with
        | cons b h1 =>
          cases h1
          exact ⟨_, _, rfl, Evl.ex_t r1.ex s, rfl, _, _, rfl, _, _, rfl, rfl, k _ _ ha _ P1 H1 ((r1.put n a).put m b)⟩)
end
end My
set_option Elab.async false
set_option linter.all false
set_option maxRecDepth 100000
set_option maxHeartbeats 2000000
/-! Several objects of one's own (lists within a list); in a tuple; all; errors told. -/
namespace My
open PySem PySem.Spec PyProof.Rows L2 RZ StX
open Evl (Ex)
/-! ### in a tuple -/
def rInT (K : PySem.W.Frag) : R2 := fun x y H Q => ∃ d ds, Dp K H x d ∧ Dp K H y (.tuple ds) ∧ SeqAt.shaped d = true ∧ SeqAt.shaped (.tuple ds) = true ∧ Q (.bl (ds.any fun z => PyData.eqv z d)) H
def rNotInT (K : PySem.W.Frag) : R2 := fun x y H Q => ∃ d ds, Dp K H x d ∧ Dp K H y (.tuple ds) ∧ SeqAt.shaped d = true ∧ SeqAt.shaped (.tuple ds) = true ∧ Q (.bl (!ds.any fun z => PyData.eqv z d)) H
theorem op_inT {X : Cx} (hu : X.A.units + 65 < cLine) : OpR X (compareOp .In) (rInT X.K) := by
  intro pins s σ H x y v u Q I rx ry ⟨d, ds, h1, h2, sd, se, q⟩
  obtain ⟨as, r1⟩ := Dp.reads I d x v h1 rx
  obtain ⟨bs, r2⟩ := Dp.reads I (.tuple ds) y u h2 ry
  exact SeqAt.in_tuple_reads r2 r1 (SeqAt.canLay_of_shaped se) (SeqAt.canLay_of_shaped sd) (room_tup sd hu) ⟨.bl _, H, I, rfl, q⟩
theorem op_notInT {X : Cx} (hu : X.A.units + 65 < cLine) : OpR X (compareOp .NotIn) (rNotInT X.K) := by
  intro pins s σ H x y v u Q I rx ry ⟨d, ds, h1, h2, sd, se, q⟩
  obtain ⟨as, r1⟩ := Dp.reads I d x v h1 rx
  obtain ⟨bs, r2⟩ := Dp.reads I (.tuple ds) y u h2 ry
  exact SeqAt.notIn_tuple_reads r2 r1 (SeqAt.canLay_of_shaped se) (SeqAt.canLay_of_shaped sd) (room_tup sd hu) ⟨.bl _, H, I, rfl, q⟩
section
variable {c : Fr} {es : List Sv} {ta tb te : TE} {ts : TA} {x y d : Dt} {l m : List Dt} {tt tu : TT} {D : Ends} {t u : TS} {n : Nat} {i j : Int} {b : Bool}
theorem ed_inT (ha : ED c ta es x) (hb : ED c tb es (.tup l)) (hx : fine x = true) (hy : fine (.tup l) = true) : ED c (tOp (rInT c.K) ta tb) es (.bl (l.any fun y => eqv y x)) := ed_op ha hb (rd_sc (fun _ => .bl _) fun v u P H e hv hu Q q => ⟨py x, pyAll l, Has.dp _ (Has.mono e _ hv) (fine_bare hx), Has.dp _ (Has.mono e _ hu) (fine_bare hy), fine_shaped hx, fine_shaped hy, by
    rw [any_eqv]
    exact q⟩)
/-! ### all -/
theorem bls_of {K : PySem.W.Frag} {P : Hp} : ∀ {bs : List Bool} {xs : List V}, HasAll K P xs (bs.map Dt.bl) → xs = bs.map V.bl
  | [], _, h => by cases h; rfl
  | b :: bs, _, h => by
    cases h with
    | cons h1 h2 =>
      cases h1
      rw [bls_of h2] <;> rfl
theorem ed_all {bs : List Bool} (h : ED c ta es (.lst (bs.map Dt.bl))) : ED c (tCB (rAll c.K) (tCons ta tNil)) es (.bl (bs.all id)) := fun σ P H r Q q =>
  h σ P H r _ fun v P1 H1 z hz r1 e1 h1 => by
    subst hz
    cases h1 with
    | @lst p xs _ s k =>
      cases bls_of k
      exact ⟨p, bs, rfl, Evl.ex_l r1.ex s, q _ P1 H1 _ rfl r1 e1 (.bl _)⟩
theorem ints_has {K : PySem.W.Frag} {P : Hp} : ∀ {ns : List Int} {xs : List V}, HasAll K P xs (ns.map Dt.int) → xs = ns.map V.int
  | [], _, h => by cases h; rfl
  | b :: bs, _, h => by
    cases h with
    | cons h1 h2 =>
      cases h1
      rw [ints_has h2] <;> rfl
theorem ed_minL {ns : List Int} {mx : Int} (h : ED c ta es (.lst (ns.map Dt.int))) (hm : mx ∈ ns) (hg : ∀ y ∈ ns, mx ≤ y) : ED c (tCB (rMin c.K) (tCons ta tNil)) es (.int mx) := fun σ P H r Q q =>
  h σ P H r _ fun v P1 H1 z hz r1 e1 h1 => by
    subst hz
    cases h1 with
    | @lst p xs _ s k =>
      cases ints_has k
      refine ⟨p, ns, rfl, Evl.ex_l r1.ex s, List.length_pos_of_mem hm, fun m h1 h2 => ?_⟩
      have e : m = mx := by
        have := hg m h1
        have := h2 mx hm
        omega
      subst e
      exact q _ P1 H1 _ rfl r1 e1 (.int _)
/-! ### an error's two fields as a tuple -/
theorem xf_pair {P H : Hp} {σ : L2.St} {a dx C : Addr} {u v : V} {f g : Str} {i : Nat} (hfg : (f == g) = false) (r : Rep c P H σ es) (sa : σ[i]? = some (some (.ref a))) (hx : H dx = some (.xd [(g, u), (f, v)])) (hv : Has c.K P v x) (hu : Has c.K P u y) {Q : VK}
    (q : ∀ w P' H', Rep c P' H' σ es → Has c.K P' w (.tup [x, y]) → Q w H') : tTup (tCons (tXf a (.ref C) (some dx) C f (tVar i)) (tCons (tXf a (.ref C) (some dx) C g (tVar i)) tNil)) σ H Q := by
  refine ⟨.ref a, sa, rfl, rfl, dx, _, v, rfl, hx, ?_, .ref a, sa, rfl, rfl, dx, _, u, rfl, hx, ?_, ?_⟩
  · show ([(g, u), (f, v)] : List (Str × V)).lookup f = some v
    rw [List.lookup_cons, hfg, List.lookup_cons, beq_self_eq_true]
  · show ([(g, u), (f, v)] : List (Str × V)).lookup g = some u
    rw [List.lookup_cons, beq_self_eq_true]
  · refine ⟨by show 2 ≤ sizeLine; decide, fun p hp => ?_⟩
    have gr := grow_new (o := .tup [v, u]) r.ex hp
    exact q _ _ _ (r.step gr) (.tup (Evl.st_of upd_same) (.cons (Has.mono gr.p _ hv) (.cons (Has.mono gr.p _ hu) .nil)))
section
variable {ds : List Dt} {R : List Dt → Out → Prop} {C : Addr} {f g : Str} {Wout : WX}
/-- try: f(..), except C as e: xs.append((e.f, e.g)) -/
theorem c_tryAp {i k : Nat} {lo : Addr} {l0 : List Dt} (hfg : (f == g) = false) (h : EDs c ts es ds) (hi : i < es.length) (hne : i ≠ k) (h0 : es[k]? = some (.own lo l0)) (hz : l0.length < 100000) (hm : PySem.W.exmOne c.K (.ref C) (.ref C) = some true) (hR : ∃ o, R ds o)
    (hok : ∀ d, R ds (.ok d) → Cont c D.nx es) (hex : ∀ C' ns fd, R ds (.ex C' ns fd) → C' = C ∧ ns = [g, f] ∧ ∃ y x, fd = [y, x] ∧ Cont c D.nx (((es.set i .no).set k (.own lo (l0 ++ [.tup [x, y]]))).set i .no)) :
    Cont c ((fun D σ H => (fun W => tDrop (tCallS (spX c.K R) (WE W) ts)) (wAs c.K (.ref C) i (fun a cls d => tDrop (tBM c.K "list" rAppend (tVar k) (tCons (tTup (tCons (tXf a cls d C f (tVar i)) (tCons (tXf a cls d C g (tVar i)) tNil))) tNil))) Wout D) D σ H) D) es := fun σ P H r =>
  h σ P H r _ fun vs P1 H1 l hl r1 e1 h1 => by
    subst hl
    refine ⟨P1, l, r1.ex, h1, hR, fun v P2 H2 d hr g hv => hok d hr _ P2 H2 (r1.step g), fun dx P2 H2 C' fs fd hr gr h00 hP hx hf => ?_⟩
    obtain ⟨rfl, hn, y, x, rfl, q⟩ := hex _ _ _ hr
    obtain ⟨u, v, rfl⟩ := pairs_two hn
    cases hf with
    | cons hy hf =>
      cases hf with
      | cons hx1 _ =>
        refine ⟨true, hm, fun _ a ha => ?_, fun z => by cases z⟩
        have r3 := (r1.step gr).drop (o := some (.ref a)) i
        have sa : (σ.set i (some (V.ref a)))[i]? = some (some (.ref a)) := List.getElem?_set_self (by rw [r1.sl.len]; exact hi)
        have hk : (es.set i .no)[k]? = some (.own lo l0) := by rw [List.getElem?_set_ne hne]; exact h0
        obtain ⟨e0, _, _, xs, hx0, hd0⟩ := r3.sl.getO hk
        refine ⟨_, e0, .inl ⟨rfl, xs, Evl.sq_of hx0⟩, ?_⟩
        refine xf_pair hfg r3 sa hx hx1 hy fun w P4 H4 r4 hw => ?_
        obtain ⟨_, _, _, ys, hy0, hd⟩ := r4.sl.getO hk
        exact ⟨lo, ys, w, rfl, rfl, hy0, Evl.sz_lt (by rw [hd.len]; exact hz), q _ P4 _ ((r4.change hk (hd.append (.cons hw .nil))).drop i)⟩
/-- try: m = f(..), except C as e: return (e.f, e.g) -/
theorem c_tryAR2 {i m : Nat} (hfg : (f == g) = false) (h : EDs c ts es ds) (hi : i < es.length) (hm : PySem.W.exmOne c.K (.ref C) (.ref C) = some true) (hR : ∃ o, R ds o) (hok : ∀ d, R ds (.ok d) → Cont c D.nx (es.set m (.dat d)))
    (hex : ∀ C' ns fd, R ds (.ex C' ns fd) → C' = C ∧ ns = [g, f] ∧ ∃ y x, fd = [y, x] ∧ RetD c D.rt (fun z => z = .tup [x, y])) :
    Cont c ((fun D σ H => (fun W => tAsg (tCallS (spX c.K R) (WE W) ts) (gName m)) (wAs c.K (.ref C) i (fun a cls d => tRet (tTup (tCons (tXf a cls d C f (tVar i)) (tCons (tXf a cls d C g (tVar i)) tNil)))) Wout D) D σ H) D) es := fun σ P H r =>
  h σ P H r _ fun vs P1 H1 l hl r1 e1 h1 => by
    subst hl
    refine ⟨P1, l, r1.ex, h1, hR, fun v P2 H2 d hr g hv => hok d hr _ P2 H2 ((r1.step g).put m hv), fun dx P2 H2 C' fs fd hr gr h0 hP hx hf => ?_⟩
    obtain ⟨rfl, hn, y, x, rfl, k⟩ := hex _ _ _ hr
    obtain ⟨u, v, rfl⟩ := pairs_two hn
    cases hf with
    | cons hy hf =>
      cases hf with
      | cons hx1 _ =>
        refine ⟨true, hm, fun _ a ha => ?_, fun z => by cases z⟩
        have r3 := (r1.step gr).drop (o := some (.ref a)) i
        have sa : (σ.set i (some (V.ref a)))[i]? = some (some (.ref a)) := List.getElem?_set_self (by rw [r1.sl.len]; exact hi)
        exact xf_pair hfg r3 sa hx hx1 hy fun w P4 H4 r4 hw => k w P4 H4 _ _ _ rfl r4 hw
/-- try: f(..), except C as e: return (e.f, e.g) == w -/
theorem c_tryRq {i n : Nat} {w : Dt} (hfg : (f == g) = false) (h : EDs c ts es ds) (hi : i < es.length) (hne : i ≠ n) (hw : es[n]? = some (.dat w)) (fw : fine w = true) (hm : PySem.W.exmOne c.K (.ref C) (.ref C) = some true) (hR : ∃ o, R ds o) (hok : ∀ d, R ds (.ok d) → Cont c D.nx es)
    (hex : ∀ C' ns fd, R ds (.ex C' ns fd) → C' = C ∧ ns = [g, f] ∧ ∃ y x, fd = [y, x] ∧ fine (.tup [x, y]) = true ∧ ∀ v P H σ, Rep c P H σ (es.set i .no) → Has c.K P v (.bl (eqv (.tup [x, y]) w)) → D.rt v H) :
    Cont c ((fun D σ H => (fun W => tDrop (tCallS (spX c.K R) (WE W) ts)) (wAs c.K (.ref C) i (fun a cls d => tRet (tOp (rEqD c.K) (tTup (tCons (tXf a cls d C f (tVar i)) (tCons (tXf a cls d C g (tVar i)) tNil))) (tVar n))) Wout D) D σ H) D) es := fun σ P H r =>
  h σ P H r _ fun vs P1 H1 l hl r1 e1 h1 => by
    subst hl
    refine ⟨P1, l, r1.ex, h1, hR, fun v P2 H2 d hr g hv => hok d hr _ P2 H2 (r1.step g), fun dx P2 H2 C' fs fd hr gr h0 hP hx hf => ?_⟩
    obtain ⟨rfl, hn, y, x, rfl, fx, k⟩ := hex _ _ _ hr
    obtain ⟨u, v, rfl⟩ := pairs_two hn
    cases hf with
    | cons hy hf =>
      cases hf with
      | cons hx1 _ =>
        refine ⟨true, hm, fun _ a ha => ?_, fun z => by cases z⟩
        have r3 := (r1.step gr).drop (o := some (.ref a)) i
        have sa : (σ.set i (some (V.ref a)))[i]? = some (some (.ref a)) := List.getElem?_set_self (by rw [r1.sl.len]; exact hi)
        have hw' : (es.set i .no)[n]? = some (.dat w) := by rw [List.getElem?_set_ne hne]; exact hw
        show tTup (tCons (tXf a (.ref C') (some dx) C' f (tVar i)) (tCons (tXf a (.ref C') (some dx) C' g (tVar i)) tNil)) (σ.set i (some (V.ref a))) H2 (fun x H1 => tVar n (σ.set i (some (V.ref a))) H1 fun y H2 => rEqD c.K x y H2 D.rt)
        refine xf_pair hfg r3 sa hx hx1 hy fun z P4 H4 r4 hz => ?_
        obtain ⟨v2, e2, hv2⟩ := r4.sl.get hw'
        exact ⟨v2, e2, rd_eq (c := c) fx fw z v2 P4 H4 r4.ex hz hv2 _ fun w5 P5 H5 d5 hd5 g5 h5 => by
          subst hd5
          exact k w5 P5 H5 _ (r4.step g5) h5⟩
end
/-! ### lists within a list, all one's own -/
theorem owns_app (s : Sv) (es : List Sv) : owns (s :: es) = owns [s] ++ owns es := by
  cases s with
  | gen a ins _ => show (a :: ins) ++ owns es = ((a :: ins) ++ []) ++ owns es; rw [List.append_nil]
  | _ => rfl
theorem owns_putG {s : Sv} : ∀ {es : List Sv} (i : Nat), (∀ x ∈ owns [s], x ∉ owns es) → (owns [s]).Nodup → (owns es).Nodup → (owns (es.set i s)).Nodup ∧ ∀ x ∈ owns (es.set i s), x ∈ owns [s] ∨ x ∈ owns es
  | [], _, _, _, n => ⟨n, fun _ h => .inr h⟩
  | e :: es, 0, hn, ns, n => by
    rw [owns_app e] at n hn
    show (owns (s :: es)).Nodup ∧ ∀ x ∈ owns (s :: es), _
    rw [owns_app s, owns_app e]
    refine ⟨List.nodup_append.mpr ⟨ns, (List.nodup_append.mp n).2.1, fun x hx y hy z => hn x hx (by rw [z]; exact List.mem_append_right _ hy)⟩, fun x hx => ?_⟩
    rcases List.mem_append.mp hx with h | h
    · exact .inl h
    · exact .inr (List.mem_append_right _ h)
  | e :: es, i + 1, hn, ns, n => by
    rw [owns_app e] at n hn
    show (owns (e :: es.set i s)).Nodup ∧ ∀ x ∈ owns (e :: es.set i s), _
    rw [owns_app e (es.set i s), owns_app e es]
    obtain ⟨n1, n2, n3⟩ := List.nodup_append.mp n
    obtain ⟨q1, q2⟩ := owns_putG (es := es) i (fun x hx h => hn x hx (List.mem_append_right _ h)) ns n2
    refine ⟨List.nodup_append.mpr ⟨n1, q1, fun x hx y hy z => ?_⟩, fun x hx => ?_⟩
    · subst z
      rcases q2 x hy with h | h
      · exact hn x h (List.mem_append_left _ hx)
      · exact n3 x hx x h rfl
    · rcases List.mem_append.mp hx with h | h
      · exact .inr (List.mem_append_left _ h)
      · exact (q2 x h).imp id fun z => List.mem_append_right _ z
theorem Rep.putG {P H : Hp} {σ : L2.St} {a : Addr} {ins : List Addr} {φ : Hp → Hp → Prop} (r : Rep c P H σ es) (i : Nat) (h : GenOk c P H a ins φ) (hn : ∀ x ∈ a :: ins, x ∉ owns es) (nd : (a :: ins).Nodup) : Rep c P H (σ.set i (some (.ref a))) (es.set i (.gen a ins φ)) := by
  have e : owns [Sv.gen a ins φ] = a :: ins := by show (a :: ins) ++ [] = _; rw [List.append_nil]
  exact ⟨r.b, r.old, r.dom, r.ex, r.fr, Sl.set (.gen h .nil) i r.sl, (owns_putG i (by rw [e]; exact hn) (by rw [e]; exact nd) r.nd).1⟩
def InAll (K : PySem.W.Frag) (P H : Hp) : List Addr → List (List Dt) → Prop
  | [], [] => True
  | a :: as, d :: ds => (∃ xs, H a = some (.lst xs) ∧ HasAll K P xs d) ∧ InAll K P H as ds
  | _, _ => False
theorem InAll.len {K : PySem.W.Frag} {P H : Hp} : ∀ {as : List Addr} {ds : List (List Dt)}, InAll K P H as ds → as.length = ds.length
  | [], [], _ => rfl
  | _ :: _, _ :: _, h => by rw [List.length_cons, List.length_cons, h.2.len]
  | [], _ :: _, h => h.elim
  | _ :: _, [], h => h.elim
theorem InAll.step {K : PySem.W.Frag} {P H P' H' : Hp} (e : Ex P P') : ∀ {as : List Addr} {ds : List (List Dt)}, (∀ a ∈ as, H' a = H a) → InAll K P H as ds → InAll K P' H' as ds
  | [], [], _, _ => trivial
  | a :: as, d :: ds, k, ⟨⟨xs, h1, h2⟩, h⟩ => ⟨⟨xs, by rw [k a List.mem_cons_self]; exact h1, HasAll.mono e _ h2⟩, h.step e fun b m => k b (List.mem_cons_of_mem _ m)⟩
  | [], _ :: _, _, h => h.elim
  | _ :: _, [], _, h => h.elim
theorem InAll.get {K : PySem.W.Frag} {P H : Hp} : ∀ {as : List Addr} {ds : List (List Dt)} {i : Nat} {d : List Dt}, InAll K P H as ds → ds[i]? = some d → ∃ a xs, as[i]? = some a ∧ H a = some (.lst xs) ∧ HasAll K P xs d
  | [], [], _, _, _, e => by simp at e
  | a :: as, d :: ds, 0, _, ⟨⟨xs, h1, h2⟩, h⟩, e => by
    cases Option.some.inj e
    exact ⟨a, xs, rfl, h1, h2⟩
  | a :: as, d :: ds, i + 1, _, h, e => by
    obtain ⟨a', xs, q1, q2, q3⟩ := h.2.get (i := i) (by simpa using e)
    exact ⟨a', xs, by simpa using q1, q2, q3⟩
  | [], _ :: _, _, _, h, _ => h.elim
  | _ :: _, [], _, _, h, _ => h.elim
theorem InAll.snoc {K : PySem.W.Frag} {P H : Hp} {b : Addr} {d : List Dt} (hb : ∃ xs, H b = some (.lst xs) ∧ HasAll K P xs d) : ∀ {as : List Addr} {ds : List (List Dt)}, InAll K P H as ds → InAll K P H (as ++ [b]) (ds ++ [d])
  | [], [], _ => ⟨hb, trivial⟩
  | _ :: _, _ :: _, h => ⟨h.1, h.2.snoc hb⟩
  | [], _ :: _, h => h.elim
  | _ :: _, [], h => h.elim
theorem InAll.set {K : PySem.W.Frag} {P H : Hp} {xs : List V} {d : List Dt} (hx : HasAll K P xs d) : ∀ {as : List Addr} {ds : List (List Dt)} {i : Nat} {b : Addr}, as.Nodup → as[i]? = some b → InAll K P H as ds → InAll K P (upd H b (.lst xs)) as (ds.set i d)
  | [], [], _, _, _, e, _ => by simp at e
  | a :: as, e0 :: ds, 0, b, nd, e, h => by
    cases Option.some.inj e
    have n' := (List.nodup_cons.mp nd).1
    exact ⟨⟨xs, upd_same, hx⟩, h.2.step (.refl P) fun c m => upd_ne fun z => n' (by rw [← z]; exact m)⟩
  | a :: as, e0 :: ds, i + 1, b, nd, e, h => by
    have e' : as[i]? = some b := by simpa using e
    have n' := List.nodup_cons.mp nd
    refine ⟨?_, InAll.set hx n'.2 e' h.2⟩
    obtain ⟨ys, q1, q2⟩ := h.1
    exact ⟨ys, by rw [upd_ne fun z => n'.1 (by rw [z]; exact List.mem_of_getElem? e')]; exact q1, q2⟩
  | [], _ :: _, _, _, _, _, h => h.elim
  | _ :: _, [], _, _, _, _, h => h.elim
/-- a list at a of lists at ins -/
def Nest (K : PySem.W.Frag) (H0 : Hp) (a : Addr) (ins : List Addr) (dss : List (List Dt)) : Hp → Hp → Prop := fun P H => (∀ b ∈ a :: ins, H0 b = none) ∧ H a = some (.lst (ins.map V.ref)) ∧ InAll K P H ins dss
theorem nest_st {K : PySem.W.Frag} {H0 : Hp} {a : Addr} {ins : List Addr} {dss : List (List Dt)} : ∀ P H P' H', Ex P P' → (∀ b ∈ a :: ins, H' b = H b) → Nest K H0 a ins dss P H → Nest K H0 a ins dss P' H' := fun P H P' H' e k ⟨h0, h1, h2⟩ =>
  ⟨h0, by rw [k a List.mem_cons_self]; exact h1, h2.step e fun b m => k b (List.mem_cons_of_mem _ m)⟩
theorem s_lcN {wi : TI} {g : TG} {f : Dt → List Sv → List Sv} {vs : List Nat} {fn : Dt → List Dt} (h : WR c wi es l) (hl : l.length ≤ 100000) (hg : ∀ P y, y ∈ l → TgD (c.at P) g (f y) vs y) (hh : handsOf es = [] ∨ ∃ (ad : Addr) (k : Nat), es[k]? = some (Sv.hand ad) ∧ handsOf es = [ad])
    (hf : ∀ y ∈ l, handsOf (f y (wipeE es vs)) = handsOf es ∧ ∀ (k : Nat) (ad : Addr), es[k]? = some (Sv.hand ad) → (f y (wipeE es vs))[k]? = some (Sv.hand ad)) (hno : ∀ y ∈ l, ∀ x ∈ owns es, x ∈ owns (f y (wipeE es vs))) (he : ∀ P, Low c P → ∀ y ∈ l, EO (c.at P) te (f y (wipeE es vs)) (fun r => r = fn y))
    (q : ∀ a ins, Cont c (u D) (es.set n (.gen a ins (Nest c.K c.H0 a ins (l.map fn))))) :
    Cont c (tSeq (tAsg (tLc wi g tYes te vs) (gName n)) u D) es := c_seq fun σ P H r =>
  h σ P H r _ fun J P1 H1 G Y r1 e1 w hG hY => fun a ha => by
    have L : Low c P1 := r1.low
    have na := r1.fresh ha
    let Pv : Nat → Hp → Prop := fun i H => ∃ P ins, Rep (c.at P1) P H σ es ∧ P a = none ∧ H a = some (.lst (ins.map V.ref)) ∧ ins.length = i ∧ (a :: ins).Nodup ∧ (∀ b ∈ ins, c.H0 b = none ∧ P b = none ∧ b ∉ owns es) ∧ InAll c.K P H ins ((l.take i).map fn)
    have g0 := grow_own (o := .lst []) r1.ex ha
    refine lc_it w Pv ⟨P1, [], r1.at.step g0, none_back r1.ex ha, upd_same, rfl, List.nodup_cons.mpr ⟨List.not_mem_nil, List.nodup_nil⟩, (fun b m => by cases m), trivial⟩ (fun i H _ ⟨P, ins, r, _⟩ => hG P H r) (fun i x H H' hi ⟨P, ins, r, hPa, hHa, hn, nd, hb, hin⟩ y => ?_) fun H ⟨P, ins, r, hPa, hHa, hn, nd, hb, hin⟩ => ?_
    · obtain ⟨P', d, g', e, hx⟩ := hY i P H x H' hi r y
      have hm : d ∈ l := List.mem_of_getElem? e
      have r2 := r.step g'
      have tk : (l.take (i + 1)).map fn = (l.take i).map fn ++ [fn d] := by rw [List.take_add_one, e, Option.toList_some, List.map_append] <;> rfl
      obtain ⟨hf1, hf2⟩ := hf d hm
      refine hg P1 d hm x P' H' _ _ _ (r2.wipe vs) hx fun σ' hw r3 => ⟨by rw [hw]; exact wipe_wipe, ?_⟩
      refine iteT (B := Pv (i + 1) H') ?_
      refine he P1 L d hm σ' P' H' r3 _ fun b P4 H4 dv hv r6 k6 hnb hb0 hM => ?_
      subst hv
      have inH : ∀ {z : Addr}, z ∈ a :: ins → ∃ o, H z = some o := fun {z} m => by
        rcases List.mem_cons.mp m with rfl | m
        · exact ⟨_, hHa⟩
        · obtain ⟨j, hj, ej⟩ := List.getElem_of_mem m
          have hlt : j < ((l.take i).map fn).length := by rw [← hin.len]; exact hj
          obtain ⟨a', xs, q1, q2, _⟩ := hin.get (List.getElem?_eq_getElem hlt)
          rw [List.getElem?_eq_getElem hj, ej] at q1
          cases Option.some.inj q1
          exact ⟨_, q2⟩
      have keep : ∀ z o, z ∉ handsOf es → H' z = some o → H4 z = some o := fun z o nz hz => k6.k z o (by rw [hf1]; exact nz) hz
      have nH : ∀ z ∈ a :: ins, z ∉ owns es := fun z m => by
        rcases List.mem_cons.mp m with rfl | m
        · exact na
        · exact (hb z m).2.2
      have keepI : ∀ z ∈ a :: ins, H4 z = H z := fun z m => by
        obtain ⟨o, ho⟩ := inH m
        rw [ho, keep z o (fresh_hand (c := c) (nH z m)) (g'.h _ _ ho)]
      have r7 : Rep (c.at P1) P4 H4 σ es := by
        rcases hh with h0 | ⟨ad, k, hk, hk2⟩
        · have g4 := k6.grow (by rw [hf1]; exact h0) r6.ex
          exact r2.step g4
        · obtain ⟨_, hs, ok, n1, n2, us, hu, hud⟩ := r6.sl.getH (hf2 k ad hk)
          exact r2.hands hk k6.p (fun z o nz hz => keep z o (by rw [hk2]; exact fun m => nz (List.mem_singleton.mp m)) hz) k6.n r6.ex k6.f n2 hu hud ok
      obtain ⟨_, hPb, xb, hHb, hDb⟩ := hM
      have pn : ∀ z ∈ a :: ins, P z = none := fun z m => by
        rcases List.mem_cons.mp m with rfl | m
        · exact hPa
        · exact (hb z m).2.1
      have pn4 : ∀ z ∈ a :: ins, P4 z = none := fun z m => by
        obtain ⟨o, ho⟩ := inH m
        exact kp_none k6 (grow_none g' (pn z m) ho) (g'.h _ _ ho)
      have nb : b ∉ a :: ins := fun m => by
        obtain ⟨o, ho⟩ := inH m
        have := g'.h _ _ ho
        rw [hb0] at this
        cases this
      have hne : ∀ z ∈ a :: ins, z ≠ b := fun z m e => nb (by rw [← e]; exact m)
      have hHa4 : H4 a = some (.lst (ins.map V.ref)) := by rw [keepI a List.mem_cons_self]; exact hHa
      have nbo : b ∉ owns es := fun m => hnb (hno d hm b m)
      refine ⟨ins.map V.ref, hHa4, Evl.sz_lt (by rw [List.length_map]; omega), P4, ins ++ [b], ?_, pn4 a List.mem_cons_self, by rw [upd_same, List.map_append] <;> rfl, by rw [List.length_append, hn] <;> rfl, ?_, fun z m => ?_, ?_⟩
      · exact r7.turnO (r1.dom a ha) (pn4 a List.mem_cons_self) na
      · have nd' := List.nodup_cons.mp nd
        refine List.nodup_cons.mpr ⟨fun m => ?_, List.nodup_append.mpr ⟨nd'.2, List.nodup_cons.mpr ⟨List.not_mem_nil, List.nodup_nil⟩, fun x hx y hy e => ?_⟩⟩
        · rcases List.mem_append.mp m with m | m
          · exact nd'.1 m
          · exact nb (by rw [← List.mem_singleton.mp m]; exact List.mem_cons_self)
        · rw [List.mem_singleton.mp hy] at e
          exact nb (by rw [← e]; exact List.mem_cons_of_mem _ hx)
      · rcases List.mem_append.mp m with m | m
        · exact ⟨(hb z m).1, pn4 z (List.mem_cons_of_mem _ m), (hb z m).2.2⟩
        · cases List.mem_singleton.mp m
          exact ⟨r2.dom b hb0, hPb, nbo⟩
      · rw [tk]
        have nab : b ≠ a := fun e => nb (by rw [e]; exact List.mem_cons_self)
        have base : InAll c.K P4 (upd H4 a (.lst (ins.map V.ref ++ [V.ref b]))) ins ((l.take i).map fn) := hin.step (g'.p.trans k6.p) fun z m => by
          rw [upd_ne fun e => (List.nodup_cons.mp nd).1 (by rw [← e]; exact m), keepI z (List.mem_cons_of_mem _ m)]
        exact base.snoc ⟨xb, by rw [upd_ne nab]; exact hHb, hDb⟩
    · have et : l.take l.length = l := List.take_length
      rw [et] at hin
      have r' := L r
      refine q a ins _ P H (r'.putG n ⟨fun z m => ?_, ⟨fun z m => ?_, hHa, hin⟩, nest_st⟩ (fun z m => ?_) nd)
      · rcases List.mem_cons.mp m with rfl | m
        · exact ⟨.inl (r1.dom z ha), hPa, _, hHa⟩
        · obtain ⟨h1, h2, h3⟩ := hb z m
          refine ⟨.inl h1, h2, ?_⟩
          obtain ⟨j, hj, ej⟩ := List.getElem_of_mem m
          have hlt : j < (l.map fn).length := by rw [← hin.len]; exact hj
          obtain ⟨a', xs, q1, q2, _⟩ := hin.get (List.getElem?_eq_getElem hlt)
          rw [List.getElem?_eq_getElem hj, ej] at q1
          cases Option.some.inj q1
          exact ⟨_, q2⟩
      · rcases List.mem_cons.mp m with rfl | m
        · exact r1.dom z ha
        · exact (hb z m).1
      · rcases List.mem_cons.mp m with rfl | m
        · exact na
        · exact (hb z m).2.2
end
end My
set_option Elab.async false
set_option linter.all false
set_option maxRecDepth 100000
set_option maxHeartbeats 4000000
/-! Se: dicts whose keys are tuples of ints, of any size. -/
namespace My
open PySem PySem.Spec PyProof.Rows L2
open Evl (Ex)
abbrev Ent := List Int × Addr × V
abbrev RelE : List Ent → List (List Int × Addr × Value) → Prop := Paired fun p q => p.1 = q.1 ∧ p.2.1 = q.2.1 ∧ RelV p.2.2 q.2.2
theorem entry_any (P P' : Program) (w w' : World) : entryOfKey (tupleKind (intKind P w)) = entryOfKey (tupleKind (intKind P' w')) := rfl
/-- the dict at a, its keys' own objects left out -/
def DctG0 (h : Heap) (a : Addr) (kvs : List Ent) : Prop := kvs.length ≤ 100000 ∧ (a == sysModules) = false ∧ ∃ (P : Program) (w : World) (xs : List (List Int × Addr × Value)), RelE kvs xs ∧
  ∃ o es ep, h.get? a = some o ∧ o.ExactDict ∧ o.data = .dict es ep ∧ es.toList = xs.map (entryOfKey (tupleKind (intKind P w))) ∧ (xs.map (·.1)).Nodup
def DctGO (a : Addr) (kvs : List Ent) : HO := .ext fun h => DctG0 h a kvs
theorem DctG0.keep {h h' : Heap} {a : Addr} {kvs : List Ent} (R : DctG0 h a kvs) (k : ∀ o, h.get? a = some o → h'.get? a = some o) : DctG0 h' a kvs := by
  obtain ⟨z, y, P, w, xs, r, o, es, ep, ho, q⟩ := R
  exact ⟨z, y, P, w, xs, r, o, es, ep, k o ho, q⟩
theorem dctGO_ok {P : Program} {w : World} {H : Hp} {h : Heap} {a : Addr} {kvs : List Ent} (R : DctG0 h a kvs) : ObjOk P w H h a (DctGO a kvs) := by
  have ⟨_, _, _, _, _, _, o, _, _, ho, _⟩ := R
  exact ⟨R, ⟨o, ho⟩, fun h1 h2 p k => DctG0.keep p k⟩
theorem dctG0_new (P : Program) (w : World) {h : Heap} (hb : sysModules < h.objs.size) : DctG0 (h.push { cls := .type "dict", data := .dict #[] }) h.objs.size [] :=
  ⟨Nat.zero_le _, beq_eq_false_iff_ne.mpr (Nat.ne_of_gt hb), P, w, [], .nil, _, #[], 0, Heap.get?_push_size _ rfl, ⟨rfl, rfl, rfl⟩, rfl, rfl, List.nodup_nil⟩
abbrev MemD (K : PySem.W.Frag) (H : Hp) (kvs : List Ent) : Prop := ∀ p ∈ kvs, SqT K H p.2.1 (p.1.map V.int)
def hasE (kvs : List Ent) (k : List Int) : Bool := kvs.any fun p => decide (p.1 = k)
def putE (kvs : List Ent) (k : List Int) (b : Addr) (v : V) : List Ent := if hasE kvs k = true then kvs.map fun p => if p.1 = k then (p.1, p.2.1, v) else p else kvs ++ [(k, b, v)]
theorem RelE.has {kvs : List Ent} {xs : List (List Int × Addr × Value)} (r : RelE kvs xs) (k : List Int) : (atKey xs k).isSome = hasE kvs k := by
  unfold atKey hasE
  rw [Option.isSome_map]
  induction r with
  | nil => rfl
  | @cons p q ps qs h _ ih =>
    rw [List.find?_cons, List.any_cons, ← h.1]
    cases decide (p.1 = k) with
    | true => rfl
    | false => exact ih
theorem RelE.put {kvs : List Ent} {xs : List (List Int × Addr × Value)} (r : RelE kvs xs) (k : List Int) (b : Addr) {v : V} {u : Value} (rv : RelV v u) : RelE (putE kvs k b v) (storedH xs k b u) := by
  have e := r.has k
  cases hk : atKey xs k with
  | none =>
    rw [hk] at e
    rw [storedH_new hk]
    unfold putE
    rw [← e]
    exact Paired.snoc r ⟨rfl, rfl, rv⟩
  | some p =>
    rw [hk] at e
    rw [storedH_old hk]
    unfold putE
    rw [← e]
    show RelE (kvs.map _) (xs.map _)
    clear e hk
    induction r with
    | nil => exact .nil
    | @cons p q ps qs h _ ih =>
      refine .cons ?_ ih
      unfold putAt
      dsimp only
      by_cases c : p.1 = k
      · rw [if_pos c, if_pos (h.1 ▸ c)]
        exact ⟨h.1, h.2.1, rv⟩
      · rw [if_neg c, if_neg (h.1 ▸ c)]
        exact h
theorem len_putE (kvs : List Ent) (k : List Int) (b : Addr) (v : V) : (putE kvs k b v).length ≤ kvs.length + 1 := by
  unfold putE
  split
  · rw [List.length_map]
    omega
  · rw [List.length_append]
    exact Nat.le_refl _
section
variable {X : Cx} {pins : List (Addr × Obj)} {σ : L2.St} {H : Hp} {s : Shared} {a : Addr} {kvs : List Ent}
theorem dctG_of (I : Inv X pins σ H s) (ha : H a = some (DctGO a kvs)) (hm : MemD X.K H kvs) : kvs.length ≤ 100000 ∧ (a == sysModules) = false ∧ ∃ xs, RelE kvs xs ∧ xs.length ≤ sizeLine ∧ s.heap.DictOfH (tupleKind (intKind X.prog X.w)) a xs := by
  obtain ⟨z, y, P, w, xs, r, o, es, ep, ho, hx, hd, he, hn⟩ := (I.hok a _ ha).1
  rw [entry_any P X.prog w X.w] at he
  refine ⟨z, y, xs, r, by rw [← Paired.length r, sizeLine_eq]; omega, o, es, ep, ho, hx, hd, he, ?_, hn⟩
  have all : ∀ {l : List Ent} {m : List (List Int × Addr × Value)}, RelE l m → (∀ p ∈ l, SqT X.K H p.2.1 (p.1.map V.int)) → ∀ x ∈ m, (tupleKind (intKind X.prog X.w)).is s.heap x.1 x.2.1 := by
    intro l m q
    induction q with
    | nil => exact fun _ x hx => nomatch hx
    | @cons p q ps qs h _ ih =>
      intro hm x hx
      rcases List.mem_cons.mp hx with e | hx
      · rw [e, ← h.1, ← h.2.1]
        exact I.isT (hm p List.mem_cons_self)
      · exact ih (fun p hp => hm p (List.mem_cons_of_mem _ hp)) x hx
  exact fun x hx => all r hm x hx
def rInG (K : PySem.W.Frag) : R2 := fun x y H Q => ∃ (a b : Addr) (kvs : List Ent) (k : List Int), y = .ref a ∧ x = .ref b ∧ H a = some (DctGO a kvs) ∧ MemD K H kvs ∧ SqT K H b (k.map V.int) ∧ Q (.bl (hasE kvs k)) H
def rNotInG (K : PySem.W.Frag) : R2 := fun x y H Q => ∃ (a b : Addr) (kvs : List Ent) (k : List Int), y = .ref a ∧ x = .ref b ∧ H a = some (DctGO a kvs) ∧ MemD K H kvs ∧ SqT K H b (k.map V.int) ∧ Q (.bl (!hasE kvs k)) H
theorem op_inG (hu : X.A.units + 1 < cLine) : OpR X (compareOp .In) (rInG X.K) := by
  intro pins s σ H x y v u Q I rx ry h
  obtain ⟨a, b, kvs, k, rfl, rfl, ha, hm, hb, q⟩ := h
  cases rx
  cases ry
  obtain ⟨_, hs, xs, r, _, dd⟩ := dctG_of I ha hm
  refine wpAny_in_heap (tupleKind_room_in1 hu) (I.isT hb) hs dd ?_
  exact ⟨.bl _, H, I.tok _, congrArg Value.bool (r.has k), q⟩
theorem op_notInG (hu : X.A.units + 1 < cLine) : OpR X (compareOp .NotIn) (rNotInG X.K) := by
  intro pins s σ H x y v u Q I rx ry h
  obtain ⟨a, b, kvs, k, rfl, rfl, ha, hm, hb, q⟩ := h
  cases rx
  cases ry
  obtain ⟨_, hs, xs, r, _, dd⟩ := dctG_of I ha hm
  refine wpAny_notIn_heap (tupleKind_room_in1 hu) (I.isT hb) hs dd ?_
  exact ⟨.bl _, H, I.tok _, congrArg (fun z => Value.bool (!z)) (r.has k), q⟩
/-- the dict's object behind a store -/
theorem dctG_write {h' : Heap} {t' : Nat} {kvs' : List Ent} {xs' : List (List Int × Addr × Value)} (I : Inv X pins σ H s) (ha : H a = some (DctGO a kvs)) (hz : kvs'.length ≤ 100000) (hs : (a == sysModules) = false) (r : RelE kvs' xs') (dd : h'.DictOfH (tupleKind (intKind X.prog X.w)) a xs') (sb : Heap.SameBut a s.heap h') :
    Inv X pins σ (upd H a (DctGO a kvs')) { s with heap := h', toks := t' } := by
  obtain ⟨o, es, ep, ho, h2, h3, h4, _, h5⟩ := dd
  exact I.write (x := a) (e := a) (t' := t') (by rw [ha]; trivial) (.inl rfl) (fun b u hb z => (sb.2 b hb).trans z) ⟨o, ho⟩ (dctGO_ok ⟨hz, hs, X.prog, X.w, xs', r, o, es, ep, ho, h2, h3, h4, h5⟩)
def rSetG (K : PySem.W.Frag) : V → V → V → Hp → (Hp → Prop) → Prop := fun o i v H Q => ∃ (a b : Addr) (kvs : List Ent) (k : List Int), o = .ref a ∧ i = .ref b ∧ H a = some (DctGO a kvs) ∧ MemD K H kvs ∧ kvs.length < 100000 ∧ SqT K H b (k.map V.int) ∧ Q (upd H a (DctGO a (putE kvs k b v)))
theorem set_dctG (hu : X.A.units + 1 < cLine) : PSet X (rSetG X.K) := by
  intro pins s σ H o i v ov iv u Q I ro ri rv h
  obtain ⟨a, b, kvs, k, rfl, rfl, ha, hm, hz, hb, q⟩ := h
  cases ro
  cases ri
  obtain ⟨_, hs, xs, r, hz2, dd⟩ := dctG_of I ha hm
  refine wpAny_setItem_heap (hsz := hz2) (tupleKind_room_in1 hu) (I.isT hb) dd fun h' dd' sb => ?_
  exact ⟨_, dctG_write I ha (Nat.le_trans (len_putE kvs k b v) hz) hs (r.put k b rv) dd' sb, q⟩
def tDNewG : TE := fun _ H Q => ∀ p, H p = none → Q (.ref p) (upd H p (DctGO p []))
theorem pe_dnewG {pos : Pos} : PE X (.Dict [] [] pos) tDNewG := ⟨fun pins s σ H Q I h =>
  wpAny_Dict_empty ⟨.ref s.heap.objs.size, _, I.laid (o := DctGO s.heap.objs.size []) (t' := s.toks) (fun _ _ q => Heap.get?_push_of_some _ q) (Nat.le_refl _) (dctGO_ok (dctG0_new X.prog X.w I.big)), rfl, h _ (I.hok.fresh (Nat.le_refl _))⟩⟩
/-- list(d) -/
def rListG (K : PySem.W.Frag) : List V → Hp → VK → Prop := fun xs H Q => ∃ (a : Addr) (kvs : List Ent), xs = [.ref a] ∧ H a = some (DctGO a kvs) ∧ MemD K H kvs ∧ ∀ p, H p = none → Q (.ref p) (upd H p (.lst (kvs.map fun e => V.ref e.2.1)))
theorem call_listG (hc : X.calm = true) : CallR X (.type "list") (rListG X.K) := by
  intro pins s σ H xs us Q I r h
  obtain ⟨a, kvs, rfl, ha, hm, q⟩ := h
  obtain ⟨z, hs, ks, pr, hz, o, es, ep, ho, hx, hdt, he, _, hn⟩ := dctG_of I ha hm
  rw [Vals.ref1 r]
  have l1 : es.size = ks.length := size_of_entries he
  have l2 : kvs.length = ks.length := Paired.length pr
  refine PySem.W.kdl_call (kdl_raw hs hx hdt) (I.ok.hd hc) ho (by omega) fun h' tk acc c kp e it => ?_
  have eb : ∀ {l : List Ent} {m : List (List Int × Addr × Value)}, RelE l m → (l.map fun e => e.2.1) = m.map fun e => e.2.1 := by
    intro l m q
    induction q with
    | nil => rfl
    | @cons p q ps qs h _ ih => rw [List.map_cons, List.map_cons, ih, h.2.1]
  have ea : acc.toList = (kvs.map fun x => x.2.1).map Value.ref := by
    rw [eb pr]
    refine List.ext_getElem? fun j => ?_
    rw [List.getElem?_map, List.getElem?_map]
    cases hj : ks[j]? with
    | none =>
      have z1 := List.getElem?_eq_none_iff.mp hj
      have z2 : acc.toList.length = ks.length := by rw [Array.length_toList, it.1, l1]
      exact List.getElem?_eq_none (by omega)
    | some b =>
      have hlt : j < acc.size := by
        rw [it.1, l1]
        exact (List.getElem?_eq_some_iff.mp hj).1
      obtain ⟨en, hen, hv⟩ := it.2 j acc[j] (Array.getElem?_eq_getElem hlt)
      have qe := entry_at he j
      rw [hen, hj] at qe
      cases (show some en = some (entryOfKey (tupleKind (intKind X.prog X.w)) b) from qe)
      rw [Array.getElem?_toList, Array.getElem?_eq_getElem hlt, hv]
      rfl
  have em : (kvs.map fun e => V.ref e.2.1) = (kvs.map fun x => x.2.1).map V.ref := by
    rw [List.map_map]
    rfl
  have rv : Vals (kvs.map fun e => V.ref e.2.1) acc.toList := by
    rw [ea, em]
    exact vals_refs _
  refine ⟨.ref s.heap.objs.size, _, I.laid (t' := tk) (o := .lst (kvs.map fun e => V.ref e.2.1)) kp (Nat.le_refl _) ?_, rfl, q _ (I.hok.fresh (Nat.le_refl _))⟩
  exact ⟨by rw [List.length_map, sizeLine_eq]; omega, acc.toList, c, rv, by rw [Array.toArray_toList]; exact e⟩
theorem dctG_dictSet {E : Value → Shared → Prop} {b : Addr} {k : List Int} {v : V} {u : Value} {Q : Unit → Shared → Prop} (hu : X.A.units + 1 < cLine) (I : Inv X pins σ H s) (ha : H a = some (DctGO a kvs)) (hm : MemD X.K H kvs) (hz : kvs.length < 100000) (hb : SqT X.K H b (k.map V.int)) (rv : RelV v u)
    (h : ∀ s', Inv X pins σ (upd H a (DctGO a (putE kvs k b v))) s' → Q () s') : wpAny (model X.prog X.w) X.A (dictSet a (.ref b) u) Q E s := by
  obtain ⟨_, hs, xs, r, hz2, dd⟩ := dctG_of I ha hm
  refine wpAny_dictSet_heap (hsz := hz2) (knd := tupleKind (intKind X.prog X.w)) (by show X.A.units < cLine; omega) (I.isT hb) dd fun h' dd' sb => ?_
  exact h _ (dctG_write I ha (Nat.le_trans (len_putE kvs k b v) hz) hs (r.put k b rv) dd' sb)
/-- {key: value for target in iter if ..} -/
def tDg (K : PySem.W.Frag) (wi : TI) (g : TG) (tt : TT) (tk tv : TE) (vs : List Nat) : TE := fun σ H Q => wi σ H fun J H1 => ∀ D, H1 D = none → ∃ W : Nat → Nat → Hp → Prop, (∃ m, W 0 m (upd H1 D (DctGO D []))) ∧
  ∀ i m H, W i m H → (J.stop i H ∧ Q (.ref D) H) ∨ (J.go i H ∧ ∃ Nx : Hp → Prop, (∀ H', Nx H' → ∃ m', m' < m ∧ W (i + 1) m' H') ∧
    ∀ x H', J.yld i H x H' → g x (wipe σ vs) H' fun σ2 H2 => wipe σ2 vs = wipe σ vs ∧ tt σ2 H2 fun b H3 => if b = true then
      tk σ2 H3 fun y H4 => tv σ2 H4 fun z H5 => ∃ (p : Addr) (k : List Int) (kvs : List Ent), y = .ref p ∧ SqT K H5 p (k.map V.int) ∧ H5 D = some (DctGO D kvs) ∧ MemD K H5 kvs ∧ kvs.length < 100000 ∧ Nx (upd H5 D (DctGO D (putE kvs k p z))) else Nx H3)
theorem dg_core {Q : VK} {kx vx tg iter : Expr} {ifs : List Expr} {scope : Scope} {own : List (PySem.Str × Nat)} {pos pos' : Pos} {wi : TI} {g : TG} {tt : TT} {tk tv : TE} {use : Option (Value → Sem Unit)} {Qf : Value → Shared → Prop}
    (hu : X.A.units + 1 < cLine) (hc : X.calm = true) (hN : X.N.Nodup) (I : Inv X pins σ H s) (hi : PI X tg iter wi) (ok : BlkOk X.N X.env.scope scope own) (hg : InBlk X scope fun B => PG B tg g) (ht : InBlk X scope fun B => PTs B ifs tt) (hk : InBlk X scope fun B => PE B kx tk) (he : InBlk X scope fun B => PE B vx tv)
    (hs : ∀ x, foldedSetIterable iter X.env x = pure x) (h : tDg X.K wi g tt tk tv (own.map (·.2)) σ H Q)
    (out : ∀ D C s' m H', Inv X pins σ H' s' → Q (.ref D) H' → s'.heap.Ns C m → FpOk X pins H' C → compPost (model X.prog X.w) X.A X.xe use Qf (.ref D) C (.ok .next) s') :
    wpAny (model X.prog X.w) X.A (comprehension (.DictComp kx vx [⟨tg, iter, ifs, 0⟩] scope pos) scope X.env pos' newDict false (eval iter X.env) use) Qf X.xe s := by
  have free : ∀ y ∈ scope.names, y.2 = .free → ∃ c, X.env.cells.lookup y.1 = some c := fun y hy e => (ok.free y hy e).elim (fun k => I.ok.has _ (.inl k)) fun k => I.ok.has _ (.inr k)
  refine wpAny_comprehension_free (use := use) rfl hs (closure_ok free) ok.kind (fun y hy e => (ok.uniq y hy).trans (congrArg some e)) (thn (hi.run pins s σ H _ I h) fun xv s1 hx => thn hx fun itv s2 h2 => ?_)
  obtain ⟨it, fp, tn, J, H2, rfl, I2, T, st2, f2, q⟩ := h2
  refine wpAny_newObj_type (newEnv_comp ?_)
  generalize hD : s2.heap.objs.size = D
  obtain ⟨W, ⟨m0, w0⟩, turn⟩ := q D (I2.hok.fresh (Nat.le_of_eq hD))
  generalize hs3 : ({ s2 with heap := s2.heap.push { cls := .type "dict", data := .dict #[] } } : Shared) = s3
  have h3 : s3.heap = s2.heap.push { cls := .type "dict", data := .dict #[] } := by subst hs3; rfl
  have I3 : Inv X pins σ (upd H2 D (DctGO D [])) s3 := by
    subst hs3 hD
    exact I2.laid (t' := s2.toks) (fun b o e => Heap.get?_push_of_some _ e) (Nat.le_refl _) (dctGO_ok (dctG0_new X.prog X.w I2.big))
  have f3 : ∀ b ∈ fp, FpOk X pins (upd H2 D (DctGO D [])) b ∧ b < s3.heap.objs.size := fun b hb => by
    obtain ⟨o, e, _⟩ := T.obj _ _ st2 b hb
    have hlt : b < s2.heap.objs.size := Heap.lt_size e
    refine ⟨⟨?_, (f2 b hb).2⟩, h3 ▸ (Heap.size_push s2.heap { cls := .type "dict", data := .dict #[] }).symm ▸ Nat.lt_succ_of_lt hlt⟩
    rw [upd_ne (hD ▸ Nat.ne_of_lt hlt)]
    exact (f2 b hb).1
  have st3 : tn 0 s3.heap := T.keep _ _ _ st2 fun b _ o e => h3 ▸ Heap.get?_push_of_some _ e
  generalize hH3 : upd H2 D (DctGO D []) = H3 at I3 w0 f3
  have I4 := block_start I3 ok hN f3
  show codeAny _ _ (.compStart _ 0 (.ref it) (.ref D) (compEnvC scope (cellsFrom (s3.heap.objs.size + 1) scope.names (cloFrom X.env.cells scope.names [])) s3.heap.objs.size X.env)) (compPost _ X.A X.xe use Qf (.ref D) s3.heap.objs.size) { s3 with heap := pushCells (s3.heap.push { cls := .type "dict", data := .dict #[] }) scope.names }
  generalize hcl : cellsFrom (s3.heap.objs.size + 1) scope.names (cloFrom X.env.cells scope.names []) = cl at I4 ⊢
  have pg := hg s3 H3 s3.heap.objs.size cl fp
  have pt := ht s3 H3 s3.heap.objs.size cl fp
  have pk := hk s3 H3 s3.heap.objs.size cl fp
  have pe := he s3 H3 s3.heap.objs.size cl fp
  generalize hce : compEnvC scope cl s3.heap.objs.size X.env = ce at I4 pg pt pk pe ⊢
  have cL : ce.locals = s3.heap.objs.size := by subst hce; rfl
  generalize hs4 : ({ s3 with heap := pushCells (s3.heap.push { cls := .type "dict", data := .dict #[] }) scope.names } : Shared) = s4 at I4 ⊢
  have st4 : tn 0 s4.heap := T.keep _ _ _ st3 fun b _ o e => hs4 ▸ pushCells_keeps _ _ _ _ (Heap.get?_push_of_some _ e)
  have stat : ∀ {σ' : L2.St} {H' : Hp} {s' : Shared}, Inv (X.blk s3 H3 scope ce fp) [] σ' H' s' → (∀ b ∈ fp, H' b = none) → ∀ b ∈ fp, FpOk (X.blk s3 H3 scope ce fp) [] H' b := fun I' hn b hb =>
    ⟨hn b hb, (I'.ok.exf b hb).1, I'.ok.exfs b hb, .inl hb, (I'.ok.exf b hb).2, fun p hp => (by cases hp)⟩
  have loop : codeAny (model X.prog X.w) X.A (.compLoop (.DictComp kx vx [⟨tg, iter, ifs, 0⟩] scope pos) 0 (.ref it) (.ref D) ce) (compPost (model X.prog X.w) X.A X.xe use Qf (.ref D) s3.heap.objs.size) s4 := by
    refine compLoop_anyD (fun n s' => ∃ i H', Inv (X.blk s3 H3 scope ce fp) [] (wipe σ (own.map (·.2))) H' s' ∧ tn i s'.heap ∧ (∀ b ∈ fp, H' b = none) ∧ W i n H') ?_ m0 ⟨0, H3, I4, st4, fun b hb => (f3 b hb).1.1, w0⟩
    rintro n s5 ⟨i, H5, I5, st5, n5, w5⟩
    rcases turn i n H5 w5 with ⟨stop, qq⟩ | ⟨go, Nx, hNx, step⟩
    · refine thnF (T.done (X.blk s3 H3 scope ce fp) rfl rfl rfl hc i [] s5 _ H5 _ I5 (stat I5 n5) st5 stop) fun r s6 ⟨hr, I6⟩ => ?_
      subst hr
      have I7 : Inv X pins σ H5 s6 := I3.call' (ch := fp) I6.os I6.base I6.hok I6.bare fun b hb => by
        obtain ⟨_, z2, z3, z4, z5, z6⟩ := (f3 b hb).1
        exact ⟨z4, z2, z5, z6⟩
      have nC : H5 ce.locals = none := I6.free
      obtain ⟨m, hn, _⟩ := I6.loc
      have hn2 : s6.heap.Ns ce.locals m := hn
      rw [cL] at nC hn2
      exact out D _ s6 m H5 I7 qq hn2 (I3.fpOk (Nat.le_refl _) nC)
    · refine thnF (T.item (X.blk s3 H3 scope ce fp) rfl rfl rfl hc i [] s5 _ H5 _ I5 (stat I5 n5) st5 go) fun r s6 ⟨u, hr, h6⟩ => ?_
      subst hr
      refine thnF h6 fun _ s7 ⟨x, H7, I7, r7, y7, st7, n7⟩ => ?_
      refine thnF (pg.run _ s7 _ H7 x u _ (I7.pinned (stat I7 n7) (T.obj _ _ st7)) r7 (step x H7 y7)) fun _ s8 ⟨σ8, H8, I8, hw8, q8⟩ => ?_
      refine thnF (pt.run _ s8 σ8 H8 _ I8 q8) fun b s9 ⟨H9, I9, q9⟩ => ?_
      have fin : ∀ {s' : Shared} {H' : Hp}, Inv (X.blk s3 H3 scope ce fp) ([] ++ pinsAt fp s7.heap) σ8 H' s' → Nx H' → ∃ m, m < n ∧ ∃ i H', Inv (X.blk s3 H3 scope ce fp) [] (wipe σ (own.map (·.2))) H' s' ∧ tn i s'.heap ∧ (∀ b ∈ fp, H' b = none) ∧ W i m H' := fun {s' H'} I' nx => by
        obtain ⟨m', hm, w'⟩ := hNx H' nx
        have pinned : ∀ b ∈ fp, ∀ o, s7.heap.get? b = some o → s'.heap.get? b = some o ∧ H' b = none := fun b hb o e => by
          obtain ⟨z1, z2, _⟩ := I'.pin (b, o) (List.mem_append_right _ (List.mem_append_right _ (mem_pinsAt hb e)))
          exact ⟨z1, z2⟩
        refine ⟨m', hm, i + 1, H', (I'.unpinned (pins := [])).weak (by rw [← hw8, wipe_length]) (fun j v e => (wipe_some (hw8.symm ▸ e)).1), T.keep _ _ _ st7 fun b hb o e => (pinned b hb o e).1, fun b hb => ?_, w'⟩
        obtain ⟨o, e, _⟩ := T.obj _ _ st7 b hb
        exact (pinned b hb o e).2
      cases b with
      | false => exact fin I9 (by simpa using q9)
      | true =>
        rw [if_pos rfl] at q9
        refine thnF (pk.run _ s9 σ8 H9 _ I9 q9) fun z s10 ⟨yk, H10, I10, r10, q10⟩ => ?_
        refine thnF (pe.run _ s10 σ8 H10 _ I10 q10) fun z2 s11 ⟨yv, H11, I11, r11, p, k, kvs, ek, hx, hD11, hm, hz11, nx⟩ => ?_
        subst ek
        cases (show z = Value.ref p from r10)
        exact dctG_dictSet (X := X.blk s3 H3 scope ce fp) hu I11 hD11 hm hz11 hx r11 fun s12 I12 => fin I12 nx
  exact codeAny_compStart_dict loop (T.self X.A 0 _ _ _ st4 loop)
theorem pe_dg {kx vx tg iter : Expr} {ifs : List Expr} {scope : Scope} {own : List (PySem.Str × Nat)} {pos : Pos} {wi : TI} {g : TG} {tt : TT} {tk tv : TE} (hu : X.A.units + 1 < cLine) (hc : X.calm = true) (hN : X.N.Nodup) (hi : PI X tg iter wi) (ok : BlkOk X.N X.env.scope scope own)
    (hg : InBlk X scope fun B => PG B tg g) (ht : InBlk X scope fun B => PTs B ifs tt) (hk : InBlk X scope fun B => PE B kx tk) (he : InBlk X scope fun B => PE B vx tv) (hs : ∀ x, foldedSetIterable iter X.env x = pure x := by intro _; rfl) :
    PE X (.DictComp kx vx [⟨tg, iter, ifs, 0⟩] scope pos) (tDg X.K wi g tt tk tv (own.map (·.2))) := by
  refine ⟨fun pins s σ H Q I h => ?_⟩
  rw [arm_eval_DictComp]
  refine dg_core hu hc hN I hi ok hg ht hk he hs h fun D C s' m H' I' q hn f => ⟨m, hn, fun h'' sb => ?_⟩
  exact ⟨.ref D, H', I'.turned (t' := s'.toks) (fun b o hb e => (sb.2 b hb).trans e) f.1 f.2.1 f.2.2.2.1 f.2.2.2.2.1 f.2.2.2.2.2, rfl, q⟩
/-- sorted(xs), pairs of any number -/
def rSortQ (K : PySem.W.Frag) : List V → Hp → VK → Prop := fun vs H Q => ∃ (a : Addr) (L : List (Addr × (Int × Int))), vs = [V.ref a] ∧ SqL K H a (L.map fun q => V.ref q.1) ∧ (∀ q ∈ L, SqT K H q.1 ((ofP q.2).map V.int)) ∧
  ∀ (L' : List (Addr × (Int × Int))) (p : Addr), L'.Perm L → L'.Pairwise (fun q r => ltC r.2 q.2 = false) → H p = none → Q (.ref p) (upd H p (.lst (L'.map fun q => V.ref q.1)))
theorem cr_sortQ : CallR X (.builtin "sorted") (rSortQ X.K) := by
  intro pins s σ H vs us Q I r h
  obtain ⟨a, L, rfl, hs, hx, q⟩ := h
  obtain ⟨its, rv, hl, hz⟩ := I.list hs
  rw [Vals.ref1 r]
  have hits : its = L.map fun q => Value.ref q.1 := by
    have key : ∀ (M : List (Addr × (Int × Int))) (us : List Value), Vals (M.map fun q => V.ref q.1) us → us = M.map fun q => Value.ref q.1 := by
      intro M
      induction M with
      | nil => exact fun us z => by cases z; rfl
      | cons q M ih =>
        intro us z
        cases z with
        | cons z1 z2 =>
          cases z1
          rw [ih _ z2]
          rfl
    exact key L its rv
  have one : ∀ q ∈ L, ∀ r ∈ L, q.1 = r.1 → q.2 = r.2 := fun q hq r hr e => by
    have z := (tupK X.prog X.w).inj (h := s.heap) (b := q.1) (I.isT (hx q hq)) (e ▸ I.isT (hx r hr))
    have z2 := congrArg prI z
    exact z2
  let kk : Addr → Int × Int := fun b => ((L.find? fun q => decide (q.1 = b)).map (·.2)).getD (0, 0)
  have hkk : ∀ q ∈ L, kk q.1 = q.2 := fun q hq => by
    show ((L.find? fun r => decide (r.1 = q.1)).map (·.2)).getD (0, 0) = q.2
    cases hf : L.find? fun r => decide (r.1 = q.1) with
    | none =>
      have z := List.find?_eq_none.mp hf q hq
      simp at z
    | some r =>
      have e : r.1 = q.1 := by simpa using List.find?_some hf
      exact one r (List.mem_of_find?_eq_some hf) q hq e
  let k : Value → Int × Int := fun u => match u with
    | .ref b => kk b
    | _ => (0, 0)
  subst hits
  refine SrtO.sorted_pairsO (k := k) hl.isList (by rw [List.length_map] at hz ⊢; exact hz) (fun v hv => ?_) fun h' d out h1 h2 kp hd hn => ?_
  · obtain ⟨q, hq, rfl⟩ := List.mem_map.mp hv
    show Srt.IsPair s.heap (.ref q.1) (kk q.1).1 (kk q.1).2
    rw [hkk q hq]
    exact isPair_of (P := X.prog) (w := X.w) (I.isT (hx q hq))
  · obtain ⟨n, hn⟩ := hn
    have back : ∀ us : List Value, (∀ u ∈ us, u ∈ L.map fun q => Value.ref q.1) → ∃ bs : List Addr, us = bs.map Value.ref := by
      intro us
      induction us with
      | nil => exact fun _ => ⟨[], rfl⟩
      | cons u us ih =>
        intro hu
        obtain ⟨q, _, e⟩ := List.mem_map.mp (hu u List.mem_cons_self)
        obtain ⟨bs, e2⟩ := ih fun x hx => hu x (List.mem_cons_of_mem _ hx)
        exact ⟨q.1 :: bs, by rw [List.map_cons, e2, e]⟩
    obtain ⟨bs, rfl⟩ := back out fun u hu => h2.perm.mem_iff.mp hu
    have pb : bs.Perm (L.map (·.1)) := by
      have z := h2.perm.map fun u => match u with
        | .ref b => b
        | _ => 0
      rw [List.map_map, List.map_map] at z
      have e1 : bs.map ((fun u : Value => match u with | .ref b => b | _ => (0 : Addr)) ∘ Value.ref) = bs := List.map_id bs
      exact e1 ▸ z
    have hL : (L.map (·.1)).map (fun b => (b, kk b)) = L := by
      rw [List.map_map]
      refine (List.map_congr_left fun q hq => ?_).trans (List.map_id L)
      show (q.1, kk q.1) = q
      rw [hkk q hq]
    have pL : (bs.map fun b => (b, kk b)).Perm L := hL ▸ pb.map fun b => (b, kk b)
    have eM : ((bs.map fun b => (b, kk b)).map fun q => V.ref q.1) = bs.map V.ref := by
      rw [List.map_map]
      rfl
    refine ⟨.ref d, upd H d (.lst ((bs.map fun b => (b, kk b)).map fun q => V.ref q.1)), I.laid (t' := s.toks) kp hd ⟨?_, bs.map Value.ref, n, eM ▸ vals_refs bs, hn⟩, rfl, q _ d pL ?_ (I.hok.fresh hd)⟩
    · rw [List.length_map, pL.length_eq]
      rw [List.length_map] at hz
      exact hz
    · have z : (bs.map Value.ref).Pairwise fun v u => ltC (k u) (k v) = false := h1
      exact List.pairwise_map.mpr (List.pairwise_map.mp z)
end
end My
set_option Elab.async false
set_option linter.all false
set_option maxRecDepth 100000
set_option maxHeartbeats 4000000
/-! Sf: dicts of cells and sorted lists of pairs, over data. -/
namespace My
open PySem PySem.Spec PyProof.Rows L2
open Evl (Ex)
variable {c : Fr} {es : List Sv} {ta tb te tk tv : TE} {tt : TT} {l : List Dt} {wi : TI} {g : TG} {D : Ends} {u : TS} {n : Nat} {d : Dt} {φ : Dt → Prop} {k : List Int} {a : Addr}
abbrev EntD := List Int × Dt
/-- the dict at a has these entries -/
def DctAt (K : PySem.W.Frag) (a : Addr) (ents : List EntD) : Hp → Hp → Prop := fun P H => ∃ kvs : List Ent, H a = some (DctGO a kvs) ∧ Paired (fun (e : EntD) (p : Ent) => e.1 = p.1 ∧ Has K P (.ref p.2.1) (tupI p.1) ∧ Has K P p.2.2 e.2) ents kvs
theorem DctAt.st {K : PySem.W.Frag} {ents : List EntD} (P H P' H' : Hp) (e : Ex P P') (k : ∀ b ∈ [a], H' b = H b) (h : DctAt K a ents P H) : DctAt K a ents P' H' := by
  obtain ⟨kvs, h1, h2⟩ := h
  exact ⟨kvs, (k a List.mem_cons_self).trans h1, Paired.mapP h2 fun _ _ z => ⟨z.1, Has.mono e _ z.2.1, Has.mono e _ z.2.2⟩⟩
abbrev dctS (c : Fr) (a : Addr) (ents : List EntD) : Sv := .gen a [] (DctAt c.K a ents)
def hasD (ents : List EntD) (k : List Int) : Bool := ents.any fun e => decide (e.1 = k)
def putD (ents : List EntD) (k : List Int) (d : Dt) : List EntD := if hasD ents k = true then ents.map fun e => if e.1 = k then (e.1, d) else e else ents ++ [(k, d)]
abbrev RelD (K : PySem.W.Frag) (P : Hp) : List EntD → List Ent → Prop := Paired fun (e : EntD) (p : Ent) => e.1 = p.1 ∧ Has K P (.ref p.2.1) (tupI p.1) ∧ Has K P p.2.2 e.2
theorem RelD.has {K : PySem.W.Frag} {P : Hp} {ents : List EntD} {kvs : List Ent} (r : RelD K P ents kvs) (k : List Int) : hasE kvs k = hasD ents k := by
  unfold hasE hasD
  induction r with
  | nil => rfl
  | @cons e p es ps h _ ih => rw [List.any_cons, List.any_cons, ih, h.1]
theorem RelD.put {K : PySem.W.Frag} {P : Hp} {ents : List EntD} {kvs : List Ent} {b : Addr} {v : V} (r : RelD K P ents kvs) (hb : Has K P (.ref b) (tupI k)) (hv : Has K P v d) : RelD K P (putD ents k d) (putE kvs k b v) := by
  have e := r.has k
  unfold putD putE
  rw [e]
  split
  · clear e
    rename_i hh
    clear hh
    induction r with
    | nil => exact .nil
    | @cons e p es ps h _ ih =>
      refine .cons ?_ ih
      dsimp only
      by_cases z : p.1 = k
      · rw [if_pos z, if_pos (h.1.trans z)]
        exact ⟨h.1, h.2.1, hv⟩
      · rw [if_neg z, if_neg (fun y => z (h.1.symm.trans y))]
        exact h
  · exact Paired.snoc r ⟨rfl, hb, hv⟩
theorem len_putD (ents : List EntD) (k : List Int) (d : Dt) : (putD ents k d).length ≤ ents.length + 1 := by
  unfold putD
  split
  · rw [List.length_map]
    omega
  · rw [List.length_append]
    exact Nat.le_refl _
theorem memD_of {K : PySem.W.Frag} {P H : Hp} {ents : List EntD} {kvs : List Ent} (e : Ex P H) (r : RelD K P ents kvs) : MemD K H kvs := by
  induction r with
  | nil => exact fun p hp => nomatch hp
  | @cons x p es ps h _ ih =>
    intro q hq
    rcases List.mem_cons.mp hq with z | z
    · rw [z]
      cases h.2.1 with
      | tup s r => exact ints_back r ▸ Evl.ex_t e s
    · exact ih q z
theorem tup_sq {K : PySem.W.Frag} {P H : Hp} {v : V} (e : Ex P H) (h : Has K P v (tupI k)) : ∃ b, v = .ref b ∧ SqT K H b (k.map V.int) ∧ Has K P (.ref b) (tupI k) := by
  cases h with
  | @tup b xs _ s r => exact ⟨b, rfl, ints_back r ▸ Evl.ex_t e s, .tup s r⟩
/-- a new dict -/
theorem c_dnew (k : ∀ a, Cont c D.nx (es.set n (dctS c a []))) : Cont c (tAsg tDNewG (gName n) D) es := fun σ P H r => fun p hp => by
  have g := grow_own (o := DctGO p []) r.ex hp
  have r1 := r.step g
  have r2 : Rep c P (upd H p (DctGO p [])) (σ.set n (some (.ref p))) (es.set n (dctS c p [])) :=
    r1.putG n ⟨fun b hb => by
      rw [List.mem_singleton.mp hb]
      exact ⟨.inl (r.dom p hp), none_back r.ex hp, _, upd_same⟩, ⟨[], upd_same, .nil⟩, DctAt.st⟩ (fun x hx => by rw [List.mem_singleton.mp hx]; exact r.fresh hp) (List.pairwise_singleton _ _)
  exact k p _ _ _ r2
/-- the dict in a slot changes -/
theorem Rep.changeG {P H : Hp} {σ : L2.St} {φ ψ : Hp → Hp → Prop} {o : HO} (r : Rep c P H σ es) (h : es[n]? = some (.gen a [] φ)) (q : ψ P (upd H a o)) (st : ∀ P H P' H', Ex P P' → (∀ b ∈ [a], H' b = H b) → ψ P H → ψ P' H') : Rep c P (upd H a o) σ (es.set n (.gen a [] ψ)) := by
  obtain ⟨hs, g⟩ := r.sl.getG h
  obtain ⟨m1, m2, _⟩ := g.mine a List.mem_cons_self
  have r1 := r.drop (o := none) n
  have na : a ∉ owns (es.set n .no) := gen_goneA r.nd h
  have r2 : Rep c P (upd H a o) (σ.set n none) (es.set n .no) := by
    refine ⟨r1.b, fun b u m hb => ?_, fun b hb => ?_, fun b u hb => ?_, r1.fr, r1.sl.turnA m2 na, r1.nd⟩
    · by_cases z : b = a
      · subst z
        rcases m1 with y | y
        · rw [y] at hb; cases hb
        · exact absurd y m
      · rw [upd_ne z]
        exact r1.old b u m hb
    · by_cases z : b = a
      · subst z
        rw [upd_same] at hb; cases hb
      · rw [upd_ne z] at hb
        exact r1.dom b hb
    · by_cases z : b = a
      · subst z
        rw [m2] at hb; cases hb
      · rw [upd_ne z]
        exact r1.ex b u hb
  have r3 := r2.putG n (φ := ψ) (a := a) (ins := []) ⟨fun b hb => by
    rw [List.mem_singleton.mp hb]
    exact ⟨m1, m2, _, upd_same⟩, q, st⟩ (fun x hx => by rw [List.mem_singleton.mp hx]; exact na) (List.pairwise_singleton _ _)
  rw [List.set_set, List.set_set] at r3
  have e : σ.set n (some (.ref a)) = σ := by
    obtain ⟨hl, e⟩ := List.getElem?_eq_some_iff.mp hs
    refine List.ext_getElem? fun j => ?_
    by_cases z : n = j
    · subst z
      rw [List.getElem?_set_self hl, hs]
    · rw [List.getElem?_set_ne z]
  rwa [e] at r3
where
  gen_goneA {φ : Hp → Hp → Prop} {a : Addr} : ∀ {es : List Sv} {n : Nat}, (owns es).Nodup → es[n]? = some (.gen a [] φ) → a ∉ owns (es.set n .no)
  | [], _, _, e => by simp at e
  | s :: es, 0, nd, e => by
    cases Option.some.inj e
    exact (List.nodup_cons.mp (show (a :: owns es).Nodup from nd)).1
  | s :: es, n + 1, nd, e => by
    have e' : es[n]? = some (.gen a [] φ) := by simpa using e
    rw [owns_app s] at nd
    show a ∉ owns (s :: es.set n .no)
    rw [owns_app s]
    obtain ⟨n1, n2, n3⟩ := List.nodup_append.mp nd
    refine fun z => (List.mem_append.mp z).elim (fun y => n3 a y a (owns_memG List.mem_cons_self e') rfl) (gen_goneA n2 e')
/-- d[key] = e -/
theorem c_dput {ents : List EntD} (h : es[n]? = some (dctS c a ents)) (hv : ED c te es d) (hk : ED c tb es (tupI k)) (hz : ents.length < 100000) (q : Cont c D.nx (es.set n (dctS c a (putD ents k d)))) :
    Cont c (tAsg te (gSub (tVar n) tb (rSetG c.K)) D) es := fun σ P H r =>
  hv σ P H r _ fun v P1 H1 dv e1 r1 k1 hv1 => by
    subst e1
    obtain ⟨hs, _⟩ := r1.sl.getG h
    refine ⟨_, hs, hk σ P1 H1 r1 _ fun y P2 H2 dk e2 r2 k2 hk2 => ?_⟩
    subst e2
    obtain ⟨b, rfl, sb, hb⟩ := tup_sq r2.ex hk2
    obtain ⟨_, g2⟩ := r2.sl.getG h
    obtain ⟨kvs, t1, t2⟩ := g2.tell
    refine ⟨a, b, kvs, k, rfl, rfl, t1, memD_of r2.ex t2, by rw [← Paired.length t2]; exact hz, sb, ?_⟩
    exact q σ P2 _ (r2.changeG h ⟨_, upd_same, RelD.put t2 hb (Has.mono k2.p _ hv1)⟩ DctAt.st)
theorem ed_inG {ents : List EntD} (ha : ED c ta es (tupI k)) (h : es[n]? = some (dctS c a ents)) : ED c (tOp (rInG c.K) ta (tVar n)) es (.bl (hasD ents k)) := fun σ P H r Q q =>
  ha σ P H r _ fun v P1 H1 z e1 r1 k1 hv => by
    subst e1
    obtain ⟨hs, g⟩ := r1.sl.getG h
    obtain ⟨b, rfl, sb, hb⟩ := tup_sq r1.ex hv
    obtain ⟨kvs, t1, t2⟩ := g.tell
    exact ⟨_, hs, a, b, kvs, k, rfl, rfl, t1, memD_of r1.ex t2, sb, q _ P1 H1 _ (by rw [RelD.has t2]) r1 k1 (.bl _)⟩
theorem ed_notInG {ents : List EntD} (ha : ED c ta es (tupI k)) (h : es[n]? = some (dctS c a ents)) : ED c (tOp (rNotInG c.K) ta (tVar n)) es (.bl (!hasD ents k)) := fun σ P H r Q q =>
  ha σ P H r _ fun v P1 H1 z e1 r1 k1 hv => by
    subst e1
    obtain ⟨hs, g⟩ := r1.sl.getG h
    obtain ⟨b, rfl, sb, hb⟩ := tup_sq r1.ex hv
    obtain ⟨kvs, t1, t2⟩ := g.tell
    exact ⟨_, hs, a, b, kvs, k, rfl, rfl, t1, memD_of r1.ex t2, sb, q _ P1 H1 _ (by rw [RelD.has t2]) r1 k1 (.bl _)⟩
theorem keys_has {K : PySem.W.Frag} {P : Hp} {ents : List EntD} {kvs : List Ent} (r : RelD K P ents kvs) : HasAll K P (kvs.map fun e => V.ref e.2.1) (ents.map fun e => tupI e.1) := by
  induction r with
  | nil => exact .nil
  | @cons e p es ps z _ ih =>
    refine .cons ?_ ih
    dsimp only
    rw [z.1]
    exact z.2.1
/-- list(d) -/
theorem eo_listG {ents : List EntD} (h : es[n]? = some (dctS c a ents)) : EO c (tCB (rListG c.K) (tCons (tVar n) tNil)) es (fun r => r = ents.map fun e => tupI e.1) := fun σ P H r Q q => by
  obtain ⟨hs, g⟩ := r.sl.getG h
  obtain ⟨kvs, t1, t2⟩ := g.tell
  refine ⟨_, hs, a, kvs, rfl, t1, memD_of r.ex t2, fun p hp => ?_⟩
  have g2 := grow_own (o := .lst (kvs.map fun e => V.ref e.2.1)) r.ex hp
  refine q p P _ _ rfl (r.step g2) (.of g2) (r.fresh hp) hp ⟨.inl (r.dom p hp), none_back r.ex hp, _, upd_same, ?_⟩
  exact keys_has t2
/-- sorted of unlike pairs -/
theorem eo_sortQ {ψ : List Dt → Prop} (h : EL c te es ψ) (hp : ∀ ds, ψ ds → ∃ L : List (Int × Int), ds = cellsD L ∧ L.Nodup) : EO c (tCB (rSortQ c.K) (tCons te tNil)) es (fun r => ∃ L, ψ (cellsD L) ∧ L.Nodup ∧ r = cellsD (ascC L)) := fun σ P H r Q q =>
  h σ P H r _ fun b P1 H1 ds xs hd r1 e1 hb hx hh _ => by
    obtain ⟨L, rfl, nd⟩ := hp ds hd
    have key : ∀ (L : List (Int × Int)) (xs : List V), HasAll c.K P1 xs (cellsD L) → ∃ M : List (Addr × (Int × Int)), xs = M.map (fun q => V.ref q.1) ∧ M.map (·.2) = L ∧ ∀ q ∈ M, Has c.K P1 (.ref q.1) (cellD q.2) := by
      intro L
      induction L with
      | nil =>
        intro xs z
        cases z
        exact ⟨[], rfl, rfl, fun q hq => nomatch hq⟩
      | cons p L ih =>
        intro xs z
        cases z with
        | cons z1 z2 =>
          obtain ⟨M, rfl, e2, hM⟩ := ih _ z2
          obtain ⟨b, rfl, _, hb⟩ := tup_sq (k := ofP p) (.refl P1) z1
          exact ⟨(b, p) :: M, rfl, by rw [List.map_cons, e2], fun q hq => (List.mem_cons.mp hq).elim (fun y => y ▸ hb) (hM q)⟩
    obtain ⟨M, rfl, e2, hM⟩ := key L xs hh
    refine ⟨b, M, rfl, .inl (.inl hx), fun q hq => ?_, fun M' p pm pw hpn => ?_⟩
    · obtain ⟨b, e, s, _⟩ := tup_sq (k := ofP q.2) r1.ex (hM q hq)
      cases e
      exact s
    · have g2 := grow_own (o := .lst (M'.map fun q => V.ref q.1)) r1.ex hpn
      have nd' : (M'.map (·.2)).Nodup := (pm.map (·.2)).nodup_iff.mpr (e2 ▸ nd)
      have asc : M'.map (·.2) = ascC L := by
        refine ascC_of ?_ fun x => by rw [← e2]; exact (pm.map (·.2)).mem_iff
        exact List.pairwise_map.mpr ((List.Pairwise.and pw (List.pairwise_map.mp nd')).imp fun z => ltC_or z.1 fun e => z.2 e.symm)
      refine q p P1 _ _ ⟨L, hd, nd, rfl⟩ (r1.step g2) (e1.trans (.of g2)) (r1.fresh hpn) (e1.n p hpn) ⟨.inl (r1.dom p hpn), none_back r1.ex hpn, _, upd_same, ?_⟩
      have all : ∀ N : List (Addr × (Int × Int)), (∀ q ∈ N, q ∈ M) → HasAll c.K P1 (N.map fun q => V.ref q.1) (cellsD (N.map (·.2))) := by
        intro N
        induction N with
        | nil => exact fun _ => .nil
        | cons q N ih => exact fun hN => .cons (hM q (hN q List.mem_cons_self)) (ih fun r hr => hN r (List.mem_cons_of_mem _ hr))
      exact asc ▸ all M' fun q hq => pm.mem_iff.mp hq
/-- {key: value for ..} -/
theorem s_dg {f : Dt → List Sv → List Sv} {vs : List Nat} {p : Dt → Bool} {fk : Dt → List Int} {fv : Dt → Dt} (hh : handsOf es = []) (h : WI c wi es l) (hl : l.length ≤ 99000) (hg : ∀ P y, y ∈ l → TgD (c.at P) g (f y) vs y) (hf : ∀ y ∈ l, handsOf (f y (wipeE es vs)) = [])
    (ht : ∀ P, Low c P → ∀ y ∈ l, EBd (c.at P) tt (f y (wipeE es vs)) (p y)) (hk : ∀ P, Low c P → ∀ y ∈ l, p y = true → ED (c.at P) tk (f y (wipeE es vs)) (tupI (fk y))) (he : ∀ P, Low c P → ∀ y ∈ l, p y = true → ED (c.at P) tv (f y (wipeE es vs)) (fv y))
    (q : ∀ a, Cont c (u D) (es.set n (dctS c a ((l.filter p).foldl (fun m y => putD m (fk y) (fv y)) [])))) : Cont c (tSeq (tAsg (tDg c.K wi g tt tk tv vs) (gName n)) u D) es := fun σ P0 H r =>
  h σ P0 H r _ fun J P1 H1 G Y r1 e1 wk hG hY => fun a ha => by
    have L0 : Low c P1 := r1.low
    have na := r1.fresh ha
    let res : Nat → List EntD := fun i => ((l.take i).filter p).foldl (fun m y => putD m (fk y) (fv y)) []
    let Pv : Nat → Hp → Prop := fun i H => ∃ P', Rep (c.at P1) P' H σ es ∧ P' a = none ∧ (∃ kvs, H a = some (DctGO a kvs) ∧ RelD c.K P' (res i) kvs) ∧ (res i).length ≤ i
    have g0 := grow_own (o := DctGO a []) r1.ex ha
    refine ⟨fun i m H => m = l.length - i ∧ i ≤ l.length ∧ Pv i H, ⟨_, rfl, Nat.zero_le _, P1, r1.at.step g0, none_back r1.ex ha, ⟨[], upd_same, .nil⟩, Nat.le_refl _⟩, ?_⟩
    rintro i m H ⟨rfl, hi, P', r, hPa, ⟨kvs, hHa, rel⟩, len⟩
    have q0 := hG P' H r.b r.ex
    by_cases lt : i < l.length
    · refine .inr ⟨wk.goes i H lt q0, Pv (i + 1), fun H' z => ⟨l.length - (i + 1), by omega, rfl, lt, z⟩, fun x H' y => ?_⟩
      obtain ⟨P2, d, g', e, hx⟩ := hY i P' H x H' lt r.b r.ex (wk.yields i H x H' lt q0 y)
      have hd : d ∈ l := List.mem_of_getElem? e
      have r2 := r.step g'
      have tk' : l.take (i + 1) = l.take i ++ [d] := by rw [List.take_add_one, e]; rfl
      refine hg P1 d hd x P2 H' _ _ _ (r2.wipe vs) hx fun σ' hw r3 => ⟨by rw [hw]; exact wipe_wipe, ?_⟩
      refine ht P1 L0 d hd σ' P2 H' r3 _ fun b P3 H3 hb r4 k4 => ?_
      have g4 := k4.grow (hf d hd) r4.ex
      subst hb
      cases hp : p d with
      | false =>
        refine iteF ?_
        have gg := g'.trans g4
        have ee : res (i + 1) = res i := by
          show ((l.take (i + 1)).filter p).foldl _ [] = _
          rw [tk', List.filter_append, List.filter_cons, if_neg (by rw [hp]; decide), List.filter_nil, List.append_nil]
        refine ⟨P3, r2.step g4, grow_none gg hPa hHa, ⟨kvs, gg.h _ _ hHa, ?_⟩, by rw [ee]; omega⟩
        rw [ee]
        exact Paired.mapP rel fun _ _ z => ⟨z.1, Has.mono gg.p _ z.2.1, Has.mono gg.p _ z.2.2⟩
      | true =>
        refine iteT ?_
        refine hk P1 L0 d hd hp σ' P3 H3 r4 _ fun yk P4 H4 dk ek r5 k5 hk5 => ?_
        subst ek
        refine he P1 L0 d hd hp σ' P4 H4 r5 _ fun yv P5 H5 dv ev r6 k6 hv6 => ?_
        subst ev
        have g5 := k5.grow (hf d hd) r5.ex
        have g6 := k6.grow (hf d hd) r6.ex
        have gg := g'.trans (g4.trans (g5.trans g6))
        obtain ⟨b, rfl, sb, hb⟩ := tup_sq r6.ex (Has.mono k6.p _ hk5)
        have rel6 : RelD c.K P5 (res i) kvs := Paired.mapP rel fun _ _ z => ⟨z.1, Has.mono gg.p _ z.2.1, Has.mono gg.p _ z.2.2⟩
        have ee : res (i + 1) = putD (res i) (fk d) (fv d) := by
          show ((l.take (i + 1)).filter p).foldl _ [] = _
          rw [tk', List.filter_append, List.filter_cons, if_pos hp, List.filter_nil, List.foldl_append]
          rfl
        have hPa5 := grow_none gg hPa hHa
        refine ⟨b, fk d, kvs, rfl, sb, gg.h _ _ hHa, memD_of r6.ex rel6, by rw [← Paired.length rel]; omega, P5, ?_, hPa5, ⟨_, upd_same, ?_⟩, ?_⟩
        · exact Rep.turnA (c := c.at P1) (r.step gg) (r1.dom a ha) hPa5 na
        · rw [ee]
          exact rel6.put hb hv6
        · rw [ee]
          exact Nat.le_trans (len_putD _ _ _) (Nat.succ_le_succ len)
    · have ei : i = l.length := by omega
      subst ei
      have e : res l.length = (l.filter p).foldl (fun m y => putD m (fk y) (fv y)) [] := by
        show ((l.take l.length).filter p).foldl _ [] = _
        rw [List.take_length]
      rw [e] at rel
      refine .inl ⟨wk.stops H q0, ?_⟩
      have r9 := (L0 r).putG n (a := a) (ins := []) (φ := DctAt c.K a ((l.filter p).foldl (fun m y => putD m (fk y) (fv y)) [])) ⟨fun b hb => by
        rw [List.mem_singleton.mp hb]
        exact ⟨.inl (r1.dom a ha), hPa, _, hHa⟩, ⟨kvs, hHa, rel⟩, DctAt.st⟩ (fun x hx => by rw [List.mem_singleton.mp hx]; exact na) (List.pairwise_singleton _ _)
      exact q a _ _ _ r9
/-- keys put to True, one after the other -/
def keysD (ks : List (List Int)) : List EntD := ks.foldl (fun m k => putD m k (.bl true)) []
theorem hasD_put {ents : List EntD} {j : List Int} : hasD (putD ents k d) j = (hasD ents j || decide (k = j)) := by
  unfold putD
  split
  · rename_i h
    unfold hasD at h ⊢
    rw [List.any_map]
    have e : (ents.any fun x => decide ((if x.1 = k then (x.1, d) else x).1 = j)) = ents.any fun x => decide (x.1 = j) := by
      refine List.any_congr rfl ?_ |>.trans rfl
      intro x
      split <;> rfl
    show (ents.any fun x => decide ((if x.1 = k then (x.1, d) else x).1 = j)) = _
    rw [e]
    by_cases z : k = j
    · subst z
      rw [h]
      rfl
    · rw [decide_eq_false z, Bool.or_false]
  · unfold hasD
    rw [List.any_append]
    simp
theorem hasD_keys {j : List Int} : ∀ (ks : List (List Int)) (m : List EntD), hasD (ks.foldl (fun m k => putD m k (.bl true)) m) j = (hasD m j || ks.any fun k => decide (k = j))
  | [], m => by simp
  | k :: ks, m => by
    rw [List.foldl_cons, hasD_keys ks, hasD_put, List.any_cons, Bool.or_assoc]
theorem hasD_keysD {ks : List (List Int)} {j : List Int} : hasD (keysD ks) j = true ↔ j ∈ ks := by
  unfold keysD
  rw [hasD_keys]
  simp [hasD]
theorem nodup_put {ents : List EntD} (h : (ents.map (·.1)).Nodup) : ((putD ents k d).map (·.1)).Nodup := by
  unfold putD
  split
  · rw [List.map_map]
    have e : ((fun e : EntD => e.1) ∘ fun e => if e.1 = k then (e.1, d) else e) = fun e => e.1 := by
      funext e
      show (if e.1 = k then (e.1, d) else e).1 = e.1
      split <;> rfl
    rw [e]
    exact h
  · rename_i hn
    rw [List.map_append]
    refine List.nodup_append.mpr ⟨h, List.pairwise_singleton _ _, fun x hx y hy e => hn ?_⟩
    obtain ⟨z, hz, ez⟩ := List.mem_map.mp hx
    have ey : y = k := by simpa using hy
    unfold hasD
    exact List.any_eq_true.mpr ⟨z, hz, by rw [ez, e, ey]; exact decide_eq_true rfl⟩
theorem nodup_keys : ∀ (ks : List (List Int)) (m : List EntD), (m.map (·.1)).Nodup → ((ks.foldl (fun m k => putD m k (.bl true)) m).map (·.1)).Nodup
  | [], _, h => h
  | _ :: ks, _, h => nodup_keys ks _ (nodup_put h)
end My
set_option Elab.async false
set_option linter.all false
set_option maxRecDepth 100000
set_option maxHeartbeats 2000000
/-! Lists within a list: looked into, changed, handed on; comprehensions whose test draws. -/
namespace My
open PySem PySem.Spec PyProof.Rows L2 RZ StX
open Evl (Ex)
section
variable {c : Fr} {es : List Sv} {ta tb te : TE} {ts : TA} {x y d : Dt} {l m : List Dt} {tt tu : TT} {D : Ends} {t u : TS} {n : Nat} {i j : Int} {b : Bool} {a : Addr} {ins : List Addr} {dss : List (List Dt)}
theorem ed_lenN (h : es[n]? = some (.gen a ins (Nest c.K c.H0 a ins dss))) : ED c (tCB (Evl.rLenS c.K) (tCons (tVar n) tNil)) es (.int dss.length) := fun σ P H r Q q => by
  obtain ⟨e0, g⟩ := r.sl.getG h
  obtain ⟨_, h1, h2⟩ := g.tell
  exact ⟨_, e0, a, _, rfl, .inl (Evl.sq_of h1), by rw [List.length_map, h2.len]; exact q _ P H _ rfl r Kp.refl (.int _)⟩
theorem ixN_at {n : Nat} {i : Int} {α : Type} {l : List α} {z : α} (e : atI l i = some z) (hn : n = l.length) : ∃ k, ixN n i = some k ∧ l[k]? = some z := by
  subst hn
  unfold atI at e
  cases q : ixN l.length i with
  | none => rw [q] at e; cases e
  | some k => rw [q] at e; exact ⟨k, rfl, e⟩
theorem at_of {α : Type} {l : List α} {k n : Nat} {i : Int} {z : α} (h : ixN n i = some k) (hn : n = l.length) (e : l[k]? = some z) : atI l i = some z := by
  subst hn
  unfold atI
  rw [h]
  exact e
/-- an item of an inner list -/
theorem ed_ixN2 {ds : List Dt} (h : es[n]? = some (.gen a ins (Nest c.K c.H0 a ins dss))) (ha : ED c ta es (.int i)) (hb : ED c tb es (.int j)) (e1 : atI dss i = some ds) (e2 : atI ds j = some d) : ED c (tOp (rIx c.K) (tOp (rIx c.K) (tVar n) ta) tb) es d := fun σ P H r Q q => by
  refine ⟨_, (r.sl.getG h).1, ?_⟩
  refine ha σ P H r _ fun v P1 H1 z hz r1 k1 h1 => ?_
  subst hz
  cases h1
  obtain ⟨_, t1, t2⟩ := (r1.sl.getG h).2.tell
  obtain ⟨k, hk, ek⟩ := ixN_at e1 rfl
  obtain ⟨p, xs, q1, q2, q3⟩ := t2.get ek
  have at1 : atI (ins.map V.ref) i = some (.ref p) := at_of hk (by rw [List.length_map, t2.len]) (by rw [List.getElem?_map, q1] <;> rfl)
  refine .inl ⟨a, _, i, .ref p, rfl, rfl, Evl.sq_of t1, at1, ?_⟩
  refine hb σ P1 H1 r1 _ fun v P2 H2 z hz r2 k2 h2 => ?_
  subst hz
  cases h2
  obtain ⟨_, t3, t4⟩ := (r2.sl.getG h).2.tell
  obtain ⟨p', xs', q1', q2', q3'⟩ := t4.get ek
  rw [q1] at q1'
  cases Option.some.inj q1'
  obtain ⟨w, e3, h3⟩ := atI_has q3' e2
  exact .inl ⟨p, xs', j, w, rfl, rfl, Evl.sq_of q2', e3, q w P2 H2 _ rfl r2 (k1.trans k2) h3⟩
theorem Rep.changeN {P H : Hp} {σ : L2.St} {k : Nat} {p : Addr} {xs : List V} {ds : List Dt} (r : Rep c P H σ es) (h : es[n]? = some (.gen a ins (Nest c.K c.H0 a ins dss))) (hp : ins[k]? = some p) (hx : HasAll c.K P xs ds) : Rep c P (upd H p (.lst xs)) σ (es.set n (.gen a ins (Nest c.K c.H0 a ins (dss.set k ds)))) := by
  have g := (r.sl.getG h).2
  have pm : p ∈ a :: ins := List.mem_cons_of_mem _ (List.mem_of_getElem? hp)
  obtain ⟨m1, m2, o, m3⟩ := g.mine p pm
  have nd0 : (a :: ins).Nodup := by
    have key : ∀ {es : List Sv} {n : Nat}, (owns es).Nodup → es[n]? = some (.gen a ins (Nest c.K c.H0 a ins dss)) → (a :: ins).Nodup := by
      intro es
      induction es with
      | nil => intro n _ e; simp at e
      | cons s es ih =>
        intro n nd e
        rw [owns_app] at nd
        cases n with
        | zero =>
          cases Option.some.inj e
          have := (List.nodup_append.mp nd).1
          rwa [show owns [Sv.gen a ins (Nest c.K c.H0 a ins dss)] = a :: ins by show (a :: ins) ++ [] = _; rw [List.append_nil]] at this
        | succ n => exact ih (List.nodup_append.mp nd).2.1 (by simpa using e)
    exact key r.nd h
  have ndi := List.nodup_cons.mp nd0
  have pne : p ≠ a := fun e => ndi.1 (by rw [← e]; exact List.mem_of_getElem? hp)
  have nm : p ∉ c.mu ∨ c.H0 p = none := .inr (g.tell.1 p pm)
  have h0 : c.H0 p = none := g.tell.1 p pm
  have st : ∀ {σ : L2.St} {es : List Sv} {n : Nat}, (owns es).Nodup → es[n]? = some (.gen a ins (Nest c.K c.H0 a ins dss)) → Sl c P H σ es → Sl c P (upd H p (.lst xs)) σ (es.set n (.gen a ins (Nest c.K c.H0 a ins (dss.set k ds)))) := by
    intro σ es n nd e s
    induction s generalizing n with
    | nil => simp at e
    | no s ih =>
      cases n with
      | zero => simp at e
      | succ n => exact .no (ih nd (by simpa using e))
    | dat z s ih =>
      cases n with
      | zero => simp at e
      | succ n => exact .dat z (ih nd (by simpa using e))
    | @own l ds σ es z s ih =>
      cases n with
      | zero => simp at e
      | succ n =>
        have nd' := List.nodup_cons.mp (show (l :: owns es).Nodup from nd)
        have e' : es[n]? = some (.gen a ins (Nest c.K c.H0 a ins dss)) := by simpa using e
        obtain ⟨z1, z2, ys, z3, z4⟩ := z
        exact .own ⟨z1, z2, ys, by rw [upd_ne fun q => nd'.1 (by rw [q]; exact owns_memG pm e')]; exact z3, z4⟩ (ih nd'.2 e')
    | @hand l σ es z s ih =>
      cases n with
      | zero => simp at e
      | succ n =>
        have nd' := List.nodup_cons.mp (show (l :: owns es).Nodup from nd)
        have e' : es[n]? = some (.gen a ins (Nest c.K c.H0 a ins dss)) := by simpa using e
        obtain ⟨hs, ok, z1, z2, ys, z3, z4⟩ := z
        exact .hand ⟨hs, ok, z1, z2, ys, by rw [upd_ne fun q => nd'.1 (by rw [q]; exact owns_memG pm e')]; exact z3, z4⟩ (ih nd'.2 e')
    | @gen l ins' φ σ es z s ih =>
      have nd' := List.nodup_append.mp (show ((l :: ins') ++ owns es).Nodup from nd)
      cases n with
      | zero =>
        obtain ⟨e1, e2, e3⟩ := Sv.gen.inj (Option.some.inj e)
        subst e1 e2 e3
        refine .gen ⟨fun b m => ?_, ⟨z.tell.1, ?_, z.tell.2.2.set hx ndi.2 hp⟩, nest_st⟩ (s.turn m2 fun m => nd'.2.2 p pm p m rfl)
        · obtain ⟨w1, w2, o2, w3⟩ := z.mine b m
          refine ⟨w1, w2, ?_⟩
          by_cases q : b = p
          · subst q; exact ⟨_, upd_same⟩
          · exact ⟨o2, by rw [upd_ne q]; exact w3⟩
        · rw [upd_ne pne.symm]; exact z.tell.2.1
      | succ n =>
        have e' : es[n]? = some (.gen a ins (Nest c.K c.H0 a ins dss)) := by simpa using e
        exact .gen (z.turn fun m => nd'.2.2 p m p (owns_memG pm e') rfl) (ih nd'.2.1 e')
  refine ⟨r.b, fun b o m hb => ?_, fun b hb => ?_, fun b o hb => ?_, r.fr, st r.nd h r.sl, ?_⟩
  · rw [upd_ne fun q => by rw [q, h0] at hb; cases hb]
    exact r.old b o m hb
  · by_cases q : b = p
    · rw [q, upd_same] at hb; cases hb
    · rw [upd_ne q] at hb; exact r.dom b hb
  · rw [upd_ne fun q => by rw [q, m2] at hb; cases hb]
    exact r.ex b o hb
  · rw [owns_same' (s := .gen a ins (Nest c.K c.H0 a ins dss)) (s' := .gen a ins (Nest c.K c.H0 a ins (dss.set k ds))) rfl h]
    exact r.nd
/-- xs[i][j] = e -/
theorem c_setN2 {ds : List Dt} {k k2 : Nat} {φ : Dt → Prop} (h : es[n]? = some (.gen a ins (Nest c.K c.H0 a ins dss))) (hv : EV c te es φ) (ha : ED c ta es (.int (k : Nat))) (hb : ED c tb es (.int (k2 : Nat))) (e1 : dss[k]? = some ds) (e2 : k2 < ds.length)
    (q : ∀ d, φ d → Cont c D.nx (es.set n (.gen a ins (Nest c.K c.H0 a ins (dss.set k (ds.set k2 d)))))) : Cont c (tAsg te (gSub (tOp (rIx c.K) (tVar n) ta) tb rSetL) D) es := fun σ P H r =>
  hv σ P H r _ fun v P1 H1 d hφ r1 k1 h1 => by
    refine ⟨_, (r1.sl.getG h).1, ?_⟩
    refine ha σ P1 H1 r1 _ fun w P2 H2 z hz r2 k2' h2 => ?_
    subst hz
    cases h2
    obtain ⟨_, t1, t2⟩ := (r2.sl.getG h).2.tell
    obtain ⟨p, xs, q1, q2, q3⟩ := t2.get e1
    have hk : k < dss.length := (List.getElem?_eq_some_iff.mp e1).1
    have at1 : atI (ins.map V.ref) (k : Nat) = some (.ref p) := at_of (n := dss.length) (Evl.ixN_nat hk) (by rw [List.length_map, t2.len]) (by rw [List.getElem?_map, q1] <;> rfl)
    refine .inl ⟨a, _, k, .ref p, rfl, rfl, Evl.sq_of t1, at1, ?_⟩
    refine hb σ P2 H2 r2 _ fun w P3 H3 z hz r3 k3 h3 => ?_
    subst hz
    cases h3
    obtain ⟨_, t3, t4⟩ := (r3.sl.getG h).2.tell
    obtain ⟨p', xs', q1', q2', q3'⟩ := t4.get e1
    rw [q1] at q1'
    cases Option.some.inj q1'
    exact ⟨p, xs', _, k2, rfl, rfl, q2', Evl.ixN_nat (by rw [q3'.len]; exact e2), q d hφ _ P3 _ (r3.changeN h q1 (q3'.set k2 (Has.mono (k2'.p.trans k3.p) _ h1)))⟩
theorem gen_gone {φ : Hp → Hp → Prop} {p : Addr} (hp : p ∈ a :: ins) : ∀ {es : List Sv} {n : Nat}, (owns es).Nodup → es[n]? = some (.gen a ins φ) → p ∉ owns (es.set n .no)
  | [], _, _, e => by simp at e
  | s :: es, 0, nd, e => by
    cases Option.some.inj e
    have := List.nodup_append.mp (show ((a :: ins) ++ owns es).Nodup from nd)
    exact fun m => this.2.2 p hp p m rfl
  | s :: es, n + 1, nd, e => by
    have e' : es[n]? = some (.gen a ins φ) := by simpa using e
    show p ∉ owns (s :: es.set n .no)
    rw [owns_app] at nd ⊢
    obtain ⟨n1, n2, n3⟩ := List.nodup_append.mp nd
    intro m
    rcases List.mem_append.mp m with m | m
    · exact n3 p m p (owns_memG hp e') rfl
    · exact gen_gone hp n2 e' m
/-- the inner lists handed on as data -/
theorem c_giveN {k : L2.St → Hp → Prop} (h : es[n]? = some (.gen a ins (Nest c.K c.H0 a ins dss))) (q : Cont c k (es.set n (.own a (dss.map Dt.lst)))) : Cont c k es := fun σ P H r => by
  obtain ⟨e0, g⟩ := r.sl.getG h
  obtain ⟨t0, t1, t2⟩ := g.tell
  have r1 := r.drop (o := none) n
  have e1 : σ.set n (some (.ref a)) = σ := by
    obtain ⟨hl, hv⟩ := List.getElem?_eq_some_iff.mp e0
    rw [← hv]
    exact List.set_getElem_self hl
  have gone : ∀ p ∈ a :: ins, p ∉ owns (es.set n .no) := fun p hp => gen_gone hp r.nd h
  have nd0 : (a :: ins).Nodup := by
    have key : ∀ {es : List Sv} {n : Nat}, (owns es).Nodup → es[n]? = some (.gen a ins (Nest c.K c.H0 a ins dss)) → (a :: ins).Nodup := by
      intro es
      induction es with
      | nil => intro n _ e; simp at e
      | cons s es ih =>
        intro n nd e
        rw [owns_app] at nd
        cases n with
        | zero =>
          cases Option.some.inj e
          have := (List.nodup_append.mp nd).1
          rwa [show owns [Sv.gen a ins (Nest c.K c.H0 a ins dss)] = a :: ins by show (a :: ins) ++ [] = _; rw [List.append_nil]] at this
        | succ n => exact ih (List.nodup_append.mp nd).2.1 (by simpa using e)
    exact key r.nd h
  have nda := List.nodup_cons.mp nd0
  -- one after the other
  have key : ∀ (as : List Addr) (ds : List (List Dt)) (P : Hp), as.Nodup → a ∉ as → P a = none → (∀ p ∈ as, c.H0 p = none ∧ P p = none ∧ p ∉ owns (es.set n .no)) → InAll c.K P H as ds → Rep c P H (σ.set n none) (es.set n .no) →
      ∃ P', Ex P P' ∧ P' a = none ∧ Rep c P' H (σ.set n none) (es.set n .no) ∧ HasAll c.K P' (as.map V.ref) (ds.map Dt.lst) := by
    intro as
    induction as with
    | nil =>
      intro ds P _ _ hPa _ hin r
      cases ds with
      | nil => exact ⟨P, .refl P, hPa, r, .nil⟩
      | cons => exact hin.elim
    | cons p as ih =>
      intro ds P nd na hPa hall hin r
      cases ds with
      | nil => exact hin.elim
      | cons d ds =>
        obtain ⟨⟨xs, h1, h2⟩, hin⟩ := hin
        obtain ⟨p0, pP, pn⟩ := hall p List.mem_cons_self
        have nd' := List.nodup_cons.mp nd
        have pna : a ≠ p := fun e => na (by rw [e]; exact List.mem_cons_self)
        have r2 := r.give pn p0 pP h1
        have ex := Ex.new (o := HO.lst xs) pP
        obtain ⟨P', e', hP', r', hh⟩ := ih ds (upd P p (.lst xs)) nd'.2 (fun m => na (List.mem_cons_of_mem _ m)) (by rw [upd_ne pna]; exact hPa) (fun z m => by
          obtain ⟨z0, z1, z2⟩ := hall z (List.mem_cons_of_mem _ m)
          exact ⟨z0, by rw [upd_ne fun e => nd'.1 (by rw [← e]; exact m)]; exact z1, z2⟩) (hin.step ex fun _ _ => rfl) r2
        refine ⟨P', ex.trans e', hP', r', .cons (.lst (Evl.sq_of (e' _ _ upd_same)) (HasAll.mono (ex.trans e') _ h2)) hh⟩
  obtain ⟨P', e', hPa, r2, hh⟩ := key ins dss P nda.2 nda.1 (g.mine a List.mem_cons_self).2.1 (fun p hp => ⟨t0 p (List.mem_cons_of_mem _ hp), (g.mine p (List.mem_cons_of_mem _ hp)).2.1, gone p (List.mem_cons_of_mem _ hp)⟩) t2 r1
  have r3 := r2.putO n (l := a) (ds := dss.map Dt.lst) ⟨.inl (t0 a List.mem_cons_self), hPa, _, t1, hh⟩ (gone a List.mem_cons_self)
  rw [List.set_set, List.set_set, e1] at r3
  exact q σ P' H r3
/-- a comprehension whose test draws from a hand: some of the items, in their order -/
theorem eo_lcK {wi : TI} {g : TG} {f : Dt → List Sv → List Sv} {vs : List Nat} {ad : Addr} {k : Nat} {ρ : Dt → Bool → Prop} (hk : es[k]? = some (.hand ad)) (h : WR c wi es l) (hl : l.length ≤ 100000) (hg : ∀ P y, y ∈ l → TgD (c.at P) g (f y) vs y)
    (hf : ∀ y ∈ l, handsOf (f y (wipeE es vs)) = [ad] ∧ (f y (wipeE es vs))[k]? = some (Sv.hand ad)) (ht : ∀ P, Low c P → ∀ y ∈ l, EB (c.at P) tt (f y (wipeE es vs)) (ρ y)) (he : ∀ P, Low c P → ∀ y ∈ l, ED (c.at P) te (f y (wipeE es vs)) y) :
    EO c (tLc wi g tt te vs) es (fun r => List.Sublist r l) := fun σ P H r Q q =>
  h σ P H r _ fun J P1 H1 G Y r1 e1 w hG hY => fun a ha => by
    have L : Low c P1 := r1.low
    have na := r1.fresh ha
    have nad : a ≠ ad := fun z => na (by rw [z]; exact owns_mem (ds := []) (.inr hk))
    let Pv : Nat → Hp → Prop := fun i H => ∃ P xs ds, Rep (c.at P1) P H σ es ∧ Kp es P1 H1 P H ∧ P a = none ∧ H a = some (.lst xs) ∧ HasAll c.K P xs ds ∧ List.Sublist ds (l.take i)
    have g0 := grow_own (o := .lst []) r1.ex ha
    have step : ∀ {P H P' H' : Hp} {σ' : L2.St} {y : Dt}, y ∈ l → Rep (c.at P1) P H σ es → Rep (c.at P1) P' H' σ' (f y (wipeE es vs)) → Kp (f y (wipeE es vs)) P H P' H' → Rep (c.at P1) P' H' σ es ∧ Kp es P H P' H' ∧ ∀ b o, b ≠ ad → H b = some o → H' b = some o := fun {P H P' H' σ' y} hm r2 r6 k6 => by
      obtain ⟨hf1, hf2⟩ := hf y hm
      obtain ⟨_, hs, ok, n1, n2, us, hu, hud⟩ := r6.sl.getH hf2
      have kk : ∀ b o, b ≠ ad → H b = some o → H' b = some o := fun b o ne h => k6.k b o (by rw [hf1]; exact fun m => ne (List.mem_singleton.mp m)) h
      exact ⟨r2.hands hk k6.p kk k6.n r6.ex k6.f n2 hu hud ok, ⟨k6.p, fun b o n h => kk b o (fun z => n (by rw [z]; exact hands_mem hk)) h, k6.n, k6.f⟩, kk⟩
    refine lc_it w Pv ⟨P1, [], [], r1.at.step g0, .of g0, none_back r1.ex ha, upd_same, .nil, List.nil_sublist _⟩ (fun i H _ ⟨P, xs, ds, r, _⟩ => hG P H r) (fun i x H H' hi ⟨P, xs, ds, r, eH, hPa, hHa, hd, hs⟩ y => ?_) fun H ⟨P, xs, ds, r, eH, hPa, hHa, hd, hs⟩ => ?_
    · obtain ⟨P', d, g', e, hx⟩ := hY i P H x H' hi r y
      have hm : d ∈ l := List.mem_of_getElem? e
      have r2 := r.step g'
      have tk : l.take (i + 1) = l.take i ++ [d] := by rw [List.take_add_one, e] <;> rfl
      refine hg P1 d hm x P' H' _ _ _ (r2.wipe vs) hx fun σ' hw r3 => ⟨by rw [hw]; exact wipe_wipe, ?_⟩
      refine ht P1 L d hm σ' P' H' r3 _ fun b P3 H3 hb r4 k4 => ?_
      have hPa' := grow_none g' hPa hHa
      have hHa' := g'.h _ _ hHa
      obtain ⟨t3, K3, kk3⟩ := step hm r2 r4 k4
      have hPa3 := kp_none k4 hPa' hHa'
      have hHa3 := kk3 a _ nad hHa'
      cases b with
      | false =>
        refine iteF ?_
        refine ⟨P3, xs, ds, t3, (eH.trans (.of g')).trans K3, hPa3, hHa3, HasAll.mono (g'.p.trans k4.p) _ hd, ?_⟩
        rw [tk]
        exact hs.trans (List.sublist_append_left _ _)
      | true =>
        refine iteT ?_
        refine he P1 L d hm σ' P3 H3 r4 _ fun v P4 H4 dv hv r6 k6 hx6 => ?_
        subst hv
        obtain ⟨t4, K4, kk4⟩ := step hm t3 r6 k6
        have hPa4 := kp_none k6 hPa3 hHa3
        have len : xs.length ≤ l.length := by
          rw [hd.len]
          exact Nat.le_trans hs.length_le (by rw [List.length_take]; omega)
        refine ⟨xs, kk4 a _ nad hHa3, Nat.lt_of_le_of_lt (Nat.le_trans len hl) (by decide), P4, xs ++ [v], ds ++ [dv], t4.turnO (r1.dom a ha) hPa4 na, (((eH.trans (.of g')).trans K3).trans K4).put ha, hPa4, upd_same, (HasAll.mono ((g'.p.trans k4.p).trans k6.p) _ hd).append (.cons hx6 .nil), ?_⟩
        rw [tk]
        exact hs.append (List.Sublist.refl _)
    · have et : l.take l.length = l := List.take_length
      rw [et] at hs
      exact q a P H ds hs (L r) (e1.trans eH) na (e1.n a ha) ⟨.inl (r1.dom a ha), hPa, xs, hHa, hd⟩
end
end My
set_option Elab.async false
set_option linter.all false
set_option maxRecDepth 100000
set_option maxHeartbeats 4000000
/-! Un: one form for what defs mean; the first bad one of a row. -/
namespace My
open PySem PySem.Spec PyProof.Rows L2
abbrev SemD (K : PySem.W.Frag) (n : Nat) (t : TS) (R : List Dt → Dt → Prop) : Prop := ∀ (P0 H0 : Hp) (D : Ends) (ds : List Dt), (∃ d, R ds d) → RetD ⟨K, [], P0, H0⟩ D.rt (R ds) → Cont ⟨K, [], P0, H0⟩ (t D) (args ds n)
abbrev SemY (K : PySem.W.Frag) (n : Nat) (t : XK → TS) (R : List Dt → Out → Prop) : Prop := ∀ (P0 H0 : Hp) (D : Ends) (E : XK) (ds : List Dt), (∃ d, R ds d) → RetD ⟨K, [], P0, H0⟩ D.rt (fun d => R ds (.ok d)) → XtY ⟨K, [], P0, H0⟩ E (R ds) → Cont ⟨K, [], P0, H0⟩ (t E D) (args ds n)
abbrev SemO (K : PySem.W.Frag) (n : Nat) (t : TS) (R : List Dt → List Dt → Prop) : Prop := ∀ (P0 H0 : Hp) (D : Ends) (ds : List Dt), (∃ d, R ds d) → RetO ⟨K, [], P0, H0⟩ D.rt (R ds) → Cont ⟨K, [], P0, H0⟩ (t D) (args ds n)
abbrev SemH (K : PySem.W.Frag) (n : Nat) (t : TS) (R : List Dt → Dt → Prop) : Prop := ∀ (P0 H0 : Hp) (a : Addr) (D : Ends) (ds : List Dt), (∃ d, R ds d) → RetH ⟨K, [a], P0, H0⟩ a D.rt (R ds) → Cont ⟨K, [a], P0, H0⟩ (t D) (.hand a :: args ds n)
/-- a call of what is told of exactly -/
theorem ed_fn {c : Fr} {es : List Sv} {ts : TA} {ds : List Dt} {d : Dt} {E : XK} {R : List Dt → Dt → Prop} (h : EDs c ts es ds) (hR : R ds d) (h1 : ∀ x, R ds x → x = d) : ED c (tCall (spD c.K R) [] E ts) es d := ed_call h hR h1
theorem ed_give {c : Fr} {es : List Sv} {te : TE} {l : List Dt} (hm : c.mu = []) (h : EO c te es (fun r => r = l)) : ED c te es (.lst l) := (ev_give hm h).imp fun z ⟨r, e, er⟩ => by rw [e, er]
theorem ed_tupO {c : Fr} {es : List Sv} {te : TE} {l : List Dt} (hm : c.mu = []) (h : EO c te es (fun r => r = l)) : ED c (tCB (rTupleOf c.K) (tCons te tNil)) es (.tup l) := ed_tupleOf (ed_give hm h) rfl
theorem XtY.imp {c : Fr} {E : XK} {R S : Out → Prop} (h : XtY c E R) (k : ∀ o, S o → R o) : XtY c E S :=
  ⟨fun dx P H σ es C fs fd hr => h.1 dx P H σ es C fs fd (k _ hr), fun P H σ es C hr => h.2 P H σ es C (k _ hr)⟩
variable {c : Fr} {es : List Sv} {te : TE} {tt : TT} {tr u : TS} {D : Ends} {x : Dt} {l : List Dt} {n m : Nat}
/-- the slots of a loop's two targets -/
def put2 (es : List Sv) (n m : Nat) (s s' : Sv) : List Sv := (es.set n s).set m s'
theorem put2_put (es : List Sv) {n m : Nat} (h : n ≠ m) (s s' t t' : Sv) : put2 (put2 es n m s s') n m t t' = put2 es n m t t' := by
  unfold put2
  rw [List.set_comm _ _ (Ne.symm h), List.set_set, List.set_set]
theorem get_same {es : List Sv} {n : Nat} (h : n < es.length) : ∃ s, es[n]? = some s := ⟨_, List.getElem?_eq_getElem h⟩
theorem put2_self {es : List Sv} {n m : Nat} (hn : n < es.length) (hm : m < es.length) : ∃ s s', put2 es n m s s' = es := by
  refine ⟨es[n], es[m], ?_⟩
  unfold put2
  rw [List.set_getElem_self, List.set_getElem_self]
/-- for i, y in enumerate(x): if not ok(y): raise .. -/
theorem s_firstBad {ok : Dt → Bool} (h : ED c te es x) (hx : itemsD x = some l) (hn : n < es.length) (hm : m < es.length) (hne : n ≠ m)
    (ht : ∀ P, Low c P → ∀ (k : Nat) y, l[k]? = some y → EBd (c.at P) tt (put2 es n m (.dat (.int k)) (.dat y)) (!ok y))
    (hb : ∀ P, Low c P → ∀ (k : Nat) y D, l[k]? = some y → ok y = false → (∀ (j : Nat) z, j < k → l[j]? = some z → ok z = true) → Cont (c.at P) (tr D) (put2 es n m (.dat (.int k)) (.dat y)))
    (he : (∀ y ∈ l, ok y = true) → ∀ es', (es' = es ∨ ∃ d d', es' = put2 es n m (.dat d) (.dat d')) → Cont c (u D) es') :
    Cont c (tSeq (tFor (iEnumA c.K (tCons te tNil)) (gTup c.K 2 (gCons (gName n) (gCons (gName m) gNil))) (tIfS tt tr tNext)) u D) es := by
  obtain ⟨s0, s1, e0⟩ := put2_self hn hm
  have base : ∀ {es' : List Sv}, (es' = es ∨ ∃ d d', es' = put2 es n m (.dat d) (.dat d')) → ∃ s s', es' = put2 es n m s s' := fun h => by
    rcases h with h | ⟨d, d', h⟩
    · exact ⟨s0, s1, h.trans e0.symm⟩
    · exact ⟨_, _, h⟩
  refine s_for (I := fun k es' => (∀ (j : Nat) z, j < k → l[j]? = some z → ok z = true) ∧ (es' = es ∨ ∃ d d', es' = put2 es n m (.dat d) (.dat d'))) (f := fun y es => match y with
    | .tup [a, b] => (es.set n (.dat a)).set m (.dat b)
    | _ => es) (vs := [n, m]) (wi_enumA h hx) ⟨fun j z hj => absurd hj (Nat.not_lt_zero _), .inl rfl⟩ (fun P y hy => ?_) (fun P1 L k y es' ey ⟨hall, h4⟩ => ?_) fun es' ⟨hall, h4⟩ => ?_
  · obtain ⟨i, hi, rfl⟩ := List.mem_mapIdx.mp hy
    exact tg_two
  · obtain ⟨s, s', h4⟩ := base h4
    subst h4
    obtain ⟨z, hz, rfl⟩ : ∃ z, l[k]? = some z ∧ Dt.tup [.int (k : Nat), z] = y := by
      rw [List.getElem?_mapIdx] at ey
      cases q : l[k]? with
      | none => rw [q] at ey; cases ey
      | some z => rw [q] at ey; exact ⟨z, rfl, Option.some.inj ey⟩
    show Cont _ _ (put2 (put2 es n m s s') n m (.dat (.int (k : Nat))) (.dat z))
    rw [put2_put es hne]
    refine c_if (ht P1 L k z hz) (fun hh => ?_) fun hh => ?_
    · have hf : ok z = false := by simpa using hh
      exact hb P1 L k z _ hz hf hall
    · have hf : ok z = true := by simpa using hh
      refine c_turn' rfl ⟨fun j w hj hw => ?_, .inr ⟨_, _, rfl⟩⟩
      by_cases e : j = k
      · subst e
        rw [hz] at hw
        cases hw
        exact hf
      · exact hall j w (by omega) hw
  · refine he (fun y hy => ?_) es' h4
    obtain ⟨j, hj⟩ := List.mem_iff_getElem?.mp hy
    have hlt := (List.getElem?_eq_some_iff.mp hj).1
    exact hall j y (by rw [List.length_mapIdx]; exact hlt) hj
/-- the place of the first bad one -/
def badAt (ok : Dt → Bool) : Nat → List Dt → Option Nat
  | _, [] => none
  | k, y :: l => if ok y = true then badAt ok (k + 1) l else some k
theorem badAt_all {ok : Dt → Bool} : ∀ {l : List Dt} {k : Nat}, (∀ y ∈ l, ok y = true) → badAt ok k l = none
  | [], _, _ => rfl
  | y :: l, k, h => by
    unfold badAt
    rw [if_pos (h y List.mem_cons_self)]
    exact badAt_all fun z hz => h z (List.mem_cons_of_mem _ hz)
theorem badAt_one {ok : Dt → Bool} : ∀ {l : List Dt} {i k : Nat} {y : Dt}, l[k]? = some y → ok y = false → (∀ (j : Nat) z, j < k → l[j]? = some z → ok z = true) → badAt ok i l = some (i + k)
  | [], _, _, _, h, _, _ => by simp at h
  | y :: l, i, 0, z, h, hf, _ => by
    cases (Option.some.inj h)
    unfold badAt
    rw [if_neg (by rw [hf]; decide)]
    rfl
  | y :: l, i, k + 1, z, h, hf, ha => by
    unfold badAt
    rw [if_pos (ha 0 y (by omega) rfl)]
    have q := badAt_one (l := l) (i := i + 1) (k := k) (by simpa using h) hf (fun j w hj hw => ha (j + 1) w (by omega) (by simpa using hw))
    rw [q]
    exact congrArg some (by omega)
end My
set_option Elab.async false
set_option linter.all false
set_option maxRecDepth 100000
set_option maxHeartbeats 4000000
/-! Lc: cells.py. -/
namespace Lw
open PySem PySem.Spec PyProof.Rows L2 My StX
/-! promises -/
/-- a thing whose parts may be asked -/
def PartIn (x : Dt) : Prop := Kin x ∧ NN x ∧ ∀ l, itemsD x = some l → ∀ y ∈ l, Kin y
def pairB (lo hi : Int) (x : Dt) : Bool := match itemsD x with
  | some l => decide (l.length = 2) && l.all fun y => wholeB y (.int lo) (.int hi)
  | none => false
abbrev cellB : Dt → Bool := pairB (-20) 20
abbrev reachB : Dt → Bool := pairB 0 2
def toC (x : Dt) : Int × Int := match itemsD x with
  | some [.int a, .int b] => (a, b)
  | _ => (0, 0)
def R_is_cell (ds : List Dt) (d : Dt) : Prop := ∃ x, ds = [x] ∧ PartIn x ∧ d = .bl (cellB x)
def sp_is_cell (K : PySem.W.Frag) : Sp := spD K R_is_cell
def R_is_reach (ds : List Dt) (d : Dt) : Prop := ∃ x, ds = [x] ∧ PartIn x ∧ d = .bl (reachB x)
def sp_is_reach (K : PySem.W.Frag) : Sp := spD K R_is_reach
/-- a thing whose items may be asked for parts -/
def CellsIn (x : Dt) : Prop := Kin x ∧ NN x ∧ ∀ l, itemsD x = some l → ∀ y ∈ l, PartIn y
def cellsO (C : Addr) (x : Dt) : Out := match itemsD x with
  | some l => if l.length ≤ 100 then (match badAt cellB 0 l with
    | some k => slipEx C k "cell"
    | none => .ok (.tup (cellsD (ascC (l.map toC))))) else slipEx C 0 "many"
  | none => slipEx C 0 "many"
def R_check_cells (C : Addr) (ds : List Dt) (o : Out) : Prop := ∃ x, ds = [x] ∧ CellsIn x ∧ o = cellsO C x
def sp_check_cells (K : PySem.W.Frag) : Sp := spY K (R_check_cells (He.ga K "BadCells"))
def axisO (C : Addr) (x : Dt) : Out := if wholeB x (.int 0) (.int 1) = true then .ok x else .ex C ["axis"] [x]
def R_check_axis (C : Addr) (ds : List Dt) (o : Out) : Prop := ∃ x, ds = [x] ∧ Kin x ∧ o = axisO C x
def sp_check_axis (K : PySem.W.Frag) : Sp := spY K (R_check_axis (He.ga K "BadAxis"))
def reachO (C : Addr) (x : Dt) : Out := if reachB x = true then .ok (cellD (toC x)) else .ex C [] []
def R_check_reach (C : Addr) (ds : List Dt) (o : Out) : Prop := ∃ x, ds = [x] ∧ PartIn x ∧ o = reachO C x
def sp_check_reach (K : PySem.W.Frag) : Sp := spY K (R_check_reach (He.ga K "BadReach"))
def span (a : Int) : List Int := (List.range (2 * a + 1).toNat).map fun k => -a + (k : Nat)
/-- the cells near p by the reach r -/
def nearC (r p : Int × Int) : List (Int × Int) := (span r.1).flatMap fun a => (span r.2).map fun b => (p.1 + a, p.2 + b)
def nearO (C : Addr) (x y : Dt) : Out := if reachB y = true then .ok (.tup (cellsD (nearC (toC y) (toC x)))) else .ex C [] []
/-- two whole numbers -/
def IsPr (x : Dt) : Prop := ∃ a b : Int, itemsD x = some [.int a, .int b]
def R_near_cells (C : Addr) (ds : List Dt) (o : Out) : Prop := ∃ x y, ds = [x, y] ∧ IsPr x ∧ PartIn y ∧ o = nearO C x y
def sp_near_cells (K : PySem.W.Frag) : Sp := spY K (R_near_cells (He.ga K "BadReach"))
def grownC (r : Int × Int) (l : List (Int × Int)) : List (Int × Int) := ascC (l.flatMap (nearC r))
def shrunkC (r : Int × Int) (l : List (Int × Int)) : List (Int × Int) := l.filter fun p => (nearC r p).all fun q => decide (q ∈ l)
/-- cells, then the reach, then f of both -/
def bothO (CC CR : Addr) (f : Int × Int → List (Int × Int) → List (Int × Int)) (x y : Dt) : Out := match cellsO CC x with
  | .ok _ => if reachB y = true then .ok (.tup (cellsD (f (toC y) (ascC (((itemsD x).getD []).map toC))))) else .ex CR [] []
  | o => o
def R_both (CC CR : Addr) (f : Int × Int → List (Int × Int) → List (Int × Int)) (ds : List Dt) (o : Out) : Prop := ∃ x y, ds = [x, y] ∧ CellsIn x ∧ PartIn y ∧ o = bothO CC CR f x y
def sp_grown_cells (K : PySem.W.Frag) : Sp := spY K (R_both (He.ga K "BadCells") (He.ga K "BadReach") grownC)
def sp_shrunk_cells (K : PySem.W.Frag) : Sp := spY K (R_both (He.ga K "BadCells") (He.ga K "BadReach") shrunkC)
def t_is_cell (K : PySem.W.Frag) : TS :=
  (tRet (tAndV (tCall (sp_is_sequence K) [] E0 (tCons (tVar 0) (tCons (tC (.int 2)) (tCons (tC (.int 2)) tNil)))) (tCB (rAll K) (tCons (tLc (iSeq K (tVar 0)) (gName 1) tYes (tCall (sp_is_whole K) [] E0 (tCons (tVar 1) (tCons (tUn (rU fun i => .int (-i)) (tC (.int 20))) (tCons (tC (.int 20)) tNil)))) [1]) tNil))))
def t_check_cells (K : PySem.W.Frag) (E : XK) : TS :=
  (tSeq (tIfS (tNot (tB (tCall (sp_is_sequence K) [] E0 (tCons (tVar 0) (tCons (tC (.int 0)) (tCons (tC (.int 100)) tNil)))))) (fun (_ : Ends) σ H => tMkO (He.ga K "BadCells") (spIni2 K (He.ga K "BadCells") "index" "what") [] (tCons (tC (.int 0)) (tCons (tC (.str "many")) tNil)) σ H fun cls d H2 => E cls d H2) tNext)
    (tSeq (tFor (iEnumA K (tCons (tVar 0) tNil)) (gTup K 2 (gCons (gName 1) (gCons (gName 2) gNil))) (tIfS (tNot (tB (tCall (sp_is_cell K) [] E0 (tCons (tVar 2) tNil)))) (fun (_ : Ends) σ H => tMkO (He.ga K "BadCells") (spIni2 K (He.ga K "BadCells") "index" "what") [] (tCons (tVar 1) (tCons (tC (.str "cell")) tNil)) σ H fun cls d H2 => E cls d H2) tNext))
    (tRet (tCB (rTupleOf K) (tCons (tSortSg K (fun P w => tSg P w K (iSeq K (tVar 0)) (gName 2) tYes (tTup (tCons (tOp (rIx K) (tVar 2) (tC (.int 0))) (tCons (tOp (rIx K) (tVar 2) (tC (.int 1))) tNil))) [2])) tNil)))))
def t_is_reach (K : PySem.W.Frag) : TS :=
  (tRet (tAndV (tCall (sp_is_sequence K) [] E0 (tCons (tVar 0) (tCons (tC (.int 2)) (tCons (tC (.int 2)) tNil)))) (tCB (rAll K) (tCons (tLc (iSeq K (tVar 0)) (gName 1) tYes (tCall (sp_is_whole K) [] E0 (tCons (tVar 1) (tCons (tC (.int 0)) (tCons (tC (.int 2)) tNil)))) [1]) tNil))))
def t_check_reach (K : PySem.W.Frag) (E : XK) : TS :=
  (tSeq (tIfS (tNot (tB (tCall (sp_is_reach K) [] E0 (tCons (tVar 0) tNil)))) (fun (_ : Ends) σ H => (fun (_ : L2.St) (H : Hp) (Q : XK) => Q (.ref (He.ga K "BadReach")) none H) σ H fun cls d H2 => E cls d H2) tNext)
    (tRet (tCB (rTupleOf K) (tCons (tVar 0) tNil))))
def t_near_cells (K : PySem.W.Frag) (E : XK) : TS :=
  (tSeq (tAsg (tCall (sp_check_reach K) [] E (tCons (tVar 1) tNil)) (gTup K 2 (gCons (gName 2) (gCons (gName 3) gNil))))
    (tSeq (tAsg (tVar 0) (gSeqA K 2 (gCons (gName 4) (gCons (gName 5) gNil))))
    (tRet (tCB (rTupleOf K) (tCons (tLc2 (iRng2 (tCons (tUn (rU fun i => .int (-i)) (tVar 2)) (tCons (tOp (rI0 fun i j => .int (i + j)) (tVar 2) (tC (.int 1))) tNil))) (gName 6) tYes (iRng2 (tCons (tUn (rU fun i => .int (-i)) (tVar 3)) (tCons (tOp (rI0 fun i j => .int (i + j)) (tVar 3) (tC (.int 1))) tNil))) (gName 7) tYes (tTup (tCons (tOp (rI0 fun i j => .int (i + j)) (tVar 4) (tVar 6)) (tCons (tOp (rI0 fun i j => .int (i + j)) (tVar 5) (tVar 7)) tNil))) [6, 7] [7]) tNil)))))
def t_grown_cells (K : PySem.W.Frag) (E : XK) : TS :=
  (tSeq (tAsg (tCall (sp_check_cells K) [] E (tCons (tVar 0) tNil)) (gName 2))
    (tSeq (tAsg (tCall (sp_check_reach K) [] E (tCons (tVar 1) tNil)) (gName 3))
    (tRet (tCB (rTupleOf K) (tCons (tSortSg K (fun P w => tSg2 P w K (iSeq K (tVar 2)) (gName 4) tYes (iSeq K (tCall (sp_near_cells K) [] E0 (tCons (tVar 4) (tCons (tVar 3) tNil)))) (gName 5) tYes (tVar 5) [4, 5] [5])) tNil)))))
def t_shrunk_cells (K : PySem.W.Frag) (E : XK) : TS :=
  (tSeq (tAsg (tCall (sp_check_cells K) [] E (tCons (tVar 0) tNil)) (gName 2))
    (tSeq (tAsg (tCall (sp_check_reach K) [] E (tCons (tVar 1) tNil)) (gName 3))
    (tSeq (tAsg (tDg K (iSeq K (tVar 2)) (gName 5) tYes (tVar 5) (tC (.bl true)) [5]) (gName 4))
    (tRet (tCB (rTupleOf K) (tCons (tLc (iSeq K (tVar 2)) (gName 5) (tB (tCB (rAll K) (tCons (tLc (iSeq K (tCall (sp_near_cells K) [] E0 (tCons (tVar 5) (tCons (tVar 3) tNil)))) (gName 6) tYes (tOp (rInG K) (tVar 6) (tVar 4)) [6]) tNil))) (tVar 5) [5]) tNil))))))
def t_check_axis (K : PySem.W.Frag) (E : XK) : TS :=
  (tSeq (tIfS (tNot (tB (tCall (sp_is_whole K) [] E0 (tCons (tVar 0) (tCons (tC (.int 0)) (tCons (tC (.int 1)) tNil)))))) (fun (_ : Ends) σ H => tMkO (He.ga K "BadAxis") (spIni1 K (He.ga K "BadAxis") "axis") [] (tCons (tVar 0) tNil) σ H fun cls d H2 => E cls d H2) tNext)
    (tRet (tVar 0)))
section
variable {K : PySem.W.Frag} {c : Fr} {D : Ends} {E : XK} {es : List Sv} {ta tb te tx : TE} {x y lo hi : Dt} {l : List Dt}
theorem int_of_whole {a b : Dt} (h : wholeB x a b = true) : ∃ i, x = .int i := by
  cases x with
  | int i => exact ⟨i, rfl⟩
  | _ => cases h
theorem whole_int {i a b : Int} : wholeB (.int i) (.int a) (.int b) = true ↔ a ≤ i ∧ i ≤ b := by
  show (decide (a ≤ i) && decide (i ≤ b)) = true ↔ _
  rw [Bool.and_eq_true, decide_eq_true_eq, decide_eq_true_eq]
/-- a pair within bounds is two whole numbers -/
theorem pair_is {lo hi : Int} (h : pairB lo hi x = true) : ∃ a b, itemsD x = some [.int a, .int b] ∧ toC x = (a, b) ∧ lo ≤ a ∧ a ≤ hi ∧ lo ≤ b ∧ b ≤ hi := by
  unfold pairB at h
  cases e : itemsD x with
  | none => rw [e] at h; cases h
  | some l =>
    rw [e] at h
    obtain ⟨h1, h2⟩ := Bool.and_eq_true_iff.mp h
    have h1 := of_decide_eq_true h1
    match l, h1, h2 with
    | [p, q], _, h2 =>
      have hp := List.all_eq_true.mp h2 p List.mem_cons_self
      have hq := List.all_eq_true.mp h2 q (List.mem_cons_of_mem _ List.mem_cons_self)
      obtain ⟨a, rfl⟩ := int_of_whole hp
      obtain ⟨b, rfl⟩ := int_of_whole hq
      have za := whole_int.mp hp
      have zb := whole_int.mp hq
      refine ⟨a, b, rfl, ?_, za.1, za.2, zb.1, zb.2⟩
      unfold toC
      rw [e]
theorem pair_of {lo hi a b : Int} (e : itemsD x = some [.int a, .int b]) (h : lo ≤ a ∧ a ≤ hi ∧ lo ≤ b ∧ b ≤ hi) : pairB lo hi x = true := by
  unfold pairB
  rw [e]
  show (decide ((2 : Nat) = 2) && ((wholeB (.int a) (.int lo) (.int hi)) && ((wholeB (.int b) (.int lo) (.int hi)) && true))) = true
  rw [whole_int.mpr ⟨h.1, h.2.1⟩, whole_int.mpr ⟨h.2.2.1, h.2.2.2⟩]
  rfl
theorem toC_of {a b : Int} (e : itemsD x = some [.int a, .int b]) : toC x = (a, b) := by
  unfold toC
  rw [e]
theorem seq_two (e : itemsD x = some l) : seqB x (.int 2) (.int 2) = decide (l.length = 2) := by
  unfold seqB
  rw [e]
  show (decide ((2 : Int) ≤ (l.length : Int)) && decide ((l.length : Int) ≤ 2)) = _
  by_cases h : l.length = 2
  · rw [h]
    rfl
  · rw [decide_eq_false h]
    by_cases h2 : (2 : Int) ≤ (l.length : Int)
    · rw [decide_eq_false (by omega : ¬ (l.length : Int) ≤ 2), Bool.and_false]
    · rw [decide_eq_false h2]
      rfl
theorem ed_wholeC {E : XK} (ha : ED c ta es x) (hl : ED c tb es lo) (hh : ED c tx es hi) (hx : Kin x) (hL : Lim lo) (hU : Lim hi) : ED c (tCall (sp_is_whole c.K) [] E (tCons ta (tCons tb (tCons tx tNil)))) es (.bl (wholeB x lo hi)) := ed_wholeL ha hl hh hx hL hU
/-- is_sequence(x, 2, 2) and all([is_whole(part, lo, hi) for part in x]) -/
theorem ed_pairT {n m : Nat} {tl th : TE} {a b : Int} (hm : c.mu = []) (h0 : ∀ es', (handsOf es' = []) → es'[n]? = some (.dat x) → True) (hes : es = [.dat x, .no]) (hx : PartIn x) (hl : ∀ P y, ED (c.at P) tl [.dat x, .dat y] (.int a)) (hh : ∀ P y, ED (c.at P) th [.dat x, .dat y] (.int b)) :
    ED c (tAndV (tCall (sp_is_sequence c.K) [] E0 (tCons (tVar 0) (tCons (tC (.int 2)) (tCons (tC (.int 2)) tNil)))) (tCB (rAll c.K) (tCons (tLc (iSeq c.K (tVar 0)) (gName 1) tYes (tCall (sp_is_whole c.K) [] E0 (tCons (tVar 1) (tCons tl (tCons th tNil)))) [1]) tNil))) es (.bl (pairB a b x)) := by
  subst hes
  obtain ⟨h1, h2, h3⟩ := hx
  have e1 : ED c (tCall (sp_is_sequence c.K) [] E0 (tCons (tVar 0) (tCons (tC (.int 2)) (tCons (tC (.int 2)) tNil)))) [.dat x, .no] (.bl (seqB x (.int 2) (.int 2))) := ed_isSeqC (ed_var rfl) ed_int ed_int h1 h2 (.inr ⟨_, rfl⟩) (.inr ⟨_, rfl⟩)
  cases e : itemsD x with
  | none =>
    have e2 : seqB x (.int 2) (.int 2) = false := by unfold seqB; rw [e]
    have e3 : pairB a b x = false := by unfold pairB; rw [e]
    rw [e2] at e1
    exact ED.is (ed_and (b := false) (b' := false) e1 fun z => by cases z) (by rw [e3]; rfl)
  | some l =>
    rw [seq_two e] at e1
    refine ED.is (ed_and (b := decide (l.length = 2)) (b' := l.all fun y => wholeB y (.int a) (.int b)) e1 fun hl2 => ?_) ?_
    · have lc := eo_lc (wi := iSeq c.K (tVar 0)) (g := gName 1) (tt := tYes) (te := tCall (sp_is_whole c.K) [] E0 (tCons (tVar 1) (tCons tl (tCons th tNil)))) (es := [.dat x, .no]) (f := fun y es => es.set 1 (.dat y)) (vs := [1]) (p := fun _ => true) (fn := fun y => .bl (wholeB y (.int a) (.int b))) (c := c) rfl (wi_seq (ed_var rfl) e)
        (by have := of_decide_eq_true hl2; omega) (fun P y hy => tg_name) (fun y hy => rfl) (fun P L y hy => eb_yes) (fun P L y hy _ => ed_wholeL (ed_var rfl) (hl P y) (hh P y) (h3 l e y hy) (.inr ⟨_, rfl⟩) (.inr ⟨_, rfl⟩))
      have q := ed_all (c := c) (es := [.dat x, .no]) (bs := l.map fun y => wholeB y (.int a) (.int b)) (ta := tLc (iSeq c.K (tVar 0)) (gName 1) tYes (tCall (sp_is_whole c.K) [] E0 (tCons (tVar 1) (tCons tl (tCons th tNil)))) [1]) ?_
      · refine ED.is q ?_
        rw [List.all_map]
        rfl
      · refine (ev_give hm lc).imp fun z hz => ?_
        obtain ⟨r, rfl, rfl⟩ := hz
        rw [List.filter_eq_self.mpr (fun _ _ => rfl), List.map_map]
        rfl
    · show Dt.bl (decide (l.length = 2) && _) = Dt.bl (pairB a b x)
      unfold pairB
      rw [e]
theorem sem_is_cell : SemD K 1 (t_is_cell K) R_is_cell := by
  rintro P0 H0 D ds ⟨d, x, rfl, hx, rfl⟩ k
  exact c_ret (ed_pairT (n := 0) (m := 0) rfl (fun _ _ _ => trivial) rfl hx (fun P y => ed_neg ed_int) fun P y => ed_int) (RetD.imp k fun z hz => ⟨x, rfl, hx, hz⟩)
theorem sem_is_reach : SemD K 1 (t_is_reach K) R_is_reach := by
  rintro P0 H0 D ds ⟨d, x, rfl, hx, rfl⟩ k
  exact c_ret (ed_pairT (n := 0) (m := 0) rfl (fun _ _ _ => trivial) rfl hx (fun P y => ed_int) fun P y => ed_int) (RetD.imp k fun z hz => ⟨x, rfl, hx, hz⟩)
theorem ed_isCell {E : XK} (h : ED c ta es x) (hx : PartIn x) : ED c (tCall (sp_is_cell c.K) [] E (tCons ta tNil)) es (.bl (cellB x)) :=
  ed_fn (es_cons h es_nil) ⟨x, rfl, hx, rfl⟩ fun y ⟨z, e, _, ey⟩ => by cases e; exact ey
theorem ed_isReach {E : XK} (h : ED c ta es x) (hx : PartIn x) : ED c (tCall (sp_is_reach c.K) [] E (tCons ta tNil)) es (.bl (reachB x)) :=
  ed_fn (es_cons h es_nil) ⟨x, rfl, hx, rfl⟩ fun y ⟨z, e, _, ey⟩ => by cases e; exact ey
theorem seqB_le {lo hi : Nat} (e : itemsD x = some l) : seqB x (.int lo) (.int hi) = decide (lo ≤ l.length ∧ l.length ≤ hi) := by
  unfold seqB
  rw [e]
  show (decide ((lo : Int) ≤ (l.length : Int)) && decide ((l.length : Int) ≤ (hi : Int))) = _
  rw [← Bool.decide_and]
  exact decide_eq_decide.mpr ⟨fun z => ⟨by omega, by omega⟩, fun z => ⟨by omega, by omega⟩⟩
theorem seqB_none (e : itemsD x = none) : seqB x lo hi = false := by
  unfold seqB
  rw [e]
theorem hands_set : ∀ {es : List Sv} {n : Nat} {s : Sv}, handsOf es = [] → (∀ l, s ≠ .hand l) → handsOf (es.set n s) = []
  | [], _, _, _, _ => rfl
  | .hand _ :: _, _, _, h, _ => by cases h
  | .no :: es, 0, s, h, hs => by cases s <;> first | exact h | exact absurd rfl (hs _)
  | .dat _ :: es, 0, s, h, hs => by cases s <;> first | exact h | exact absurd rfl (hs _)
  | .own _ _ :: es, 0, s, h, hs => by cases s <;> first | exact h | exact absurd rfl (hs _)
  | .gen _ _ _ :: es, 0, s, h, hs => by cases s <;> first | exact h | exact absurd rfl (hs _)
  | .no :: es, n + 1, s, h, hs => hands_set (es := es) h hs
  | .dat _ :: es, n + 1, s, h, hs => hands_set (es := es) h hs
  | .own _ _ :: es, n + 1, s, h, hs => hands_set (es := es) h hs
  | .gen _ _ _ :: es, n + 1, s, h, hs => hands_set (es := es) h hs
/-- the unlike cells of a list of good ones -/
theorem es_cells {P : Program} {w : World} (hh : handsOf es = []) (h : ED c ta es x) (e : itemsD x = some l) (h100 : l.length ≤ 100) (hc : ∀ y ∈ l, cellB y = true) {n : Nat} (hn : n < es.length) :
    ES P w c (tSg P w c.K (iSeq c.K ta) (gName n) tYes (tTup (tCons (tOp (rIx c.K) (tVar n) (tC (.int 0))) (tCons (tOp (rIx c.K) (tVar n) (tC (.int 1))) tNil))) [n]) es ((l.map toC).map ofP) := by
  have q := es_sg (P := P) (w := w) (c := c) (es := es) (te := tTup (tCons (tOp (rIx c.K) (tVar n) (tC (.int 0))) (tCons (tOp (rIx c.K) (tVar n) (tC (.int 1))) tNil))) (tt := tYes) (f := fun y es => es.set n (.dat y)) (vs := [n]) (p := fun _ => true) (fn := fun y => ofP (toC y)) hh (wi_seq h e) (by omega) (fun P y hy => tg_name)
    (fun y hy => hands_set (hands_set hh (fun _ => nofun)) (fun _ => nofun)) (fun P L y hy => eb_yes) (fun P L y hy _ => ?_)
  · rw [List.filter_eq_self.mpr (fun _ _ => rfl)] at q
    rw [List.map_map]
    exact q
  · obtain ⟨a, b, ey, ec, _⟩ := pair_is (hc y hy)
    have hs : ((wipeE es [n]).set n (.dat y))[n]? = some (.dat y) := by
      rw [List.getElem?_set_self]
      show n < ((es : List Sv).set n .no).length
      rw [List.length_set]
      exact hn
    rw [show tupI (ofP (toC y)) = .tup [.int a, .int b] by rw [ec]; rfl]
    exact ed_tup (es_cons (ed_ixI (ed_var hs) ey ed_int rfl) (es_cons (ed_ixI (ed_var hs) ey ed_int rfl) es_nil)) (by show 2 ≤ 100000; decide)
theorem cells_ok {C : Addr} {d : Dt} (h : cellsO C x = .ok d) : ∃ l, itemsD x = some l ∧ l.length ≤ 100 ∧ (∀ y ∈ l, cellB y = true) ∧ d = .tup (cellsD (ascC (l.map toC))) := by
  unfold cellsO at h
  cases e : itemsD x with
  | none => rw [e] at h; cases h
  | some l =>
    rw [e] at h
    dsimp only at h
    by_cases h1 : l.length ≤ 100
    · rw [if_pos h1] at h
      cases hb : badAt cellB 0 l with
      | some k => rw [hb] at h; cases h
      | none =>
        rw [hb] at h
        cases h
        exact ⟨l, rfl, h1, fun y hy => badAt_none hb y hy, rfl⟩
    · rw [if_neg h1] at h; cases h
where
  badAt_none {ok : Dt → Bool} : ∀ {l : List Dt} {k : Nat}, badAt ok k l = none → ∀ y ∈ l, ok y = true
  | [], _, _, y, hy => absurd hy List.not_mem_nil
  | z :: l, k, h, y, hy => by
    unfold badAt at h
    by_cases c : ok z = true
    · rw [if_pos c] at h
      rcases List.mem_cons.mp hy with e | hy
      · rw [e]; exact c
      · exact badAt_none h y hy
    · rw [if_neg c] at h; cases h
theorem sem_check_cells : SemY K 2 (t_check_cells K) (R_check_cells (He.ga K "BadCells")) := by
  rintro P0 H0 D E ds ⟨o, x, rfl, hx, rfl⟩ k kx
  obtain ⟨h1, h2, h3⟩ := hx
  have hx : CellsIn x := ⟨h1, h2, h3⟩
  have out : ∀ {o}, o = cellsO (He.ga K "BadCells") x → R_check_cells (He.ga K "BadCells") [x] o := fun e => ⟨x, rfl, hx, e⟩
  refine s_when (b := !seqB x (.int 0) (.int 100)) (eb_not (eb_B (ed_isSeqC (ed_var rfl) ed_int ed_int h1 h2 (.inr ⟨_, rfl⟩) (.inr ⟨_, rfl⟩)))) (fun h => ?_) fun h => ?_
  · refine c_raise2 (D := D) (es_cons ed_int (es_cons ed_str es_nil)) kx.1 (out ?_)
    unfold cellsO
    cases e : itemsD x with
    | none => rfl
    | some l =>
      rw [show seqB x (.int 0) (.int 100) = decide (0 ≤ l.length ∧ l.length ≤ 100) from seqB_le e] at h
      dsimp only
      rw [if_neg (fun z => by rw [decide_eq_true (⟨Nat.zero_le _, z⟩ : 0 ≤ l.length ∧ l.length ≤ 100)] at h; cases h)]
      rfl
  · cases e : itemsD x with
    | none => rw [seqB_none e] at h; cases h
    | some l =>
      rw [show seqB x (.int 0) (.int 100) = decide (0 ≤ l.length ∧ l.length ≤ 100) from seqB_le e] at h
      have h100 : l.length ≤ 100 := by
        have z : decide (0 ≤ l.length ∧ l.length ≤ 100) = true := by simpa using h
        exact (of_decide_eq_true z).2
      refine s_firstBad (ok := cellB) (ed_var rfl) e (by show 1 < 3; decide) (by show 2 < 3; decide) (by decide) (fun P L k y hy => eb_not (eb_B (ed_isCell (ed_var rfl) (h3 l e y (List.mem_of_getElem? hy))))) (fun P L k y D' hy hf ha => ?_) fun hall es' hes => ?_
      · refine c_raise2 (D := D') (es_cons (ed_var rfl) (es_cons ed_str es_nil)) (kx.1.low L) (out ?_)
        unfold cellsO
        rw [e]
        dsimp only
        rw [if_pos h100, badAt_one (i := 0) hy hf ha, Nat.zero_add]
        rfl
      · have h0 : es'[0]? = some (.dat x) ∧ handsOf es' = [] ∧ 2 < es'.length := by
          rcases hes with rfl | ⟨d, d', rfl⟩ <;> exact ⟨rfl, rfl, by show 2 < 3; decide⟩
        refine c_ret (d := .tup (cellsD (ascC (l.map toC)))) (ed_tupO rfl (eo_sortSg fun P w => es_cells h0.2.1 (ed_var h0.1) e h100 hall (n := 2) h0.2.2)) (RetD.imp k fun z hz => out ?_)
        · rw [hz]
          unfold cellsO
          rw [e]
          dsimp only
          rw [if_pos h100, badAt_all hall]
theorem sem_check_axis : SemY K 0 (t_check_axis K) (R_check_axis (He.ga K "BadAxis")) := by
  rintro P0 H0 D E ds ⟨o, x, rfl, hx, rfl⟩ k kx
  have out : ∀ {o}, o = axisO (He.ga K "BadAxis") x → R_check_axis (He.ga K "BadAxis") [x] o := fun e => ⟨x, rfl, hx, e⟩
  refine s_when (b := !wholeB x (.int 0) (.int 1)) (eb_not (eb_B (ed_wholeL (ed_var rfl) ed_int ed_int hx (.inr ⟨_, rfl⟩) (.inr ⟨_, rfl⟩)))) (fun h => ?_) fun h => ?_
  · refine c_raise1 (D := D) (es_cons (ed_var rfl) es_nil) kx.1 (out ?_) rfl
    unfold axisO
    rw [if_neg (fun z => by rw [z] at h; cases h)]
  · refine c_ret (ed_var rfl) (RetD.imp k fun z hz => out ?_)
    rw [hz]
    unfold axisO
    rw [if_pos (by simpa using h)]
theorem sem_check_reach : SemY K 0 (t_check_reach K) (R_check_reach (He.ga K "BadReach")) := by
  rintro P0 H0 D E ds ⟨o, x, rfl, hx, rfl⟩ k kx
  have out : ∀ {o}, o = reachO (He.ga K "BadReach") x → R_check_reach (He.ga K "BadReach") [x] o := fun e => ⟨x, rfl, hx, e⟩
  refine s_when (b := !reachB x) (eb_not (eb_B (ed_isReach (ed_var rfl) hx))) (fun h => ?_) fun h => ?_
  · refine c_raise0 (D := D) kx (out ?_)
    unfold reachO
    rw [if_neg (fun z => by rw [z] at h; cases h)]
  · have hr : reachB x = true := by simpa using h
    obtain ⟨a, b, e, ec, _⟩ := pair_is hr
    refine c_ret (ed_tupleOf (ed_var rfl) e) (RetD.imp k fun z hz => out ?_)
    rw [hz]
    unfold reachO
    rw [if_pos hr, ec]
    rfl
/-! near cells -/
theorem ints_span {a : Int} : intsL (-a) (a + 1 - -a).toNat = (span a).map Dt.int := by
  unfold intsL span
  rw [List.map_map]
  have e : (a + 1 - -a).toNat = (2 * a + 1).toNat := by congr 1; omega
  rw [e]
  rfl
theorem sem_near_cells : SemY K 6 (t_near_cells K) (R_near_cells (He.ga K "BadReach")) := by
  rintro P0 H0 D E ds ⟨o, x, y, rfl, hx, hy, rfl⟩ k kx
  have out : ∀ {o}, o = nearO (He.ga K "BadReach") x y → R_near_cells (He.ga K "BadReach") [x, y] o := fun e => ⟨x, y, rfl, hx, hy, e⟩
  obtain ⟨p, q, ex⟩ := hx
  have ec := toC_of ex
  refine s_unpackV (ev_callY (dd := []) (es_cons (ed_var rfl) es_nil) (fun _ => .nil) ⟨_, y, rfl, hy, rfl⟩ (fun C ns fd ⟨z, e, _, h⟩ => out ?h1) kx) (fun d ⟨z, e, _, h⟩ => ?h2) fun s s' ⟨z, e, _, h⟩ => ?h3
  case h1 =>
    cases e
    rw [h]
    unfold reachO at h ⊢
    unfold nearO
    by_cases c : reachB y = true
    · rw [if_pos c] at h; cases h
    · rw [if_neg c, if_neg c]
  case h2 =>
    cases e
    unfold reachO at h
    by_cases c : reachB y = true
    · rw [if_pos c] at h
      cases h
      exact ⟨_, _, rfl⟩
    · rw [if_neg c] at h; cases h
  case h3 =>
    cases e
    unfold reachO at h
    by_cases c : reachB y = true
    · rw [if_pos c] at h
      obtain ⟨a, b, ey, ec2, ha0, ha1, hb0, hb1⟩ := pair_is c
      rw [ec2] at h
      cases h
      refine s_unpackS (ed_var rfl) ex ?_
      have big : ∀ z : Int, z ≤ 2 → ((span z).map Dt.int).length ≤ 5 := fun z hz => by
        rw [List.length_map]
        unfold span
        rw [List.length_map, List.length_range]
        omega
      let fn : Dt → Dt → Dt := fun y z => match y, z with
        | .int i, .int j => cellD (p + i, q + j)
        | _, _ => .non
      have few : (((span a).map Dt.int).flatMap fun y => ((span b).map Dt.int).map (fn y)).length ≤ 100000 := by
        rw [List.length_flatMap]
        have key : ∀ l : List Dt, (l.map fun y => (((span b).map Dt.int).map (fn y)).length).sum ≤ l.length * 5 := by
          intro l
          induction l with
          | nil => exact Nat.le_refl _
          | cons w l ih =>
            have := big b hb1
            rw [List.map_cons, List.sum_cons, List.length_cons, List.length_map]
            omega
        have := key ((span a).map Dt.int)
        have := big a ha1
        omega
      have eq : (((span a).map Dt.int).flatMap fun y => ((span b).map Dt.int).map (fn y)) = cellsD (nearC (a, b) (p, q)) := by
        unfold nearC cellsD
        rw [List.map_flatMap, List.flatMap_map]
        refine congrArg (fun g => List.flatMap g (span a)) (funext fun i => ?_)
        rw [List.map_map, List.map_map]
        rfl
      refine c_ret (d := .tup (cellsD (nearC (a, b) (p, q)))) (ed_tupO rfl (eq ▸ eo_lc2 (l := (span a).map Dt.int) (lz := fun _ => (span b).map Dt.int) (fn := fn) (f := fun y es => es.set 6 (.dat y)) (f1 := fun y es => es.set 7 (.dat y)) ?_ few (fun P y hy => tg_in (by decide)) (fun y hy => ⟨rfl, fun x hx => hx⟩) (fun P L y hy => ?_) (fun P y z hy hz => tg_name) (fun y hy z hz => rfl) fun P L y hy z hz => ?_)) (RetD.imp k fun z hz => out ?_)
      · rw [← ints_span]
        exact wi_rng2 (es_cons (ed_neg (ed_var rfl)) (es_cons (ed_I0 (ed_var rfl) ed_int) es_nil)) (by omega)
      · rw [← ints_span]
        exact wi_rng2 (es_cons (ed_neg (ed_var rfl)) (es_cons (ed_I0 (ed_var rfl) ed_int) es_nil)) (by omega)
      · obtain ⟨i, _, rfl⟩ := List.mem_map.mp hy
        obtain ⟨j, _, rfl⟩ := List.mem_map.mp hz
        exact ed_tup (es_cons (ed_I0 (ed_var rfl) (ed_var rfl)) (es_cons (ed_I0 (ed_var rfl) (ed_var rfl)) es_nil)) (by show 2 ≤ 100000; decide)
      · rw [hz]
        unfold nearO
        rw [if_pos c, ec, ec2]
    · rw [if_neg c] at h; cases h
/-! grown, shrunk -/
theorem cellD_part (p : Int × Int) : PartIn (cellD p) := ⟨rfl, (fun l e => by cases e), fun l e y hy => by
  cases e
  rcases List.mem_cons.mp hy with rfl | hy
  · rfl
  · rw [List.mem_singleton.mp hy]
    rfl⟩
theorem cellD_pr (p : Int × Int) : IsPr (cellD p) := ⟨p.1, p.2, rfl⟩
theorem toC_cellD (p : Int × Int) : toC (cellD p) = p := rfl
theorem reach_cellD {y : Dt} (h : reachB y = true) : reachB (cellD (toC y)) = true := by
  obtain ⟨a, b, _, ec, z⟩ := pair_is h
  rw [ec]
  exact pair_of rfl z
theorem len_span {z : Int} (h : z ≤ 2) : (span z).length ≤ 5 := by
  unfold span
  rw [List.length_map, List.length_range]
  omega
theorem len_near {y : Dt} (h : reachB y = true) (p : Int × Int) : (nearC (toC y) p).length ≤ 25 := by
  obtain ⟨a, b, _, ec, _, ha, _, hb⟩ := pair_is h
  rw [ec]
  unfold nearC
  rw [List.length_flatMap]
  have key : ∀ l : List Int, (l.map fun i => ((span b).map fun j => (p.1 + i, p.2 + j)).length).sum ≤ l.length * 5 := by
    intro l
    induction l with
    | nil => exact Nat.le_refl _
    | cons w l ih =>
      have := len_span hb
      rw [List.map_cons, List.sum_cons, List.length_cons, List.length_map]
      omega
  have := key (span a)
  have := len_span ha
  show ((span a).map fun i => ((span b).map fun j => (p.1 + i, p.2 + j)).length).sum ≤ 25
  omega
theorem len_ascC (l : List (Int × Int)) : (ascC l).length ≤ l.length := by
  have ins : ∀ (p : Int × Int) (l : List (Int × Int)), (insC p l).length ≤ l.length + 1 := by
    intro p l
    induction l with
    | nil => exact Nat.le_refl _
    | cons q l ih =>
      unfold insC
      split
      · exact Nat.le_refl _
      · split
        · exact Nat.le_succ _
        · rw [List.length_cons, List.length_cons]
          omega
  induction l with
  | nil => exact Nat.le_refl _
  | cons p l ih =>
    show (insC p (ascC l)).length ≤ _
    have := ins p (ascC l)
    rw [List.length_cons]
    omega
/-- near_cells(p, r) where r is a reach -/
theorem ed_near {E : XK} {p r : Int × Int} (h1 : ED c ta es (cellD p)) (h2 : ED c tb es (cellD r)) (hr : reachB (cellD r) = true) : ED c (tCall (sp_near_cells c.K) [] E (tCons ta (tCons tb tNil))) es (.tup (cellsD (nearC r p))) := by
  have e : nearO (He.ga c.K "BadReach") (cellD p) (cellD r) = .ok (.tup (cellsD (nearC r p))) := by
    unfold nearO
    rw [if_pos hr, toC_cellD, toC_cellD]
  refine ed_callY (dd := []) (es_cons h1 (es_cons h2 es_nil)) (fun _ => .nil) ⟨_, _, rfl, cellD_pr p, cellD_part r, e.symm⟩ fun o ⟨x, y, e2, _, _, eo⟩ => ?_
  cases e2
  rw [eo, e]
/-- cells and a reach looked through -/
theorem ed_both {CC CR : Addr} {f : Int × Int → List (Int × Int) → List (Int × Int)} {k1 k2 : Nat} {u : TS} {ts1 ts2 : TA} (hE : XtY c E (fun o => o = bothO CC CR f x y)) (hx : CellsIn x) (hy : PartIn y) (h1 : EDs c ts1 es [x]) (h2 : ∀ d, EDs c ts2 (es.set k1 (.dat d)) [y])
    (hC : CC = He.ga c.K "BadCells") (hR : CR = He.ga c.K "BadReach")
    (k : ∀ l, itemsD x = some l → l.length ≤ 100 → (∀ z ∈ l, cellB z = true) → reachB y = true → Cont c (u D) ((es.set k1 (.dat (.tup (cellsD (ascC (l.map toC)))))).set k2 (.dat (cellD (toC y))))) :
    Cont c (tSeq (tAsg (tCall (sp_check_cells c.K) [] E ts1) (gName k1)) (tSeq (tAsg (tCall (sp_check_reach c.K) [] E ts2) (gName k2)) u) D) es := by
  subst hC hR
  refine s_asgV (ev_callY (dd := []) h1 (fun _ => .nil) ⟨_, x, rfl, hx, rfl⟩ (fun C ns fd ⟨z, e, _, h⟩ => ?h1) hE) fun d ⟨z, e, _, h⟩ => ?h2
  case h1 =>
    cases e
    show Out.ex C ns fd = bothO _ _ f x y
    unfold bothO
    rw [← h]
  case h2 =>
    cases e
    obtain ⟨l, el, h100, hall, ed⟩ := cells_ok h.symm
    have hb : bothO (He.ga c.K "BadCells") (He.ga c.K "BadReach") f x y = if reachB y = true then .ok (.tup (cellsD (f (toC y) (ascC (((itemsD x).getD []).map toC))))) else .ex (He.ga c.K "BadReach") [] [] := by
      unfold bothO
      rw [← h]
    refine s_asgV (ev_callY (dd := []) (h2 d) (fun _ => .nil) ⟨_, y, rfl, hy, rfl⟩ (fun C ns fd ⟨z, e, _, h⟩ => ?h3) hE) fun d2 ⟨z, e, _, h⟩ => ?h4
    case h3 =>
      cases e
      rw [hb]
      unfold reachO at h
      by_cases q : reachB y = true
      · rw [if_pos q] at h; cases h
      · rw [if_neg q] at h ⊢
        exact h
    case h4 =>
      cases e
      unfold reachO at h
      by_cases q : reachB y = true
      · rw [if_pos q] at h
        cases h
        rw [ed]
        exact k l el h100 hall q
      · rw [if_neg q] at h; cases h
theorem bothO_ok {CC CR : Addr} {f : Int × Int → List (Int × Int) → List (Int × Int)} (el : itemsD x = some l) (h100 : l.length ≤ 100) (hall : ∀ z ∈ l, cellB z = true) (q : reachB y = true) : bothO CC CR f x y = .ok (.tup (cellsD (f (toC y) (ascC (l.map toC))))) := by
  unfold bothO cellsO
  rw [el]
  dsimp only
  rw [if_pos h100, badAt_all hall]
  dsimp only
  rw [if_pos q]
  rfl
theorem sem_grown_cells : SemY K 4 (t_grown_cells K) (R_both (He.ga K "BadCells") (He.ga K "BadReach") grownC) := by
  rintro P0 H0 D E ds ⟨o, x, y, rfl, hx, hy, rfl⟩ k kx
  have out : ∀ {o}, o = bothO (He.ga K "BadCells") (He.ga K "BadReach") grownC x y → R_both (He.ga K "BadCells") (He.ga K "BadReach") grownC [x, y] o := fun e => ⟨x, y, rfl, hx, hy, e⟩
  refine ed_both (f := grownC) (c := ⟨K, [], P0, H0⟩) (kx.imp fun o e => out e) hx hy (es_cons (ed_var rfl) es_nil) (fun d => es_cons (ed_var rfl) es_nil) rfl rfl fun l el h100 hall q => ?_
  have lA : (cellsD (ascC (l.map toC))).length ≤ 100 := by
    unfold cellsD
    rw [List.length_map]
    have := len_ascC (l.map toC)
    rw [List.length_map] at this
    omega
  let lz : Dt → List Dt := fun d => cellsD (nearC (toC y) (toC d))
  have eqs : ((cellsD (ascC (l.map toC))).flatMap fun d => (lz d).map fun z => ofP (toC z)) = ((ascC (l.map toC)).flatMap (nearC (toC y))).map ofP := by
    unfold cellsD
    rw [List.map_flatMap, List.flatMap_map]
    refine congrArg (fun g => List.flatMap g (ascC (l.map toC))) (funext fun p => ?_)
    show ((nearC (toC y) (toC (cellD p))).map cellD).map (fun z => ofP (toC z)) = _
    rw [List.map_map]
    rfl
  have few : ((cellsD (ascC (l.map toC))).flatMap fun d => (lz d).map fun z => ofP (toC z)).length ≤ 3900 := by
    rw [List.length_flatMap]
    have key : ∀ m : List Dt, (m.map fun d => ((lz d).map fun z => ofP (toC z)).length).sum ≤ m.length * 25 := by
      intro m
      induction m with
      | nil => exact Nat.le_refl _
      | cons w m ih =>
        have z : (lz w).length ≤ 25 := by
          show (cellsD (nearC (toC y) (toC w))).length ≤ 25
          unfold cellsD
          rw [List.length_map]
          exact len_near q _
        rw [List.map_cons, List.sum_cons, List.length_cons, List.length_map]
        omega
    have := key (cellsD (ascC (l.map toC)))
    omega
  refine c_ret (d := .tup (cellsD (grownC (toC y) (ascC (l.map toC))))) (ed_tupO rfl (eo_sortSg (ins := (ascC (l.map toC)).flatMap (nearC (toC y))) fun P w => eqs ▸ es_sg2 (l := cellsD (ascC (l.map toC))) (lz := lz) (fn := fun _ z => ofP (toC z)) (f := fun y es => es.set 4 (.dat y)) (f1 := fun y es => es.set 5 (.dat y))
    (wi_seq (ed_var rfl) rfl) few (fun P y hy => tg_in (by decide)) (fun y hy => ⟨rfl, fun x hx => hx⟩) (fun P L d hd => ?_) (fun P y z hy hz => tg_name) (fun y hy z hz => rfl) fun P L d hd z hz => ?_)) (RetD.imp k fun z hz => out ?_)
  · obtain ⟨p, _, rfl⟩ := List.mem_map.mp hd
    exact wi_seq (ed_near (ed_var rfl) (ed_var rfl) (reach_cellD q)) rfl
  · obtain ⟨p, _, rfl⟩ := List.mem_map.mp hd
    obtain ⟨p2, _, rfl⟩ := List.mem_map.mp hz
    exact ed_var rfl
  · rw [hz, bothO_ok el h100 hall q]
theorem sem_shrunk_cells : SemY K 5 (t_shrunk_cells K) (R_both (He.ga K "BadCells") (He.ga K "BadReach") shrunkC) := by
  rintro P0 H0 D E ds ⟨o, x, y, rfl, hx, hy, rfl⟩ k kx
  have out : ∀ {o}, o = bothO (He.ga K "BadCells") (He.ga K "BadReach") shrunkC x y → R_both (He.ga K "BadCells") (He.ga K "BadReach") shrunkC [x, y] o := fun e => ⟨x, y, rfl, hx, hy, e⟩
  refine ed_both (f := shrunkC) (c := ⟨K, [], P0, H0⟩) (kx.imp fun o e => out e) hx hy (es_cons (ed_var rfl) es_nil) (fun d => es_cons (ed_var rfl) es_nil) rfl rfl fun l el h100 hall q => ?_
  have lA : (cellsD (ascC (l.map toC))).length ≤ 100 := by
    unfold cellsD
    rw [List.length_map]
    have := len_ascC (l.map toC)
    rw [List.length_map] at this
    omega
  obtain ⟨A, hA⟩ : ∃ A, A = ascC (l.map toC) := ⟨_, rfl⟩
  rw [← hA] at lA ⊢
  refine s_dg (l := cellsD A) (f := fun y es => es.set 5 (.dat y)) (p := fun _ => true) (fk := fun d => ofP (toC d)) (fv := fun _ => .bl true) rfl (wi_seq (ed_var rfl) rfl) (by omega) (fun P y hy => tg_name) (fun y hy => rfl) (fun P L y hy => eb_yes) (fun P L d hd _ => ?_) (fun P L d hd _ => ed_bl) fun a => ?_
  · obtain ⟨p, _, rfl⟩ := List.mem_map.mp hd
    exact ed_var rfl
  · have ek : ((cellsD A).filter fun _ => true).foldl (fun m y => putD m (ofP (toC y)) (.bl true)) [] = keysD (A.map ofP) := by
      rw [List.filter_eq_self.mpr (fun _ _ => rfl)]
      unfold cellsD keysD
      rw [List.foldl_map, List.foldl_map]
      rfl
    rw [ek]
    have inA : ∀ p : Int × Int, hasD (keysD (A.map ofP)) (ofP p) = decide (p ∈ A) := fun p => by
      have z := hasD_keysD (ks := A.map ofP) (j := ofP p)
      by_cases h : p ∈ A
      · rw [decide_eq_true h]
        exact z.mpr (List.mem_map.mpr ⟨p, h, rfl⟩)
      · rw [decide_eq_false h]
        refine Bool.eq_false_iff.mpr fun w => h ?_
        obtain ⟨p2, h2, e⟩ := List.mem_map.mp (z.mp w)
        have e2 := congrArg prI e
        exact (show p2 = p from e2) ▸ h2
    have eqs : ((cellsD A).filter fun d => (nearC (toC y) (toC d)).all fun p => decide (p ∈ A)).map id = cellsD (shrunkC (toC y) A) := by
      rw [List.map_id]
      unfold cellsD shrunkC
      rw [List.filter_map]
      rfl
    refine c_ret (d := .tup (cellsD (shrunkC (toC y) A))) (ed_tupO rfl (eqs ▸ eo_lc (l := cellsD A) (f := fun y es => es.set 5 (.dat y)) (vs := [5]) (p := fun d => (nearC (toC y) (toC d)).all fun p => decide (p ∈ A)) (fn := id) rfl (wi_seq (ed_var rfl) rfl) (by omega) (fun P y hy => tg_name) (fun y hy => rfl)
      (fun P L d hd => ?_) (fun P L d hd _ => ed_var rfl))) (RetD.imp k fun z hz => out ?_)
    · obtain ⟨p, _, rfl⟩ := List.mem_map.mp hd
      have big : (cellsD (nearC (toC y) p)).length ≤ 1000000 := by
        unfold cellsD
        rw [List.length_map]
        have := len_near q p
        omega
      have eqb : ((cellsD (nearC (toC y) p)).filter fun _ => true).map (fun d => Dt.bl (decide (toC d ∈ A))) = ((nearC (toC y) p).map fun p => decide (p ∈ A)).map Dt.bl := by
        rw [List.filter_eq_self.mpr (fun _ _ => rfl)]
        unfold cellsD
        rw [List.map_map, List.map_map]
        rfl
      refine eb_B (ED.is (ed_all (bs := (nearC (toC y) p).map fun p => decide (p ∈ A)) (ed_give rfl (eqb ▸ eo_lc (l := cellsD (nearC (toC y) p)) (f := fun y es => es.set 6 (.dat y)) (vs := [6]) (p := fun _ => true) (fn := fun d => .bl (decide (toC d ∈ A))) rfl
        (wi_seq (ed_near (ed_var rfl) (ed_var rfl) (reach_cellD q)) rfl) big (fun P y hy => tg_name) (fun y hy => rfl) (fun P L y hy => eb_yes) (fun P L d2 hd2 _ => ?_)))) ?_)
      · obtain ⟨p2, _, rfl⟩ := List.mem_map.mp hd2
        have z := ed_inG (c := (Fr.at (Fr.at ⟨K, [], P0, H0⟩ P) P)) (ta := tVar 6) (n := 4) (a := a) (k := ofP p2) (ents := keysD (A.map ofP)) (es := [.dat x, .dat y, .dat (.tup (cellsD A)), .dat (cellD (toC y)), dctS ⟨K, [], P0, H0⟩ a (keysD (A.map ofP)), .dat (cellD p), .dat (cellD p2)]) (ed_var rfl) rfl
        rw [inA] at z
        exact z
      · rw [List.all_map]
        rfl
    · rw [hz, bothO_ok el h100 hall q, hA]
end
end Lw
set_option Elab.async false
set_option linter.all false
set_option maxRecDepth 100000
set_option maxHeartbeats 2000000
/-! k03: the text by places, what each def promises. -/
namespace K03
open PySem PySem.Spec PyProof.Rows L2 My
abbrev PW := PySem.Challenge.pw_neverbare_k03_whole_cells_refused
def top (i : Nat) : Stmt := PW.main.body.getD i (.Pass ⟨0, 0, 0, 0⟩)
abbrev sp_is_whole := Lw.sp_is_whole
abbrev sp_is_sequence := Lw.sp_is_sequence
abbrev sp_is_cell := Lw.sp_is_cell
abbrev sp_check_cells := Lw.sp_check_cells
abbrev sp_check_axis := Lw.sp_check_axis
abbrev sp_is_reach := Lw.sp_is_reach
abbrev sp_check_reach := Lw.sp_check_reach
abbrev sp_near_cells := Lw.sp_near_cells
abbrev sp_grown_cells := Lw.sp_grown_cells
abbrev sp_shrunk_cells := Lw.sp_shrunk_cells
abbrev sp_u_law_mix := Lw.sp_u_law_mix
abbrev sp_u_law_hand := Lw.sp_u_law_hand
abbrev sp_u_law_draw := Lw.sp_u_law_draw
open Lw
def ReachOk (r : Int × Int) : Prop := 0 ≤ r.1 ∧ r.1 ≤ 2 ∧ 0 ≤ r.2 ∧ r.2 ≤ 2
def InP (p : Int × Int) : Prop := -20 ≤ p.1 ∧ p.1 ≤ 20 ∧ -20 ≤ p.2 ∧ p.2 ≤ 20
/-- what the three deeds tell -/
def deedO (CC CR : Addr) (z : Int) (x y : Dt) : Out := if z = 0 then cellsO CC x else if z = 1 then bothO CC CR grownC x y else bothO CC CR shrunkC x y
def toldD : Out → Dt
  | .ok _ => .tup [.str "let"]
  | .ex _ _ [w, i] => .tup [.str "cells", i, w]
  | _ => .tup [.str "reach"]
def R_ltold (CC CR : Addr) (ds : List Dt) (d : Dt) : Prop := ∃ z x y, ds = [.int z, x, y] ∧ CellsIn x ∧ PartIn y ∧ d = toldD (deedO CC CR z x y)
def sp_u_law_told (K : PySem.W.Frag) : Sp := spD K (R_ltold (He.ga K "BadCells") (He.ga K "BadReach"))
def axisD (x : Dt) : Dt := if wholeB x (.int 0) (.int 1) = true then .tup [.str "let", x] else .tup [.str "axis", x]
def R_laxis (ds : List Dt) (d : Dt) : Prop := ∃ x, ds = [x] ∧ Kin x ∧ d = axisD x
def sp_u_law_axis (K : PySem.W.Frag) : Sp := spD K R_laxis
def reachL (y x : Dt) : List Dt := if reachB y = true then [cellD (toC y), .int ((nearC (toC y) (toC x)).length : Nat)] else [.str "bad", .str "bad"]
def R_lreach (ds : List Dt) (l : List Dt) : Prop := ∃ y x, ds = [y, x] ∧ PartIn y ∧ IsPr x ∧ l = reachL y x
def sp_u_law_reach (K : PySem.W.Frag) : Sp := spO K R_lreach
def R_loddcell (ds : List Dt) (d : Dt) : Prop := ∃ p, ds = [cellD p] ∧ InP p ∧ PartIn d ∧ cellB d = false
def sp_u_law_odd_cell (K : PySem.W.Frag) : Sp := spH K R_loddcell
def R_loddreach (ds : List Dt) (d : Dt) : Prop := ds = [] ∧ PartIn d ∧ reachB d = false
def sp_u_law_odd_reach (K : PySem.W.Frag) : Sp := spH K R_loddreach
def R_law (ds : List Dt) (d : Dt) : Prop := ∃ ns : List Int, ds = [.lst (ns.map Dt.int)] ∧ ns.length ≤ 63 ∧ d = .bl true
def sp_law (K : PySem.W.Frag) : Sp := spD K R_law

abbrev l_is_whole := 1
abbrev m_is_whole := 0
abbrev l_is_sequence := 2
abbrev m_is_sequence := 1
abbrev l_is_cell := 3
abbrev m_is_cell := 2
abbrev l_check_cells := 4
abbrev m_check_cells := 3
abbrev l_check_axis := 3
abbrev m_check_axis := 2
abbrev l_is_reach := 3
abbrev m_is_reach := 2
abbrev l_check_reach := 4
abbrev m_check_reach := 3
abbrev l_near_cells := 5
abbrev m_near_cells := 4
abbrev l_grown_cells := 6
abbrev m_grown_cells := 5
abbrev l_shrunk_cells := 6
abbrev m_shrunk_cells := 5
abbrev l_u_law_mix := 1
abbrev m_u_law_mix := 0
abbrev l_u_law_hand := 1
abbrev m_u_law_hand := 0
abbrev l_u_law_draw := 2
abbrev m_u_law_draw := 1
abbrev l_u_law_told := 7
abbrev m_u_law_told := 6
abbrev l_u_law_axis := 4
abbrev m_u_law_axis := 3
abbrev l_u_law_reach := 6
abbrev m_u_law_reach := 5
abbrev l_u_law_odd_cell := 3
abbrev m_u_law_odd_cell := 2
abbrev l_u_law_odd_reach := 3
abbrev m_u_law_odd_reach := 2
abbrev l_law := 8
abbrev m_law := 7
structure Txt (P : Program) (w : World) (K : PySem.W.Frag) (mg : Str → Option Value) (base : Heap) : Prop where
  b_abs : mg "abs" = none
  b_all : mg "all" = none
  b_bool : mg "bool" = none
  b_enumerate : mg "enumerate" = none
  b_int : mg "int" = none
  b_isinstance : mg "isinstance" = none
  b_len : mg "len" = none
  b_list : mg "list" = none
  b_min : mg "min" = none
  b_range : mg "range" = none
  b_sorted : mg "sorted" = none
  b_tuple : mg "tuple" = none
  g_BadCells : mg "BadCells" = some (.ref (He.ga K "BadCells"))
  g_BadAxis : mg "BadAxis" = some (.ref (He.ga K "BadAxis"))
  g_BadReach : mg "BadReach" = some (.ref (He.ga K "BadReach"))
  oex_BadCells : OexC K (He.ga K "BadCells")
  ini_BadCells : ∃ fI fd, PySem.W.findIn K (.ref (He.ga K "BadCells")) "__init__" = some (some (.ref fI)) ∧ PySem.W.typeIn K (.ref fI) = some (.type "function") ∧
    FnOk P w K mg base (L2.CX P w) 1 fI fd ["self", "index", "what"] (spIni2 K (He.ga K "BadCells") "index" "what") ∧ Binds K fd ["self", "index", "what"] []
  oex_BadAxis : OexC K (He.ga K "BadAxis")
  ini_BadAxis : ∃ fI fd, PySem.W.findIn K (.ref (He.ga K "BadAxis")) "__init__" = some (some (.ref fI)) ∧ PySem.W.typeIn K (.ref fI) = some (.type "function") ∧
    FnOk P w K mg base (L2.CX P w) 1 fI fd ["self", "axis"] (spIni1 K (He.ga K "BadAxis") "axis") ∧ Binds K fd ["self", "axis"] []
  own_BadReach : OwnC K (He.ga K "BadReach")
  xf_BadCells : XfC K (He.ga K "BadCells")
  no_BadCells_index : PySem.W.findIn K (.ref (He.ga K "BadCells")) "index" = some none
  no_BadCells_what : PySem.W.findIn K (.ref (He.ga K "BadCells")) "what" = some none
  xf_BadAxis : XfC K (He.ga K "BadAxis")
  no_BadAxis_axis : PySem.W.findIn K (.ref (He.ga K "BadAxis")) "axis" = some none
  exm_BadCells_BadCells : PySem.W.exmOne K (.ref (He.ga K "BadCells")) (.ref (He.ga K "BadCells")) = some true
  exm_BadReach_BadCells : PySem.W.exmOne K (.ref (He.ga K "BadReach")) (.ref (He.ga K "BadCells")) = some false
  exm_BadReach_BadReach : PySem.W.exmOne K (.ref (He.ga K "BadReach")) (.ref (He.ga K "BadReach")) = some true
  exm_BadAxis_BadAxis : PySem.W.exmOne K (.ref (He.ga K "BadAxis")) (.ref (He.ga K "BadAxis")) = some true
theorem Txt.mk_BadCells {X : Cx} (T : Txt X.prog X.w X.K X.mg X.base) (hr : Room 2 X.A) {p pos : Pos} {e e2 : Expr} {ta : TA} (ha : PA X [e, e2] ta) (hg : Gl X "BadCells" := by rfl)
    (he : starEach [e, e2] X.env = (false, eval e X.env) :: starEach [e2] X.env := by rfl) (hpl : (backTo pos (starEach [e2] X.env)).any (·.1) = false := by rfl) :
    PMk X (.Call (.Name "BadCells" p) [e, e2] [] pos) (tMkO (He.ga X.K "BadCells") (spIni2 X.K (He.ga X.K "BadCells") "index" "what") [] ta) := by
  obtain ⟨fI, fd, h1, h2, F, hb⟩ := T.ini_BadCells
  exact pmk_oex T.oex_BadCells h1 h2 F hr hb .nil passL hg T.g_BadCells ha (by decide) he hpl
theorem Txt.mk_BadAxis {X : Cx} (T : Txt X.prog X.w X.K X.mg X.base) (hr : Room 2 X.A) {p pos : Pos} {e : Expr} {ta : TA} (ha : PA X [e] ta) (hg : Gl X "BadAxis" := by rfl)
    (he : starEach [e] X.env = (false, eval e X.env) :: starEach [] X.env := by rfl) (hpl : (backTo pos (starEach [] X.env)).any (·.1) = false := by rfl) :
    PMk X (.Call (.Name "BadAxis" p) [e] [] pos) (tMkO (He.ga X.K "BadAxis") (spIni1 X.K (He.ga X.K "BadAxis") "axis") [] ta) := by
  obtain ⟨fI, fd, h1, h2, F, hb⟩ := T.ini_BadAxis
  exact pmk_oex T.oex_BadAxis h1 h2 F hr hb .nil passL hg T.g_BadAxis ha (by decide) he hpl
end K03
set_option Elab.async false
set_option linter.all false
set_option maxRecDepth 100000
set_option maxHeartbeats 4000000
/-! Uo: xs.pop(i) of one's own list; room for the new set rules. -/
namespace My
open PySem PySem.Spec PyProof.Rows L2
theorem units1 {k : Nat} {A : Around} (r : Room k A) : A.units + 1 < cLine := Nat.lt_of_le_of_lt (by omega) (units65 r)
theorem units4 {k : Nat} {A : Around} (r : Room k A) : A.units + 4 < cLine := Nat.lt_of_le_of_lt (by omega) (units65 r)
theorem HasAll.eraseIdx {K : PySem.W.Frag} {H : Hp} : ∀ {ds : List Dt} {vs : List V} (n : Nat), HasAll K H vs ds → HasAll K H (vs.eraseIdx n) (ds.eraseIdx n)
  | _, _, _, .nil => .nil
  | _, _, 0, .cons _ h => h
  | _, _, n + 1, .cons a h => .cons a (h.eraseIdx n)
variable {c : Fr} {es : List Sv} {tb : TE} {D : Ends} {n : Nat} {ds : List Dt}
theorem c_popAt {l : Addr} (h0 : es[n]? = some (.own l ds)) (h : EV c tb es (IsI fun z => 0 ≤ z ∧ z < (ds.length : Int))) (hz : ds.length ≤ 100000) (k : ∀ j, j < ds.length → Cont c D.nx (es.set n (.own l (ds.eraseIdx j)))) :
    Cont c (tDrop (tBM c.K "list" rPopAt (tVar n) (tCons tb tNil)) D) es := fun σ P H r => by
  obtain ⟨e0, _, _, xs, hx, hd⟩ := r.sl.getO h0
  refine ⟨_, e0, .inl ⟨rfl, xs, Evl.sq_of hx⟩, h σ P H r _ fun v P1 H1 d hφ r1 e1 h1 => ?_⟩
  obtain ⟨z, rfl, z0, z1⟩ := hφ
  cases h1
  obtain ⟨_, _, _, ys, hy, hd⟩ := r1.sl.getO h0
  have hl : z.toNat < ys.length := by rw [hd.len]; omega
  have ez : ((z.toNat : Nat) : Int) = z := Int.toNat_of_nonneg z0
  refine ⟨l, ys, z, z.toNat, _, rfl, rfl, hy, ?_, ?_, ?_, List.getElem?_eq_getElem hl, k z.toNat (by omega) _ P1 _ (r1.change h0 (hd.eraseIdx _))⟩
  · have : (2 : Int) ^ 63 = 9223372036854775808 := rfl
    omega
  · have : (2 : Int) ^ 63 = 9223372036854775808 := rfl
    omega
  · have q := Evl.ixN_nat hl
    rw [ez] at q
    exact (ixN_seq q).1
end My
set_option Elab.async false
set_option linter.all false
set_option maxRecDepth 100000
set_option maxHeartbeats 4000000
/-! Uf: data that == may compare; lists of cells. -/
namespace My
open PySem PySem.Spec PyProof.Rows L2 Lw
/-- comparable, of depth at most n, equal to itself -/
def Flat (n : Nat) (d : Dt) : Prop := bare d = true ∧ PyData.canLay0 (py d) = true ∧ PyData.depth (py d) ≤ n ∧ eqv d d = true
theorem flat_all {n : Nat} : ∀ {l : List Dt}, (∀ y ∈ l, Flat n y) → bareAll l = true ∧ PyData.canLayAll0 (pyAll l) = true ∧ PyData.depthAll (pyAll l) ≤ n ∧ PyData.eqvAll (pyAll l) (pyAll l) = true
  | [], _ => ⟨rfl, rfl, Nat.zero_le _, rfl⟩
  | y :: l, h => by
    obtain ⟨a1, a2, a3, a4⟩ := h y List.mem_cons_self
    obtain ⟨b1, b2, b3, b4⟩ := flat_all (l := l) fun z hz => h z (List.mem_cons_of_mem _ hz)
    refine ⟨?_, ?_, ?_, ?_⟩
    · show (bare y && bareAll l) = true
      rw [a1, b1]
      rfl
    · show (PyData.canLay0 (py y) && PyData.canLayAll0 (pyAll l)) = true
      rw [a2, b2]
      rfl
    · exact Nat.max_le.mpr ⟨a3, b3⟩
    · show (eqv y y && PyData.eqvAll (pyAll l) (pyAll l)) = true
      rw [a4, b4]
      rfl
theorem flat_lst {n : Nat} {l : List Dt} (h : ∀ y ∈ l, Flat n y) : Flat (n + 1) (.lst l) := by
  obtain ⟨b1, b2, b3, b4⟩ := flat_all h
  exact ⟨b1, b2, Nat.succ_le_succ b3, b4⟩
theorem flat_tup {n : Nat} {l : List Dt} (h : ∀ y ∈ l, Flat n y) : Flat (n + 1) (.tup l) := by
  obtain ⟨b1, b2, b3, b4⟩ := flat_all h
  exact ⟨b1, b2, Nat.succ_le_succ b3, b4⟩
theorem flat_int (i : Int) : Flat 0 (.int i) := ⟨rfl, rfl, Nat.le_refl _, by show decide (i = i) = true; exact decide_eq_true rfl⟩
theorem Flat.fine {n : Nat} {d : Dt} (h : Flat n d) (hn : n ≤ 64) : fine d = true := by
  obtain ⟨b1, b2, b3, _⟩ := h
  show (bare d && (PyData.canLay0 (py d) && decide (PyData.depth (py d) ≤ 64))) = true
  rw [b1, b2, decide_eq_true (Nat.le_trans b3 hn)]
  rfl
theorem Flat.self {n : Nat} {d : Dt} (h : Flat n d) : eqv d d = true := h.2.2.2
theorem flat_ints {l : List Dt} (h : ∀ y ∈ l, ∃ i, y = .int i) : ∀ y ∈ l, Flat 0 y := fun y hy => by
  obtain ⟨i, rfl⟩ := h y hy
  exact flat_int i
theorem flat_two (f : List Dt → Dt) (hf : f = .lst ∨ f = .tup) (a b : Int) : Flat 1 (f [.int a, .int b]) := by
  have h : ∀ y ∈ [Dt.int a, .int b], Flat 0 y := flat_ints fun y hy => by
    rcases List.mem_cons.mp hy with rfl | hy
    · exact ⟨_, rfl⟩
    · exact ⟨_, List.mem_singleton.mp hy⟩
  rcases hf with rfl | rfl
  · exact flat_lst h
  · exact flat_tup h
theorem flat_cell (p : Int × Int) : Flat 1 (cellD p) := flat_two .tup (.inr rfl) p.1 p.2
theorem flat_cells {L : List (Int × Int)} : ∀ y ∈ cellsD L, Flat 1 y := fun y hy => by
  obtain ⟨p, _, rfl⟩ := List.mem_map.mp hy
  exact flat_cell p
theorem fine_cells (L : List (Int × Int)) : fine (.lst (cellsD L)) = true := (flat_lst flat_cells).fine (by decide)
theorem fine_cellsT (L : List (Int × Int)) : fine (.tup (cellsD L)) = true := (flat_tup flat_cells).fine (by decide)
theorem fine_cell (p : Int × Int) : fine (cellD p) = true := (flat_cell p).fine (by decide)
theorem eqv_cells (L : List (Int × Int)) : eqv (.lst (cellsD L)) (.lst (cellsD L)) = true := (flat_lst flat_cells).self
theorem eqv_cellsT (L : List (Int × Int)) : eqv (.tup (cellsD L)) (.tup (cellsD L)) = true := (flat_tup flat_cells).self
theorem eqv_cell (p q : Int × Int) : eqv (cellD p) (cellD q) = decide (p = q) := by
  show (decide (p.1 = q.1) && (decide (p.2 = q.2) && true)) = _
  rw [Bool.and_true, ← Bool.decide_and]
  exact decide_eq_decide.mpr ⟨fun h => Prod.ext h.1 h.2, fun h => by rw [h]; exact ⟨rfl, rfl⟩⟩
theorem in_cells {L : List (Int × Int)} {p : Int × Int} : ((cellsD L).any fun y => eqv y (cellD p)) = decide (p ∈ L) := by
  unfold cellsD
  rw [List.any_map]
  by_cases h : p ∈ L
  · rw [decide_eq_true h]
    exact List.any_eq_true.mpr ⟨p, h, by show eqv (cellD p) (cellD p) = true; rw [eqv_cell, decide_eq_true rfl]⟩
  · rw [decide_eq_false h]
    refine Bool.eq_false_iff.mpr fun z => h ?_
    obtain ⟨q, hq, e⟩ := List.any_eq_true.mp z
    have e : eqv (cellD q) (cellD p) = true := e
    rw [eqv_cell] at e
    exact of_decide_eq_true e ▸ hq
theorem len_cells (L : List (Int × Int)) : (cellsD L).length = L.length := List.length_map _
/-- a cell as a list -/
def cellR (p : Int × Int) : Dt := .lst [.int p.1, .int p.2]
theorem fine_cellsR (L : List (Int × Int)) : fine (.lst (L.map cellR)) = true := (flat_lst (n := 1) fun y hy => by
  obtain ⟨p, _, rfl⟩ := List.mem_map.mp hy
  exact flat_two .lst (.inl rfl) p.1 p.2).fine (by decide)
theorem eqv_cellsR (L : List (Int × Int)) : eqv (.lst (L.map cellR)) (.lst (L.map cellR)) = true := (flat_lst (n := 1) fun y hy => by
  obtain ⟨p, _, rfl⟩ := List.mem_map.mp hy
  exact flat_two .lst (.inl rfl) p.1 p.2).self
/-! parts and cells as arguments -/
theorem part_two {x : Dt} {a b : Int} (hk : Kin x) (hn : NN x) (e : itemsD x = some [.int a, .int b]) : PartIn x := ⟨hk, hn, fun l el y hy => by
  rw [e] at el
  cases el
  rcases List.mem_cons.mp hy with rfl | hy
  · rfl
  · rw [List.mem_singleton.mp hy]
    rfl⟩
theorem part_cellR (p : Int × Int) : PartIn (cellR p) := part_two rfl (fun l e => by cases e) rfl
theorem cellsIn_of {x : Dt} {g : Int × Int → Dt} {L : List (Int × Int)} (hk : Kin x) (hn : NN x) (e : itemsD x = some (L.map g)) (hg : ∀ p, PartIn (g p)) : CellsIn x := ⟨hk, hn, fun l el y hy => by
  rw [e] at el
  cases el
  obtain ⟨p, _, rfl⟩ := List.mem_map.mp hy
  exact hg p⟩
theorem cellsIn_L (L : List (Int × Int)) : CellsIn (.lst (cellsD L)) := cellsIn_of rfl (fun l e => by cases e) rfl cellD_part
theorem cellsIn_T (L : List (Int × Int)) : CellsIn (.tup (cellsD L)) := cellsIn_of rfl (fun l e => by cases e) rfl cellD_part
theorem cellsIn_R (L : List (Int × Int)) : CellsIn (.lst (L.map cellR)) := cellsIn_of rfl (fun l e => by cases e) rfl part_cellR
/-! the answers where all is well -/
theorem cellsO_ok {x : Dt} {l : List Dt} {C : Addr} (el : itemsD x = some l) (h100 : l.length ≤ 100) (hall : ∀ z ∈ l, cellB z = true) : cellsO C x = .ok (.tup (cellsD (ascC (l.map toC)))) := by
  unfold cellsO
  rw [el]
  dsimp only
  rw [if_pos h100, badAt_all hall]
variable {c : Fr} {es : List Sv} {ta tb : TE} {x y : Dt} {E : XK} {l : List Dt}
theorem ed_checkCells (h : ED c ta es x) (hx : CellsIn x) (el : itemsD x = some l) (h100 : l.length ≤ 100) (hall : ∀ z ∈ l, cellB z = true) : ED c (tCall (sp_check_cells c.K) [] E (tCons ta tNil)) es (.tup (cellsD (ascC (l.map toC)))) :=
  ed_callY (dd := []) (es_cons h es_nil) (fun _ => .nil) ⟨x, rfl, hx, (cellsO_ok el h100 hall).symm⟩ fun o ⟨z, e, _, eo⟩ => by
    cases e
    rw [eo, cellsO_ok el h100 hall]
theorem ed_checkReach (h : ED c ta es y) (hy : PartIn y) (q : reachB y = true) : ED c (tCall (sp_check_reach c.K) [] E (tCons ta tNil)) es (cellD (toC y)) := by
  have e : reachO (He.ga c.K "BadReach") y = .ok (cellD (toC y)) := by
    unfold reachO
    rw [if_pos q]
  exact ed_callY (dd := []) (es_cons h es_nil) (fun _ => .nil) ⟨y, rfl, hy, e.symm⟩ fun o ⟨z, e2, _, eo⟩ => by
    cases e2
    rw [eo, e]
theorem ed_nearD (h1 : ED c ta es x) (h2 : ED c tb es y) (hx : IsPr x) (hy : PartIn y) (q : reachB y = true) : ED c (tCall (sp_near_cells c.K) [] E (tCons ta (tCons tb tNil))) es (.tup (cellsD (nearC (toC y) (toC x)))) := by
  have e : nearO (He.ga c.K "BadReach") x y = .ok (.tup (cellsD (nearC (toC y) (toC x)))) := by
    unfold nearO
    rw [if_pos q]
  exact ed_callY (dd := []) (es_cons h1 (es_cons h2 es_nil)) (fun _ => .nil) ⟨_, _, rfl, hx, hy, e.symm⟩ fun o ⟨x, y, e2, _, _, eo⟩ => by
    cases e2
    rw [eo, e]
theorem ed_both2 {f : Int × Int → List (Int × Int) → List (Int × Int)} (h1 : ED c ta es x) (h2 : ED c tb es y) (hx : CellsIn x) (hy : PartIn y) (el : itemsD x = some l) (h100 : l.length ≤ 100) (hall : ∀ z ∈ l, cellB z = true) (q : reachB y = true) :
    ED c (tCall (spY c.K (R_both (He.ga c.K "BadCells") (He.ga c.K "BadReach") f)) [] E (tCons ta (tCons tb tNil))) es (.tup (cellsD (f (toC y) (ascC (l.map toC))))) :=
  ed_callY (dd := []) (es_cons h1 (es_cons h2 es_nil)) (fun _ => .nil) ⟨_, _, rfl, hx, hy, (bothO_ok el h100 hall q).symm⟩ fun o ⟨x, y, e2, _, _, eo⟩ => by
    cases e2
    rw [eo, bothO_ok el h100 hall q]
/-! dicts of cells -/
theorem ofP_inj {p q : Int × Int} (h : ofP p = ofP q) : p = q := congrArg prI h
theorem len_keys : ∀ (ks : List (List Int)) (m : List EntD), (ks.foldl (fun m k => putD m k (.bl true)) m).length ≤ m.length + ks.length
  | [], m => Nat.le_refl _
  | k :: ks, m => by
    have := len_keys ks (putD m k (.bl true))
    have := len_putD m k (.bl true)
    rw [List.foldl_cons, List.length_cons]
    omega
theorem len_keysD (ks : List (List Int)) : (keysD ks).length ≤ ks.length := by
  have := len_keys ks []
  rw [List.length_nil, Nat.zero_add] at this
  exact this
theorem keysD_app (ks : List (List Int)) (k : List Int) : putD (keysD ks) k (.bl true) = keysD (ks ++ [k]) := by
  unfold keysD
  rw [List.foldl_append]
  rfl
theorem hasD_mem {ents : List EntD} {k : List Int} : hasD ents k = true ↔ k ∈ ents.map (·.1) := by
  unfold hasD
  rw [List.any_eq_true, List.mem_map]
  exact ⟨fun ⟨e, he, h⟩ => ⟨e, he, of_decide_eq_true h⟩, fun ⟨e, he, h⟩ => ⟨e, he, decide_eq_true h⟩⟩
theorem has_cells {L : List (Int × Int)} {p : Int × Int} : hasD (keysD (L.map ofP)) (ofP p) = decide (p ∈ L) := by
  have z := hasD_keysD (ks := L.map ofP) (j := ofP p)
  by_cases h : p ∈ L
  · rw [decide_eq_true h]
    exact z.mpr (List.mem_map.mpr ⟨p, h, rfl⟩)
  · rw [decide_eq_false h]
    refine Bool.eq_false_iff.mpr fun w => h ?_
    obtain ⟨q, hq, e⟩ := List.mem_map.mp (z.mp w)
    exact ofP_inj e ▸ hq
/-- the keys, as unlike cells -/
theorem keys_cells (L : List (Int × Int)) : ∃ M : List (Int × Int), (keysD (L.map ofP)).map (fun e => tupI e.1) = cellsD M ∧ M.Nodup ∧ ∀ x, x ∈ M ↔ x ∈ L := by
  let ks := (keysD (L.map ofP)).map (·.1)
  have back : ∀ k ∈ ks, ofP (prI k) = k := fun k hk => by
    obtain ⟨p, _, e⟩ := List.mem_map.mp (hasD_keysD.mp (hasD_mem.mpr hk))
    rw [← e, prI_ofP]
  have same : (ks.map prI).map ofP = ks := by
    rw [List.map_map]
    exact (List.map_congr_left (g := id) fun k hk => back k hk).trans (List.map_id _)
  have nd : ks.Nodup := nodup_keys (L.map ofP) [] List.Pairwise.nil
  refine ⟨ks.map prI, ?_, ?_, fun x => ?_⟩
  · show (keysD (L.map ofP)).map (fun e => tupI e.1) = (ks.map prI).map cellD
    rw [show cellD = fun p => tupI (ofP p) from rfl, show ((ks.map prI).map fun p => tupI (ofP p)) = ((ks.map prI).map ofP).map tupI by simp only [List.map_map]; rfl, same, List.map_map]
    rfl
  · rw [← same] at nd
    exact (List.pairwise_map.mp nd).imp fun {a b} h e => h (by rw [e])
  · have z := (hasD_mem (ents := keysD (L.map ofP)) (k := ofP x)).symm.trans (hasD_keysD (ks := L.map ofP) (j := ofP x))
    constructor
    · intro h
      have h2 : ofP x ∈ ks := by
        rw [← same]
        exact List.mem_map.mpr ⟨x, h, rfl⟩
      obtain ⟨q, hq, e⟩ := List.mem_map.mp (z.mp h2)
      exact ofP_inj e ▸ hq
    · intro h
      exact List.mem_map.mpr ⟨ofP x, z.mpr (List.mem_map.mpr ⟨x, h, rfl⟩), prI_ofP x⟩
/-- sorted(list(d)) -/
theorem eo_sortKeys {c : Fr} {es : List Sv} {n : Nat} {a : Addr} {L : List (Int × Int)} (h : es[n]? = some (dctS c a (keysD (L.map ofP)))) : EO c (tCB (rSortQ c.K) (tCons (tCB (rListG c.K) (tCons (tVar n) tNil)) tNil)) es (fun r => r = cellsD (ascC L)) := by
  obtain ⟨M, eM, nd, hM⟩ := keys_cells L
  refine EO.imp (eo_sortQ (el_new (eo_listG h)) fun ds e => ⟨M, e.trans eM, nd⟩) fun r ⟨M2, e2, _, er⟩ => ?_
  have e3 : M2 = M := by
    have e4 := e2.trans eM
    unfold cellsD at e4
    have inj : ∀ l m : List (Int × Int), l.map cellD = m.map cellD → l = m := by
      intro l
      induction l with
      | nil => intro m h; cases m with
        | nil => rfl
        | cons _ _ => cases h
      | cons p l ih => intro m h; cases m with
        | nil => cases h
        | cons q m =>
          have h' := List.cons.inj h
          have hp : p = q := congrArg toC h'.1
          rw [hp, ih m h'.2]
    exact inj M2 M e4
  rw [er, e3, ascC_congr hM]
end My
set_option Elab.async false
set_option linter.all false
set_option maxRecDepth 100000
set_option maxHeartbeats 4000000
/-! Ul: list + list of any birth. -/
namespace My
open PySem PySem.Spec PyProof.Rows L2 Lw
open Evl (Ex)
/-- behind a def that changes its hand and gives a fresh list -/
def RetP (c : Fr) (a : Addr) (k : VK) (ρ : List Dt → Prop) : Prop := ∀ p P H l hs, ρ l → Ex c.P0 P → (∀ b o, b ≠ a → c.H0 b = some o → H b = some o) → (∀ b, H b = none → c.H0 b = none) → Ex P H → (∀ b o, P b = some o → c.P0 b = some o ∨ c.H0 b = none) → HandOk hs → Mine c P H a hs → Mine c P H p l → c.H0 p = none → k (.ref p) H
section
variable {P : Program} {w : World} {K : PySem.W.Frag} {mg : Str → Option Value} {base : Heap} {x : Str} {st : Stmt} {N ps : List Str} {da : List V} {kw : List (Str × V)} {f : Addr} {fd : FuncData} {n m : Nat} {t : TS} {RO : List Dt → List Dt → Prop}
theorem fnP (F : FunD K x x (defArgs st) (defBody st) (defScope st) da kw f fd) (S : FnScope N ps (defScope st)) (hN : N.length = ps.length + n) (hl : ∀ ds d, RO ds d → ds.length + 1 = ps.length) (drv : Drv P w K mg base x st N m fun _ => t)
    (sem : ∀ (P0 H0 : Hp) (a : Addr) (D : Ends) (ds : List Dt), (∃ d, RO ds d) → RetP ⟨K, [a], P0, H0⟩ a D.rt (RO ds) → Cont ⟨K, [a], P0, H0⟩ (t D) (.hand a :: args ds n)) : FnOk P w K mg base (L2.CX P w) (m + 1) f fd ps (spHO K RO) := by
  refine F.ok S (fun vs H Q E h => ?_) (fun cdv A outer s H vs Q E hr h => ⟨t, drv _ _ _ _ _ _ _ hr, ?_⟩)
  · obtain ⟨P, a, us, hs, ds, rfl, e, _, _, _, ha, ⟨d, hd⟩, _⟩ := h
    rw [List.length_cons, ha.len, hl ds d hd]
  · obtain ⟨P, a, us, hs, ds, rfl, e, hPa, ⟨xs, hx, hxs⟩, ok, ha, ⟨d, hd⟩, q⟩ := h
    rw [start_eq (n := n) (by rw [hN, List.length_cons, ha.len, hl ds d hd])]
    refine sem P H a _ ds ⟨d, hd⟩ (fun p P' H' l hs' hx b k1 k2 k3 k4 ok' ⟨_, m2, ys, m3, m4⟩ ⟨_, j2, zs, j3, j4⟩ h0 => q p P' H' l zs ys hs' hx b k1 k2 k3 k4 m2 m3 m4 ok' j2 h0 j3 j4) _ P H ?_
    exact ⟨.refl P, fun _ _ _ h => h, fun _ h => h, e, fun _ _ h => .inl h, .hand ⟨hs, ok, .inr (List.mem_singleton.mpr rfl), hPa, xs, hx, hxs⟩ (sl_start ha), by
      show (a :: owns (args ds n)).Nodup
      rw [owns_start]
      exact List.nodup_cons.mpr ⟨List.not_mem_nil, List.nodup_nil⟩⟩
end
variable {c : Fr} {es : List Sv} {te ta tb : TE} {φ ψ : Dt → Prop} {D : Ends}
theorem c_retP {ρ : List Dt → Prop} {n j : Nat} {p a : Addr} {l : List Dt} (hn : es[n]? = some (.own p l)) (hk : es[j]? = some (.hand a)) (hm : c.mu = [a]) (hd : ρ l) (k : RetP c a D.rt ρ) : Cont c (tRet (tVar n) D) es := fun σ P H r => by
  obtain ⟨e0, m⟩ := r.sl.getO hn
  obtain ⟨_, hs, ok, mine⟩ := r.sl.getH hk
  have ne : p ≠ a := fun e => own_hand hn r.nd (by rw [e]; exact hands_mem hk)
  refine ⟨_, e0, k p P H l hs hd r.b (fun b o ne q => r.old b o (by rw [hm]; simpa using ne) q) r.dom r.ex r.fr ok mine m (m.1.elim id fun z => ?_)⟩
  rw [hm] at z
  exact absurd (List.mem_singleton.mp z) ne
abbrev SemP (K : PySem.W.Frag) (n : Nat) (t : TS) (R : List Dt → List Dt → Prop) : Prop := ∀ (P0 H0 : Hp) (a : Addr) (D : Ends) (ds : List Dt), (∃ d, R ds d) → RetP ⟨K, [a], P0, H0⟩ a D.rt (R ds) → Cont ⟨K, [a], P0, H0⟩ (t D) (.hand a :: args ds n)
/-- an item of one's own list, at a drawn place -/
theorem ev_ixOV {n : Nat} {a : Addr} {l : List Dt} {α : Int → Prop} (hn : es[n]? = some (.own a l)) (hb : EV c tb es (IsI α)) (hα : ∀ z, α z → 0 ≤ z ∧ z < l.length) : EV c (tOp (rIx c.K) (tVar n) tb) es (fun d => d ∈ l) := fun σ P H r Q q => by
  refine ⟨_, (r.sl.getO hn).1, hb σ P H r _ fun u P1 H1 d2 hd2 r1 e1 h1 => ?_⟩
  obtain ⟨z, rfl, az⟩ := hd2
  obtain ⟨h0, h1'⟩ := hα z az
  obtain ⟨d, hd, e⟩ := atI_ex (l := l) (i := z) (by omega) h1'
  cases h1
  obtain ⟨_, _, _, xs, hx, hh⟩ := r1.sl.getO hn
  obtain ⟨v, ev, hv⟩ := atI_has hh e
  exact .inl ⟨a, xs, z, v, rfl, rfl, Evl.sq_of hx, ev, q v P1 H1 d hd r1 e1 hv⟩
theorem ei_min2 {α β : Int → Prop} (ha : EV c ta es (IsI α)) (hb : EV c tb es (IsI β)) : EV c (tCB (fun xs H Q => ∃ i j, xs = [.int i, .int j] ∧ Q (.int (if j < i then j else i)) H) (tCons ta (tCons tb tNil))) es (IsI fun k => ∃ i j, α i ∧ β j ∧ k = if j < i then j else i) := fun σ P H r Q q =>
  ha σ P H r _ fun v P1 H1 z hz r1 e1 h1 => hb σ P1 H1 r1 _ fun u P2 H2 z2 hz2 r2 e2 h2 => by
    obtain ⟨i, rfl, hi⟩ := hz
    obtain ⟨j, rfl, hj⟩ := hz2
    cases h1
    cases h2
    exact ⟨i, j, rfl, q _ P2 H2 _ ⟨_, rfl, i, j, hi, hj, rfl⟩ r2 (e1.trans e2) (.int _)⟩
theorem s_ifI {D : Ends} {ρ : Bool → Prop} {I : List Sv → Prop} {tt : TT} {t u w : TS} (h : EB c tt es ρ) (hd : ∀ es, I es → Cont c (u D) es) (h1 : (∀ es, I es → Cont c (u D) es) → ρ true → Cont c (t { D with nx := u D }) es) (h2 : (∀ es, I es → Cont c (u D) es) → ρ false → Cont c (w { D with nx := u D }) es) : Cont c (tSeq (tIfS tt t w) u D) es := c_seq (c_ifV h (h1 hd) (h2 hd))
end My
set_option Elab.async false
set_option linter.all false
set_option maxRecDepth 100000
set_option maxHeartbeats 4000000
/-! Ty: dict displays that nothing looks into, list * int, try with handlers of any number. -/
namespace My
open PySem PySem.Spec PyProof.Rows L2 Lw StX
open Evl (Ex)
section
variable {X : Cx}
/-- {(..): v} -/
def tDispT (tk tv : TE) : TE := fun σ H Q => ∀ p, H p = none → tk σ (upd H p (.dT [])) fun x H1 => tv σ H1 fun y H2 => H2 p = some (.dT []) ∧ ∃ (b : Addr) (ks : List Key), x = .ref b ∧ H2 b = some (.tup (ks.map kV)) ∧ Q (.ref p) (upd H2 p (.dT [(ks, y)]))
theorem pe_dispT {pos : Pos} {k v : Expr} {tk tv : TE} (hu : X.A.units + 1 < cLine) (hk : PE X k tk) (hv : PE X v tv) : PE X (.Dict [some k] [v] pos) (tDispT tk tv) := by
  refine ⟨fun pins s σ H Q I q => ?_⟩
  have hn := I.hok.fresh (Nat.le_refl s.heap.objs.size)
  have I1 := I.laid (a := s.heap.objs.size) (o := .dT []) (h' := s.heap.push { cls := .type "dict", data := .dict #[] }) (t' := s.toks) (fun _ _ q => Heap.get?_push_of_some _ q) (Nat.le_refl _) (dt_empty s.heap I.big)
  rw [arm_eval_Dict]
  refine wpAny_bind (wpAny_standAt ?_)
  have e1 : dictDisplay ((evalEachOpt [some k] X.env).zip ((evalEach [v] X.env).map fun v => do let x ← v; standAt pos; pure x)) = (do let d ← subDict (pairTrees [some k] [v] X.env pos); pure (.ref d)) :=
    dictDisplay_pairs (pairTrees [some k] [v] X.env pos) (by intro h; cases h) (by show 1 < 17; decide)
  show wpAny (model X.prog X.w) X.A (dictDisplay ((evalEachOpt [some k] X.env).zip ((evalEach [v] X.env).map fun v => do let x ← v; standAt pos; pure x))) _ _ _
  rw [e1]
  refine wpAny_bind (wpAny_subDictH (knd := tupleKind (mixKind X.prog X.w)) (Nat.lt_of_succ_lt hu : X.A.units < cLine) (by show 1 ≤ 15; decide) (thn ((pps_cons hk hv pps_nil).run pins _ σ _ (fun ps H2 => match ps with
    | [(x, y)] => H2 s.heap.objs.size = some (.dT []) ∧ ∃ (b : Addr) (ks : List Key), x = .ref b ∧ H2 b = some (.tup (ks.map kV)) ∧ Q (.ref s.heap.objs.size) (upd H2 s.heap.objs.size (.dT [(ks, y)]))
    | _ => False) I1 (q _ hn)) fun ws s2 ⟨ps, H2, I2, rel, hh⟩ => ?_))
  match ps, rel, hh with
  | [(x, y)], rel, ⟨ed, b, ks, ex, eb, q2⟩ =>
    subst ex
    cases rel with
    | @cons _ w2 _ _ r1 r2 =>
      cases r2
      obtain ⟨u, y2⟩ := w2
      obtain ⟨ru, ry⟩ := r1
      cases (show u = Value.ref b from ru)
      obtain ⟨z, hd, xs, r0, dd⟩ := dt_of I2.hok ed
      cases r0
      refine ⟨[(ks, b, y2)], ⟨rfl, rfl, key_of I2.hok eb, trivial⟩, dd, fun h' tk dd' hs => wpAny_pure ⟨.ref s.heap.objs.size, upd H2 s.heap.objs.size (.dT [(ks, y)]), ?_, rfl, q2⟩⟩
      obtain ⟨q, es, ep, hq, h2, h3, h4, _, h5⟩ := dd'
      exact d_write I2 (by rw [ed]; exact True.intro) hs ⟨q, hq⟩ ⟨by show 1 ≤ sizeLine; decide, hd, [(ks, b, y2)], .cons ⟨rfl, by rw [upd_ne (ne_of eb ed (fun z => nomatch z))]; exact eb, ry⟩ .nil, q, es, ep, hq, h2, h3, h4, h5⟩
end
section
variable {c : Fr} {es : List Sv} {te ta tb : TE} {φ ψ : Dt → Prop} {D : Ends} {α β : List Dt → Prop} {x y d : Dt} {n m i j : Nat}
/-- xs * k -/
theorem eo_rep {k : Int} (ha : EL c ta es α) (hb : ED c tb es (.int k)) (hk : -1000000 ≤ k ∧ k ≤ 1000000) (hl : ∀ x, α x → x.length * k.toNat ≤ 100000) : EO c (tOp rRep ta tb) es (fun r => ∃ x, α x ∧ r = (List.replicate k.toNat x).flatten) := fun σ P H r Q q =>
  ha σ P H r _ fun l P1 H1 x xs hx r1 e1 p1 h1 k1 n1 => hb σ P1 H1 r1 _ fun u P2 H2 z hz r2 e2 h2 => by
    subst hz
    cases h2
    have h1' : H2 l = some (.lst xs) := e2.k l _ n1 h1
    have k1' := HasAll.mono e2.p _ k1
    have many : ∀ n : Nat, HasAll c.K P2 (List.replicate n xs).flatten (List.replicate n x).flatten := fun n => by
      induction n with
      | zero => exact .nil
      | succ n ih =>
        rw [List.replicate_succ, List.replicate_succ, List.flatten_cons, List.flatten_cons]
        exact k1'.append ih
    have p63 : (2 : Int) ^ 63 = 9223372036854775808 := rfl
    refine ⟨l, k, xs, rfl, rfl, h1', by omega, by omega, Evl.sz_of (by rw [k1.len]; exact hl x hx), fun p hp => ?_⟩
    have g := grow_own (o := .lst (List.replicate k.toNat xs).flatten) r2.ex hp
    exact q p P2 _ _ ⟨x, hx, rfl⟩ (r2.step g) ((e1.trans e2).trans (.of g)) (r2.fresh hp) ((e1.trans e2).n p hp) ⟨.inl (r2.dom p hp), none_back r2.ex hp, _, upd_same, many _⟩
/-- {x: y, k: v} of two ints -/
theorem ed_dispK {a b k v : Int} (h1 : es[n]? = some (.dat (.int a))) (h2 : es[m]? = some (.dat (.int b))) : ED c (tDisp [(tVar n, tVar m), (tC (.int k), tC (.int v))]) es .dctX := fun σ P H r Q q p hp => by
  obtain ⟨v1, e1, w1⟩ := r.sl.get h1
  obtain ⟨v2, e2, w2⟩ := r.sl.get h2
  cases w1
  cases w2
  refine ⟨_, e1, _, e2, upd_same, [(.inl a, .int b), (.inl k, .int v)], rfl, by show 2 ≤ 15; decide, ?_⟩
  rw [upd_upd]
  have g := grow_new (o := .dK (mergeK [] [(.inl a, .int b), (.inl k, .int v)])) r.ex hp
  exact q _ _ _ _ rfl (r.step g) (.of g) (.dctX (.inl ⟨_, upd_same⟩))
/-- {(a, b): v} of ints that stand written -/
theorem ed_dispT {a b v : Int} : ED c (tDispT (tTup (tCons (tC (.int a)) (tCons (tC (.int b)) tNil))) (tC (.int v))) es .dctX := fun σ P H r Q q p hp => by
  refine ⟨by show 2 ≤ sizeLine; decide, fun t ht => ?_⟩
  have ne : t ≠ p := fun e => by rw [e, upd_same] at ht; cases ht
  have ht0 : H t = none := by rwa [upd_ne ne] at ht
  refine ⟨by rw [upd_ne (Ne.symm ne)]; exact upd_same, t, [.inl a, .inl b], rfl, upd_same, ?_⟩
  have g1 := grow_own (o := .tup [.int a, .int b]) r.ex ht0
  have r1 := r.step g1
  have hp1 : upd H t (.tup [.int a, .int b]) p = none := by rw [upd_ne (Ne.symm ne)]; exact hp
  have g := grow_new (o := .dT [([.inl a, .inl b], .int v)]) r1.ex hp1
  have e : upd (upd (upd H p (.dT [])) t (.tup [.int a, .int b])) p (.dT [([.inl a, .inl b], .int v)]) = upd (upd H t (.tup [.int a, .int b])) p (.dT [([.inl a, .inl b], .int v)]) := by
    funext z
    by_cases e1 : z = p
    · subst e1; rw [upd_same, upd_same]
    · rw [upd_ne e1, upd_ne e1]
      by_cases e2 : z = t
      · subst e2; rw [upd_same, upd_same]
      · rw [upd_ne e2, upd_ne e2, upd_ne e1]
  show Q (.ref p) (upd (upd (upd H p (.dT [])) t (.tup [.int a, .int b])) p (.dT [([.inl a, .inl b], .int v)]))
  rw [e]
  exact q _ _ _ _ rfl (r1.step g) ((Kp.of g1).trans (.of g)) (.dctX (.inr ⟨_, upd_same⟩))
/-! ### try -/
/-- what takes the errors of Ro, es told where they arise -/
def WOk (c : Fr) (es : List Sv) (W : WX) (Ro : Out → Prop) : Prop :=
  (∀ dx P H σ C fs fd, Ro (.ex C (fs.map (·.1)) fd) → Rep c P H σ es → H dx = some (.xd fs) → HasAll c.K P (fs.map (·.2)) fd → W (.ref C) (some dx) σ H) ∧
  ∀ P H σ C, Ro (.ex C [] []) → Rep c P H σ es → W (.ref C) none σ H
theorem ev_callW {ts : TA} {ds : List Dt} {R : List Dt → Out → Prop} {W : WX} (h : EDs c ts es ds) (hR : ∃ o, R ds o) (hW : WOk c es W (R ds)) : EV c (tCallS (spY c.K R) (WE W) ts) es (fun d => R ds (.ok d)) := fun σ P H r Q q =>
  h σ P H r _ fun vs P1 H1 l hl r1 e1 h1 => by
    subst hl
    exact ⟨P1, l, r1.ex, h1, hR, fun v P2 H2 d hr g hv => q v P2 H2 d hr (r1.step g) (e1.trans (.of g)) hv, fun dx P2 H2 C fs fd hr g h0 hP hx hf => hW.1 dx P2 H2 σ C fs fd hr (r1.step g) hx hf, fun P2 H2 C hr g => hW.2 P2 H2 σ C hr (r1.step g)⟩
/-- a handler's suite, the error in slot i -/
def HanA (c : Fr) (i : Nat) (C : Addr) (ns : List Str) (fd : List Dt) (ts : Addr → Value → Option Addr → TS) (D : Ends) (es : List Sv) : Prop :=
  ∀ a dx P H σ fs, fs.map (·.1) = ns → Rep c P H σ es → σ[i]? = some (some (V.ref a)) → H dx = some (.xd fs) → HasAll c.K P (fs.map (·.2)) fd →
    ts a (.ref C) (some dx) { nx := fun σ' H' => D.nx (σ'.set i none) H', rt := D.rt, bk := fun σ' H' => D.bk (σ'.set i none) H', ct := fun σ' H' => D.ct (σ'.set i none) H' } σ H
/-- an expression of a handler -/
def EDX (c : Fr) (i : Nat) (C : Addr) (ns : List Str) (fd : List Dt) (te : Addr → Value → Option Addr → TE) (es : List Sv) (d : Dt) : Prop :=
  ∀ a dx P H σ fs, fs.map (·.1) = ns → Rep c P H σ es → σ[i]? = some (some (V.ref a)) → H dx = some (.xd fs) → HasAll c.K P (fs.map (·.2)) fd → ∀ Q : VK, (∀ v P' H', Rep c P' H' σ es → H' dx = some (.xd fs) → Ex P P' → Has c.K P' v d → Q v H') → te a (.ref C) (some dx) σ H Q
def EDXs (c : Fr) (i : Nat) (C : Addr) (ns : List Str) (fd : List Dt) (ta : Addr → Value → Option Addr → TA) (es : List Sv) (ds : List Dt) : Prop :=
  ∀ a dx P H σ fs, fs.map (·.1) = ns → Rep c P H σ es → σ[i]? = some (some (V.ref a)) → H dx = some (.xd fs) → HasAll c.K P (fs.map (·.2)) fd → ∀ Q : List V → Hp → Prop, (∀ vs P' H', Rep c P' H' σ es → H' dx = some (.xd fs) → Ex P P' → HasAll c.K P' vs ds → Q vs H') → ta a (.ref C) (some dx) σ H Q
variable {C : Addr} {ns : List Str} {fd : List Dt} {ds : List Dt}
theorem edx_c {v : V} (h : ∀ P, Has c.K P v d) : EDX c i C ns fd (fun _ _ _ => tC v) es d := fun a dx P H σ fs e r s hx hf Q q => q v P H r hx (.refl P) (h P)
theorem edx_str {s : Str} : EDX c i C ns fd (fun _ _ _ => tC (.str s)) es (.str s) := edx_c fun _ => .str s
theorem look_has {K : PySem.W.Frag} {P : Hp} {f : Str} : ∀ {fs : List (Str × V)} {fd : List Dt}, HasAll K P (fs.map (·.2)) fd → ((fs.map (·.1)).zip fd).lookup f = some d → ∃ v, fs.lookup f = some v ∧ Has K P v d
  | [], _, _, h => by cases h
  | (g, v) :: fs, _, h, e => by
    cases h with
    | cons a b =>
      rw [List.map_cons, List.zip_cons_cons, List.lookup_cons] at e
      rw [List.lookup_cons]
      cases q : (f == g) with
      | true => rw [q] at e; cases e; exact ⟨v, rfl, a⟩
      | false => rw [q] at e; exact look_has b e
theorem edx_xf {f : Str} (h : (ns.zip fd).lookup f = some d) : EDX c i C ns fd (fun a cls dd => tXf a cls dd C f (tVar i)) es d := fun a dx P H σ fs e r s hx hf Q q => by
  subst e
  obtain ⟨v, l, hv⟩ := look_has hf h
  exact ⟨_, s, rfl, rfl, dx, fs, v, rfl, hx, l, q v P H r hx (.refl P) hv⟩
theorem edxs_nil : EDXs c i C ns fd (fun _ _ _ => tNil) es [] := fun a dx P H σ fs e r s hx hf Q q => q [] P H r hx (.refl P) .nil
theorem edxs_cons {te : Addr → Value → Option Addr → TE} {ta : Addr → Value → Option Addr → TA} (h : EDX c i C ns fd te es d) (hr : EDXs c i C ns fd ta es ds) : EDXs c i C ns fd (fun a cls dd => tCons (te a cls dd) (ta a cls dd)) es (d :: ds) := fun a dx P H σ fs e r s hx hf Q q =>
  h a dx P H σ fs e r s hx hf _ fun v P1 H1 r1 hx1 x1 hv => hr a dx P1 H1 σ fs e r1 s hx1 (HasAll.mono x1 _ hf) _ fun vs P2 H2 r2 hx2 x2 hvs => q (v :: vs) P2 H2 r2 hx2 (x1.trans x2) (.cons (Has.mono x2 _ hv) hvs)
theorem edx_tup {ta : Addr → Value → Option Addr → TA} (h : EDXs c i C ns fd ta es ds) (hl : ds.length ≤ 100000) : EDX c i C ns fd (fun a cls dd => tTup (ta a cls dd)) es (.tup ds) := fun a dx P H σ fs e r s hx hf Q q =>
  h a dx P H σ fs e r s hx hf _ fun vs P1 H1 r1 hx1 x1 hv => ⟨Evl.sz_of (by rw [hv.len]; exact hl), fun p hp => by
    have g := grow_new (o := .tup vs) r1.ex hp
    refine q (.ref p) _ _ (r1.step g) ?_ (x1.trans g.p) (.tup (Evl.st_of upd_same) (HasAll.mono g.p _ hv))
    rw [upd_ne fun z => by rw [z, hp] at hx1; cases hx1]
    exact hx1⟩
theorem han_asg {te : Addr → Value → Option Addr → TE} (h : EDX c i C ns fd te es d) (k : Cont c D.nx ((es.set n (.dat d)).set i .no)) : HanA c i C ns fd (fun a cls dd => tAsg (te a cls dd) (gName n)) D es := fun a dx P H σ fs e r s hx hf =>
  h a dx P H σ fs e r s hx hf _ fun v P1 H1 r1 hx1 x1 hv => k _ P1 H1 ((r1.put n hv).drop (o := none) i)
/-- except CA as e: .. (as the only one) -/
theorem wok_one {Wout : WX} {ts : Addr → Value → Option Addr → TS} {Ro : Out → Prop} {CA : Addr} (hi : i < es.length) (mA : PySem.W.exmOne c.K (.ref CA) (.ref CA) = some true)
    (h : ∀ C' ns fd, Ro (.ex C' ns fd) → C' = CA ∧ ns ≠ [] ∧ HanA c i CA ns fd ts D (es.set i .no)) : WOk c es (wAs c.K (.ref CA) i ts Wout D) Ro := by
  refine ⟨fun dx P H σ C fs fd hr r hx hf => ?_, fun P H σ C hr r => absurd rfl (h _ _ _ hr).2.1⟩
  obtain ⟨rfl, _, k⟩ := h _ _ _ hr
  exact ⟨true, mA, fun _ a ha => k a dx P H _ fs rfl (r.drop (o := some (.ref a)) i) (List.getElem?_set_self (by rw [r.sl.len]; exact hi)) hx hf, fun z => by cases z⟩
/-- except CB: .. (as the only one, without a name) -/
theorem wok_bare {Wout : WX} {ts : Addr → Value → Option Addr → TS} {Ro : Out → Prop} {CB : Addr} (mB : PySem.W.exmOne c.K (.ref CB) (.ref CB) = some true)
    (h : ∀ C' ns fd, Ro (.ex C' ns fd) → C' = CB ∧ ∀ a dd, Cont c (ts a (.ref CB) dd D) es) : WOk c es (wManyN c.K Wout D [(.ref CB, none, ts)]) Ro := by
  refine ⟨fun dx P H σ C fs fd hr r hx hf => ?_, fun P H σ C hr r => ?_⟩
  · obtain ⟨rfl, k⟩ := h _ _ _ hr
    exact ⟨true, mB, fun _ a ha => k a _ _ P H r, fun z => by cases z⟩
  · obtain ⟨rfl, k⟩ := h _ _ _ hr
    exact ⟨true, mB, fun _ a ha => k a _ _ P H r, fun z => by cases z⟩
/-- except CA as e: .. except CB: .. -/
theorem wok_two {Wout : WX} {ts tu : Addr → Value → Option Addr → TS} {Ro : Out → Prop} {CA CB : Addr} (hi : i < es.length) (mA : PySem.W.exmOne c.K (.ref CA) (.ref CA) = some true) (mBA : PySem.W.exmOne c.K (.ref CB) (.ref CA) = some false) (mB : PySem.W.exmOne c.K (.ref CB) (.ref CB) = some true)
    (h : ∀ C' ns fd, Ro (.ex C' ns fd) → (C' = CA ∧ ns ≠ [] ∧ HanA c i CA ns fd ts D (es.set i .no)) ∨ (C' = CB ∧ ∀ a dd, Cont c (tu a (.ref CB) dd D) es)) : WOk c es (wManyN c.K Wout D [(.ref CA, some i, ts), (.ref CB, none, tu)]) Ro := by
  refine ⟨fun dx P H σ C fs fd hr r hx hf => ?_, fun P H σ C hr r => ?_⟩
  · rcases h _ _ _ hr with ⟨rfl, _, k⟩ | ⟨rfl, k⟩
    · exact ⟨true, mA, fun _ a ha => k a dx P H _ fs rfl (r.drop (o := some (.ref a)) i) (List.getElem?_set_self (by rw [r.sl.len]; exact hi)) hx hf, fun z => by cases z⟩
    · exact ⟨false, mBA, (fun z => by cases z), fun _ => ⟨true, mB, fun _ a ha => k a _ _ P H r, fun z => by cases z⟩⟩
  · rcases h _ _ _ hr with ⟨rfl, n0, k⟩ | ⟨rfl, k⟩
    · exact absurd rfl n0
    · exact ⟨false, mBA, (fun z => by cases z), fun _ => ⟨true, mB, fun _ a ha => k a _ _ P H r, fun z => by cases z⟩⟩
theorem c_dropV {φ : Dt → Prop} (h : EV c te es φ) (k : ∀ d, φ d → Cont c D.nx es) : Cont c (tDrop te D) es := fun σ P H r => h σ P H r _ fun v P1 H1 d hd r1 e1 h1 => k d hd _ P1 H1 r1
/-! ### lists that are tracked and changed no more -/
theorem c_giveG {k : L2.St → Hp → Prop} {l : Addr} (hn : es[n]? = some (.own l ds)) (hm : c.mu = []) (h : Cont c k (es.set n (.dat (.lstN ds)))) : Cont c k es := fun σ P H r => by
  obtain ⟨e0, m1, m2, xs, hx, hd⟩ := r.sl.getO hn
  have m0 : c.H0 l = none := m1.elim id fun z => by rw [hm] at z; cases z
  have nl : l ∉ owns (es.set n .no) := own_gone r.nd hn
  have r1 := r.drop (o := none) n
  have r2 := r1.give nl m0 m2 hx
  have hP : (upd P l (.lst xs)) l = some (.lst xs) := upd_same
  have r3 := r2.put n (.lstN hP (HasAll.mono (Ex.new m2) _ hd))
  rw [List.set_set, List.set_set] at r3
  have e4 : σ.set n (some (V.ref l)) = σ := by
    obtain ⟨h1, h2⟩ := List.getElem?_eq_some_iff.mp e0
    rw [← h2, List.set_getElem_self]
  rw [e4] at r3
  exact h σ _ H r3
theorem ed_varG (h : es[n]? = some (.dat (.lstN ds))) : ED c (tVar n) es (.lst ds) := fun σ P H r Q q => by
  obtain ⟨v, e, z⟩ := r.sl.get h
  cases z with
  | lstN s k => exact ⟨_, e, q _ P H _ rfl r Kp.refl (.lst (.inl (.inl s)) k)⟩
/-- a list that is tracked -/
def EG (c : Fr) (te : TE) (es : List Sv) (φ : List Dt → Prop) : Prop :=
  ∀ σ P H, Rep c P H σ es → ∀ Q : VK, (∀ l P' H' ds xs, φ ds → Rep c P' H' σ es → Kp es P H P' H' → H' l = some (.lst xs) → HasAll c.K P' xs ds → l ∉ handsOf es → Q (.ref l) H') → te σ H Q
theorem eg_of (h : EL c te es α) : EG c te es α := fun σ P H r Q q => h σ P H r Q fun l P1 H1 ds xs hd r1 e1 p1 h1 k1 n1 => q l P1 H1 ds xs hd r1 e1 h1 k1 n1
theorem eg_var (h : es[n]? = some (.dat (.lstN ds))) : EG c (tVar n) es (fun r => r = ds) := fun σ P H r Q q => by
  obtain ⟨v, e, z⟩ := r.sl.get h
  cases z with
  | @lstN a xs _ s k =>
    refine ⟨_, e, q a P H ds xs rfl r Kp.refl (r.ex _ _ s) k fun m => ?_⟩
    obtain ⟨j, hj⟩ := hands_ex m
    obtain ⟨_, _, _, _, m2, _⟩ := r.sl.getH hj
    rw [s] at m2
    cases m2
where
  hands_ex : ∀ {es : List Sv} {a : Addr}, a ∈ handsOf es → ∃ j : Nat, es[j]? = some (.hand a)
  | [], _, h => by cases h
  | .hand b :: es, a, h => by
    rcases List.mem_cons.mp h with e | h
    · exact ⟨0, by rw [e]; rfl⟩
    · obtain ⟨j, e⟩ := hands_ex h
      exact ⟨j + 1, e⟩
  | .no :: es, a, h => by obtain ⟨j, e⟩ := hands_ex (es := es) h; exact ⟨j + 1, e⟩
  | .dat _ :: es, a, h => by obtain ⟨j, e⟩ := hands_ex (es := es) h; exact ⟨j + 1, e⟩
  | .own _ _ :: es, a, h => by obtain ⟨j, e⟩ := hands_ex (es := es) h; exact ⟨j + 1, e⟩
  | .gen _ _ _ :: es, a, h => by obtain ⟨j, e⟩ := hands_ex (es := es) h; exact ⟨j + 1, e⟩
theorem eo_catG (ha : EG c ta es α) (hb : EG c tb es β) (hl : ∀ x y, α x → β y → x.length + y.length ≤ 100000) : EO c (tOp rCat ta tb) es (fun r => ∃ x y, α x ∧ β y ∧ r = x ++ y) := fun σ P H r Q q =>
  ha σ P H r _ fun l P1 H1 x xs hx r1 e1 h1 k1 n1 => hb σ P1 H1 r1 _ fun l2 P2 H2 y ys hy r2 e2 h2 k2 n2 => by
    have h1' : H2 l = some (.lst xs) := e2.k l _ n1 h1
    have k1' := HasAll.mono e2.p _ k1
    refine ⟨l, l2, xs, ys, rfl, rfl, h1', h2, Evl.sz_of (by rw [k1.len, k2.len]; exact hl x y hx hy), fun p hp => ?_⟩
    have g := grow_own (o := .lst (xs ++ ys)) r2.ex hp
    exact q p P2 _ (x ++ y) ⟨x, y, hx, hy, rfl⟩ (r2.step g) ((e1.trans e2).trans (.of g)) (r2.fresh hp) ((e1.trans e2).n p hp) ⟨.inl (r2.dom p hp), none_back r2.ex hp, _, upd_same, k1'.append k2⟩
theorem RetO.impL {k : VK} (h : RetO c k α) (q : ∀ l, β l → α l) : RetO c k β := fun l P H σ es ds hd r n0 h0 m => h l P H σ es ds (q ds hd) r n0 h0 m
theorem ev_lenV {χ : Dt → Prop} (ha : EV c ta es φ) (e : ∀ d, φ d → ∃ n : Nat, lenD d = some n ∧ χ (.int n)) : EV c (tCB (Evl.rLenS c.K) (tCons ta tNil)) es χ := fun σ P H r Q q =>
  ha σ P H r _ fun v P1 H1 z hz r1 e1 h1 => by
    obtain ⟨n, el, hx⟩ := e z hz
    cases h1 with
    | lst s k =>
      cases Option.some.inj el
      exact ⟨_, _, rfl, .inl (Evl.ex_l r1.ex s), by rw [k.len]; exact q _ P1 H1 _ hx r1 e1 (.int _)⟩
    | tup s k =>
      cases Option.some.inj el
      exact ⟨_, _, rfl, .inr (Evl.ex_t r1.ex s), by rw [k.len]; exact q _ P1 H1 _ hx r1 e1 (.int _)⟩
    | _ => cases el
end
end My
set_option Elab.async false
set_option linter.all false
set_option maxRecDepth 100000
set_option maxHeartbeats 4000000
/-! A comprehension with two sources whose second one has a test. -/
namespace My
open PySem PySem.Spec PyProof.Rows L2 RZ
open Evl (Ex)
section
variable {c : Fr} {es : List Sv} {te : TE} {l : List Dt}
theorem eo_lc2T {wi wi1 : TI} {tt1 : TT} {p : Dt → Dt → Bool} {g g1 : TG} {f f1 : Dt → List Sv → List Sv} {vs vs1 : List Nat} {lz : Dt → List Dt} {fn : Dt → Dt → Dt} (h : WI c wi es l) (hl : (l.flatMap fun y => ((lz y).filter (p y)).map (fn y)).length ≤ 100000)
    (hg : ∀ P y, y ∈ l → TgD (c.at P) g (f y) vs y) (hf : ∀ y ∈ l, handsOf (f y (wipeE es vs)) = [] ∧ ∀ x ∈ owns (f y (wipeE es vs)), x ∈ owns es)
    (h1 : ∀ P, Low c P → ∀ y ∈ l, WI (c.at P) wi1 (f y (wipeE es vs)) (lz y)) (hg1 : ∀ P y z, y ∈ l → z ∈ lz y → TgD (c.at P) g1 (f1 z) vs1 z)
    (hf1 : ∀ y ∈ l, ∀ z ∈ lz y, handsOf (f1 z (wipeE (f y (wipeE es vs)) vs1)) = [])
    (ht : ∀ P, Low c P → ∀ y ∈ l, ∀ z ∈ lz y, EBd (c.at P) tt1 (f1 z (wipeE (f y (wipeE es vs)) vs1)) (p y z))
    (he : ∀ P, Low c P → ∀ y ∈ l, ∀ z ∈ lz y, ED (c.at P) te (f1 z (wipeE (f y (wipeE es vs)) vs1)) (fn y z)) :
    EO c (tLc2 wi g tYes wi1 g1 tt1 te vs vs1) es (fun r => r = l.flatMap fun y => ((lz y).filter (p y)).map (fn y)) := fun σ P H r Q q =>
  h σ P H r _ fun J P1 H1 G Y r1 e1 w hG hY => fun a ha => by
    have L : Low c P1 := r1.low
    have na := r1.fresh ha
    let res : Nat → List Dt := fun i => (l.take i).flatMap fun y => ((lz y).filter (p y)).map (fn y)
    let Pv : Nat → Hp → Prop := fun i H => ∃ P xs, Rep (c.at P1) P H σ es ∧ Kp es P1 H1 P H ∧ P a = none ∧ H a = some (.lst xs) ∧ HasAll c.K P xs (res i)
    have g0 := grow_own (o := .lst []) r1.ex ha
    refine ⟨fun i m H => m = l.length - i ∧ i ≤ l.length ∧ Pv i H, ⟨_, rfl, Nat.zero_le _, P1, [], r1.at.step g0, .of g0, none_back r1.ex ha, upd_same, .nil⟩, ?_⟩
    rintro i m H ⟨rfl, hi, P, xs, r, eH, hPa, hHa, hd⟩
    have q0 := hG P H r.b r.ex
    by_cases lt : i < l.length
    · refine .inr ⟨w.goes i H lt q0, Pv (i + 1), fun H' p => ⟨l.length - (i + 1), by omega, rfl, lt, p⟩, fun x H' y => ?_⟩
      obtain ⟨P', d, g', e, hx⟩ := hY i P H x H' lt r.b r.ex (w.yields i H x H' lt q0 y)
      have hm : d ∈ l := List.mem_of_getElem? e
      have r2 := r.step g'
      obtain ⟨hf2, hf3⟩ := hf d hm
      refine hg P1 d hm x P' H' _ _ _ (r2.wipe vs) hx fun σ2 hw r3 => ⟨by rw [hw]; exact wipe_wipe, ?_⟩
      refine iteT (B := Pv (i + 1) H') ?_
      refine h1 P1 L d hm σ2 P' H' r3 _ fun J1 P2 H2 G1 Y1 r4 e4 w1 hG1 hY1 => ?_
      have gA : Grow P' H' P2 H2 := e4.grow hf2 r4.ex
      have hPa' := grow_none g' hPa hHa
      have hHa' := g'.h _ _ hHa
      have na2 : a ∉ owns (f d (wipeE es vs)) := fun z => na (hf3 a z)
      let Pw : Nat → Hp → Prop := fun j H => ∃ P xs, Rep (c.at P1) P H σ2 (f d (wipeE es vs)) ∧ Rep (c.at P1) P H σ es ∧ Kp es P1 H1 P H ∧ Ex P2 P ∧ P a = none ∧ H a = some (.lst xs) ∧ HasAll c.K P xs (res i ++ (((lz d).take j).filter (p d)).map (fn d))
      refine ⟨fun j k H => k = (lz d).length - j ∧ j ≤ (lz d).length ∧ Pw j H, ⟨_, rfl, Nat.zero_le _, P2, xs, r4, r2.step gA, (eH.trans (.of g')).trans (.of gA), .refl P2, grow_none gA hPa' hHa', gA.h _ _ hHa', ?_⟩, ?_⟩
      · rw [List.take_zero, List.filter_nil, List.map_nil, List.append_nil]
        exact HasAll.mono (g'.p.trans gA.p) _ hd
      have rs : res (i + 1) = res i ++ ((lz d).filter (p d)).map (fn d) := by
        show (l.take (i + 1)).flatMap _ = _
        rw [List.take_add_one, e, Option.toList_some, List.flatMap_append, List.flatMap_cons, List.flatMap_nil, List.append_nil]
      have rl : ∀ k, (res k).length ≤ 100000 := fun k => by
        refine Nat.le_trans ?_ hl
        show ((l.take k).flatMap _).length ≤ _
        conv => rhs; rw [← List.take_append_drop k l]
        rw [List.flatMap_append, List.length_append]
        omega
      rintro j k H3 ⟨rfl, hj, P3, ys, s1, s2, eK, eP, hPa3, hHa3, hd3⟩
      have q1 := hG1 P3 H3 eP s1.ex
      by_cases lt1 : j < (lz d).length
      · refine .inr ⟨w1.goes j H3 lt1 q1, Pw (j + 1), fun H' p => ⟨(lz d).length - (j + 1), by omega, rfl, lt1, p⟩, fun x1 H4 y1 => ?_⟩
        obtain ⟨P4, z, g3, ez, hz⟩ := hY1 j P3 H3 x1 H4 lt1 eP s1.ex (w1.yields j H3 x1 H4 lt1 q1 y1)
        have hmz : z ∈ lz d := List.mem_of_getElem? ez
        refine hg1 P1 d z hm hmz x1 P4 H4 _ _ _ ((s1.step g3).wipe vs1) hz fun σ3 hw3 r5 => ⟨by rw [hw3]; exact wipe_wipe, ?_⟩
        refine ht P1 L d hm z hmz σ3 P4 H4 r5 _ fun b P4' H4' hb r5' k5 => ?_
        subst hb
        have g4 := g3.trans (k5.grow (hf1 d hm z hmz) r5'.ex)
        have hsub : (((lz d).take (j + 1)).filter (p d)).length ≤ ((lz d).filter (p d)).length := ((List.take_sublist _ _).filter _).length_le
        have tk0 : ((lz d).take (j + 1)).filter (p d) = ((lz d).take j).filter (p d) ++ [z].filter (p d) := by rw [List.take_add_one, ez, Option.toList_some, List.filter_append]
        cases hpz : p d z with
        | false =>
          rw [if_neg (by decide)]
          refine ⟨P4', ys, s1.step g4, s2.step g4, eK.trans (.of g4), eP.trans g4.p, grow_none g4 hPa3 hHa3, g4.h _ _ hHa3, ?_⟩
          rw [tk0, List.filter_cons_of_neg (by rw [hpz]; decide), List.filter_nil, List.append_nil]
          exact HasAll.mono g4.p _ hd3
        | true =>
          rw [if_pos rfl]
          refine he P1 L d hm z hmz σ3 P4' H4' r5' _ fun v P5 H5 dv hv r6 k6 hx6 => ?_
          subst hv
          have gg := g4.trans (k6.grow (hf1 d hm z hmz) r6.ex)
          have hPa5 := grow_none gg hPa3 hHa3
          have tk1 : ((lz d).take (j + 1)).filter (p d) = ((lz d).take j).filter (p d) ++ [z] := by rw [tk0, List.filter_cons_of_pos hpz, List.filter_nil]
          have len : ys.length < 100000 := by
            have h3 := rl (i + 1)
            rw [rs, List.length_append, List.length_map] at h3
            rw [tk1, List.length_append] at hsub
            rw [hd3.len, List.length_append, List.length_map]
            have : [z].length = 1 := rfl
            omega
          refine ⟨ys, gg.h _ _ hHa3, Evl.sz_lt len, P5, ys ++ [v], (s1.step gg).turnO (r1.dom a ha) hPa5 na2, (s2.step gg).turnO (r1.dom a ha) hPa5 na, (eK.trans (.of gg)).put ha, eP.trans gg.p, hPa5, upd_same, ?_⟩
          rw [tk1, List.map_append, ← List.append_assoc]
          exact (HasAll.mono gg.p _ hd3).append (.cons hx6 .nil)
      · have ej : j = (lz d).length := by omega
        subst ej
        rw [List.take_length, ← rs] at hd3
        exact .inl ⟨w1.stops H3 q1, P3, ys, s2, eK, hPa3, hHa3, hd3⟩
    · have ei : i = l.length := by omega
      subst ei
      have hd' : HasAll c.K P xs (l.flatMap fun y => ((lz y).filter (p y)).map (fn y)) := by
        have e : res l.length = l.flatMap fun y => ((lz y).filter (p y)).map (fn y) := by
          show (l.take l.length).flatMap _ = _
          rw [List.take_length]
        rw [← e]
        exact hd
      exact .inl ⟨w.stops H q0, q a P H _ rfl (L r) (e1.trans eH) na (e1.n a ha) ⟨.inl (r1.dom a ha), hPa, xs, hHa, hd'⟩⟩
end
end My
set_option Elab.async false
set_option linter.all false
set_option maxRecDepth 100000
set_option maxHeartbeats 4000000
namespace K03
open PySem PySem.Spec PyProof.Rows L2 My StX RZ
abbrev s_is_whole : Stmt := top 6
abbrev N_is_whole : List Str := ["thing", "low", "high"]
theorem sc_is_whole : FnScope N_is_whole ["thing", "low", "high"] (defScope s_is_whole) := ⟨rfl, rfl, rfl, by decide +kernel, rfl, by decide +kernel, by decide +kernel⟩
def t_is_whole (K : PySem.W.Frag) : TS :=
  (tSeq (tIfS (tOr (tNot (tB (tCB (rIsi K) (tCons (tVar 0) (tCons (tC (.ty "int")) tNil))))) (tB (tCB (rIsi K) (tCons (tVar 0) (tCons (tC (.ty "bool")) tNil))))) (tRet (tC (.bl false))) tNext)
    (tSeq (tIfS (tAnd (tTest (tOp (fun x y H Q => y = .non ∧ Q (.bl (!decide (x = .non))) H) (tVar 1) (tC .non))) (tTest (tOp (rI0 fun i j => .bl (decide (i < j))) (tVar 0) (tVar 1)))) (tRet (tC (.bl false))) tNext)
    (tRet (tOrV (tOp (fun x y H Q => y = .non ∧ Q (.bl (decide (x = .non))) H) (tVar 2) (tC .non)) (tOp (rI0 fun i j => .bl (decide (i ≤ j))) (tVar 0) (tVar 2))))))
theorem d_is_whole {P : Program} {w : World} {K : PySem.W.Frag} {mg : Str → Option Value} {base : Heap} {f : Addr} {cdv : Value} {A : Around} {outer : List Env} {s : Shared} {H : Hp} {E : XK} (T : Txt P w K mg base)
    (hr : Room m_is_whole (A.deeper (envOfC "is_whole" (defScope s_is_whole) s.heap.objs.size f cdv))) :
    PSs (cxOf (L2.CX P w) P w K mg base N_is_whole "is_whole" (defScope s_is_whole) f cdv A outer s H E) (defBody s_is_whole) (t_is_whole K) :=
  (pss_cons (ps_if (PW.pt (pw_or (pt_not (pt_val (pe_callB call_isi (by rfl) T.b_isinstance (by decide +kernel) (pa_cons (pv 0) (pa_cons (pe_bltn (u := .type "int") (by rfl) T.b_int (by decide +kernel) (by rfl)) pa_nil))))) (pw_or1 (pt_val (pe_callB call_isi (by rfl) T.b_isinstance (by decide +kernel) (pa_cons (pv 0) (pa_cons (pe_bltn (u := .type "bool") (by rfl) T.b_bool (by decide +kernel) (by rfl)) pa_nil))))))) (pss_one (ps_ret pe_bl)) pss_nil)
    (pss_cons (ps_if (PW.pt (pw_and (pt_cmpR op_notN (pv 1) pe_non (nomark _)) (pw_and1 (pt_cmpR op_lt (pv 0) (pv 1) (nomark _))))) (pss_one (ps_ret pe_bl)) pss_nil)
    (pss_one (ps_ret (pe_or (pe_cmpR op_isN (pv 2) pe_non (nomark _)) (pe_one (pe_cmpR op_le (pv 0) (pv 2) (nomark _))))))))

abbrev s_is_sequence : Stmt := top 7
abbrev N_is_sequence : List Str := ["thing", "low", "high"]
theorem sc_is_sequence : FnScope N_is_sequence ["thing", "low", "high"] (defScope s_is_sequence) := ⟨rfl, rfl, rfl, by decide +kernel, rfl, by decide +kernel, by decide +kernel⟩
def t_is_sequence (K : PySem.W.Frag) : TS :=
  (tRet (tAndV (tCB (rIsiT K) (tCons (tVar 0) (tCons (tTup (tCons (tC (.ty "list")) (tCons (tC (.ty "tuple")) tNil))) tNil))) (tCall (sp_is_whole K) [] E0 (tCons (tCB (Evl.rLenS K) (tCons (tVar 0) tNil)) (tCons (tVar 1) (tCons (tVar 2) tNil))))))
theorem d_is_sequence {P : Program} {w : World} {K : PySem.W.Frag} {mg : Str → Option Value} {base : Heap} {f : Addr} {cdv : Value} {A : Around} {outer : List Env} {s : Shared} {H : Hp} {E : XK} (T : Txt P w K mg base) (C_is_whole : Fd P w K mg base l_is_whole "is_whole" ["thing", "low", "high"] [] (sp_is_whole K))
    (hr : Room m_is_sequence (A.deeper (envOfC "is_sequence" (defScope s_is_sequence) s.heap.objs.size f cdv))) :
    PSs (cxOf (L2.CX P w) P w K mg base N_is_sequence "is_sequence" (defScope s_is_sequence) f cdv A outer s H E) (defBody s_is_sequence) (t_is_sequence K) :=
  (pss_one (ps_ret (pe_and (pe_callB call_isiT (by rfl) T.b_isinstance (by decide +kernel) (pa_cons (pv 0) (pa_cons (pe_tup (pa_cons (pe_bltn (u := .type "list") (by rfl) T.b_list (by decide +kernel) (by rfl)) (pa_cons (pe_bltn (u := .type "tuple") (by rfl) T.b_tuple (by decide +kernel) (by rfl)) pa_nil))) pa_nil))) (pe_one (pe_fd C_is_whole (hr.mono (by decide)) (pa_cons (pe_callB call_len_seq (by rfl) T.b_len (by decide +kernel) (pa_cons (pv 0) pa_nil)) (pa_cons (pv 1) (pa_cons (pv 2) pa_nil))))))))

abbrev s_is_cell : Stmt := top 9
abbrev N_is_cell : List Str := ["thing", "part"]
theorem sc_is_cell : FnScope N_is_cell ["thing"] (defScope s_is_cell) := ⟨rfl, rfl, rfl, by decide +kernel, rfl, by decide +kernel, by decide +kernel⟩
def t_is_cell (K : PySem.W.Frag) : TS :=
  (tRet (tAndV (tCall (sp_is_sequence K) [] E0 (tCons (tVar 0) (tCons (tC (.int 2)) (tCons (tC (.int 2)) tNil)))) (tCB (rAll K) (tCons (tLc (iSeq K (tVar 0)) (gName 1) tYes (tCall (sp_is_whole K) [] E0 (tCons (tVar 1) (tCons (tUn (rU fun i => .int (-i)) (tC (.int 20))) (tCons (tC (.int 20)) tNil)))) [1]) tNil))))
theorem d_is_cell {P : Program} {w : World} {K : PySem.W.Frag} {mg : Str → Option Value} {base : Heap} {f : Addr} {cdv : Value} {A : Around} {outer : List Env} {s : Shared} {H : Hp} {E : XK} (T : Txt P w K mg base) (C_is_sequence : Fd P w K mg base l_is_sequence "is_sequence" ["thing", "low", "high"] [] (sp_is_sequence K)) (C_is_whole : Fd P w K mg base l_is_whole "is_whole" ["thing", "low", "high"] [] (sp_is_whole K))
    (hr : Room m_is_cell (A.deeper (envOfC "is_cell" (defScope s_is_cell) s.heap.objs.size f cdv))) :
    PSs (cxOf (L2.CX P w) P w K mg base N_is_cell "is_cell" (defScope s_is_cell) f cdv A outer s H E) (defBody s_is_cell) (t_is_cell K) :=
  (pss_one (ps_ret (pe_and (pe_fd C_is_sequence (hr.mono (by decide)) (pa_cons (pv 0) (pa_cons pe_int (pa_cons pe_int pa_nil)))) (pe_one (pe_callB (cr_all rfl) (by rfl) T.b_all (by decide +kernel) (pa_cons (pe_lc (own := [("part", 1)]) (g := (gName 1)) (by rfl) sc_is_cell.nd (pi_seq (pv 0)) (blkOk_by (own := [("part", 1)]) (N := N_is_cell) (sc := defScope s_is_cell) (by decide +kernel)) (fun _ _ _ _ _ => (pg_name (i := 1) sc_is_cell.nd (by rfl) (Or.inl rfl))) (fun _ _ _ _ _ => pts_nil) (fun _ _ _ _ _ => (pe_fd C_is_whole (hr.mono (by decide)) (pa_cons (pv 1) (pa_cons (pe_un un_neg pe_int) (pa_cons pe_int pa_nil)))))) pa_nil))))))

abbrev s_check_cells : Stmt := top 10
abbrev N_check_cells : List Str := ["cells", "index", "cell"]
theorem sc_check_cells : FnScope N_check_cells ["cells"] (defScope s_check_cells) := ⟨rfl, rfl, rfl, by decide +kernel, rfl, by decide +kernel, by decide +kernel⟩
def t_check_cells (K : PySem.W.Frag) (E : XK) : TS :=
  (tSeq (tIfS (tNot (tB (tCall (sp_is_sequence K) [] E0 (tCons (tVar 0) (tCons (tC (.int 0)) (tCons (tC (.int 100)) tNil)))))) (fun (_ : Ends) σ H => tMkO (He.ga K "BadCells") (spIni2 K (He.ga K "BadCells") "index" "what") [] (tCons (tC (.int 0)) (tCons (tC (.str "many")) tNil)) σ H fun cls d H2 => E cls d H2) tNext)
    (tSeq (tFor (iEnumA K (tCons (tVar 0) tNil)) (gTup K 2 (gCons (gName 1) (gCons (gName 2) gNil))) (tIfS (tNot (tB (tCall (sp_is_cell K) [] E0 (tCons (tVar 2) tNil)))) (fun (_ : Ends) σ H => tMkO (He.ga K "BadCells") (spIni2 K (He.ga K "BadCells") "index" "what") [] (tCons (tVar 1) (tCons (tC (.str "cell")) tNil)) σ H fun cls d H2 => E cls d H2) tNext))
    (tRet (tCB (rTupleOf K) (tCons (tSortSg K (fun P w => tSg P w K (iSeq K (tVar 0)) (gName 2) tYes (tTup (tCons (tOp (rIx K) (tVar 2) (tC (.int 0))) (tCons (tOp (rIx K) (tVar 2) (tC (.int 1))) tNil))) [2])) tNil)))))
theorem d_check_cells {P : Program} {w : World} {K : PySem.W.Frag} {mg : Str → Option Value} {base : Heap} {f : Addr} {cdv : Value} {A : Around} {outer : List Env} {s : Shared} {H : Hp} {E : XK} (T : Txt P w K mg base) (C_is_sequence : Fd P w K mg base l_is_sequence "is_sequence" ["thing", "low", "high"] [] (sp_is_sequence K)) (C_is_cell : Fd P w K mg base l_is_cell "is_cell" ["thing"] [] (sp_is_cell K))
    (hr : Room m_check_cells (A.deeper (envOfC "check_cells" (defScope s_check_cells) s.heap.objs.size f cdv))) :
    PSs (cxOf (L2.CX P w) P w K mg base N_check_cells "check_cells" (defScope s_check_cells) f cdv A outer s H E) (defBody s_check_cells) (t_check_cells K E) :=
  (pss_cons (ps_if (pt_not (pt_val (pe_fd C_is_sequence (hr.mono (by decide)) (pa_cons (pv 0) (pa_cons pe_int (pa_cons pe_int pa_nil)))))) (pss_one (ps_raise rfl (takes_of rfl rfl rfl rfl) (T.mk_BadCells (hr.mono (by decide)) (pa_cons pe_int (pa_cons pe_str pa_nil))))) pss_nil)
    (pss_cons (ps_for (passes_of rfl) rfl (pi_enumA (by rfl) T.b_enumerate (pa_cons (pv 0) pa_nil)) (pg_tup (by rfl) (pgs_cons (pg_name (i := 1) sc_check_cells.nd (by rfl) (Or.inl rfl)) (pgs_cons (pg_name (i := 2) sc_check_cells.nd (by rfl) (Or.inl rfl)) pgs_nil))) (pss_one (ps_if (pt_not (pt_val (pe_fd C_is_cell (hr.mono (by decide)) (pa_cons (pv 2) pa_nil)))) (pss_one (ps_raise rfl (takes_of rfl rfl rfl rfl) (T.mk_BadCells (hr.mono (by decide)) (pa_cons (pv 1) (pa_cons pe_str pa_nil))))) pss_nil)))
    (pss_one (ps_ret (pe_callTy call_tuple_of (by rfl) T.b_tuple (by decide +kernel) (pa_cons (pe_sortSg (f := (fun P w => tSg P w K (iSeq K (tVar 0)) (gName 2) tYes (tTup (tCons (tOp (rIx K) (tVar 2) (tC (.int 0))) (tCons (tOp (rIx K) (tVar 2) (tC (.int 1))) tNil))) [2])) (by rfl) (by rfl) T.b_sorted (pe_sg (own := [("cell", 2)]) (g := (gName 2)) (units4 hr) (by rfl) sc_check_cells.nd (pi_seq (pv 0)) (blkOk_by (own := [("cell", 2)]) (N := N_check_cells) (sc := defScope s_check_cells) (by decide +kernel)) (fun _ _ _ _ _ => (pg_name (i := 2) sc_check_cells.nd (by rfl) (Or.inl rfl))) (fun _ _ _ _ _ => pts_nil) (fun _ _ _ _ _ => (pe_tup (pa_cons (pe_ix ix_seq (pv 2) pe_int (fun _ _ => rfl)) (pa_cons (pe_ix ix_seq (pv 2) pe_int (fun _ _ => rfl)) pa_nil)))))) pa_nil))))))

abbrev s_check_axis : Stmt := top 11
abbrev N_check_axis : List Str := ["axis"]
theorem sc_check_axis : FnScope N_check_axis ["axis"] (defScope s_check_axis) := ⟨rfl, rfl, rfl, by decide +kernel, rfl, by decide +kernel, by decide +kernel⟩
def t_check_axis (K : PySem.W.Frag) (E : XK) : TS :=
  (tSeq (tIfS (tNot (tB (tCall (sp_is_whole K) [] E0 (tCons (tVar 0) (tCons (tC (.int 0)) (tCons (tC (.int 1)) tNil)))))) (fun (_ : Ends) σ H => tMkO (He.ga K "BadAxis") (spIni1 K (He.ga K "BadAxis") "axis") [] (tCons (tVar 0) tNil) σ H fun cls d H2 => E cls d H2) tNext)
    (tRet (tVar 0)))
theorem d_check_axis {P : Program} {w : World} {K : PySem.W.Frag} {mg : Str → Option Value} {base : Heap} {f : Addr} {cdv : Value} {A : Around} {outer : List Env} {s : Shared} {H : Hp} {E : XK} (T : Txt P w K mg base) (C_is_whole : Fd P w K mg base l_is_whole "is_whole" ["thing", "low", "high"] [] (sp_is_whole K))
    (hr : Room m_check_axis (A.deeper (envOfC "check_axis" (defScope s_check_axis) s.heap.objs.size f cdv))) :
    PSs (cxOf (L2.CX P w) P w K mg base N_check_axis "check_axis" (defScope s_check_axis) f cdv A outer s H E) (defBody s_check_axis) (t_check_axis K E) :=
  (pss_cons (ps_if (pt_not (pt_val (pe_fd C_is_whole (hr.mono (by decide)) (pa_cons (pv 0) (pa_cons pe_int (pa_cons pe_int pa_nil)))))) (pss_one (ps_raise rfl (takes_of rfl rfl rfl rfl) (T.mk_BadAxis (hr.mono (by decide)) (pa_cons (pv 0) pa_nil)))) pss_nil)
    (pss_one (ps_ret (pv 0))))

abbrev s_is_reach : Stmt := top 12
abbrev N_is_reach : List Str := ["thing", "part"]
theorem sc_is_reach : FnScope N_is_reach ["thing"] (defScope s_is_reach) := ⟨rfl, rfl, rfl, by decide +kernel, rfl, by decide +kernel, by decide +kernel⟩
def t_is_reach (K : PySem.W.Frag) : TS :=
  (tRet (tAndV (tCall (sp_is_sequence K) [] E0 (tCons (tVar 0) (tCons (tC (.int 2)) (tCons (tC (.int 2)) tNil)))) (tCB (rAll K) (tCons (tLc (iSeq K (tVar 0)) (gName 1) tYes (tCall (sp_is_whole K) [] E0 (tCons (tVar 1) (tCons (tC (.int 0)) (tCons (tC (.int 2)) tNil)))) [1]) tNil))))
theorem d_is_reach {P : Program} {w : World} {K : PySem.W.Frag} {mg : Str → Option Value} {base : Heap} {f : Addr} {cdv : Value} {A : Around} {outer : List Env} {s : Shared} {H : Hp} {E : XK} (T : Txt P w K mg base) (C_is_sequence : Fd P w K mg base l_is_sequence "is_sequence" ["thing", "low", "high"] [] (sp_is_sequence K)) (C_is_whole : Fd P w K mg base l_is_whole "is_whole" ["thing", "low", "high"] [] (sp_is_whole K))
    (hr : Room m_is_reach (A.deeper (envOfC "is_reach" (defScope s_is_reach) s.heap.objs.size f cdv))) :
    PSs (cxOf (L2.CX P w) P w K mg base N_is_reach "is_reach" (defScope s_is_reach) f cdv A outer s H E) (defBody s_is_reach) (t_is_reach K) :=
  (pss_one (ps_ret (pe_and (pe_fd C_is_sequence (hr.mono (by decide)) (pa_cons (pv 0) (pa_cons pe_int (pa_cons pe_int pa_nil)))) (pe_one (pe_callB (cr_all rfl) (by rfl) T.b_all (by decide +kernel) (pa_cons (pe_lc (own := [("part", 1)]) (g := (gName 1)) (by rfl) sc_is_reach.nd (pi_seq (pv 0)) (blkOk_by (own := [("part", 1)]) (N := N_is_reach) (sc := defScope s_is_reach) (by decide +kernel)) (fun _ _ _ _ _ => (pg_name (i := 1) sc_is_reach.nd (by rfl) (Or.inl rfl))) (fun _ _ _ _ _ => pts_nil) (fun _ _ _ _ _ => (pe_fd C_is_whole (hr.mono (by decide)) (pa_cons (pv 1) (pa_cons pe_int (pa_cons pe_int pa_nil)))))) pa_nil))))))

abbrev s_check_reach : Stmt := top 13
abbrev N_check_reach : List Str := ["reach"]
theorem sc_check_reach : FnScope N_check_reach ["reach"] (defScope s_check_reach) := ⟨rfl, rfl, rfl, by decide +kernel, rfl, by decide +kernel, by decide +kernel⟩
def t_check_reach (K : PySem.W.Frag) (E : XK) : TS :=
  (tSeq (tIfS (tNot (tB (tCall (sp_is_reach K) [] E0 (tCons (tVar 0) tNil)))) (fun (_ : Ends) σ H => (fun (_ : L2.St) (H : Hp) (Q : XK) => Q (.ref (He.ga K "BadReach")) none H) σ H fun cls d H2 => E cls d H2) tNext)
    (tRet (tCB (rTupleOf K) (tCons (tVar 0) tNil))))
theorem d_check_reach {P : Program} {w : World} {K : PySem.W.Frag} {mg : Str → Option Value} {base : Heap} {f : Addr} {cdv : Value} {A : Around} {outer : List Env} {s : Shared} {H : Hp} {E : XK} (T : Txt P w K mg base) (C_is_reach : Fd P w K mg base l_is_reach "is_reach" ["thing"] [] (sp_is_reach K))
    (hr : Room m_check_reach (A.deeper (envOfC "check_reach" (defScope s_check_reach) s.heap.objs.size f cdv))) :
    PSs (cxOf (L2.CX P w) P w K mg base N_check_reach "check_reach" (defScope s_check_reach) f cdv A outer s H E) (defBody s_check_reach) (t_check_reach K E) :=
  (pss_cons (ps_if (pt_not (pt_val (pe_fd C_is_reach (hr.mono (by decide)) (pa_cons (pv 0) pa_nil)))) (pss_one (ps_raise rfl (takes_of rfl rfl rfl rfl) (pmk_own0 T.own_BadReach T.g_BadReach))) pss_nil)
    (pss_one (ps_ret (pe_callTy call_tuple_of (by rfl) T.b_tuple (by decide +kernel) (pa_cons (pv 0) pa_nil)))))

abbrev s_near_cells : Stmt := top 14
abbrev N_near_cells : List Str := ["cell", "reach", "across", "along", "x", "y", "right", "up"]
theorem sc_near_cells : FnScope N_near_cells ["cell", "reach"] (defScope s_near_cells) := ⟨rfl, rfl, rfl, by decide +kernel, rfl, by decide +kernel, by decide +kernel⟩
def t_near_cells (K : PySem.W.Frag) (E : XK) : TS :=
  (tSeq (tAsg (tCall (sp_check_reach K) [] E (tCons (tVar 1) tNil)) (gTup K 2 (gCons (gName 2) (gCons (gName 3) gNil))))
    (tSeq (tAsg (tVar 0) (gSeqA K 2 (gCons (gName 4) (gCons (gName 5) gNil))))
    (tRet (tCB (rTupleOf K) (tCons (tLc2 (iRng2 (tCons (tUn (rU fun i => .int (-i)) (tVar 2)) (tCons (tOp (rI0 fun i j => .int (i + j)) (tVar 2) (tC (.int 1))) tNil))) (gName 6) tYes (iRng2 (tCons (tUn (rU fun i => .int (-i)) (tVar 3)) (tCons (tOp (rI0 fun i j => .int (i + j)) (tVar 3) (tC (.int 1))) tNil))) (gName 7) tYes (tTup (tCons (tOp (rI0 fun i j => .int (i + j)) (tVar 4) (tVar 6)) (tCons (tOp (rI0 fun i j => .int (i + j)) (tVar 5) (tVar 7)) tNil))) [6, 7] [7]) tNil)))))
theorem d_near_cells {P : Program} {w : World} {K : PySem.W.Frag} {mg : Str → Option Value} {base : Heap} {f : Addr} {cdv : Value} {A : Around} {outer : List Env} {s : Shared} {H : Hp} {E : XK} (T : Txt P w K mg base) (C_check_reach : Fd P w K mg base l_check_reach "check_reach" ["reach"] [] (sp_check_reach K))
    (hr : Room m_near_cells (A.deeper (envOfC "near_cells" (defScope s_near_cells) s.heap.objs.size f cdv))) :
    PSs (cxOf (L2.CX P w) P w K mg base N_near_cells "near_cells" (defScope s_near_cells) f cdv A outer s H E) (defBody s_near_cells) (t_near_cells K E) :=
  (pss_cons (ps_asg (pe_fdE C_check_reach (hr.mono (by decide)) (takes_of rfl rfl rfl rfl) (fun _ _ _ _ h => h) (pa_cons (pv 1) pa_nil)) (pg_tup (by rfl) (pgs_cons (pg_name (i := 2) sc_near_cells.nd (by rfl) (Or.inl rfl)) (pgs_cons (pg_name (i := 3) sc_near_cells.nd (by rfl) (Or.inr rfl)) pgs_nil))))
    (pss_cons (ps_asg (pv 0) (pg_seqA (by rfl) (pgs_cons (pg_name (i := 4) sc_near_cells.nd (by rfl) (Or.inr rfl)) (pgs_cons (pg_name (i := 5) sc_near_cells.nd (by rfl) (Or.inr rfl)) pgs_nil))))
    (pss_one (ps_ret (pe_callTy call_tuple_of (by rfl) T.b_tuple (by decide +kernel) (pa_cons (pe_lc2 (own := [("right", 6), ("up", 7)]) (vs1 := [7]) (g := (gName 6)) (g1 := (gName 7)) (by rfl) sc_near_cells.nd (pi_range2 (by rfl) T.b_range (pa_cons (pe_un un_neg (pv 2)) (pa_cons (pe_op op_add (pv 2) pe_int) pa_nil))) (blkOk_by (own := [("right", 6), ("up", 7)]) (N := N_near_cells) (sc := defScope s_near_cells) (by decide +kernel)) (by decide) (fun _ _ _ _ _ => (pg_name (i := 6) sc_near_cells.nd (by rfl) (Or.inl rfl))) (fun _ _ _ _ _ => pts_nil) (fun _ _ _ _ _ => (pi_range2 (by rfl) T.b_range (pa_cons (pe_un un_neg (pv 3)) (pa_cons (pe_op op_add (pv 3) pe_int) pa_nil)))) (fun _ _ _ _ _ => (pg_name (i := 7) sc_near_cells.nd (by rfl) (Or.inl rfl))) (fun _ _ _ _ _ => pts_nil) (fun _ _ _ _ _ => (pe_tup (pa_cons (pe_op op_add (pv 4) (pv 6)) (pa_cons (pe_op op_add (pv 5) (pv 7)) pa_nil))))) pa_nil))))))

abbrev s_grown_cells : Stmt := top 15
abbrev N_grown_cells : List Str := ["cells", "reach", "known", "wide", "cell", "near"]
theorem sc_grown_cells : FnScope N_grown_cells ["cells", "reach"] (defScope s_grown_cells) := ⟨rfl, rfl, rfl, by decide +kernel, rfl, by decide +kernel, by decide +kernel⟩
def t_grown_cells (K : PySem.W.Frag) (E : XK) : TS :=
  (tSeq (tAsg (tCall (sp_check_cells K) [] E (tCons (tVar 0) tNil)) (gName 2))
    (tSeq (tAsg (tCall (sp_check_reach K) [] E (tCons (tVar 1) tNil)) (gName 3))
    (tRet (tCB (rTupleOf K) (tCons (tSortSg K (fun P w => tSg2 P w K (iSeq K (tVar 2)) (gName 4) tYes (iSeq K (tCall (sp_near_cells K) [] E0 (tCons (tVar 4) (tCons (tVar 3) tNil)))) (gName 5) tYes (tVar 5) [4, 5] [5])) tNil)))))
theorem d_grown_cells {P : Program} {w : World} {K : PySem.W.Frag} {mg : Str → Option Value} {base : Heap} {f : Addr} {cdv : Value} {A : Around} {outer : List Env} {s : Shared} {H : Hp} {E : XK} (T : Txt P w K mg base) (C_check_cells : Fd P w K mg base l_check_cells "check_cells" ["cells"] [] (sp_check_cells K)) (C_check_reach : Fd P w K mg base l_check_reach "check_reach" ["reach"] [] (sp_check_reach K)) (C_near_cells : Fd P w K mg base l_near_cells "near_cells" ["cell", "reach"] [] (sp_near_cells K))
    (hr : Room m_grown_cells (A.deeper (envOfC "grown_cells" (defScope s_grown_cells) s.heap.objs.size f cdv))) :
    PSs (cxOf (L2.CX P w) P w K mg base N_grown_cells "grown_cells" (defScope s_grown_cells) f cdv A outer s H E) (defBody s_grown_cells) (t_grown_cells K E) :=
  (pss_cons (ps_set (i := 2) sc_grown_cells.nd (by rfl) (Or.inl rfl) (pe_fdE C_check_cells (hr.mono (by decide)) (takes_of rfl rfl rfl rfl) (fun _ _ _ _ h => h) (pa_cons (pv 0) pa_nil)))
    (pss_cons (ps_set (i := 3) sc_grown_cells.nd (by rfl) (Or.inr rfl) (pe_fdE C_check_reach (hr.mono (by decide)) (takes_of rfl rfl rfl rfl) (fun _ _ _ _ h => h) (pa_cons (pv 1) pa_nil)))
    (pss_one (ps_ret (pe_callTy call_tuple_of (by rfl) T.b_tuple (by decide +kernel) (pa_cons (pe_sortSg (f := (fun P w => tSg2 P w K (iSeq K (tVar 2)) (gName 4) tYes (iSeq K (tCall (sp_near_cells K) [] E0 (tCons (tVar 4) (tCons (tVar 3) tNil)))) (gName 5) tYes (tVar 5) [4, 5] [5])) (by rfl) (by rfl) T.b_sorted (pe_sg2 (own := [("cell", 4), ("near", 5)]) (vs1 := [5]) (g := (gName 4)) (g1 := (gName 5)) (units4 hr) (by rfl) sc_grown_cells.nd (pi_seq (pv 2)) (blkOk_by (own := [("cell", 4), ("near", 5)]) (N := N_grown_cells) (sc := defScope s_grown_cells) (by decide +kernel)) (by decide) (fun _ _ _ _ _ => (pg_name (i := 4) sc_grown_cells.nd (by rfl) (Or.inl rfl))) (fun _ _ _ _ _ => pts_nil) (fun _ _ _ _ _ => (pi_seq (pe_fd C_near_cells (hr.mono (by decide)) (pa_cons (pv 4) (pa_cons (pv 3) pa_nil))))) (fun _ _ _ _ _ => (pg_name (i := 5) sc_grown_cells.nd (by rfl) (Or.inl rfl))) (fun _ _ _ _ _ => pts_nil) (fun _ _ _ _ _ => (pv 5)))) pa_nil))))))

abbrev s_shrunk_cells : Stmt := top 16
abbrev N_shrunk_cells : List Str := ["cells", "reach", "known", "wide", "ink", "cell", "near"]
theorem sc_shrunk_cells : FnScope N_shrunk_cells ["cells", "reach"] (defScope s_shrunk_cells) := ⟨rfl, rfl, rfl, by decide +kernel, rfl, by decide +kernel, by decide +kernel⟩
def t_shrunk_cells (K : PySem.W.Frag) (E : XK) : TS :=
  (tSeq (tAsg (tCall (sp_check_cells K) [] E (tCons (tVar 0) tNil)) (gName 2))
    (tSeq (tAsg (tCall (sp_check_reach K) [] E (tCons (tVar 1) tNil)) (gName 3))
    (tSeq (tAsg (tDg K (iSeq K (tVar 2)) (gName 5) tYes (tVar 5) (tC (.bl true)) [5]) (gName 4))
    (tRet (tCB (rTupleOf K) (tCons (tLc (iSeq K (tVar 2)) (gName 5) (tB (tCB (rAll K) (tCons (tLc (iSeq K (tCall (sp_near_cells K) [] E0 (tCons (tVar 5) (tCons (tVar 3) tNil)))) (gName 6) tYes (tOp (rInG K) (tVar 6) (tVar 4)) [6]) tNil))) (tVar 5) [5]) tNil))))))
theorem d_shrunk_cells {P : Program} {w : World} {K : PySem.W.Frag} {mg : Str → Option Value} {base : Heap} {f : Addr} {cdv : Value} {A : Around} {outer : List Env} {s : Shared} {H : Hp} {E : XK} (T : Txt P w K mg base) (C_check_cells : Fd P w K mg base l_check_cells "check_cells" ["cells"] [] (sp_check_cells K)) (C_check_reach : Fd P w K mg base l_check_reach "check_reach" ["reach"] [] (sp_check_reach K)) (C_near_cells : Fd P w K mg base l_near_cells "near_cells" ["cell", "reach"] [] (sp_near_cells K))
    (hr : Room m_shrunk_cells (A.deeper (envOfC "shrunk_cells" (defScope s_shrunk_cells) s.heap.objs.size f cdv))) :
    PSs (cxOf (L2.CX P w) P w K mg base N_shrunk_cells "shrunk_cells" (defScope s_shrunk_cells) f cdv A outer s H E) (defBody s_shrunk_cells) (t_shrunk_cells K E) :=
  (pss_cons (ps_set (i := 2) sc_shrunk_cells.nd (by rfl) (Or.inl rfl) (pe_fdE C_check_cells (hr.mono (by decide)) (takes_of rfl rfl rfl rfl) (fun _ _ _ _ h => h) (pa_cons (pv 0) pa_nil)))
    (pss_cons (ps_set (i := 3) sc_shrunk_cells.nd (by rfl) (Or.inr rfl) (pe_fdE C_check_reach (hr.mono (by decide)) (takes_of rfl rfl rfl rfl) (fun _ _ _ _ h => h) (pa_cons (pv 1) pa_nil)))
    (pss_cons (ps_set (i := 4) sc_shrunk_cells.nd (by rfl) (Or.inr rfl) (pe_dg (own := [("cell", 5)]) (g := (gName 5)) (units1 hr) (by rfl) sc_shrunk_cells.nd (pi_seq (pv 2)) (blkOk_by (own := [("cell", 5)]) (N := N_shrunk_cells) (sc := defScope s_shrunk_cells) (by decide +kernel)) (fun _ _ _ _ _ => (pg_name (i := 5) sc_shrunk_cells.nd (by rfl) (Or.inl rfl))) (fun _ _ _ _ _ => pts_nil) (fun _ _ _ _ _ => (pv 5)) (fun _ _ _ _ _ => pe_bl)))
    (pss_one (ps_ret (pe_callTy call_tuple_of (by rfl) T.b_tuple (by decide +kernel) (pa_cons (pe_lc (own := [("cell", 5)]) (g := (gName 5)) (by rfl) sc_shrunk_cells.nd (pi_seq (pv 2)) (blkOk_by (own := [("cell", 5)]) (N := N_shrunk_cells) (sc := defScope s_shrunk_cells) (by decide +kernel)) (fun _ _ _ _ _ => (pg_name (i := 5) sc_shrunk_cells.nd (by rfl) (Or.inl rfl))) (fun _ _ _ _ _ => (pts_one (pt_val (pe_callB (cr_all rfl) (by rfl) T.b_all (by decide +kernel) (pa_cons (pe_lc (own := [("near", 6)]) (g := (gName 6)) (by rfl) sc_shrunk_cells.nd (pi_seq (pe_fd C_near_cells (hr.mono (by decide)) (pa_cons (pv 5) (pa_cons (pv 3) pa_nil)))) (blkOk_by (own := [("near", 6)]) (N := N_shrunk_cells) (by first | decide +kernel | kernel_rfl | rfl)) (fun _ _ _ _ _ => (pg_name (i := 6) sc_shrunk_cells.nd (by rfl) (Or.inl rfl))) (fun _ _ _ _ _ => pts_nil) (fun _ _ _ _ _ => (pe_cmpR (op_inG (units1 hr)) (pv 6) (pv 4) (by rfl)))) pa_nil))))) (fun _ _ _ _ _ => (pv 5))) pa_nil)))))))

abbrev s_u_law_mix : Stmt := top 18
abbrev N_u_law_mix : List Str := ["_law_number", "_law_turn", "_law_once", "_law_twice"]
theorem sc_u_law_mix : FnScope N_u_law_mix ["_law_number", "_law_turn"] (defScope s_u_law_mix) := ⟨rfl, rfl, rfl, by decide +kernel, rfl, by decide +kernel, by decide +kernel⟩
def t_u_law_mix (K : PySem.W.Frag) : TS :=
  (tSeq (tAsg (tOp (rI (fun _ j => 0 < j) fun i j => .int (i % j)) (tCB (fun xs H Q => (∃ i, xs = [.int i] ∧ Q (.int i) H) ∨ ∃ k, xs = [.bl k] ∧ Q (.int (if k then 1 else 0)) H) (tCons (tOp (rI0 fun i j => .int (i + j)) (tOp (rI0 fun i j => .int (i + j)) (tOp (rI CMulW fun i j => .int (i * j)) (tVar 0) (tC (.int 48271))) (tOp (rI CMulW fun i j => .int (i * j)) (tVar 1) (tC (.int 16807)))) (tC (.int 11))) tNil)) (tC (.int 2147483647))) (gName 2))
    (tSeq (tAsg (tOp (rI (fun _ j => 0 < j) fun i j => .int (i % j)) (tCB (fun xs H Q => (∃ i, xs = [.int i] ∧ Q (.int i) H) ∨ ∃ k, xs = [.bl k] ∧ Q (.int (if k then 1 else 0)) H) (tCons (tOp (rI0 fun i j => .int (i + j)) (tOp (rI0 fun i j => .int (i + j)) (tOp (rI CMulW fun i j => .int (i * j)) (tVar 2) (tVar 2)) (tOp (rI CMulW fun i j => .int (i * j)) (tOp (rI CDivA fun i j => .int (i.fdiv j)) (tVar 2) (tC (.int 127))) (tC (.int 40692)))) (tOp (rI CMulW fun i j => .int (i * j)) (tVar 1) (tC (.int 69621)))) tNil)) (tC (.int 2147483399))) (gName 3))
    (tRet (tOp (rI CDivA fun i j => .int (i.fdiv j)) (tOp (rI (fun _ j => 0 < j) fun i j => .int (i % j)) (tCB (fun xs H Q => (∃ i, xs = [.int i] ∧ Q (.int i) H) ∨ ∃ k, xs = [.bl k] ∧ Q (.int (if k then 1 else 0)) H) (tCons (tOp (rI0 fun i j => .int (i + j)) (tOp (rI CDivA fun i j => .int (i.fdiv j)) (tOp (rI CMulW fun i j => .int (i * j)) (tVar 3) (tVar 3)) (tC (.int 1009))) (tVar 2)) tNil)) (tC (.int 2147483563))) (tC (.int 16))))))
theorem d_u_law_mix {P : Program} {w : World} {K : PySem.W.Frag} {mg : Str → Option Value} {base : Heap} {f : Addr} {cdv : Value} {A : Around} {outer : List Env} {s : Shared} {H : Hp} {E : XK} (T : Txt P w K mg base)
    (hr : Room m_u_law_mix (A.deeper (envOfC "_law_mix" (defScope s_u_law_mix) s.heap.objs.size f cdv))) :
    PSs (cxOf (L2.CX P w) P w K mg base N_u_law_mix "_law_mix" (defScope s_u_law_mix) f cdv A outer s H E) (defBody s_u_law_mix) (t_u_law_mix K) :=
  (pss_cons (ps_set (i := 2) sc_u_law_mix.nd (by rfl) (Or.inl rfl) (pe_op op_mod (pe_callTy call_int1 (by rfl) T.b_int (by decide +kernel) (pa_cons (pe_op op_add (pe_op op_add (pe_op op_mulW (pv 0) pe_int) (pe_op op_mulW (pv 1) pe_int)) pe_int) pa_nil)) pe_int))
    (pss_cons (ps_set (i := 3) sc_u_law_mix.nd (by rfl) (Or.inl rfl) (pe_op op_mod (pe_callTy call_int1 (by rfl) T.b_int (by decide +kernel) (pa_cons (pe_op op_add (pe_op op_add (pe_op op_mulW (pv 2) (pv 2)) (pe_op op_mulW (pe_op op_fdivA (pv 2) pe_int) pe_int)) (pe_op op_mulW (pv 1) pe_int)) pa_nil)) pe_int))
    (pss_one (ps_ret (pe_op op_fdivA (pe_op op_mod (pe_callTy call_int1 (by rfl) T.b_int (by decide +kernel) (pa_cons (pe_op op_add (pe_op op_fdivA (pe_op op_mulW (pv 3) (pv 3)) pe_int) (pv 2)) pa_nil)) pe_int) pe_int)))))

abbrev s_u_law_hand : Stmt := top 19
abbrev N_u_law_hand : List Str := ["_law_script", "_law_total", "_law_k", "_law_cell"]
theorem sc_u_law_hand : FnScope N_u_law_hand ["_law_script"] (defScope s_u_law_hand) := ⟨rfl, rfl, rfl, by decide +kernel, rfl, by decide +kernel, by decide +kernel⟩
def t_u_law_hand (K : PySem.W.Frag) : TS :=
  (tSeq (tAsg (tC (.int 0)) (gName 1))
    (tSeq (tFor (iEnum K (tCons (tVar 0) tNil)) (gTup K 2 (gCons (gName 2) (gCons (gName 3) gNil))) (tAsg (tOp (rI (fun _ j => 0 < j) fun i j => .int (i % j)) (tCB (fun xs H Q => (∃ i, xs = [.int i] ∧ Q (.int i) H) ∨ ∃ k, xs = [.bl k] ∧ Q (.int (if k then 1 else 0)) H) (tCons (tOp (rI0 fun i j => .int (i + j)) (tOp (rI CMul fun i j => .int (i * j)) (tVar 1) (tC (.int 31))) (tOp (rI CMul fun i j => .int (i * j)) (tCB (fun xs H Q => (∃ i, xs = [.int i] ∧ Q (.int i) H) ∨ ∃ k, xs = [.bl k] ∧ Q (.int (if k then 1 else 0)) H) (tCons (tVar 3) tNil)) (tOp (rI0 fun i j => .int (i + j)) (tVar 2) (tC (.int 7))))) tNil)) (tC (.int 2147483629))) (gName 1)))
    (tRet (tLst (tCons (tLc (iSeq K (tVar 0)) (gName 3) tYes (tCB (fun xs H Q => ∃ i, xs = [.int i] ∧ Q (.int (if i < 0 then -i else i)) H) (tCons (tCB (fun xs H Q => (∃ i, xs = [.int i] ∧ Q (.int i) H) ∨ ∃ k, xs = [.bl k] ∧ Q (.int (if k then 1 else 0)) H) (tCons (tVar 3) tNil)) tNil)) [3]) (tCons (tC (.int 0)) (tCons (tC (.int 0)) (tCons (tVar 1) tNil))))))))
theorem d_u_law_hand {P : Program} {w : World} {K : PySem.W.Frag} {mg : Str → Option Value} {base : Heap} {f : Addr} {cdv : Value} {A : Around} {outer : List Env} {s : Shared} {H : Hp} {E : XK} (T : Txt P w K mg base)
    (hr : Room m_u_law_hand (A.deeper (envOfC "_law_hand" (defScope s_u_law_hand) s.heap.objs.size f cdv))) :
    PSs (cxOf (L2.CX P w) P w K mg base N_u_law_hand "_law_hand" (defScope s_u_law_hand) f cdv A outer s H E) (defBody s_u_law_hand) (t_u_law_hand K) :=
  (pss_cons (ps_set (i := 1) sc_u_law_hand.nd (by rfl) (Or.inl rfl) pe_int)
    (pss_cons (ps_for (passes_of rfl) rfl (pi_enum (by rfl) T.b_enumerate (pa_cons (pv 0) pa_nil)) (pg_tup (by rfl) (pgs_cons (pg_name (i := 2) sc_u_law_hand.nd (by rfl) (Or.inl rfl)) (pgs_cons (pg_name (i := 3) sc_u_law_hand.nd (by rfl) (Or.inl rfl)) pgs_nil))) (pss_one (ps_set (i := 1) sc_u_law_hand.nd (by rfl) (Or.inl rfl) (pe_op op_mod (pe_callTy call_int1 (by rfl) T.b_int (by decide +kernel) (pa_cons (pe_op op_add (pe_op op_mul (pv 1) pe_int) (pe_op op_mul (pe_callTy call_int1 (by rfl) T.b_int (by decide +kernel) (pa_cons (pv 3) pa_nil)) (pe_op op_add (pv 2) pe_int))) pa_nil)) pe_int))))
    (pss_one (ps_ret (pe_lst (pa_cons (pe_lc (own := [("_law_cell", 3)]) (g := (gName 3)) (by rfl) sc_u_law_hand.nd (pi_seq (pv 0)) (blkOk_by (own := [("_law_cell", 3)]) (N := N_u_law_hand) (sc := defScope s_u_law_hand) (by decide +kernel)) (fun _ _ _ _ _ => (pg_name (i := 3) sc_u_law_hand.nd (by rfl) (Or.inl rfl))) (fun _ _ _ _ _ => pts_nil) (fun _ _ _ _ _ => (pe_callB call_abs (by rfl) T.b_abs (by decide +kernel) (pa_cons (pe_callTy call_int1 (by rfl) T.b_int (by decide +kernel) (pa_cons (pv 3) pa_nil)) pa_nil)))) (pa_cons pe_int (pa_cons pe_int (pa_cons (pv 1) pa_nil)))))))))

abbrev s_u_law_draw : Stmt := top 20
abbrev N_u_law_draw : List Str := ["_law_hand_here", "_law_many", "_law_cell", "_law_rest"]
theorem sc_u_law_draw : FnScope N_u_law_draw ["_law_hand_here", "_law_many"] (defScope s_u_law_draw) := ⟨rfl, rfl, rfl, by decide +kernel, rfl, by decide +kernel, by decide +kernel⟩
def t_u_law_draw (K : PySem.W.Frag) : TS :=
  (tSeq (tIfS (tAnd (tTest (tOp (rEqD K) (tOp (rIx K) (tVar 0) (tC (.int 2))) (tC (.int 0)))) (tTest (tOp (rI0 fun i j => .bl (decide (i < j))) (tOp (rIx K) (tVar 0) (tC (.int 1))) (tCB (Evl.rLenS K) (tCons (tOp (rIx K) (tVar 0) (tC (.int 0))) tNil))))) (tSeq (tAsg (tOp (rIx K) (tOp (rIx K) (tVar 0) (tC (.int 0))) (tOp (rIx K) (tVar 0) (tC (.int 1)))) (gName 2))
    (tSeq (tAsg (tOp (rI0 fun i j => .int (i + j)) (tOp (rIx K) (tVar 0) (tC (.int 1))) (tC (.int 1))) (gSub (tVar 0) (tC (.int 1)) rSetL))
    (tSeq (tIfS (tTest (tOp (rI0 fun i j => .bl (decide (i < j))) (tVar 2) (tOp (rI CPow fun i j => .int (i ^ j.toNat)) (tC (.int 10)) (tC (.int 18))))) (tRet (tOp (rI (fun _ j => 0 < j) fun i j => .int (i % j)) (tCB (fun xs H Q => (∃ i, xs = [.int i] ∧ Q (.int i) H) ∨ ∃ k, xs = [.bl k] ∧ Q (.int (if k then 1 else 0)) H) (tCons (tCall (sp_u_law_mix K) [] E0 (tCons (tOp (rI (fun _ j => 0 < j) fun i j => .int (i % j)) (tCB (fun xs H Q => (∃ i, xs = [.int i] ∧ Q (.int i) H) ∨ ∃ k, xs = [.bl k] ∧ Q (.int (if k then 1 else 0)) H) (tCons (tVar 2) tNil)) (tC (.int 2147483647))) (tCons (tOp (rIx K) (tVar 0) (tC (.int 1))) tNil))) tNil)) (tVar 1))) tNext)
    (tAsg (tVar 2) (gSub (tVar 0) (tC (.int 2)) rSetL))))) tNext)
    (tSeq (tIfS (tTest (tOp (rI0 fun i j => .bl (decide (j < i))) (tOp (rIx K) (tVar 0) (tC (.int 2))) (tC (.int 0)))) (tSeq (tAsg (tOp (rIx K) (tVar 0) (tC (.int 2))) (gName 3))
    (tSeq (tAsg (tOp (rI CDivA fun i j => .int (i.fdiv j)) (tVar 3) (tVar 1)) (gSub (tVar 0) (tC (.int 2)) rSetL))
    (tRet (tOp (rI (fun _ j => 0 < j) fun i j => .int (i % j)) (tCB (fun xs H Q => (∃ i, xs = [.int i] ∧ Q (.int i) H) ∨ ∃ k, xs = [.bl k] ∧ Q (.int (if k then 1 else 0)) H) (tCons (tVar 3) tNil)) (tVar 1))))) tNext)
    (tSeq (tAsg (tOp (rI (fun _ j => 0 < j) fun i j => .int (i % j)) (tCB (fun xs H Q => (∃ i, xs = [.int i] ∧ Q (.int i) H) ∨ ∃ k, xs = [.bl k] ∧ Q (.int (if k then 1 else 0)) H) (tCons (tOp (rI0 fun i j => .int (i + j)) (tOp (rIx K) (tVar 0) (tC (.int 3))) (tC (.int 1))) tNil)) (tC (.int 2147483629))) (gSub (tVar 0) (tC (.int 3)) rSetL))
    (tRet (tOp (rI (fun _ j => 0 < j) fun i j => .int (i % j)) (tCB (fun xs H Q => (∃ i, xs = [.int i] ∧ Q (.int i) H) ∨ ∃ k, xs = [.bl k] ∧ Q (.int (if k then 1 else 0)) H) (tCons (tCall (sp_u_law_mix K) [] E0 (tCons (tOp (rIx K) (tVar 0) (tC (.int 3))) (tCons (tOp (rIx K) (tVar 0) (tC (.int 1))) tNil))) tNil)) (tVar 1))))))
theorem d_u_law_draw {P : Program} {w : World} {K : PySem.W.Frag} {mg : Str → Option Value} {base : Heap} {f : Addr} {cdv : Value} {A : Around} {outer : List Env} {s : Shared} {H : Hp} {E : XK} (T : Txt P w K mg base) (C_u_law_mix : Fd P w K mg base l_u_law_mix "_law_mix" ["_law_number", "_law_turn"] [] (sp_u_law_mix K))
    (hr : Room m_u_law_draw (A.deeper (envOfC "_law_draw" (defScope s_u_law_draw) s.heap.objs.size f cdv))) :
    PSs (cxOf (L2.CX P w) P w K mg base N_u_law_draw "_law_draw" (defScope s_u_law_draw) f cdv A outer s H E) (defBody s_u_law_draw) (t_u_law_draw K) :=
  (pss_cons (ps_if (PW.pt (pw_and (pt_cmpR (op_eqD hr.units) (pe_ix ix_seq (pv 0) pe_int (fun _ _ => rfl)) pe_int (nomark _)) (pw_and1 (pt_cmpR op_lt (pe_ix ix_seq (pv 0) pe_int (fun _ _ => rfl)) (pe_callB call_len_seq (by rfl) T.b_len (by decide +kernel) (pa_cons (pe_ix ix_seq (pv 0) pe_int (fun _ _ => rfl)) pa_nil)) (nomark _))))) (pss_cons (ps_set (i := 2) sc_u_law_draw.nd (by rfl) (Or.inl rfl) (pe_ix ix_seq (pe_ix ix_seq (pv 0) pe_int (fun _ _ => rfl)) (pe_ix ix_seq (pv 0) pe_int (fun _ _ => rfl)) (fun _ _ => rfl)))
    (pss_cons (ps_asg (pe_op op_add (pe_ix ix_seq (pv 0) pe_int (fun _ _ => rfl)) pe_int) (pg_sub (pv 0) pe_int set_list))
    (pss_cons (ps_if (pt_cmpR op_lt (pv 2) (pe_op op_pow pe_int pe_int) (nomark _)) (pss_one (ps_ret (pe_op op_mod (pe_callTy call_int1 (by rfl) T.b_int (by decide +kernel) (pa_cons (pe_fd C_u_law_mix (hr.mono (by decide)) (pa_cons (pe_op op_mod (pe_callTy call_int1 (by rfl) T.b_int (by decide +kernel) (pa_cons (pv 2) pa_nil)) pe_int) (pa_cons (pe_ix ix_seq (pv 0) pe_int (fun _ _ => rfl)) pa_nil))) pa_nil)) (pv 1)))) pss_nil)
    (pss_one (ps_asg (pv 2) (pg_sub (pv 0) pe_int set_list)))))) pss_nil)
    (pss_cons (ps_if (pt_cmpR op_gt (pe_ix ix_seq (pv 0) pe_int (fun _ _ => rfl)) pe_int (nomark _)) (pss_cons (ps_set (i := 3) sc_u_law_draw.nd (by rfl) (Or.inl rfl) (pe_ix ix_seq (pv 0) pe_int (fun _ _ => rfl)))
    (pss_cons (ps_asg (pe_op op_fdivA (pv 3) (pv 1)) (pg_sub (pv 0) pe_int set_list))
    (pss_one (ps_ret (pe_op op_mod (pe_callTy call_int1 (by rfl) T.b_int (by decide +kernel) (pa_cons (pv 3) pa_nil)) (pv 1)))))) pss_nil)
    (pss_cons (ps_asg (pe_op op_mod (pe_callTy call_int1 (by rfl) T.b_int (by decide +kernel) (pa_cons (pe_op op_add (pe_ix ix_seq (pv 0) pe_int (fun _ _ => rfl)) pe_int) pa_nil)) pe_int) (pg_sub (pv 0) pe_int set_list))
    (pss_one (ps_ret (pe_op op_mod (pe_callTy call_int1 (by rfl) T.b_int (by decide +kernel) (pa_cons (pe_fd C_u_law_mix (hr.mono (by decide)) (pa_cons (pe_ix ix_seq (pv 0) pe_int (fun _ _ => rfl)) (pa_cons (pe_ix ix_seq (pv 0) pe_int (fun _ _ => rfl)) pa_nil))) pa_nil)) (pv 1)))))))

abbrev s_u_law_told : Stmt := top 21
abbrev N_u_law_told : List Str := ["_law_deed", "_law_cells", "_law_reach_here", "_law_told_here", "e"]
theorem sc_u_law_told : FnScope N_u_law_told ["_law_deed", "_law_cells", "_law_reach_here"] (defScope s_u_law_told) := ⟨rfl, rfl, rfl, by decide +kernel, rfl, by decide +kernel, by decide +kernel⟩
def t_u_law_told (K : PySem.W.Frag) : TS :=
  (tSeq (tAsg (tTup (tCons (tC (.str "let")) tNil)) (gName 3))
    (tSeq (fun D σ H => (fun W => (tIfS (tTest (tOp (rEqD K) (tVar 0) (tC (.int 0)))) (tDrop (tCallS (sp_check_cells K) (WE W) (tCons (tVar 1) tNil))) (tIfS (tTest (tOp (rEqD K) (tVar 0) (tC (.int 1)))) (tDrop (tCallS (sp_grown_cells K) (WE W) (tCons (tVar 1) (tCons (tVar 2) tNil)))) (tDrop (tCallS (sp_shrunk_cells K) (WE W) (tCons (tVar 1) (tCons (tVar 2) tNil))))))) (wManyN K (fun _ _ _ _ => False) D [(.ref (He.ga K "BadCells"), some 4, fun a cls d => (tAsg (tTup (tCons (tC (.str "cells")) (tCons (tXf a cls d (He.ga K "BadCells") "index" (tVar 4)) (tCons (tXf a cls d (He.ga K "BadCells") "what" (tVar 4)) tNil)))) (gName 3))), (.ref (He.ga K "BadReach"), none, fun a cls d => (tAsg (tTup (tCons (tC (.str "reach")) tNil)) (gName 3)))]) D σ H)
    (tRet (tVar 3))))
theorem d_u_law_told {P : Program} {w : World} {K : PySem.W.Frag} {mg : Str → Option Value} {base : Heap} {f : Addr} {cdv : Value} {A : Around} {outer : List Env} {s : Shared} {H : Hp} {E : XK} (T : Txt P w K mg base) (C_check_cells : Fd P w K mg base l_check_cells "check_cells" ["cells"] [] (sp_check_cells K)) (C_grown_cells : Fd P w K mg base l_grown_cells "grown_cells" ["cells", "reach"] [] (sp_grown_cells K)) (C_shrunk_cells : Fd P w K mg base l_shrunk_cells "shrunk_cells" ["cells", "reach"] [] (sp_shrunk_cells K))
    (hr : Room m_u_law_told (A.deeper (envOfC "_law_told" (defScope s_u_law_told) s.heap.objs.size f cdv))) :
    PSs (cxOf (L2.CX P w) P w K mg base N_u_law_told "_law_told" (defScope s_u_law_told) f cdv A outer s H E) (defBody s_u_law_told) (t_u_law_told K) :=
  (pss_cons (ps_set (i := 3) sc_u_law_told.nd (by rfl) (Or.inl rfl) (pe_tup (pa_cons pe_str pa_nil)))
    (pss_cons (ps_try_manyN rfl rfl takes0 (fun W pn xe tk hp => (pss_one (ps_if (pt_cmpR (op_eqD hr.units) (pv 0) pe_int (nomark _)) (pss_one (ps_expr (pe_fdS C_check_cells (hr.mono (by decide)) tk (pa_cons (pv 1) pa_nil)))) (pss_one (ps_if (pt_cmpR (op_eqD hr.units) (pv 0) pe_int (nomark _)) (pss_one (ps_expr (pe_fdS C_grown_cells (hr.mono (by decide)) tk (pa_cons (pv 1) (pa_cons (pv 2) pa_nil))))) (pss_one (ps_expr (pe_fdS C_shrunk_cells (hr.mono (by decide)) tk (pa_cons (pv 1) (pa_cons (pv 2) pa_nil)))))))))) (.named (i := 4) sc_u_law_told.nd (by rfl) (by rfl) ⟨by rfl, by decide, .inl T.g_BadCells⟩ (fun a oe cls d pn hz hf => (pss_one (ps_set (i := 3) sc_u_law_told.nd (by rfl) (Or.inl rfl) (pe_tup (pa_cons pe_str (pa_cons (pe_xf T.xf_BadCells T.no_BadCells_index hz hf (pv 4)) (pa_cons (pe_xf T.xf_BadCells T.no_BadCells_what hz hf (pv 4)) pa_nil))))))) (.cons ⟨by rfl, by decide, .inl T.g_BadReach⟩ (fun a oe cls d pn hz hf => (pss_one (ps_set (i := 3) sc_u_law_told.nd (by rfl) (Or.inl rfl) (pe_tup (pa_cons pe_str pa_nil))))) .nil)))
    (pss_one (ps_ret (pv 3)))))

abbrev s_u_law_axis : Stmt := top 22
abbrev N_u_law_axis : List Str := ["_law_axis_here", "_law_told_here", "e"]
theorem sc_u_law_axis : FnScope N_u_law_axis ["_law_axis_here"] (defScope s_u_law_axis) := ⟨rfl, rfl, rfl, by decide +kernel, rfl, by decide +kernel, by decide +kernel⟩
def t_u_law_axis (K : PySem.W.Frag) : TS :=
  (tSeq (tAsg (tTup (tCons (tC (.str "let")) tNil)) (gName 1))
    (tSeq (fun D σ H => (fun W => (tAsg (tTup (tCons (tC (.str "let")) (tCons (tCallS (sp_check_axis K) (WE W) (tCons (tVar 0) tNil)) tNil))) (gName 1))) (wAs K (.ref (He.ga K "BadAxis")) 2 (fun a cls d => (tAsg (tTup (tCons (tC (.str "axis")) (tCons (tXf a cls d (He.ga K "BadAxis") "axis" (tVar 2)) tNil))) (gName 1))) (fun _ _ _ _ => False) D) D σ H)
    (tRet (tVar 1))))
theorem d_u_law_axis {P : Program} {w : World} {K : PySem.W.Frag} {mg : Str → Option Value} {base : Heap} {f : Addr} {cdv : Value} {A : Around} {outer : List Env} {s : Shared} {H : Hp} {E : XK} (T : Txt P w K mg base) (C_check_axis : Fd P w K mg base l_check_axis "check_axis" ["axis"] [] (sp_check_axis K))
    (hr : Room m_u_law_axis (A.deeper (envOfC "_law_axis" (defScope s_u_law_axis) s.heap.objs.size f cdv))) :
    PSs (cxOf (L2.CX P w) P w K mg base N_u_law_axis "_law_axis" (defScope s_u_law_axis) f cdv A outer s H E) (defBody s_u_law_axis) (t_u_law_axis K) :=
  (pss_cons (ps_set (i := 1) sc_u_law_axis.nd (by rfl) (Or.inl rfl) (pe_tup (pa_cons pe_str pa_nil)))
    (pss_cons (ps_try_as (i := 2) rfl rfl sc_u_law_axis.nd (by rfl) (by rfl) ⟨by rfl, by decide, .inl T.g_BadAxis⟩ takes0 (fun W pn xe tk hp => (pss_one (ps_set (i := 1) sc_u_law_axis.nd (by rfl) (Or.inl rfl) (pe_tup (pa_cons pe_str (pa_cons (pe_fdS C_check_axis (hr.mono (by decide)) tk (pa_cons (pv 0) pa_nil)) pa_nil)))))) (fun a oe cls d pn hz hf => (pss_one (ps_set (i := 1) sc_u_law_axis.nd (by rfl) (Or.inl rfl) (pe_tup (pa_cons pe_str (pa_cons (pe_xf T.xf_BadAxis T.no_BadAxis_axis hz hf (pv 2)) pa_nil)))))))
    (pss_one (ps_ret (pv 1)))))

abbrev s_u_law_reach : Stmt := top 23
abbrev N_u_law_reach : List Str := ["_law_reach_here", "_law_cell", "_law_told_here"]
theorem sc_u_law_reach : FnScope N_u_law_reach ["_law_reach_here", "_law_cell"] (defScope s_u_law_reach) := ⟨rfl, rfl, rfl, by decide +kernel, rfl, by decide +kernel, by decide +kernel⟩
def t_u_law_reach (K : PySem.W.Frag) : TS :=
  (tSeq (tAsg (tLst tNil) (gName 2))
    (tSeq (fun D σ H => (fun W => (tDrop (tBM K "list" rAppend (tVar 2) (tCons (tCallS (sp_check_reach K) (WE W) (tCons (tVar 0) tNil)) tNil)))) (wManyN K (fun _ _ _ _ => False) D [(.ref (He.ga K "BadReach"), none, fun a cls d => (tDrop (tBM K "list" rAppend (tVar 2) (tCons (tC (.str "bad")) tNil))))]) D σ H)
    (tSeq (fun D σ H => (fun W => (tDrop (tBM K "list" rAppend (tVar 2) (tCons (tCB (Evl.rLenS K) (tCons (tCallS (sp_near_cells K) (WE W) (tCons (tVar 1) (tCons (tVar 0) tNil))) tNil)) tNil)))) (wManyN K (fun _ _ _ _ => False) D [(.ref (He.ga K "BadReach"), none, fun a cls d => (tDrop (tBM K "list" rAppend (tVar 2) (tCons (tC (.str "bad")) tNil))))]) D σ H)
    (tRet (tVar 2)))))
theorem d_u_law_reach {P : Program} {w : World} {K : PySem.W.Frag} {mg : Str → Option Value} {base : Heap} {f : Addr} {cdv : Value} {A : Around} {outer : List Env} {s : Shared} {H : Hp} {E : XK} (T : Txt P w K mg base) (C_check_reach : Fd P w K mg base l_check_reach "check_reach" ["reach"] [] (sp_check_reach K)) (C_near_cells : Fd P w K mg base l_near_cells "near_cells" ["cell", "reach"] [] (sp_near_cells K))
    (hr : Room m_u_law_reach (A.deeper (envOfC "_law_reach" (defScope s_u_law_reach) s.heap.objs.size f cdv))) :
    PSs (cxOf (L2.CX P w) P w K mg base N_u_law_reach "_law_reach" (defScope s_u_law_reach) f cdv A outer s H E) (defBody s_u_law_reach) (t_u_law_reach K) :=
  (pss_cons (ps_set (i := 2) sc_u_law_reach.nd (by rfl) (Or.inl rfl) (pe_lst pa_nil))
    (pss_cons (ps_try_manyN (X := cxOf (L2.CX P w) P w K mg base N_u_law_reach "_law_reach" (defScope s_u_law_reach) f cdv A outer s H E) (tb := fun W => (tDrop (tBM K "list" rAppend (tVar 2) (tCons (tCallS (sp_check_reach K) (WE W) (tCons (tVar 0) tNil)) tNil)))) rfl rfl takes0 (fun W pn xe tk hp => (pss_one (ps_expr (pe_bm PySem.F.plainAttrs_list PySem.F.slot_list_append PySem.F.type_list_append mt_append (pv 2) (pa_cons (pe_fdS C_check_reach (hr.mono (by decide)) tk (pa_cons (pv 0) pa_nil)) pa_nil))))) (.cons ⟨by rfl, by decide, .inl T.g_BadReach⟩ (fun a oe cls d pn hz hf => (pss_one (ps_expr (pe_bm PySem.F.plainAttrs_list PySem.F.slot_list_append PySem.F.type_list_append mt_append (pv 2) (pa_cons pe_str pa_nil))))) .nil))
    (pss_cons (ps_try_manyN (X := cxOf (L2.CX P w) P w K mg base N_u_law_reach "_law_reach" (defScope s_u_law_reach) f cdv A outer s H E) (tb := fun W => (tDrop (tBM K "list" rAppend (tVar 2) (tCons (tCB (Evl.rLenS K) (tCons (tCallS (sp_near_cells K) (WE W) (tCons (tVar 1) (tCons (tVar 0) tNil))) tNil)) tNil)))) rfl rfl takes0 (fun W pn xe tk hp => (pss_one (ps_expr (pe_bm PySem.F.plainAttrs_list PySem.F.slot_list_append PySem.F.type_list_append mt_append (pv 2) (pa_cons (pe_callB call_len_seq (by rfl) T.b_len (by decide +kernel) (pa_cons (pe_fdS C_near_cells (hr.mono (by decide)) tk (pa_cons (pv 1) (pa_cons (pv 0) pa_nil))) pa_nil)) pa_nil))))) (.cons ⟨by rfl, by decide, .inl T.g_BadReach⟩ (fun a oe cls d pn hz hf => (pss_one (ps_expr (pe_bm PySem.F.plainAttrs_list PySem.F.slot_list_append PySem.F.type_list_append mt_append (pv 2) (pa_cons pe_str pa_nil))))) .nil))
    (pss_one (ps_ret (pv 2))))))

abbrev s_u_law_odd_cell : Stmt := top 24
abbrev N_u_law_odd_cell : List Str := ["_law_hand_here", "_law_cell", "_law_x", "_law_y", "_law_far", "_law_rows"]
theorem sc_u_law_odd_cell : FnScope N_u_law_odd_cell ["_law_hand_here", "_law_cell"] (defScope s_u_law_odd_cell) := ⟨rfl, rfl, rfl, by decide +kernel, rfl, by decide +kernel, by decide +kernel⟩
def t_u_law_odd_cell (K : PySem.W.Frag) : TS :=
  (tSeq (tAsg (tVar 1) (gTup K 2 (gCons (gName 2) (gCons (gName 3) gNil))))
    (tSeq (tAsg (tOp (rI0 fun i j => .int (i + j)) (tC (.int 21)) (tCall (sp_u_law_draw K) [] E0 (tCons (tVar 0) (tCons (tOp (rI CPow fun i j => .int (i ^ j.toNat)) (tC (.int 10)) (tC (.int 9))) tNil)))) (gName 4))
    (tSeq (tAsg (tLst (tCons (tTup (tCons (tVar 2) tNil)) (tCons (tTup (tCons (tVar 2) (tCons (tVar 3) (tCons (tC (.int 0)) tNil)))) (tCons (tLst (tCons (tVar 2) (tCons (tVar 3) (tCons (tVar 3) tNil)))) (tCons (tTup (tCons (tC (.bl true)) (tCons (tVar 3) tNil))) (tCons (tTup (tCons (tVar 2) (tCons (tC (.bl false)) tNil))) (tCons (tTup (tCons (tVar 4) (tCons (tVar 3) tNil))) (tCons (tTup (tCons (tVar 2) (tCons (tUn (rU fun i => .int (-i)) (tVar 4)) tNil))) (tCons (tTup (tCons (tC (.int 21)) (tCons (tVar 3) tNil))) (tCons (tTup (tCons (tVar 2) (tCons (tUn (rU fun i => .int (-i)) (tC (.int 21))) tNil))) (tCons (tC .non) (tCons (tC (.str "12")) (tCons (tTup (tCons (tTup (tCons (tVar 2) (tCons (tC (.int 1)) tNil))) (tCons (tVar 3) tNil))) (tCons (tVar 2) (tCons (tLst tNil) (tCons (tLst (tCons (tVar 2) (tCons (tC (.str "1")) tNil))) (tCons (tDisp [((tVar 2), (tVar 3)), ((tC (.int 30)), (tC (.int 1)))]) tNil))))))))))))))))) (gName 5))
    (tRet (tOp (rIx K) (tVar 5) (tCall (sp_u_law_draw K) [] E0 (tCons (tVar 0) (tCons (tCB (Evl.rLenS K) (tCons (tVar 5) tNil)) tNil))))))))
theorem d_u_law_odd_cell {P : Program} {w : World} {K : PySem.W.Frag} {mg : Str → Option Value} {base : Heap} {f : Addr} {cdv : Value} {A : Around} {outer : List Env} {s : Shared} {H : Hp} {E : XK} (T : Txt P w K mg base) (C_u_law_draw : Fd P w K mg base l_u_law_draw "_law_draw" ["_law_hand_here", "_law_many"] [] (sp_u_law_draw K))
    (hr : Room m_u_law_odd_cell (A.deeper (envOfC "_law_odd_cell" (defScope s_u_law_odd_cell) s.heap.objs.size f cdv))) :
    PSs (cxOf (L2.CX P w) P w K mg base N_u_law_odd_cell "_law_odd_cell" (defScope s_u_law_odd_cell) f cdv A outer s H E) (defBody s_u_law_odd_cell) (t_u_law_odd_cell K) :=
  (pss_cons (ps_asg (pv 1) (pg_tup (by rfl) (pgs_cons (pg_name (i := 2) sc_u_law_odd_cell.nd (by rfl) (Or.inl rfl)) (pgs_cons (pg_name (i := 3) sc_u_law_odd_cell.nd (by rfl) (Or.inl rfl)) pgs_nil))))
    (pss_cons (ps_set (i := 4) sc_u_law_odd_cell.nd (by rfl) (Or.inl rfl) (pe_op op_add pe_int (pe_fd C_u_law_draw (hr.mono (by decide)) (pa_cons (pv 0) (pa_cons (pe_op op_pow pe_int pe_int) pa_nil)))))
    (pss_cons (ps_set (i := 5) sc_u_law_odd_cell.nd (by rfl) (Or.inl rfl) (pe_lst (pa_cons (pe_tup (pa_cons (pv 2) pa_nil)) (pa_cons (pe_tup (pa_cons (pv 2) (pa_cons (pv 3) (pa_cons pe_int pa_nil)))) (pa_cons (pe_lst (pa_cons (pv 2) (pa_cons (pv 3) (pa_cons (pv 3) pa_nil)))) (pa_cons (pe_tup (pa_cons pe_bl (pa_cons (pv 3) pa_nil))) (pa_cons (pe_tup (pa_cons (pv 2) (pa_cons pe_bl pa_nil))) (pa_cons (pe_tup (pa_cons (pv 4) (pa_cons (pv 3) pa_nil))) (pa_cons (pe_tup (pa_cons (pv 2) (pa_cons (pe_un un_neg (pv 4)) pa_nil))) (pa_cons (pe_tup (pa_cons pe_int (pa_cons (pv 3) pa_nil))) (pa_cons (pe_tup (pa_cons (pv 2) (pa_cons (pe_un un_neg pe_int) pa_nil))) (pa_cons pe_non (pa_cons pe_str (pa_cons (pe_tup (pa_cons (pe_tup (pa_cons (pv 2) (pa_cons pe_int pa_nil))) (pa_cons (pv 3) pa_nil))) (pa_cons (pv 2) (pa_cons (pe_lst pa_nil) (pa_cons (pe_lst (pa_cons (pv 2) (pa_cons pe_str pa_nil))) (pa_cons (pe_disp (pps_cons (pv 2) (pv 3) (pps_cons pe_int pe_int pps_nil)) (by rfl) (by rfl) (by simp) (by decide)) pa_nil))))))))))))))))))
    (pss_one (ps_ret (pe_ix ix_seq (pv 5) (pe_fd C_u_law_draw (hr.mono (by decide)) (pa_cons (pv 0) (pa_cons (pe_callB call_len_seq (by rfl) T.b_len (by decide +kernel) (pa_cons (pv 5) pa_nil)) pa_nil))) (fun _ _ => rfl)))))))

abbrev s_u_law_odd_reach : Stmt := top 25
abbrev N_u_law_odd_reach : List Str := ["_law_hand_here", "_law_big", "_law_rows"]
theorem sc_u_law_odd_reach : FnScope N_u_law_odd_reach ["_law_hand_here"] (defScope s_u_law_odd_reach) := ⟨rfl, rfl, rfl, by decide +kernel, rfl, by decide +kernel, by decide +kernel⟩
def t_u_law_odd_reach (K : PySem.W.Frag) : TS :=
  (tSeq (tAsg (tOp (rI0 fun i j => .int (i + j)) (tC (.int 3)) (tCall (sp_u_law_draw K) [] E0 (tCons (tVar 0) (tCons (tOp (rI CPow fun i j => .int (i ^ j.toNat)) (tC (.int 10)) (tC (.int 9))) tNil)))) (gName 1))
    (tSeq (tAsg (tLst (tCons (tTup (tCons (tC (.int 1)) tNil)) (tCons (tTup (tCons (tC (.int 1)) (tCons (tC (.int 1)) (tCons (tC (.int 1)) tNil)))) (tCons (tTup (tCons (tC (.bl true)) (tCons (tC (.int 1)) tNil))) (tCons (tTup (tCons (tC (.int 1)) (tCons (tC (.bl false)) tNil))) (tCons (tTup (tCons (tVar 1) (tCons (tC (.int 0)) tNil))) (tCons (tTup (tCons (tC (.int 0)) (tCons (tVar 1) tNil))) (tCons (tTup (tCons (tUn (rU fun i => .int (-i)) (tC (.int 1))) (tCons (tC (.int 1)) tNil))) (tCons (tTup (tCons (tC (.int 2)) (tCons (tUn (rU fun i => .int (-i)) (tC (.int 1))) tNil))) (tCons (tC .non) (tCons (tC (.str "11")) (tCons (tC (.int 1)) (tCons (tLst (tCons (tC (.int 0)) (tCons (tC .non) tNil))) (tCons (tLst tNil) tNil)))))))))))))) (gName 2))
    (tRet (tOp (rIx K) (tVar 2) (tCall (sp_u_law_draw K) [] E0 (tCons (tVar 0) (tCons (tCB (Evl.rLenS K) (tCons (tVar 2) tNil)) tNil)))))))
theorem d_u_law_odd_reach {P : Program} {w : World} {K : PySem.W.Frag} {mg : Str → Option Value} {base : Heap} {f : Addr} {cdv : Value} {A : Around} {outer : List Env} {s : Shared} {H : Hp} {E : XK} (T : Txt P w K mg base) (C_u_law_draw : Fd P w K mg base l_u_law_draw "_law_draw" ["_law_hand_here", "_law_many"] [] (sp_u_law_draw K))
    (hr : Room m_u_law_odd_reach (A.deeper (envOfC "_law_odd_reach" (defScope s_u_law_odd_reach) s.heap.objs.size f cdv))) :
    PSs (cxOf (L2.CX P w) P w K mg base N_u_law_odd_reach "_law_odd_reach" (defScope s_u_law_odd_reach) f cdv A outer s H E) (defBody s_u_law_odd_reach) (t_u_law_odd_reach K) :=
  (pss_cons (ps_set (i := 1) sc_u_law_odd_reach.nd (by rfl) (Or.inl rfl) (pe_op op_add pe_int (pe_fd C_u_law_draw (hr.mono (by decide)) (pa_cons (pv 0) (pa_cons (pe_op op_pow pe_int pe_int) pa_nil)))))
    (pss_cons (ps_set (i := 2) sc_u_law_odd_reach.nd (by rfl) (Or.inl rfl) (pe_lst (pa_cons (pe_tup (pa_cons pe_int pa_nil)) (pa_cons (pe_tup (pa_cons pe_int (pa_cons pe_int (pa_cons pe_int pa_nil)))) (pa_cons (pe_tup (pa_cons pe_bl (pa_cons pe_int pa_nil))) (pa_cons (pe_tup (pa_cons pe_int (pa_cons pe_bl pa_nil))) (pa_cons (pe_tup (pa_cons (pv 1) (pa_cons pe_int pa_nil))) (pa_cons (pe_tup (pa_cons pe_int (pa_cons (pv 1) pa_nil))) (pa_cons (pe_tup (pa_cons (pe_un un_neg pe_int) (pa_cons pe_int pa_nil))) (pa_cons (pe_tup (pa_cons pe_int (pa_cons (pe_un un_neg pe_int) pa_nil))) (pa_cons pe_non (pa_cons pe_str (pa_cons pe_int (pa_cons (pe_lst (pa_cons pe_int (pa_cons pe_non pa_nil))) (pa_cons (pe_lst pa_nil) pa_nil)))))))))))))))
    (pss_one (ps_ret (pe_ix ix_seq (pv 2) (pe_fd C_u_law_draw (hr.mono (by decide)) (pa_cons (pv 0) (pa_cons (pe_callB call_len_seq (by rfl) T.b_len (by decide +kernel) (pa_cons (pv 2) pa_nil)) pa_nil))) (fun _ _ => rfl))))))

abbrev s_law : Stmt := top 26
abbrev N_law : List Str := ["_law_script", "_law_hand_here", "_law_many", "_law_cells", "_law_k", "_law_good", "_law_bad", "_law_at", "_law_late", "_law_given", "_law_first", "_law_deed", "_law_long", "_law_none", "_law_axis_here", "_law_truth", "_law_area"]
theorem sc_law : FnScope N_law ["_law_script"] (defScope s_law) := ⟨rfl, rfl, rfl, by decide +kernel, rfl, by decide +kernel, by decide +kernel⟩
def t_law (K : PySem.W.Frag) : TS :=
  (tSeq (tAsg (tCall (sp_u_law_hand K) [] E0 (tCons (tVar 0) tNil)) (gName 1))
    (tSeq (tAsg (tOp (rIx K) (tTup (tCons (tC (.int 1)) (tCons (tC (.int 2)) (tCons (tC (.int 3)) (tCons (tC (.int 5)) (tCons (tC (.int 99)) (tCons (tC (.int 100)) tNil))))))) (tCall (sp_u_law_draw K) [] E0 (tCons (tVar 1) (tCons (tC (.int 6)) tNil)))) (gName 2))
    (tSeq (tAsg (tLst tNil) (gName 3))
    (tSeq (tFor (iRng1 (tCons (tVar 2) tNil)) (gName 4) (tDrop (tBM K "list" rAppend (tVar 3) (tCons (tTup (tCons (tOp (rI0 fun i j => .int (i - j)) (tCall (sp_u_law_draw K) [] E0 (tCons (tVar 1) (tCons (tC (.int 41)) tNil))) (tC (.int 20))) (tCons (tOp (rI0 fun i j => .int (i - j)) (tCall (sp_u_law_draw K) [] E0 (tCons (tVar 1) (tCons (tC (.int 41)) tNil))) (tC (.int 20))) tNil))) tNil))))
    (tSeq (tAsg (tTup (tCons (tCall (sp_u_law_draw K) [] E0 (tCons (tVar 1) (tCons (tC (.int 3)) tNil))) (tCons (tCall (sp_u_law_draw K) [] E0 (tCons (tVar 1) (tCons (tC (.int 3)) tNil))) tNil))) (gName 5))
    (tSeq (tAsg (tCall (sp_u_law_odd_reach K) [] E0 (tCons (tVar 1) tNil)) (gName 6))
    (tSeq (tAsg (tCall (sp_u_law_draw K) [] E0 (tCons (tVar 1) (tCons (tVar 2) tNil))) (gName 7))
    (tSeq (tAsg (tCall (sp_u_law_draw K) [] E0 (tCons (tVar 1) (tCons (tVar 2) tNil))) (gName 8))
    (tSeq (tAsg (tCB (Evl.rListS K) (tCons (tVar 3) tNil)) (gName 9))
    (tSeq (tAsg (tCall (sp_u_law_odd_cell K) [] E0 (tCons (tVar 1) (tCons (tOp (rIx K) (tVar 3) (tVar 8)) tNil))) (gSub (tVar 9) (tVar 8) rSetL))
    (tSeq (tAsg (tCall (sp_u_law_odd_cell K) [] E0 (tCons (tVar 1) (tCons (tOp (rIx K) (tVar 3) (tVar 7)) tNil))) (gSub (tVar 9) (tVar 7) rSetL))
    (tSeq (tAsg (tCB (fun xs H Q => ∃ i j, xs = [.int i, .int j] ∧ Q (.int (if j < i then j else i)) H) (tCons (tVar 7) (tCons (tVar 8) tNil))) (gName 10))
    (tSeq (tIfS (tOr (tTest (tOp rNotB (tCall (sp_is_cell K) [] E0 (tCons (tOp (rIx K) (tVar 9) (tVar 7)) tNil)) (tC (.bl false)))) (tTest (tOp rNotB (tCall (sp_is_cell K) [] E0 (tCons (tOp (rIx K) (tVar 3) (tVar 7)) tNil)) (tC (.bl true))))) (tRet (tC (.bl false))) tNext)
    (tSeq (tFor (iRng1 (tCons (tC (.int 3)) tNil)) (gName 11) (tSeq (tIfS (tOr (tTest (tOp (rNeD K) (tCall (sp_u_law_told K) [] E0 (tCons (tVar 11) (tCons (tVar 9) (tCons (tVar 5) tNil)))) (tTup (tCons (tC (.str "cells")) (tCons (tVar 10) (tCons (tC (.str "cell")) tNil)))))) (tTest (tOp (rNeD K) (tCall (sp_u_law_told K) [] E0 (tCons (tVar 11) (tCons (tCB (rTupleOf K) (tCons (tVar 9) tNil)) (tCons (tVar 6) tNil)))) (tTup (tCons (tC (.str "cells")) (tCons (tVar 10) (tCons (tC (.str "cell")) tNil))))))) (tRet (tC (.bl false))) tNext)
    (tSeq (tIfS (tTest (tOp (rNeD K) (tCall (sp_u_law_told K) [] E0 (tCons (tVar 11) (tCons (tVar 3) (tCons (tVar 5) tNil)))) (tTup (tCons (tC (.str "let")) tNil)))) (tRet (tC (.bl false))) tNext)
    (tSeq (tIfS (tAnd (tTest (tOp (rI0 fun i j => .bl (decide (j < i))) (tVar 11) (tC (.int 0)))) (tTest (tOp (rNeD K) (tCall (sp_u_law_told K) [] E0 (tCons (tVar 11) (tCons (tVar 3) (tCons (tVar 6) tNil)))) (tTup (tCons (tC (.str "reach")) tNil))))) (tRet (tC (.bl false))) tNext)
    (tSeq (tAsg (tOp rCat (tVar 3) (tOp rRep (tLst (tCons (tOp (rIx K) (tVar 3) (tC (.int 0))) tNil)) (tOp (rI0 fun i j => .int (i - j)) (tC (.int 101)) (tVar 2)))) (gName 12))
    (tSeq (tIfS (tOr (tTest (tOp (rNeD K) (tCall (sp_u_law_told K) [] E0 (tCons (tVar 11) (tCons (tVar 12) (tCons (tVar 6) tNil)))) (tTup (tCons (tC (.str "cells")) (tCons (tC (.int 0)) (tCons (tC (.str "many")) tNil)))))) (tTest (tOp (rNeD K) (tCall (sp_u_law_told K) [] E0 (tCons (tVar 11) (tCons (tOp rRep (tLst (tCons (tC .non) tNil)) (tC (.int 101))) (tCons (tVar 5) tNil)))) (tTup (tCons (tC (.str "cells")) (tCons (tC (.int 0)) (tCons (tC (.str "many")) tNil))))))) (tRet (tC (.bl false))) tNext)
    (tSeq (tAsg (tOp (rIx K) (tTup (tCons (tC .non) (tCons (tC (.str "12")) (tCons (tC (.int 5)) (tCons (tDispT (tTup (tCons (tC (.int 1)) (tCons (tC (.int 1)) tNil))) (tC (.int 2))) (tCons (tC (.bl true)) tNil)))))) (tCall (sp_u_law_draw K) [] E0 (tCons (tVar 1) (tCons (tC (.int 5)) tNil)))) (gName 13))
    (tIfS (tOr (tTest (tOp (rNeD K) (tCall (sp_u_law_told K) [] E0 (tCons (tVar 11) (tCons (tVar 13) (tCons (tVar 5) tNil)))) (tTup (tCons (tC (.str "cells")) (tCons (tC (.int 0)) (tCons (tC (.str "many")) tNil)))))) (tTest (tOp (rNeD K) (tCall (sp_u_law_told K) [] E0 (tCons (tVar 11) (tCons (tSl (rSlL K) (tVar 12) tNoPart (tPart (tC (.int 100)))) (tCons (tVar 5) tNil)))) (tTup (tCons (tC (.str "let")) tNil))))) (tRet (tC (.bl false))) tNext))))))))
    (tSeq (tFor (iSeq K (tLst (tCons (tOp (rI0 fun i j => .int (i + j)) (tC (.int 2)) (tCall (sp_u_law_draw K) [] E0 (tCons (tVar 1) (tCons (tOp (rI CPow fun i j => .int (i ^ j.toNat)) (tC (.int 10)) (tC (.int 9))) tNil)))) (tCons (tOp (rI0 fun i j => .int (i - j)) (tUn (rU fun i => .int (-i)) (tC (.int 1))) (tCall (sp_u_law_draw K) [] E0 (tCons (tVar 1) (tCons (tOp (rI CPow fun i j => .int (i ^ j.toNat)) (tC (.int 10)) (tC (.int 9))) tNil)))) (tCons (tC .non) (tCons (tC (.str "0")) (tCons (tTup (tCons (tC (.int 0)) tNil)) tNil))))))) (gName 14) (tIfS (tTest (tOp (rNeD K) (tCall (sp_u_law_axis K) [] E0 (tCons (tVar 14) tNil)) (tTup (tCons (tC (.str "axis")) (tCons (tVar 14) tNil))))) (tRet (tC (.bl false))) tNext))
    (tSeq (tAsg (tCall (sp_u_law_axis K) [] E0 (tCons (tOp (rEqD K) (tCall (sp_u_law_draw K) [] E0 (tCons (tVar 1) (tCons (tC (.int 2)) tNil))) (tC (.int 1))) tNil)) (gName 15))
    (tSeq (tIfS (tOr (tTest (tOp (rNeD K) (tOp (rIx K) (tVar 15) (tC (.int 0))) (tC (.str "axis")))) (tOr (tTest (tOp (rNeD K) (tCall (sp_u_law_axis K) [] E0 (tCons (tC (.int 0)) tNil)) (tTup (tCons (tC (.str "let")) (tCons (tC (.int 0)) tNil))))) (tTest (tOp (rNeD K) (tCall (sp_u_law_axis K) [] E0 (tCons (tC (.int 1)) tNil)) (tTup (tCons (tC (.str "let")) (tCons (tC (.int 1)) tNil))))))) (tRet (tC (.bl false))) tNext)
    (tSeq (tAsg (tOp (rI CMulW fun i j => .int (i * j)) (tOp (rI0 fun i j => .int (i + j)) (tOp (rI CMulW fun i j => .int (i * j)) (tC (.int 2)) (tOp (rIx K) (tVar 5) (tC (.int 0)))) (tC (.int 1))) (tOp (rI0 fun i j => .int (i + j)) (tOp (rI CMulW fun i j => .int (i * j)) (tC (.int 2)) (tOp (rIx K) (tVar 5) (tC (.int 1)))) (tC (.int 1)))) (gName 16))
    (tRet (tAndV (tOp (rEqD K) (tCall (sp_u_law_reach K) [] E0 (tCons (tCB (Evl.rListS K) (tCons (tVar 5) tNil)) (tCons (tOp (rIx K) (tVar 3) (tVar 7)) tNil))) (tLst (tCons (tVar 5) (tCons (tVar 16) tNil)))) (tOp (rEqD K) (tCall (sp_u_law_reach K) [] E0 (tCons (tVar 6) (tCons (tOp (rIx K) (tVar 3) (tVar 7)) tNil))) (tLst (tCons (tC (.str "bad")) (tCons (tC (.str "bad")) tNil))))))))))))))))))))))))
theorem d_law {P : Program} {w : World} {K : PySem.W.Frag} {mg : Str → Option Value} {base : Heap} {f : Addr} {cdv : Value} {A : Around} {outer : List Env} {s : Shared} {H : Hp} {E : XK} (T : Txt P w K mg base) (C_u_law_hand : Fd P w K mg base l_u_law_hand "_law_hand" ["_law_script"] [] (sp_u_law_hand K)) (C_u_law_draw : Fd P w K mg base l_u_law_draw "_law_draw" ["_law_hand_here", "_law_many"] [] (sp_u_law_draw K)) (C_u_law_odd_reach : Fd P w K mg base l_u_law_odd_reach "_law_odd_reach" ["_law_hand_here"] [] (sp_u_law_odd_reach K)) (C_u_law_odd_cell : Fd P w K mg base l_u_law_odd_cell "_law_odd_cell" ["_law_hand_here", "_law_cell"] [] (sp_u_law_odd_cell K)) (C_is_cell : Fd P w K mg base l_is_cell "is_cell" ["thing"] [] (sp_is_cell K)) (C_u_law_told : Fd P w K mg base l_u_law_told "_law_told" ["_law_deed", "_law_cells", "_law_reach_here"] [] (sp_u_law_told K)) (C_u_law_axis : Fd P w K mg base l_u_law_axis "_law_axis" ["_law_axis_here"] [] (sp_u_law_axis K)) (C_u_law_reach : Fd P w K mg base l_u_law_reach "_law_reach" ["_law_reach_here", "_law_cell"] [] (sp_u_law_reach K))
    (hr : Room m_law (A.deeper (envOfC "law" (defScope s_law) s.heap.objs.size f cdv))) :
    PSs (cxOf (L2.CX P w) P w K mg base N_law "law" (defScope s_law) f cdv A outer s H E) (defBody s_law) (t_law K) :=
  (pss_cons (ps_set (i := 1) sc_law.nd (by rfl) (Or.inl rfl) (pe_fd C_u_law_hand (hr.mono (by decide)) (pa_cons (pv 0) pa_nil)))
    (pss_cons (ps_set (i := 2) sc_law.nd (by rfl) (Or.inl rfl) (pe_ix ix_seq (pe_tup (pa_cons pe_int (pa_cons pe_int (pa_cons pe_int (pa_cons pe_int (pa_cons pe_int (pa_cons pe_int pa_nil))))))) (pe_fd C_u_law_draw (hr.mono (by decide)) (pa_cons (pv 1) (pa_cons pe_int pa_nil))) (fun _ _ => rfl)))
    (pss_cons (ps_set (i := 3) sc_law.nd (by rfl) (Or.inl rfl) (pe_lst pa_nil))
    (pss_cons (ps_for (passes_of rfl) rfl (pi_range1 (by rfl) T.b_range (pa_cons (pv 2) pa_nil)) (pg_name (i := 4) sc_law.nd (by rfl) (Or.inl rfl)) (pss_one (ps_expr (pe_bm PySem.F.plainAttrs_list PySem.F.slot_list_append PySem.F.type_list_append mt_append (pv 3) (pa_cons (pe_tup (pa_cons (pe_op op_sub (pe_fd C_u_law_draw (hr.mono (by decide)) (pa_cons (pv 1) (pa_cons pe_int pa_nil))) pe_int) (pa_cons (pe_op op_sub (pe_fd C_u_law_draw (hr.mono (by decide)) (pa_cons (pv 1) (pa_cons pe_int pa_nil))) pe_int) pa_nil))) pa_nil)))))
    (pss_cons (ps_set (i := 5) sc_law.nd (by rfl) (Or.inl rfl) (pe_tup (pa_cons (pe_fd C_u_law_draw (hr.mono (by decide)) (pa_cons (pv 1) (pa_cons pe_int pa_nil))) (pa_cons (pe_fd C_u_law_draw (hr.mono (by decide)) (pa_cons (pv 1) (pa_cons pe_int pa_nil))) pa_nil))))
    (pss_cons (ps_set (i := 6) sc_law.nd (by rfl) (Or.inl rfl) (pe_fd C_u_law_odd_reach (hr.mono (by decide)) (pa_cons (pv 1) pa_nil)))
    (pss_cons (ps_set (i := 7) sc_law.nd (by rfl) (Or.inl rfl) (pe_fd C_u_law_draw (hr.mono (by decide)) (pa_cons (pv 1) (pa_cons (pv 2) pa_nil))))
    (pss_cons (ps_set (i := 8) sc_law.nd (by rfl) (Or.inl rfl) (pe_fd C_u_law_draw (hr.mono (by decide)) (pa_cons (pv 1) (pa_cons (pv 2) pa_nil))))
    (pss_cons (ps_set (i := 9) sc_law.nd (by rfl) (Or.inl rfl) (pe_callTy call_list_of (by rfl) T.b_list (by decide +kernel) (pa_cons (pv 3) pa_nil)))
    (pss_cons (ps_asg (pe_fd C_u_law_odd_cell (hr.mono (by decide)) (pa_cons (pv 1) (pa_cons (pe_ix ix_seq (pv 3) (pv 8) (fun _ _ => rfl)) pa_nil))) (pg_sub (pv 9) (pv 8) set_list))
    (pss_cons (ps_asg (pe_fd C_u_law_odd_cell (hr.mono (by decide)) (pa_cons (pv 1) (pa_cons (pe_ix ix_seq (pv 3) (pv 7) (fun _ _ => rfl)) pa_nil))) (pg_sub (pv 9) (pv 7) set_list))
    (pss_cons (ps_set (i := 10) sc_law.nd (by rfl) (Or.inl rfl) (pe_callB (call_min2 rfl) (by rfl) T.b_min (by decide +kernel) (pa_cons (pv 7) (pa_cons (pv 8) pa_nil))))
    (pss_cons (ps_if (PW.pt (pw_or (pt_cmpR op_notBl (pe_fd C_is_cell (hr.mono (by decide)) (pa_cons (pe_ix ix_seq (pv 9) (pv 7) (fun _ _ => rfl)) pa_nil)) pe_bl (nomark _)) (pw_or1 (pt_cmpR op_notBl (pe_fd C_is_cell (hr.mono (by decide)) (pa_cons (pe_ix ix_seq (pv 3) (pv 7) (fun _ _ => rfl)) pa_nil)) pe_bl (nomark _))))) (pss_one (ps_ret pe_bl)) pss_nil)
    (pss_cons (ps_for (passes_of rfl) rfl (pi_range1 (by rfl) T.b_range (pa_cons pe_int pa_nil)) (pg_name (i := 11) sc_law.nd (by rfl) (Or.inl rfl)) (pss_cons (ps_if (PW.pt (pw_or (pt_cmpR (op_neD hr.units) (pe_fd C_u_law_told (hr.mono (by decide)) (pa_cons (pv 11) (pa_cons (pv 9) (pa_cons (pv 5) pa_nil)))) (pe_tup (pa_cons pe_str (pa_cons (pv 10) (pa_cons pe_str pa_nil)))) (nomark _)) (pw_or1 (pt_cmpR (op_neD hr.units) (pe_fd C_u_law_told (hr.mono (by decide)) (pa_cons (pv 11) (pa_cons (pe_callTy call_tuple_of (by rfl) T.b_tuple (by decide +kernel) (pa_cons (pv 9) pa_nil)) (pa_cons (pv 6) pa_nil)))) (pe_tup (pa_cons pe_str (pa_cons (pv 10) (pa_cons pe_str pa_nil)))) (nomark _))))) (pss_one (ps_ret pe_bl)) pss_nil)
    (pss_cons (ps_if (pt_cmpR (op_neD hr.units) (pe_fd C_u_law_told (hr.mono (by decide)) (pa_cons (pv 11) (pa_cons (pv 3) (pa_cons (pv 5) pa_nil)))) (pe_tup (pa_cons pe_str pa_nil)) (nomark _)) (pss_one (ps_ret pe_bl)) pss_nil)
    (pss_cons (ps_if (PW.pt (pw_and (pt_cmpR op_gt (pv 11) pe_int (nomark _)) (pw_and1 (pt_cmpR (op_neD hr.units) (pe_fd C_u_law_told (hr.mono (by decide)) (pa_cons (pv 11) (pa_cons (pv 3) (pa_cons (pv 6) pa_nil)))) (pe_tup (pa_cons pe_str pa_nil)) (nomark _))))) (pss_one (ps_ret pe_bl)) pss_nil)
    (pss_cons (ps_set (i := 12) sc_law.nd (by rfl) (Or.inl rfl) (pe_op op_cat (pv 3) (pe_op op_rep (pe_lst (pa_cons (pe_ix ix_seq (pv 3) pe_int (fun _ _ => rfl)) pa_nil)) (pe_op op_sub pe_int (pv 2)))))
    (pss_cons (ps_if (PW.pt (pw_or (pt_cmpR (op_neD hr.units) (pe_fd C_u_law_told (hr.mono (by decide)) (pa_cons (pv 11) (pa_cons (pv 12) (pa_cons (pv 6) pa_nil)))) (pe_tup (pa_cons pe_str (pa_cons pe_int (pa_cons pe_str pa_nil)))) (nomark _)) (pw_or1 (pt_cmpR (op_neD hr.units) (pe_fd C_u_law_told (hr.mono (by decide)) (pa_cons (pv 11) (pa_cons (pe_op op_rep (pe_lst (pa_cons pe_non pa_nil)) pe_int) (pa_cons (pv 5) pa_nil)))) (pe_tup (pa_cons pe_str (pa_cons pe_int (pa_cons pe_str pa_nil)))) (nomark _))))) (pss_one (ps_ret pe_bl)) pss_nil)
    (pss_cons (ps_set (i := 13) sc_law.nd (by rfl) (Or.inl rfl) (pe_ix ix_seq (pe_tup (pa_cons pe_non (pa_cons pe_str (pa_cons pe_int (pa_cons (pe_dispT (units1 hr) (pe_tup (pa_cons pe_int (pa_cons pe_int pa_nil))) pe_int) (pa_cons pe_bl pa_nil)))))) (pe_fd C_u_law_draw (hr.mono (by decide)) (pa_cons (pv 1) (pa_cons pe_int pa_nil))) (fun _ _ => rfl)))
    (pss_one (ps_if (PW.pt (pw_or (pt_cmpR (op_neD hr.units) (pe_fd C_u_law_told (hr.mono (by decide)) (pa_cons (pv 11) (pa_cons (pv 13) (pa_cons (pv 5) pa_nil)))) (pe_tup (pa_cons pe_str (pa_cons pe_int (pa_cons pe_str pa_nil)))) (nomark _)) (pw_or1 (pt_cmpR (op_neD hr.units) (pe_fd C_u_law_told (hr.mono (by decide)) (pa_cons (pv 11) (pa_cons (pe_slice sl_list (pv 12) po_none (po_some pe_int)) (pa_cons (pv 5) pa_nil)))) (pe_tup (pa_cons pe_str pa_nil)) (nomark _))))) (pss_one (ps_ret pe_bl)) pss_nil)))))))))
    (pss_cons (ps_for (passes_of rfl) rfl (pi_seq (pe_lst (pa_cons (pe_op op_add pe_int (pe_fd C_u_law_draw (hr.mono (by decide)) (pa_cons (pv 1) (pa_cons (pe_op op_pow pe_int pe_int) pa_nil)))) (pa_cons (pe_op op_sub (pe_un un_neg pe_int) (pe_fd C_u_law_draw (hr.mono (by decide)) (pa_cons (pv 1) (pa_cons (pe_op op_pow pe_int pe_int) pa_nil)))) (pa_cons pe_non (pa_cons pe_str (pa_cons (pe_tup (pa_cons pe_int pa_nil)) pa_nil))))))) (pg_name (i := 14) sc_law.nd (by rfl) (Or.inl rfl)) (pss_one (ps_if (pt_cmpR (op_neD hr.units) (pe_fd C_u_law_axis (hr.mono (by decide)) (pa_cons (pv 14) pa_nil)) (pe_tup (pa_cons pe_str (pa_cons (pv 14) pa_nil))) (nomark _)) (pss_one (ps_ret pe_bl)) pss_nil)))
    (pss_cons (ps_set (i := 15) sc_law.nd (by rfl) (Or.inl rfl) (pe_fd C_u_law_axis (hr.mono (by decide)) (pa_cons (pe_cmpR (op_eqD hr.units) (pe_fd C_u_law_draw (hr.mono (by decide)) (pa_cons (pv 1) (pa_cons pe_int pa_nil))) pe_int (nomark _)) pa_nil)))
    (pss_cons (ps_if (PW.pt (pw_or (pt_cmpR (op_neD hr.units) (pe_ix ix_seq (pv 15) pe_int (fun _ _ => rfl)) pe_str (nomark _)) (pw_or (pt_cmpR (op_neD hr.units) (pe_fd C_u_law_axis (hr.mono (by decide)) (pa_cons pe_int pa_nil)) (pe_tup (pa_cons pe_str (pa_cons pe_int pa_nil))) (nomark _)) (pw_or1 (pt_cmpR (op_neD hr.units) (pe_fd C_u_law_axis (hr.mono (by decide)) (pa_cons pe_int pa_nil)) (pe_tup (pa_cons pe_str (pa_cons pe_int pa_nil))) (nomark _)))))) (pss_one (ps_ret pe_bl)) pss_nil)
    (pss_cons (ps_set (i := 16) sc_law.nd (by rfl) (Or.inl rfl) (pe_op op_mulW (pe_op op_add (pe_op op_mulW pe_int (pe_ix ix_seq (pv 5) pe_int (fun _ _ => rfl))) pe_int) (pe_op op_add (pe_op op_mulW pe_int (pe_ix ix_seq (pv 5) pe_int (fun _ _ => rfl))) pe_int)))
    (pss_one (ps_ret (pe_and (pe_cmpR (op_eqD hr.units) (pe_fd C_u_law_reach (hr.mono (by decide)) (pa_cons (pe_callTy call_list_of (by rfl) T.b_list (by decide +kernel) (pa_cons (pv 5) pa_nil)) (pa_cons (pe_ix ix_seq (pv 3) (pv 7) (fun _ _ => rfl)) pa_nil))) (pe_lst (pa_cons (pv 5) (pa_cons (pv 16) pa_nil))) (nomark _)) (pe_one (pe_cmpR (op_eqD hr.units) (pe_fd C_u_law_reach (hr.mono (by decide)) (pa_cons (pv 6) (pa_cons (pe_ix ix_seq (pv 3) (pv 7) (fun _ _ => rfl)) pa_nil))) (pe_lst (pa_cons pe_str (pa_cons pe_str pa_nil))) (nomark _))))))))))))))))))))))))

end K03
set_option Elab.async false
set_option linter.all false
set_option maxRecDepth 100000
/-! A head for programs that bring modules in: first their run, then the rest over a tree. -/
noncomputable section
namespace My
open PySem PySem.W PySem.Calls PyProof.Rows HandSHeadRun
/-- the rest of the top, from the state behind the imports -/
def fromTree (st : SharedT → Thread → Option (SharedT × Thread)) (M : Nat) (p : Program) (z : Shared) : Option SharedT :=
  match putAll z.heap.objs.toList .nil 0 with
  | none => none
  | some (t, n) => frNat n fun n₁ => goF st n₁ (z.heap.nsMap mainGlobals "__annotations__") M ⟨t, n, z.heap.life, z.gens, z.drawn, z.toks, z.os⟩ (topStub p)
theorem fromTree_ok {M : Nat} {p : Program} {w : World} {z : Shared} {r : SharedT} (h : fromTree (stepT (denote treeTable) p w) M p z = some r) :
    topRun treeTable p w z.heap.objs.size (z.heap.nsMap mainGlobals "__annotations__") M z (topStub p) = some r.abs := by
  unfold fromTree at h
  cases hq : putAll z.heap.objs.toList .nil 0 with
  | none =>
    rw [hq] at h
    cases h
  | some tn =>
    obtain ⟨t, n⟩ := tn
    rw [hq] at h
    have hg : (frNat n fun n₁ => goF (stepT (denote treeTable) p w) n₁ (z.heap.nsMap mainGlobals "__annotations__") M ⟨t, n, z.heap.life, z.gens, z.drawn, z.toks, z.os⟩ (topStub p)) = some r := h
    rw [frNat_eq] at hg
    have hrun := goF_ok hg
    have hheap := putAll_heap hq
    have hn : z.heap.objs.size = n := by
      rw [← hheap]
      exact absHeap_size t n _
    have habs : (⟨t, n, z.heap.life, z.gens, z.drawn, z.toks, z.os⟩ : SharedT).abs = z := by
      show (⟨absHeap t n z.heap.life, z.gens, z.drawn, z.toks, z.os⟩ : Shared) = z
      rw [hheap]
    rw [habs] at hrun
    rw [hn]
    exact hrun
/-- the whole top: the modules, the fence, the rest; what is looked at behind it -/
def allEnd {α : Type} (st : SharedT → Thread → Option (SharedT × Thread)) (M : Nat) (p : Program) (w : World) (look : Heap → SharedT → α) : Option α :=
  match importEnds treeTable (opening p) w M (start (opening p)).1 (start (opening p)).2 with
  | none => none
  | some y => match fenceModules? p y with
    | none => none
    | some z => match z.heap.isNs mainGlobals && z.gens.size == 0 with
      | false => none
      | true => (fromTree st M p z).map fun r => look z.heap r
theorem left_imp {p q : Program} {loose : List PySem.Str} {Xt : Shared → Bool} {α : Type} {Yf : Shared → α} {Ya : World → α} {N M : Nat} (le : Nat.ble M N = true)
    (run : ∀ w : World, allEnd (stepT (denote treeTable) p w) M p w (fun h r => (looksF p h r.abs, openSeen q loose (importedModules p.main.body) Xt true r.abs, Yf r.abs)) = some (true, openGood q loose, Ya w)) :
    LeftO p q loose Xt Yf Ya N true := fun w => by
  have hr := run w
  unfold allEnd at hr
  cases hy : importEnds treeTable (opening p) w M (start (opening p)).1 (start (opening p)).2 with
  | none =>
    rw [hy] at hr
    cases hr
  | some y =>
    rw [hy] at hr
    dsimp only at hr
    cases hz : fenceModules? p y with
    | none =>
      rw [hz] at hr
      cases hr
    | some z =>
      rw [hz] at hr
      dsimp only at hr
      cases hb : (z.heap.isNs mainGlobals && z.gens.size == 0) with
      | false =>
        rw [hb] at hr
        cases hr
      | true =>
        rw [hb] at hr
        dsimp only at hr
        obtain ⟨r, hf, hv⟩ := Option.map_eq_some_iff.mp hr
        obtain ⟨v1, v2, v3⟩ : _ ∧ _ ∧ _ := by simpa only [Prod.mk.injEq] using hv
        have hle : M + (N - M) = N := by
          have := Nat.le_of_ble_eq_true le
          omega
        have himp := importEnds_mono (N - M) _ _ _ _ hy
        rw [hle] at himp
        have htop := topRun_mono (N - M) _ _ _ _ (fromTree_ok hf)
        rw [hle] at htop
        have hlook : (staticsOk (importedModules p.main.body) z.heap r.abs.heap && namesBound p r.abs.heap && gensDone r.abs && laidKept z.heap r.abs.heap) = true := v1
        have hft : topFrom treeTable p w N z = some r.abs := by
          unfold topFrom
          rw [hb]
          dsimp only
          rw [htop]
          show (match staticsOk (importedModules p.main.body) z.heap r.abs.heap && namesBound p r.abs.heap && gensDone r.abs && laidKept z.heap r.abs.heap with
            | true => some r.abs
            | false => none) = _
          rw [hlook]
        unfold openEnds fencedOpening
        rw [himp]
        show ((fenceModules? p y).bind (topFrom treeTable p w N)).map _ = _
        rw [hz]
        show (topFrom treeTable p w N z).map _ = _
        rw [hft]
        exact congrArg some (Prod.ext v2 v3)
/-- what is to be computed of a row -/
def RunAll (r : OpenRow) (q : Program) (H : Hook) (ob : SharedT → H.α) (M : Nat) (loose : List PySem.Str) (w : World) : Prop :=
  allEnd (stepQ (denQ tabQ) r.prog w) M r.prog w (fun h s => (looksF r.prog h s.abs, seenQ q loose (importedModules r.prog.main.body) (fun s => xlAt q [] s && recOk r.toRowW.records s) s.abs, ob s)) = some (true, openGood q loose, H.val w)
theorem head_imp {r : OpenRow} {q : Program} {H : Hook} {ob : SharedT → H.α} {M : Nat} {loose : List PySem.Str} {d : DefRec} {kwd : List (PySem.Str × PySem.Expr)} (ho : ∀ s : SharedT, ob s = H.obs s.abs)
    (run : ∀ w, RunAll r q H ob M loose w) (hdef : defOf q r.name = some (d, kwd)) (hp : r.prog.theDef r.name = some (d.params, d.body, d.scope))
    (hk : kwWritten? d.params.kwonlyargs d.params.kw_defaults = some kwd) (hwr : (!r.writes || r.records.isEmpty) = true) (k1 : r.wellSaid = true)
    (ok : (chainsOk q && opensWell r.prog && (frees r.toRowW && r.within.isEmpty)) = true) (hb : r.prog.bare) (hw : r.toRowW.promised)
    (call : WalkO q loose (XL q []) H.says r.toRowW d kwd fun f vs => PySem.call f vs) : r.Holds := by
  have left : LeftO r.prog q loose (fun s => xlAt q [] s && recOk r.toRowW.records s) H.obs H.val M true :=
    left_imp (M := M) (Nat.ble_eq_true_of_le (Nat.le_refl _)) fun w => by
      have z := run w
      unfold RunAll at z
      have eo : ob = fun s => H.obs s.abs := funext ho
      rw [eo] at z
      simp only [stepQ_eq, denQ_eq, tabQ_eq, seenQ_eq]
      exact z
  exact holds_open (r := r) (q := q) (loose := loose) (XP := XL q []) (YP := H.says) (d := d) (kwd := kwd) left H.of H.keeps (fun s z => xl_of s (Bool.and_eq_true_iff.mp z).1) XL.keeps hdef hp hk
    (fun s z => recFacts_of (Bool.and_eq_true_iff.mp z).2) hwr k1 ok hb hw call
end My
end
set_option Elab.async false
set_option linter.all false
set_option maxRecDepth 100000
/-! The run looked at in parts. -/
noncomputable section
namespace My
open PySem PySem.W PySem.Calls PyProof.Rows HandSHeadRun
theorem allEnd_map {α β : Type} {st : SharedT → Thread → Option (SharedT × Thread)} {M : Nat} {p : Program} {w : World} {l : Heap → SharedT → α} {f : α → β} : allEnd st M p w (fun h r => f (l h r)) = (allEnd st M p w l).map f := by
  unfold allEnd
  split
  · rfl
  · split
    · rfl
    · split
      · rfl
      · rw [Option.map_map]
        rfl
theorem allEnd_two {α β : Type} {st : SharedT → Thread → Option (SharedT × Thread)} {M : Nat} {p : Program} {w : World} {l1 : Heap → SharedT → α} {l2 : Heap → SharedT → β} {a : α} {b : β} (h1 : allEnd st M p w l1 = some a) (h2 : allEnd st M p w l2 = some b) : allEnd st M p w (fun h r => (l1 h r, l2 h r)) = some (a, b) := by
  have e1 := allEnd_map (st := st) (M := M) (p := p) (w := w) (l := fun h r => (l1 h r, l2 h r)) (f := Prod.fst)
  have e2 := allEnd_map (st := st) (M := M) (p := p) (w := w) (l := fun h r => (l1 h r, l2 h r)) (f := Prod.snd)
  have e1 : allEnd st M p w l1 = _ := e1
  have e2 : allEnd st M p w l2 = _ := e2
  rw [h1] at e1
  rw [h2] at e2
  cases e : allEnd st M p w (fun h r => (l1 h r, l2 h r)) with
  | none => rw [e] at e1; cases e1
  | some x =>
    rw [e] at e1 e2
    obtain ⟨x, y⟩ := x
    cases e1
    cases e2
    rfl
end My
end
set_option Elab.async false
set_option linter.all false
set_option maxRecDepth 100000
set_option maxHeartbeats 0
namespace K03
open PySem PySem.Spec PyProof.Rows L2 My
abbrev s_initBadCells : Stmt := inClass (top 2) 0
abbrev s_initBadAxis : Stmt := inClass (top 3) 0
abbrev dd (x : Str) (st : Stmt) (dfl : List He.Dv := []) : He.DefD := ⟨(x, none), x, x, defArgs st, defBody st, defScope st, dfl, []⟩
abbrev di (c q : Str) (st : Stmt) : He.DefD := ⟨(c, some "__init__"), "__init__", q, defArgs st, defBody st, defScope st, [], []⟩
def fn : List He.DefD := [
  dd "is_whole" s_is_whole [.non, .non],
  dd "is_sequence" s_is_sequence [.int 0, .non],
  dd "is_cell" s_is_cell,
  dd "check_cells" s_check_cells,
  dd "check_axis" s_check_axis,
  dd "is_reach" s_is_reach,
  dd "check_reach" s_check_reach,
  dd "near_cells" s_near_cells,
  dd "grown_cells" s_grown_cells,
  dd "shrunk_cells" s_shrunk_cells,
  dd "_law_mix" s_u_law_mix,
  dd "_law_hand" s_u_law_hand,
  dd "_law_draw" s_u_law_draw,
  dd "_law_told" s_u_law_told,
  dd "_law_axis" s_u_law_axis,
  dd "_law_reach" s_u_law_reach,
  dd "_law_odd_cell" s_u_law_odd_cell,
  dd "_law_odd_reach" s_u_law_odd_reach,
  dd "law" s_law,
  di "BadCells" "BadCells.__init__" s_initBadCells,
  di "BadAxis" "BadAxis.__init__" s_initBadAxis]
def fa : List He.Fa := [
  .glo "is_whole",
  .glo "is_sequence",
  .glo "is_cell",
  .glo "check_cells",
  .glo "check_axis",
  .glo "is_reach",
  .glo "check_reach",
  .glo "near_cells",
  .glo "grown_cells",
  .glo "shrunk_cells",
  .glo "_law_mix",
  .glo "_law_hand",
  .glo "_law_draw",
  .glo "_law_told",
  .glo "_law_axis",
  .glo "_law_reach",
  .glo "_law_odd_cell",
  .glo "_law_odd_reach",
  .glo "law",
  .free "abs",
  .free "all",
  .free "bool",
  .free "enumerate",
  .free "int",
  .free "isinstance",
  .free "len",
  .free "list",
  .free "min",
  .free "range",
  .free "sorted",
  .free "tuple",
  .glo "BadCells",
  .glo "BadAxis",
  .glo "BadReach",
  .exm "BadCells" "BadCells" true,
  .exm "BadReach" "BadCells" false,
  .exm "BadReach" "BadReach" true,
  .exm "BadAxis" "BadAxis" true,
  .exc "BadReach",
  .keep "BadCells",
  .keep "BadAxis"]
def ex (K : PySem.W.Frag) : Bool := oexB K (He.ga K "BadCells") && (oexB K (He.ga K "BadAxis") && (xfB K (He.ga K "BadCells") && (xfB K (He.ga K "BadAxis") && (decide (PySem.W.findIn K (.ref (He.ga K "BadCells")) "__init__" = some (some (.ref (He.ma K (He.ga K "BadCells") "__init__")))) && (decide (PySem.W.typeIn K (.ref (He.ma K (He.ga K "BadCells") "__init__")) = some (.type "function")) && (decide (PySem.W.findIn K (.ref (He.ga K "BadCells")) "index" = some none) && (decide (PySem.W.findIn K (.ref (He.ga K "BadCells")) "what" = some none) && (decide (PySem.W.findIn K (.ref (He.ga K "BadAxis")) "__init__" = some (some (.ref (He.ma K (He.ga K "BadAxis") "__init__")))) && (decide (PySem.W.typeIn K (.ref (He.ma K (He.ga K "BadAxis") "__init__")) = some (.type "function")) && (decide (PySem.W.findIn K (.ref (He.ga K "BadAxis")) "axis" = some none)))))))))))
abbrev RWL := PySem.Challenge.rw_neverbare_k03_whole_cells_refused
abbrev R : PySem.W.OpenRow := PySem.W.OpenLaw.row RWL
abbrev hk : PySem.W.Hook := He.hookX 5 fa fn [] [] ex
def ob (s : PySem.W.SharedT) : He.AlX := He.obsX 5 fa fn [] [] ex (HandSHeadRun.getT s)
theorem ob_eq (s : PySem.W.SharedT) : ob s = hk.obs s.abs := He.obsX_eq (HandSHeadRun.getT_eq s)
def loose : List Str := (["PrintError", "BadCells", "BadAxis", "BadReach", "is_whole", "is_sequence", "is_cell", "check_cells", "check_axis", "is_reach", "check_reach", "near_cells", "grown_cells", "shrunk_cells", "_law_mix", "_law_hand", "_law_draw", "_law_told", "_law_axis", "_law_reach"] : List Str) ++ (["_law_odd_cell", "_law_odd_reach"] : List Str)
section
open HandSHeadRun PyProof.Rows PySem.W
theorem run1 (w : World) : My.allEnd (stepQ (denQ tabQ) R.prog w) 6000 R.prog w (fun h s => looksF R.prog h s.abs) = some true := by
  kernel_rfl
theorem run2 (w : World) : My.allEnd (stepQ (denQ tabQ) R.prog w) 6000 R.prog w (fun _ s => seenQ (PySem.W.view R.prog [26]) loose (importedModules R.prog.main.body) (fun s => xlAt (PySem.W.view R.prog [26]) [] s && recOk R.toRowW.records s) s.abs) = some (openGood (PySem.W.view R.prog [26]) loose) := by
  kernel_rfl
theorem run3 (w : World) : My.allEnd (stepQ (denQ tabQ) R.prog w) 6000 R.prog w (fun _ s => ob s) = some (hk.val w) := by
  kernel_rfl
end
theorem run (w : World) : My.RunAll R (PySem.W.view R.prog [26]) hk ob 6000 loose w := My.allEnd_two (run1 w) (My.allEnd_two (run2 w) (run3 w))
end K03
set_option Elab.async false
set_option linter.all false
set_option maxRecDepth 100000
set_option maxHeartbeats 4000000
/-! M03a: what the three deeds, the axis and the reach tell. -/
namespace K03
open PySem PySem.Spec PyProof.Rows L2 My StX RZ Lw
section
variable {K : PySem.W.Frag} {c : Fr} {D : Ends} {E : XK} {es : List Sv} {ta tb te tx : TE} {x y : Dt} {l : List Dt} {p r : Int × Int} {L M : List (Int × Int)}
theorem cellsO_ex {C C' : Addr} {ns : List Str} {fd : List Dt} (h : Out.ex C' ns fd = cellsO C x) : C' = C ∧ ∃ k s, ns = (["what", "index"] : List Str) ∧ fd = [.str s, .int k] := by
  unfold cellsO at h
  cases e : itemsD x with
  | none => rw [e] at h; cases h; exact ⟨rfl, _, _, rfl, rfl⟩
  | some l =>
    rw [e] at h
    dsimp only at h
    by_cases h1 : l.length ≤ 100
    · rw [if_pos h1] at h
      cases hb : badAt cellB 0 l with
      | some k => rw [hb] at h; cases h; exact ⟨rfl, _, _, rfl, rfl⟩
      | none => rw [hb] at h; cases h
    · rw [if_neg h1] at h; cases h; exact ⟨rfl, _, _, rfl, rfl⟩
theorem bothO_ex {CC CR C' : Addr} {f : Int × Int → List (Int × Int) → List (Int × Int)} {ns : List Str} {fd : List Dt} (h : Out.ex C' ns fd = bothO CC CR f x y) : (C' = CC ∧ ∃ k s, ns = (["what", "index"] : List Str) ∧ fd = [.str s, .int k]) ∨ (C' = CR ∧ ns = [] ∧ fd = []) := by
  unfold bothO at h
  cases e : cellsO CC x with
  | ok d =>
    rw [e] at h
    dsimp only at h
    by_cases q : reachB y = true
    · rw [if_pos q] at h; cases h
    · rw [if_neg q] at h; cases h; exact .inr ⟨rfl, rfl, rfl⟩
  | ex C2 n2 f2 =>
    rw [e] at h
    dsimp only at h
    exact .inl (cellsO_ex (h.trans e.symm))
theorem deedO_ex {CC CR C' : Addr} {z : Int} {ns : List Str} {fd : List Dt} (h : Out.ex C' ns fd = deedO CC CR z x y) : (C' = CC ∧ ∃ k s, ns = (["what", "index"] : List Str) ∧ fd = [.str s, .int k]) ∨ (C' = CR ∧ ns = [] ∧ fd = []) := by
  unfold deedO at h
  by_cases h0 : z = 0
  · rw [if_pos h0] at h; exact .inl (cellsO_ex h)
  · rw [if_neg h0] at h
    by_cases h1 : z = 1
    · rw [if_pos h1] at h; exact bothO_ex h
    · rw [if_neg h1] at h; exact bothO_ex h
theorem sem_u_law_told (mA : PySem.W.exmOne K (.ref (He.ga K "BadCells")) (.ref (He.ga K "BadCells")) = some true) (mBA : PySem.W.exmOne K (.ref (He.ga K "BadReach")) (.ref (He.ga K "BadCells")) = some false) (mB : PySem.W.exmOne K (.ref (He.ga K "BadReach")) (.ref (He.ga K "BadReach")) = some true) :
    SemD K 2 (t_u_law_told K) (R_ltold (He.ga K "BadCells") (He.ga K "BadReach")) := by
  rintro P0 H0 D ds ⟨d, z, x, y, rfl, hx, hy, rfl⟩ k
  have ret := RetD.imp k fun d hd => (⟨z, x, y, rfl, hx, hy, hd⟩ : R_ltold (He.ga K "BadCells") (He.ga K "BadReach") _ d)
  have told : ∀ d, d = toldD (deedO (He.ga K "BadCells") (He.ga K "BadReach") z x y) → Cont ⟨K, [], P0, H0⟩ (tRet (tVar 3) D) [.dat (.int z), .dat x, .dat y, .dat d, .no] := fun d hd => c_ret (ed_var rfl) (by rw [hd]; exact ret)
  refine s_asg (ed_tup (es_cons ed_str es_nil) (by show 1 ≤ 100000; decide)) (c_seq ?_)
  have ok : ∀ v, Out.ok v = deedO (He.ga K "BadCells") (He.ga K "BadReach") z x y → Cont ⟨K, [], P0, H0⟩ (tRet (tVar 3) D) [.dat (.int z), .dat x, .dat y, .dat (.tup [.str "let"]), .no] := fun v hv => told _ (by rw [← hv]; rfl)
  have wok : ∀ Ro : Out → Prop, (∀ o, Ro o → o = deedO (He.ga K "BadCells") (He.ga K "BadReach") z x y) → WOk ⟨K, [], P0, H0⟩ [.dat (.int z), .dat x, .dat y, .dat (.tup [.str "let"]), .no] (wManyN K (fun _ _ _ _ => False) { D with nx := tRet (tVar 3) D } [(.ref (He.ga K "BadCells"), some 4, fun a cls d => (tAsg (tTup (tCons (tC (.str "cells")) (tCons (tXf a cls d (He.ga K "BadCells") "index" (tVar 4)) (tCons (tXf a cls d (He.ga K "BadCells") "what" (tVar 4)) tNil)))) (gName 3))), (.ref (He.ga K "BadReach"), none, fun a cls d => (tAsg (tTup (tCons (tC (.str "reach")) tNil)) (gName 3)))]) Ro := fun Ro hRo => by
    refine wok_two (by show 4 < 5; decide) mA mBA mB fun C' ns fd h => ?_
    have e := hRo _ h
    rcases deedO_ex e with ⟨rfl, k, s, rfl, rfl⟩ | ⟨rfl, rfl, rfl⟩
    · refine .inl ⟨rfl, (fun z => by cases z), han_asg (edx_tup (edxs_cons edx_str (edxs_cons (edx_xf (f := "index") rfl) (edxs_cons (edx_xf (f := "what") rfl) edxs_nil))) (by show 3 ≤ 100000; decide)) (told _ ?_)⟩
      rw [← e]
      rfl
    · refine .inr ⟨rfl, fun a dd => c_asg (ed_tup (es_cons ed_str es_nil) (by show 1 ≤ 100000; decide)) (told _ ?_)⟩
      rw [← e]
      rfl
  refine c_if (b := decide (z = 0)) (EBd.is (ed_eqI (i := z) (ed_var rfl) ed_int) rfl) (fun h0 => ?_) fun h0 => ?_
  · have h0 := of_decide_eq_true h0
    exact c_dropV (ev_callW (es_cons (ed_var rfl) es_nil) ⟨_, x, rfl, hx, rfl⟩ (wok _ fun o ⟨x', e, _, ho⟩ => by cases e; rw [ho]; unfold deedO; rw [if_pos h0])) fun v ⟨x', e, _, ho⟩ => by
      cases e
      exact ok v (by rw [ho]; unfold deedO; rw [if_pos h0])
  · have h0 : ¬ z = 0 := of_decide_eq_false h0
    refine c_if (b := decide (z = 1)) (EBd.is (ed_eqI (i := z) (ed_var rfl) ed_int) rfl) (fun h1 => ?_) fun h1 => ?_
    · have h1 := of_decide_eq_true h1
      exact c_dropV (ev_callW (es_cons (ed_var rfl) (es_cons (ed_var rfl) es_nil)) ⟨_, x, y, rfl, hx, hy, rfl⟩ (wok _ fun o ⟨x', y', e, _, _, ho⟩ => by cases e; rw [ho]; unfold deedO; rw [if_neg h0, if_pos h1])) fun v ⟨x', y', e, _, _, ho⟩ => by
        cases e
        exact ok v (by rw [ho]; unfold deedO; rw [if_neg h0, if_pos h1])
    · have h1 : ¬ z = 1 := of_decide_eq_false h1
      exact c_dropV (ev_callW (es_cons (ed_var rfl) (es_cons (ed_var rfl) es_nil)) ⟨_, x, y, rfl, hx, hy, rfl⟩ (wok _ fun o ⟨x', y', e, _, _, ho⟩ => by cases e; rw [ho]; unfold deedO; rw [if_neg h0, if_neg h1])) fun v ⟨x', y', e, _, _, ho⟩ => by
        cases e
        exact ok v (by rw [ho]; unfold deedO; rw [if_neg h0, if_neg h1])
theorem sem_u_law_axis (mA : PySem.W.exmOne K (.ref (He.ga K "BadAxis")) (.ref (He.ga K "BadAxis")) = some true) : SemD K 2 (t_u_law_axis K) R_laxis := by
  rintro P0 H0 D ds ⟨d, x, rfl, hx, rfl⟩ k
  have ret := RetD.imp k fun d hd => (⟨x, rfl, hx, hd⟩ : R_laxis _ d)
  have told : ∀ d, d = axisD x → Cont ⟨K, [], P0, H0⟩ (tRet (tVar 1) D) [.dat x, .dat d, .no] := fun d hd => c_ret (ed_var rfl) (by rw [hd]; exact ret)
  refine s_asg (ed_tup (es_cons ed_str es_nil) (by show 1 ≤ 100000; decide)) (c_seq ?_)
  refine c_asgV (ev_tup (evs_cons ed_str (evs_cons (ev_callW (R := R_check_axis (He.ga K "BadAxis")) (es_cons (ed_var rfl) es_nil) ⟨_, x, rfl, hx, rfl⟩ (wok_one (by show 2 < 3; decide) mA fun C' ns fd ⟨x', e, _, ho⟩ => ?_)) es_nil)) fun l ⟨_, _, e, _, _, _, e2, _, e3⟩ => by subst e e2 e3; show 2 ≤ 100000; decide) fun d ⟨l, e, d1, m, e1, ed1, d2, m2, e2, ⟨x', ex, _, ho⟩, e3⟩ => ?_
  · cases e
    unfold axisO at ho
    by_cases q : wholeB x (.int 0) (.int 1) = true
    · rw [if_pos q] at ho; cases ho
    · rw [if_neg q] at ho
      cases ho
      refine ⟨rfl, (fun z => by cases z), han_asg (edx_tup (edxs_cons edx_str (edxs_cons (edx_xf (f := "axis") rfl) edxs_nil)) (by show 2 ≤ 100000; decide)) (told _ ?_)⟩
      unfold axisD
      rw [if_neg q]
  · cases ex
    subst e e1 ed1 e2 e3
    unfold axisO at ho
    by_cases q : wholeB x (.int 0) (.int 1) = true
    · rw [if_pos q] at ho
      cases ho
      exact told _ (by unfold axisD; rw [if_pos q])
    · rw [if_neg q] at ho; cases ho
theorem sem_u_law_reach (mB : PySem.W.exmOne K (.ref (He.ga K "BadReach")) (.ref (He.ga K "BadReach")) = some true) : SemO K 1 (t_u_law_reach K) R_lreach := by
  rintro P0 H0 D ds ⟨d, y, x, rfl, hy, hx, rfl⟩ k
  refine s_asgO (eo_lst es_nil fun l e => by rw [e]; decide) fun o ds e => ?_
  subst e
  refine c_seq ?_
  by_cases q : reachB y = true
  · have e1 : reachO (He.ga K "BadReach") y = .ok (cellD (toC y)) := by unfold reachO; rw [if_pos q]
    have e2 : nearO (He.ga K "BadReach") x y = .ok (.tup (cellsD (nearC (toC y) (toC x)))) := by unfold nearO; rw [if_pos q]
    refine c_app (n := 2) rfl (ev_callW (R := R_check_reach (He.ga K "BadReach")) (es_cons (ed_var rfl) es_nil) ⟨_, y, rfl, hy, rfl⟩ (wok_bare mB fun C' ns fd ⟨y', e, _, ho⟩ => by cases e; rw [e1] at ho; cases ho)) (by decide) fun d ⟨y', e, _, ho⟩ => ?_
    cases e
    rw [e1] at ho
    cases ho
    refine c_seq ?_
    refine c_app (n := 2) (φ := fun d => d = .int ((cellsD (nearC (toC y) (toC x))).length : Nat)) rfl (ev_lenV (ev_callW (R := R_near_cells (He.ga K "BadReach")) (es_cons (ed_var rfl) (es_cons (ed_var rfl) es_nil)) ⟨_, x, y, rfl, hx, hy, rfl⟩ (wok_bare mB fun C' ns fd ⟨x', y', e, _, _, ho⟩ => by cases e; rw [e2] at ho; cases ho)) fun d ⟨x', y', e, _, _, ho⟩ => by
      cases e
      rw [e2] at ho
      cases ho
      exact ⟨_, rfl, rfl⟩) (by show 1 < 100000; decide) fun d hd => ?_
    subst hd
    have er : [cellD (toC y), Dt.int ((cellsD (nearC (toC y) (toC x))).length : Nat)] = reachL y x := by unfold reachL; rw [if_pos q, len_cells]
    exact RetO.slot (RetO.impL k fun l hl => (⟨y, x, rfl, hy, hx, hl⟩ : R_lreach _ l)) (n := 2) rfl rfl er
  · have e1 : reachO (He.ga K "BadReach") y = .ex (He.ga K "BadReach") [] [] := by unfold reachO; rw [if_neg q]
    have e2 : nearO (He.ga K "BadReach") x y = .ex (He.ga K "BadReach") [] [] := by unfold nearO; rw [if_neg q]
    have last : Cont ⟨K, [], P0, H0⟩ (tRet (tVar 2) D) [.dat y, .dat x, .own o [.str "bad", .str "bad"]] := RetO.slot (RetO.impL k fun l hl => (⟨y, x, rfl, hy, hx, hl⟩ : R_lreach _ l)) (n := 2) rfl rfl (by unfold reachL; rw [if_neg q])
    refine c_app (n := 2) rfl (ev_callW (R := R_check_reach (He.ga K "BadReach")) (es_cons (ed_var rfl) es_nil) ⟨_, y, rfl, hy, rfl⟩ (wok_bare mB fun C' ns fd ⟨y', e, _, ho⟩ => ⟨by cases e; rw [e1] at ho; cases ho; rfl, fun a dd => ?_⟩)) (by decide) fun d ⟨y', e, _, ho⟩ => by
      cases e
      rw [e1] at ho
      cases ho
    refine c_app (n := 2) (φ := fun d => d = .str "bad") rfl ed_str (by decide) fun d hd => ?_
    subst hd
    refine c_seq ?_
    refine c_app (n := 2) (φ := fun _ => False) rfl (ev_lenV (ev_callW (R := R_near_cells (He.ga K "BadReach")) (es_cons (ed_var rfl) (es_cons (ed_var rfl) es_nil)) ⟨_, x, y, rfl, hx, hy, rfl⟩ (wok_bare mB fun C' ns fd ⟨x', y', e, _, _, ho⟩ => ⟨by cases e; rw [e2] at ho; cases ho; rfl, fun a dd => ?_⟩)) fun d ⟨x', y', e, _, _, ho⟩ => by cases e; rw [e2] at ho; cases ho) (by decide) fun d hd => hd.elim
    refine c_app (n := 2) (φ := fun d => d = .str "bad") rfl ed_str (by decide) fun d hd => ?_
    subst hd
    exact last
end
end K03
set_option Elab.async false
set_option linter.all false
set_option maxRecDepth 100000
set_option maxHeartbeats 4000000
/-! M03b: what is no cell, what is no reach. -/
namespace K03
open PySem PySem.Spec PyProof.Rows L2 My StX RZ Lw
section
variable {K : PySem.W.Frag} {c : Fr} {D : Ends} {E : XK} {es : List Sv} {ta tb te tx : TE} {x y : Dt} {l : List Dt} {p r : Int × Int} {L M : List (Int × Int)}
def kinB (y : Dt) : Bool := (tyD y).isSome
def nnB : Dt → Bool
  | .tupN _ => false
  | _ => true
def partB (d : Dt) : Bool := kinB d && (nnB d && match itemsD d with
  | some l => l.all kinB
  | none => true)
theorem part_of {d : Dt} (h : partB d = true) : PartIn d := by
  unfold partB at h
  obtain ⟨h1, h2⟩ := Bool.and_eq_true_iff.mp h
  obtain ⟨h2, h3⟩ := Bool.and_eq_true_iff.mp h2
  refine ⟨h1, (fun l e => by subst e; cases h2), fun l e y hy => ?_⟩
  rw [e] at h3
  exact List.all_eq_true.mp h3 y hy
theorem ed_lstH {ts : TA} {ds : List Dt} {ad : Addr} {k : Nat} (hm : c.mu = [ad]) (hk : es[k]? = some (.hand ad)) (h : EDs c ts es ds) (hl : ds.length ≤ 100000) : ED c (tLst ts) es (.lst ds) :=
  EV.imp (ev_giveH hm hk (eo_lst h fun l e => by rw [e]; exact hl)) fun z ⟨l, e, hl⟩ => by rw [e, hl]
theorem ed_p9 : ED c (tOp (rI CPow fun i j => .int (i ^ j.toNat)) (tC (.int 10)) (tC (.int 9))) es (.int 1000000000) := ED.is (ed_I (i := 10) (j := 9) ed_int ed_int ⟨by decide, by decide, by decide⟩) rfl
def rowsR (b : Int) : List Dt := [.tup [.int 1], .tup [.int 1, .int 1, .int 1], .tup [.bl true, .int 1], .tup [.int 1, .bl false], .tup [.int b, .int 0], .tup [.int 0, .int b], .tup [.int (-1), .int 1], .tup [.int 2, .int (-1)], .non, .str "11", .int 1, .lst [.int 0, .non], .lst []]
theorem rowsR_bad {b : Int} (hb : 3 ≤ b) : ∀ d ∈ rowsR b, PartIn d ∧ reachB d = false := by
  intro d hd
  simp only [rowsR, List.mem_cons, List.not_mem_nil, or_false] at hd
  rcases hd with rfl | rfl | rfl | rfl | rfl | rfl | rfl | rfl | rfl | rfl | rfl | rfl | rfl <;>
    (refine ⟨part_of rfl, Bool.eq_false_iff.mpr fun z => ?_⟩
     obtain ⟨i, j, e, _, h1, h2, h3, h4⟩ := pair_is z
     first
     | (cases e; done)
     | (cases e; omega))
theorem sem_u_law_odd_reach : SemH K 2 (t_u_law_odd_reach K) R_loddreach := by
  rintro P0 H0 a D ds ⟨d, rfl, _⟩ k
  refine s_asgV (ei_I0 (ei_of ed_int) (ev_draw (k := 0) rfl ed_p9 (by decide) (by decide))) fun d ⟨b, e, i, z, ei, ⟨z0, z1⟩, eb⟩ => ?_
  subst e ei
  have two : ∀ (ts : TA) (x y : Dt), EDs ⟨K, [a], P0, H0⟩ ts [.hand a, .dat (.int b), .no] [x, y] → ED ⟨K, [a], P0, H0⟩ (tTup ts) [.hand a, .dat (.int b), .no] (.tup [x, y]) := fun ts x y h => ed_tup h (by show 2 ≤ 100000; decide)
  refine s_asgO (eo_lst (es_cons (ed_tup (es_cons ed_int es_nil) (by show 1 ≤ 100000; decide)) (es_cons (ed_tup (es_cons ed_int (es_cons ed_int (es_cons ed_int es_nil))) (by show 3 ≤ 100000; decide)) (es_cons (two _ _ _ (es_cons ed_bl (es_cons ed_int es_nil))) (es_cons (two _ _ _ (es_cons ed_int (es_cons ed_bl es_nil))) (es_cons (two _ _ _ (es_cons (ed_var rfl) (es_cons ed_int es_nil))) (es_cons (two _ _ _ (es_cons ed_int (es_cons (ed_var rfl) es_nil)))
    (es_cons (two _ _ _ (es_cons (ed_neg ed_int) (es_cons ed_int es_nil))) (es_cons (two _ _ _ (es_cons ed_int (es_cons (ed_neg ed_int) es_nil))) (es_cons ed_non (es_cons ed_str (es_cons ed_int (es_cons (ed_lstH (k := 0) rfl rfl (es_cons ed_int (es_cons ed_non es_nil)) (by show 2 ≤ 100000; decide)) (es_cons (ed_lstH (k := 0) rfl rfl es_nil (by decide)) es_nil))))))))))))) fun l e => by rw [e]; show 13 ≤ 100000; decide) fun o ds e => ?_
  subst e
  exact c_retHh (n := 0) (EV.imp (ev_ixOV (n := 2) (l := rowsR b) rfl (ev_draw (k := 0) rfl (ed_lenO (n := 2) rfl) (by show (0 : Int) < 13; decide) (by show (13 : Int) < 2 ^ 64; decide)) fun z hz => hz) fun d hd => (⟨rfl, rowsR_bad (by omega) d hd⟩ : R_loddreach _ d)) k rfl rfl
theorem ev_oddreach {k : Nat} {ad : Addr} (hk : es[k]? = some (.hand ad)) : EV c (tCall (sp_u_law_odd_reach c.K) [] E (tCons (tVar k) tNil)) es (fun d => PartIn d ∧ reachB d = false) :=
  EV.imp (ev_callH hk es_nil fun l e => by
    subst e
    exact ⟨.non, rfl, part_of rfl, rfl⟩) fun d ⟨l, e, _, hd⟩ => hd
def rowsC (x y f : Int) : List Dt := [.tup [.int x], .tup [.int x, .int y, .int 0], .lst [.int x, .int y, .int y], .tup [.bl true, .int y], .tup [.int x, .bl false], .tup [.int f, .int y], .tup [.int x, .int (-f)], .tup [.int 21, .int y], .tup [.int x, .int (-21)], .non, .str "12", .tup [.tup [.int x, .int 1], .int y], .int x, .lst [], .lst [.int x, .str "1"], .dctX]
theorem rowsC_bad {x y f : Int} (hf : 21 ≤ f) : ∀ d ∈ rowsC x y f, PartIn d ∧ cellB d = false := by
  intro d hd
  simp only [rowsC, List.mem_cons, List.not_mem_nil, or_false] at hd
  rcases hd with rfl | rfl | rfl | rfl | rfl | rfl | rfl | rfl | rfl | rfl | rfl | rfl | rfl | rfl | rfl | rfl <;>
    (refine ⟨part_of rfl, Bool.eq_false_iff.mpr fun z => ?_⟩
     obtain ⟨i, j, e, _, h1, h2, h3, h4⟩ := pair_is z
     first
     | (cases e; done)
     | (cases e; omega))
theorem sem_u_law_odd_cell : SemH K 4 (t_u_law_odd_cell K) R_loddcell := by
  rintro P0 H0 a D ds ⟨d, p, rfl, hp, _⟩ k
  refine s_unpack (ed_var rfl) ?_
  refine s_asgV (ei_I0 (ei_of ed_int) (ev_draw (k := 0) rfl ed_p9 (by decide) (by decide))) fun d ⟨f, e, i, z, ei, ⟨z0, z1⟩, eb⟩ => ?_
  subst e ei
  have two : ∀ (ts : TA) (x y : Dt), EDs ⟨K, [a], P0, H0⟩ ts [.hand a, .dat (cellD p), .dat (.int p.1), .dat (.int p.2), .dat (.int f), .no] [x, y] → ED ⟨K, [a], P0, H0⟩ (tTup ts) [.hand a, .dat (cellD p), .dat (.int p.1), .dat (.int p.2), .dat (.int f), .no] (.tup [x, y]) := fun ts x y h => ed_tup h (by show 2 ≤ 100000; decide)
  refine s_asgO (eo_lst (es_cons (ed_tup (es_cons (ed_var rfl) es_nil) (by show 1 ≤ 100000; decide)) (es_cons (ed_tup (es_cons (ed_var rfl) (es_cons (ed_var rfl) (es_cons ed_int es_nil))) (by show 3 ≤ 100000; decide)) (es_cons (ed_lstH (k := 0) rfl rfl (es_cons (ed_var rfl) (es_cons (ed_var rfl) (es_cons (ed_var rfl) es_nil))) (by show 3 ≤ 100000; decide))
    (es_cons (two _ _ _ (es_cons ed_bl (es_cons (ed_var rfl) es_nil))) (es_cons (two _ _ _ (es_cons (ed_var rfl) (es_cons ed_bl es_nil))) (es_cons (two _ _ _ (es_cons (ed_var rfl) (es_cons (ed_var rfl) es_nil))) (es_cons (two _ _ _ (es_cons (ed_var rfl) (es_cons (ed_neg (ed_var rfl)) es_nil))) (es_cons (two _ _ _ (es_cons ed_int (es_cons (ed_var rfl) es_nil))) (es_cons (two _ _ _ (es_cons (ed_var rfl) (es_cons (ed_neg ed_int) es_nil)))
    (es_cons ed_non (es_cons ed_str (es_cons (two _ _ _ (es_cons (two _ _ _ (es_cons (ed_var rfl) (es_cons ed_int es_nil))) (es_cons (ed_var rfl) es_nil))) (es_cons (ed_var rfl) (es_cons (ed_lstH (k := 0) rfl rfl es_nil (by decide)) (es_cons (ed_lstH (k := 0) rfl rfl (es_cons (ed_var rfl) (es_cons ed_str es_nil)) (by show 2 ≤ 100000; decide)) (es_cons (ed_dispK rfl rfl) es_nil)))))))))))))))) fun l e => by rw [e]; show 16 ≤ 100000; decide) fun o ds e => ?_
  subst e
  exact c_retHh (n := 0) (EV.imp (ev_ixOV (n := 5) (l := rowsC p.1 p.2 f) rfl (ev_draw (k := 0) rfl (ed_lenO (n := 5) rfl) (by show (0 : Int) < 16; decide) (by show (16 : Int) < 2 ^ 64; decide)) fun z hz => hz) fun d hd => (⟨p, rfl, hp, rowsC_bad (by omega) d hd⟩ : R_loddcell _ d)) k rfl rfl
theorem ev_oddcell {k : Nat} {ad : Addr} (hk : es[k]? = some (.hand ad)) (h : ED c ta es (cellD p)) (hp : InP p) : EV c (tCall (sp_u_law_odd_cell c.K) [] E (tCons (tVar k) (tCons ta tNil))) es (fun d => PartIn d ∧ cellB d = false) :=
  EV.imp (ev_callH hk (es_cons h es_nil) fun l e => by
    subst e
    exact ⟨.non, p, rfl, hp, part_of rfl, rfl⟩) fun d ⟨l, e, _, _, _, hd⟩ => hd
end
end K03
set_option Elab.async false
set_option linter.all false
set_option maxRecDepth 100000
set_option maxHeartbeats 4000000
/-! M03: the law. -/
namespace K03
open PySem PySem.Spec PyProof.Rows L2 My StX RZ Lw
section
variable {K : PySem.W.Frag} {c : Fr} {D : Ends} {E : XK} {es : List Sv} {ta tb te tx : TE} {x y : Dt} {l : List Dt} {p r : Int × Int} {L M : List (Int × Int)}
theorem _root_.My.Flat.mono {n m : Nat} {d : Dt} (h : Flat n d) (le : n ≤ m) : Flat m d := ⟨h.1, h.2.1, Nat.le_trans h.2.2.1 le, h.2.2.2⟩
theorem flat_str {s : Str} (h : PyData.strOk s = true) : Flat 0 (.str s) := ⟨rfl, h, Nat.le_refl _, eqv_strS s⟩
theorem flat_bl (b : Bool) : Flat 0 (.bl b) := ⟨rfl, rfl, Nat.le_refl _, by cases b <;> rfl⟩
theorem flat_non : Flat 0 .non := ⟨rfl, rfl, Nat.le_refl _, rfl⟩
theorem ed_same {a b : Dt} {n : Nat} (ha : ED c ta es a) (hb : ED c tb es b) (e : b = a) (f : Flat n a) (hn : n ≤ 64) : EBd c (tTest (tOp (rNeD c.K) ta tb)) es false := by
  subst e
  exact EBd.is (eb_test (ed_ne ha hb (f.fine hn) (f.fine hn))) (by rw [f.self]; rfl)
theorem c_forEV {g : TG} {u : TS} {φ : Dt → Prop} (h : EV c te es φ) (k : ∀ P1, Low c P1 → ∀ x, φ x → ∀ tv, ED (c.at P1) tv es x → Cont (c.at P1) (tFor (iSeq c.K tv) g u D) es) : Cont c (tFor (iSeq c.K te) g u D) es := fun σ P H r =>
  h σ P H r _ fun v P1 H1 x hx r1 e1 hv => k P1 r1.low x hx (fun _ H Q => Q v H) (fun σ' P' H' r' Q q => q v P' H' x rfl r' Kp.refl (Has.mono r'.b _ hv)) σ P1 H1 r1.at
/-! the deeds -/
theorem deed_ex {CC CR C : Addr} {z : Int} {ns : List Str} {fd : List Dt} (h : cellsO CC x = .ex C ns fd) : deedO CC CR z x y = .ex C ns fd := by
  unfold deedO bothO
  rw [h]
  split
  · rfl
  · split <;> rfl
theorem deed_ok {CC CR : Addr} {z : Int} {d : Dt} (h : cellsO CC x = .ok d) (q : reachB y = true) : toldD (deedO CC CR z x y) = .tup [.str "let"] := by
  unfold deedO bothO
  rw [h]
  dsimp only
  rw [if_pos q, if_pos q]
  split
  · rfl
  · split <;> rfl
theorem deed_reach {CC CR : Addr} {z : Int} {d : Dt} (h : cellsO CC x = .ok d) (q : reachB y = false) (hz : z ≠ 0) : toldD (deedO CC CR z x y) = .tup [.str "reach"] := by
  have q' : ¬ reachB y = true := by rw [q]; decide
  unfold deedO bothO
  rw [h]
  dsimp only
  rw [if_neg hz, if_neg q', if_neg q']
  split <;> rfl
theorem deed_many {CC CR : Addr} {z : Int} (h : itemsD x = none ∨ ∃ l, itemsD x = some l ∧ 100 < l.length) : toldD (deedO CC CR z x y) = .tup [.str "cells", .int 0, .str "many"] := by
  have e : cellsO CC x = slipEx CC 0 "many" := by
    unfold cellsO
    rcases h with e | ⟨l, e, hl⟩
    · rw [e]
    · rw [e]
      dsimp only
      rw [if_neg (by omega)]
  rw [deed_ex e]
  rfl
theorem ed_ltold {z : Int} {d : Dt} (h1 : ED c ta es (.int z)) (h2 : ED c tb es x) (h3 : ED c tx es y) (hx : CellsIn x) (hy : PartIn y) (e : toldD (deedO (He.ga c.K "BadCells") (He.ga c.K "BadReach") z x y) = d) : ED c (tCall (sp_u_law_told c.K) [] E (tCons ta (tCons tb (tCons tx tNil)))) es d :=
  ed_fn (es_cons h1 (es_cons h2 (es_cons h3 es_nil))) ⟨z, x, y, rfl, hx, hy, e.symm⟩ fun w ⟨z', x', y', ee, _, _, ew⟩ => by
    cases ee
    rw [ew, e]
theorem ed_laxis (h : ED c ta es x) (hx : Kin x) : ED c (tCall (sp_u_law_axis c.K) [] E (tCons ta tNil)) es (axisD x) :=
  ed_fn (es_cons h es_nil) ⟨x, rfl, hx, rfl⟩ fun w ⟨x', ee, _, ew⟩ => by cases ee; exact ew
theorem eo_lreach (h1 : ED c ta es y) (h2 : ED c tb es x) (hy : PartIn y) (hx : IsPr x) : EO c (tCall (sp_u_law_reach c.K) [] E (tCons ta (tCons tb tNil))) es (fun l => l = reachL y x) :=
  EO.imp (eo_call (es_cons h1 (es_cons h2 es_nil)) ⟨_, y, x, rfl, hy, hx, rfl⟩) fun l ⟨y', x', e, _, _, el⟩ => by cases e; exact el
theorem len_nearC (hr : ReachOk r) : ((nearC r p).length : Int) = (2 * r.1 + 1) * (2 * r.2 + 1) := by
  obtain ⟨h1, h2, h3, h4⟩ := hr
  unfold nearC
  rw [List.length_flatMap]
  have key : ∀ l : List Int, (l.map fun a => ((span r.2).map fun b => (p.1 + a, p.2 + b)).length).sum = l.length * (span r.2).length := by
    intro l
    induction l with
    | nil => rw [List.map_nil, List.sum_nil, List.length_nil, Nat.zero_mul]
    | cons w l ih => rw [List.map_cons, List.sum_cons, ih, List.length_cons, List.length_map, Nat.succ_mul, Nat.add_comm]
  have e := key (span r.1)
  have ls : ∀ a : Int, 0 ≤ a → ((span a).length : Int) = 2 * a + 1 := fun a ha => by
    unfold span
    rw [List.length_map, List.length_range]
    omega
  show (((span r.1).map fun a => ((span r.2).map fun b => (p.1 + a, p.2 + b)).length).sum : Int) = _
  rw [show (((span r.1).map fun a => ((span r.2).map fun b => (p.1 + a, p.2 + b)).length).sum : Int) = (((span r.1).length * (span r.2).length : Nat) : Int) from congrArg _ e, Int.natCast_mul, ls _ h1, ls _ h3]
theorem at_nat {j : Nat} {d : Dt} (h : l[j]? = some d) : atI l (j : Int) = some d := at_of (n := l.length) (Evl.ixN_nat (List.getElem?_eq_some_iff.mp h).1) rfl h
theorem at_cell {j : Nat} (h : L[j]? = some p) : (cellsD L)[j]? = some (cellD p) := by
  unfold cellsD
  rw [List.getElem?_map, h]
  rfl
theorem cell_of (hp : InP p) : cellB (cellD p) = true := pair_of rfl hp
theorem mem_cut {lo hi : Option Int} {y : Dt} (h : y ∈ My.cutD l lo hi) : y ∈ l := List.mem_of_mem_drop (List.mem_of_mem_take h)
theorem cells_part {g : List Dt → Dt} (hg : g = .lst ∨ g = .tup) (h : ∀ y ∈ l, PartIn y) : CellsIn (g l) := by
  rcases hg with rfl | rfl
  · exact ⟨rfl, (fun m e => by cases e), fun m e y hy => by cases e; exact h y hy⟩
  · exact ⟨rfl, (fun m e => by cases e), fun m e y hy => by cases e; exact h y hy⟩
theorem flat_cells3 (k : Int) {w : Str} (h : PyData.strOk w = true) : Flat 1 (.tup [.str "cells", .int k, .str w]) := flat_tup fun y hy => by
  simp only [List.mem_cons, List.not_mem_nil, or_false] at hy
  rcases hy with rfl | rfl | rfl
  · exact flat_str (by decide +kernel)
  · exact flat_int k
  · exact flat_str h
theorem flat_one {w : Str} (h : PyData.strOk w = true) : Flat 1 (.tup [.str w]) := flat_tup fun y hy => by
  rw [List.mem_singleton.mp hy]
  exact flat_str h
/-- the list with two odd ones -/
theorem odd_list {A B : Nat} {d1 d2 : Dt} (hA : A < L.length) (hB : B < L.length) (hL : L.length ≤ 100) (hin : ∀ p ∈ L, InP p) (p1 : PartIn d1) (p2 : PartIn d2) (q1 : cellB d1 = false) (q2 : cellB d2 = false) :
    (∀ y ∈ ((cellsD L).set B d1).set A d2, PartIn y) ∧ ∀ (CC : Addr) x, itemsD x = some (((cellsD L).set B d1).set A d2) → cellsO CC x = slipEx CC (if B < A then B else A) "cell" := by
  have lc := len_cells L
  refine ⟨fun y hy => ?_, fun CC x e => ?_⟩
  · rcases List.mem_or_eq_of_mem_set hy with hy | rfl
    · rcases List.mem_or_eq_of_mem_set hy with hy | rfl
      · obtain ⟨p, _, rfl⟩ := List.mem_map.mp hy
        exact cellD_part p
      · exact p1
    · exact p2
  · unfold cellsO
    rw [e]
    dsimp only
    rw [if_pos (by rw [List.length_set, List.length_set, lc]; exact hL)]
    have lt : (if B < A then B else A) < L.length := by split <;> assumption
    have hF : ∃ dF, (((cellsD L).set B d1).set A d2)[if B < A then B else A]? = some dF ∧ cellB dF = false := by
      by_cases h : B < A
      · rw [if_pos h]
        refine ⟨d1, ?_, q1⟩
        rw [List.getElem?_set_ne (by omega), List.getElem?_set_self (by omega)]
      · rw [if_neg h]
        exact ⟨d2, by rw [List.getElem?_set_self (by rw [List.length_set]; omega)], q2⟩
    obtain ⟨dF, eF, bF⟩ := hF
    rw [badAt_one eF bF fun j z hj hz => ?_, Nat.zero_add]
    have h1 : A ≠ j := by split at hj <;> omega
    have h2 : B ≠ j := by split at hj <;> omega
    rw [List.getElem?_set_ne h1, List.getElem?_set_ne h2] at hz
    obtain ⟨p, hp, rfl⟩ := List.mem_map.mp (List.mem_of_getElem? hz)
    exact cell_of (hin p hp)
theorem sem_law : SemD K 16 (t_law K) R_law := by
  rintro P0 H0 D ds ⟨d, ns, rfl, hl, rfl⟩ k
  have ret := RetD.imp k fun z hz => (⟨ns, rfl, hl, hz⟩ : R_law _ z)
  refine s_asgO (eo_call (es_cons (ed_var rfl) es_nil) ⟨_, ns, rfl, hl, ⟨[], 0, 0, 0, rfl, (fun _ h => by cases h), by decide, by decide, by decide, by decide, by decide, by decide⟩⟩) fun ad ds ⟨_, _, _, hk⟩ => ?_
  refine c_hand (n := 1) rfl hk ?_
  refine s_asgV (φ := IsI fun m => 1 ≤ m ∧ m ≤ 100) (ev_ixT (ed_tup (es_cons ed_int (es_cons ed_int (es_cons ed_int (es_cons ed_int (es_cons ed_int (es_cons ed_int es_nil)))))) (by show 6 ≤ 100000; decide)) (ev_draw (k := 1) rfl ed_int (by decide) (by decide)) fun z ⟨z0, z1⟩ => ?_) fun d ⟨m, e, m1, m2⟩ => ?_
  · have : z = 0 ∨ z = 1 ∨ z = 2 ∨ z = 3 ∨ z = 4 ∨ z = 5 := by omega
    rcases this with rfl | rfl | rfl | rfl | rfl | rfl <;> exact ⟨_, rfl, _, rfl, by decide, by decide⟩
  subst e
  obtain ⟨N, rfl⟩ : ∃ N : Nat, m = (N : Int) := Int.eq_ofNat_of_zero_le (by omega)
  refine s_asgO (eo_lst es_nil fun l e => by rw [e]; decide) fun o ds e => ?_
  subst e
  refine c_seq (c_rng1 (I := fun k es => ∃ L s4, es = [.dat (.lst (ns.map Dt.int)), .hand ad, .dat (.int (N : Nat)), .own o (cellsD L), s4, .no, .no, .no, .no, .no, .no, .no, .no, .no, .no, .no, .no] ∧ L.length = k ∧ ∀ p ∈ L, InP p) (ed_var rfl) (by omega) ⟨[], .no, rfl, rfl, fun p hp => absurd hp List.not_mem_nil⟩ (fun k es hk ⟨L, s4, e, hl, hb⟩ => ?_) fun es ⟨L, s4, e, hLN, hin⟩ => ?_)
  · subst e
    refine c_app (n := 3) rfl (ev_tup (evs_cons (ei_I0 (ev_draw (k := 1) rfl ed_int (by decide) (by decide)) (ei_of ed_int)) (evs_cons (ei_I0 (ev_draw (k := 1) rfl ed_int (by decide) (by decide)) (ei_of ed_int)) es_nil)) fun l ⟨_, _, e, _, _, _, e2, _, e3⟩ => by subst e e2 e3; show 2 ≤ 100000; decide) (by rw [len_cells]; omega) fun d ⟨l, e, d1, m, e1, ⟨i, ei, j1, _, ⟨hi0, hi1⟩, hq, eii⟩, d2, m2, e2, ⟨j, ej, j2, _, ⟨hj0, hj1⟩, hq2, ejj⟩, e3⟩ => c_turn' rfl ⟨L ++ [(i, j)], .dat (.int (k : Nat)), ?_, ?_, fun p hp => ?_⟩
    · subst e e1 e2 e3 ei ej
      unfold cellsD
      rw [List.map_append]
      rfl
    · rw [List.length_append, hl]
      rfl
    · rcases List.mem_append.mp hp with h | h
      · exact hb p h
      · rw [List.mem_singleton.mp h]
        refine ⟨?_, ?_, ?_, ?_⟩ <;> dsimp only <;> omega
  subst e
  have hLN : L.length = N := hLN
  refine c_giveG (n := 3) rfl rfl ?_
  refine s_asgV (ev_tup (evs_cons (ev_draw (k := 1) rfl ed_int (by decide) (by decide)) (evs_cons (ev_draw (k := 1) rfl ed_int (by decide) (by decide)) es_nil)) fun l ⟨_, _, e, _, _, _, e2, _, e3⟩ => by subst e e2 e3; show 2 ≤ 100000; decide) fun d ⟨l, e, d1, m, e1, ⟨r1, er1, h10, h11⟩, d2, m2, e2, ⟨r2, er2, h20, h21⟩, e3⟩ => ?_
  subst e e1 e2 e3 er1 er2
  obtain ⟨r, er⟩ : ∃ r : Int × Int, r = (r1, r2) := ⟨_, rfl⟩
  have hr : ReachOk r := by subst er; exact ⟨h10, by show r1 ≤ 2; omega, h20, by show r2 ≤ 2; omega⟩
  rw [show Dt.tup [.int r1, .int r2] = cellD r by rw [er]; rfl]
  clear er h10 h11 h20 h21
  have qr : reachB (cellD r) = true := pair_of rfl hr
  refine s_asgV (ev_oddreach (k := 1) rfl) fun bad ⟨hbad, qbad⟩ => ?_
  refine s_asgV (ev_draw (k := 1) rfl (ed_var rfl) (by omega) (by omega)) fun d ⟨a, e, a0, a1⟩ => ?_
  subst e
  obtain ⟨A, rfl⟩ : ∃ A : Nat, a = (A : Int) := Int.eq_ofNat_of_zero_le a0
  refine s_asgV (ev_draw (k := 1) rfl (ed_var rfl) (by omega) (by omega)) fun d ⟨b, e, b0, b1⟩ => ?_
  subst e
  obtain ⟨B, rfl⟩ : ∃ B : Nat, b = (B : Int) := Int.eq_ofNat_of_zero_le b0
  have hA : A < L.length := by omega
  have hB : B < L.length := by omega
  have h0 : 0 < L.length := by omega
  obtain ⟨pA, eA⟩ : ∃ p, L[A]? = some p := ⟨_, List.getElem?_eq_getElem hA⟩
  obtain ⟨pB, eB⟩ : ∃ p, L[B]? = some p := ⟨_, List.getElem?_eq_getElem hB⟩
  obtain ⟨p0, e0⟩ : ∃ p, L[0]? = some p := ⟨_, List.getElem?_eq_getElem h0⟩
  have iA := hin pA (List.mem_of_getElem? eA)
  have iB := hin pB (List.mem_of_getElem? eB)
  have i0 := hin p0 (List.mem_of_getElem? e0)
  refine s_asgO (eo_list (ed_varG rfl) rfl) fun g ds e => ?_
  subst e
  refine c_seq (c_set (n := 9) (j := B) rfl (ev_oddcell (k := 1) rfl (ed_ixL (ed_varG rfl) (ed_var rfl) (at_nat (at_cell eB))) iB) (ed_var rfl) (by rw [len_cells]; exact hB) fun d1 ⟨p1, q1⟩ => ?_)
  refine c_seq (c_set (n := 9) (j := A) rfl (ev_oddcell (k := 1) rfl (ed_ixL (ed_varG rfl) (ed_var rfl) (at_nat (at_cell eA))) iA) (ed_var rfl) (by rw [List.length_set, len_cells]; exact hA) fun d2 ⟨p2, q2⟩ => ?_)
  obtain ⟨hpG, hG⟩ := odd_list hA hB (by omega) hin p1 p2 q1 q2
  have eG : (((cellsD L).set B d1).set A d2)[A]? = some d2 := List.getElem?_set_self (by rw [List.length_set, len_cells]; exact hA)
  obtain ⟨G, hGe⟩ : ∃ G, G = ((cellsD L).set B d1).set A d2 := ⟨_, rfl⟩
  rw [← hGe] at hpG hG eG
  obtain ⟨F, hF⟩ : ∃ F : Nat, F = if B < A then B else A := ⟨_, rfl⟩
  rw [← hF] at hG
  refine s_asg (d := .int (F : Nat)) (ED.is (ed_min2 (ed_var rfl) (ed_var rfl)) (congrArg Dt.int (by rw [hF]; split <;> split <;> omega))) ?_
  refine c_give (n := 9) rfl rfl ?_
  show Cont _ _ [.dat (.lst (ns.map Dt.int)), .hand ad, .dat (.int (N : Nat)), .dat (.lstN (cellsD L)), s4, .dat (cellD r), .dat bad, .dat (.int (A : Nat)), .dat (.int (B : Nat)), .dat (.lst (((cellsD L).set B d1).set A d2)), .dat (.int (F : Nat)), .no, .no, .no, .no, .no, .no]
  rw [← hGe]
  have cr := cellD_part r
  have okL : ∀ x, itemsD x = some (cellsD L) → ∃ d, cellsO (He.ga K "BadCells") x = .ok d := fun x e => ⟨_, cellsO_ok e (by rw [len_cells]; omega) fun z hz => by
    obtain ⟨p, hp, rfl⟩ := List.mem_map.mp hz
    exact cell_of (hin p hp)⟩
  refine s_when (b := false) (eb_or2 (ed_notBd (ed_isCell (ed_ixL (ed_var rfl) (ed_var rfl) (at_nat eG)) p2) q2) (ed_notBd (ed_isCell (ed_ixL (ed_varG rfl) (ed_var rfl) (at_nat (at_cell eA))) (cellD_part pA)) (cell_of iA))) (fun z => by cases z) fun _ => ?_
  have many : ∀ {es : List Sv} {P : Hp}, ED ((⟨K, [], P0, H0⟩ : Fr).at P) (tTup (tCons (tC (.str "cells")) (tCons (tC (.int 0)) (tCons (tC (.str "many")) tNil)))) es (.tup [.str "cells", .int 0, .str "many"]) := ed_tup (es_cons ed_str (es_cons ed_int (es_cons ed_str es_nil))) (by show 3 ≤ 100000; decide)
  refine c_seq (c_rng1 (I := fun k es => ∃ s11 s12 s13, es = [.dat (.lst (ns.map Dt.int)), .hand ad, .dat (.int (N : Nat)), .dat (.lstN (cellsD L)), s4, .dat (cellD r), .dat bad, .dat (.int (A : Nat)), .dat (.int (B : Nat)), .dat (.lst G), .dat (.int (F : Nat)), s11, s12, s13, .no, .no, .no]) ed_int (by decide) ⟨_, _, _, rfl⟩ (fun k es hk ⟨s11, s12, s13, e⟩ => ?_) fun es ⟨s11, s12, s13, e⟩ => ?_)
  · subst e
    have fl := flat_cells3 (F : Int) (w := "cell") (by decide +kernel)
    have f0 := flat_cells3 0 (w := "many") (by decide +kernel)
    have fA : ED ⟨K, [], P0, H0⟩ (tTup (tCons (tC (.str "cells")) (tCons (tVar 10) (tCons (tC (.str "cell")) tNil)))) [.dat (.lst (ns.map Dt.int)), .hand ad, .dat (.int (N : Nat)), .dat (.lstN (cellsD L)), s4, .dat (cellD r), .dat bad, .dat (.int (A : Nat)), .dat (.int (B : Nat)), .dat (.lst G), .dat (.int (F : Nat)), .dat (.int (k : Nat)), s12, s13, .no, .no, .no] (.tup [.str "cells", .int (F : Nat), .str "cell"]) := ed_tup (es_cons ed_str (es_cons (ed_var rfl) (es_cons ed_str es_nil))) (by show 3 ≤ 100000; decide)
    have le : ∀ {es : List Sv}, ED ⟨K, [], P0, H0⟩ (tTup (tCons (tC (.str "let")) tNil)) es (.tup [.str "let"]) := ed_tup (es_cons ed_str es_nil) (by show 1 ≤ 100000; decide)
    have mn : ∀ {es : List Sv}, ED ⟨K, [], P0, H0⟩ (tTup (tCons (tC (.str "cells")) (tCons (tC (.int 0)) (tCons (tC (.str "many")) tNil)))) es (.tup [.str "cells", .int 0, .str "many"]) := ed_tup (es_cons ed_str (es_cons ed_int (es_cons ed_str es_nil))) (by show 3 ≤ 100000; decide)
    refine s_when (b := false) (eb_or2 (ed_same (ed_ltold (ed_var rfl) (ed_var rfl) (ed_var rfl) (cells_part (.inl rfl) hpG) cr (by rw [deed_ex (hG _ _ rfl)]; rfl)) fA rfl fl (by decide)) (ed_same (ed_ltold (ed_var rfl) (ed_tupleOf (ed_var rfl) rfl) (ed_var rfl) (cells_part (.inr rfl) hpG) hbad (by rw [deed_ex (hG _ _ rfl)]; rfl)) fA rfl fl (by decide))) (fun z => by cases z) fun _ => ?_
    obtain ⟨dL, eL⟩ := okL (.lst (cellsD L)) rfl
    refine s_when (b := false) (ed_same (ed_ltold (ed_var rfl) (ed_varG rfl) (ed_var rfl) (cellsIn_L L) cr (deed_ok eL qr)) le rfl (flat_one (by decide +kernel)) (by decide)) (fun z => by cases z) fun _ => ?_
    refine s_when (b := false) (EBd.is (eb_and (b' := false) (eb_test (ed_B0 (f := fun i j => decide (j < i)) (ed_var rfl) ed_int)) fun hb => ed_same (ed_ltold (ed_var rfl) (ed_varG rfl) (ed_var rfl) (cellsIn_L L) hbad (deed_reach eL qbad (by have := of_decide_eq_true hb; omega))) (ed_tup (es_cons ed_str es_nil) (by show 1 ≤ 100000; decide)) rfl (flat_one (by decide +kernel)) (by decide)) (Bool.and_false _)) (fun z => by cases z) fun _ => ?_
    refine s_asgO (eo_catG (eg_var (n := 3) rfl) (eg_of (el_new (eo_rep (el_new (eo_lst (es_cons (ed_ixL (ed_varG rfl) ed_int (at_nat (j := 0) (at_cell e0))) es_nil) fun l e => by rw [e]; show 1 ≤ 100000; decide)) (ed_I0 ed_int (ed_var rfl)) (by omega) fun x e => by rw [e]; show 1 * _ ≤ 100000; omega))) fun x y ex ⟨w, ew, ey⟩ => by
      subst ex ew ey
      rw [len_cells, List.length_flatten, List.map_replicate, List.sum_replicate_nat]
      show L.length + _ * 1 ≤ 100000
      omega) fun o2 ds ⟨x, y, ex, ⟨w, ew, ey⟩, e⟩ => ?_
    subst ex ew ey e
    obtain ⟨LL, hLL⟩ : ∃ LL, LL = cellsD L ++ (List.replicate ((101 : Int) - (N : Nat)).toNat [cellD p0]).flatten := ⟨_, rfl⟩
    have lenL : LL.length = 101 := by
      rw [hLL, List.length_append, len_cells, List.length_flatten, List.map_replicate, List.sum_replicate_nat]
      show L.length + _ * 1 = 101
      omega
    have memL : ∀ y ∈ LL, ∃ p, InP p ∧ y = cellD p := fun y hy => by
      rw [hLL] at hy
      rcases List.mem_append.mp hy with h | h
      · obtain ⟨p, hp, rfl⟩ := List.mem_map.mp h
        exact ⟨p, hin p hp, rfl⟩
      · obtain ⟨l, hl, hy⟩ := List.mem_flatten.mp h
        rw [(List.mem_replicate.mp hl).2] at hy
        exact ⟨p0, i0, List.mem_singleton.mp hy⟩
    have partL : ∀ y ∈ LL, PartIn y := fun y hy => by
      obtain ⟨p, _, rfl⟩ := memL y hy
      exact cellD_part p
    refine c_give (n := 12) rfl rfl ?_
    show Cont _ _ [.dat (.lst (ns.map Dt.int)), .hand ad, .dat (.int (N : Nat)), .dat (.lstN (cellsD L)), s4, .dat (cellD r), .dat bad, .dat (.int (A : Nat)), .dat (.int (B : Nat)), .dat (.lst G), .dat (.int (F : Nat)), .dat (.int (k : Nat)), .dat (.lst (cellsD L ++ (List.replicate ((101 : Int) - (N : Nat)).toNat [cellD p0]).flatten)), s13, .no, .no, .no]
    rw [← hLL]
    refine s_when (b := false) (eb_or2 (ed_same (ed_ltold (ed_var rfl) (ed_var rfl) (ed_var rfl) (cells_part (.inl rfl) partL) hbad (deed_many (.inr ⟨LL, rfl, by omega⟩))) mn rfl f0 (by decide))
      (ed_same (ed_ltold (x := .lst (List.replicate 101 [Dt.non]).flatten) (ed_var rfl) (ed_give rfl (EO.imp (eo_rep (k := 101) (el_new (eo_lst (es_cons ed_non es_nil) fun l e => by rw [e]; show 1 ≤ 100000; decide)) ed_int (by decide) fun x e => by rw [e]; show 1 * 101 ≤ 100000; decide) fun l ⟨x, ex, el⟩ => by subst ex; exact el)) (ed_var rfl) (cells_part (.inl rfl) fun y hy => ?_) cr (deed_many (.inr ⟨_, rfl, by decide⟩))) mn rfl f0 (by decide))) (fun z => by cases z) fun _ => ?_
    · obtain ⟨l, hl, hy⟩ := List.mem_flatten.mp hy
      rw [(List.mem_replicate.mp hl).2] at hy
      rw [List.mem_singleton.mp hy]
      exact part_of rfl
    refine s_asgV (φ := fun d => CellsIn d ∧ itemsD d = none) (ev_ixT (ed_tup (es_cons ed_non (es_cons ed_str (es_cons ed_int (es_cons ed_dispT (es_cons ed_bl es_nil))))) (by show 5 ≤ 100000; decide)) (ev_draw (k := 1) rfl ed_int (by decide) (by decide)) fun z ⟨z0, z1⟩ => ?_) fun d ⟨hd, ed⟩ => ?_
    · have none : ∀ d, kinB d = true → nnB d = true → itemsD d = none → CellsIn d ∧ itemsD d = none := fun d h1 h2 h3 => ⟨⟨h1, (fun l e => by subst e; cases h2), fun l e => by rw [h3] at e; cases e⟩, h3⟩
      have : z = 0 ∨ z = 1 ∨ z = 2 ∨ z = 3 ∨ z = 4 := by omega
      rcases this with rfl | rfl | rfl | rfl | rfl <;> exact ⟨_, rfl, none _ rfl rfl rfl⟩
    refine c_if (b := false) (eb_or2 (ed_same (ed_ltold (ed_var rfl) (ed_var rfl) (ed_var rfl) hd cr (deed_many (.inl ed))) mn rfl f0 (by decide)) (ed_same (ed_ltold (ed_var rfl) (ed_cut rfl (ed_var rfl) ep_none (ep_some ed_int)) (ed_var rfl) (cells_part (.inl rfl) fun y hy => partL y (mem_cut hy)) cr (deed_ok (cellsO_ok rfl ?_ fun z hz => ?_) qr)) le rfl (flat_one (by decide +kernel)) (by decide))) (fun z => by cases z) fun _ => c_next (c_turn' rfl ⟨_, _, _, rfl⟩)
    · show (My.cutD LL none (some ((100 : Nat) : Int))).length ≤ 100
      rw [cut_to (i := 100) LL (by omega), List.length_take]
      omega
    · obtain ⟨p, hp, rfl⟩ := memL z (mem_cut hz)
      exact cell_of hp
  subst e
  refine c_seq (c_forEV (ev_give rfl (eo_lst (evs_cons (ei_I0 (ei_of ed_int) (ev_draw (k := 1) rfl ed_p9 (by decide) (by decide))) (evs_cons (ei_I0 (ei_of (ed_neg ed_int)) (ev_draw (k := 1) rfl ed_p9 (by decide) (by decide))) (es_cons ed_non (es_cons ed_str (es_cons (ed_tup (es_cons ed_int es_nil) (by show 1 ≤ 100000; decide)) es_nil))))) fun l ⟨_, _, e, _, _, _, e2, _, e3⟩ => by subst e e2 e3; show 5 ≤ 100000; decide)) fun P1 Lo x ⟨l, ex, d1, m, e1, ⟨a, ea, i, j, hi, ⟨j0, j1⟩, eaa⟩, d2, m2, e2, ⟨b, eb, i2, j2, hi2, ⟨j20, j21⟩, ebb⟩, e3⟩ tv hv => ?_)
  subst ex e1 e2 e3 ea eb
  have okA : ∀ y ∈ [Dt.int a, .int b, .non, .str "0", .tup [.int 0]], Kin y ∧ wholeB y (.int 0) (.int 1) = false ∧ Flat 2 y := fun y hy => by
    simp only [List.mem_cons, List.not_mem_nil, or_false] at hy
    rcases hy with rfl | rfl | rfl | rfl | rfl
    · exact ⟨rfl, Bool.eq_false_iff.mpr fun z => by have := whole_int.mp z; omega, (flat_int a).mono (by decide)⟩
    · exact ⟨rfl, Bool.eq_false_iff.mpr fun z => by have := whole_int.mp z; omega, (flat_int b).mono (by decide)⟩
    · exact ⟨rfl, rfl, flat_non.mono (by decide)⟩
    · exact ⟨rfl, rfl, (flat_str (by decide +kernel)).mono (by decide)⟩
    · exact ⟨rfl, rfl, (flat_tup (n := 0) fun y hy => by rw [List.mem_singleton.mp hy]; exact flat_int 0).mono (by decide)⟩
  refine c_for (I := fun k es => ∃ s14, es = [.dat (.lst (ns.map Dt.int)), .hand ad, .dat (.int (N : Nat)), .dat (.lstN (cellsD L)), s4, .dat (cellD r), .dat bad, .dat (.int (A : Nat)), .dat (.int (B : Nat)), .dat (.lst G), .dat (.int (F : Nat)), s11, s12, s13, s14, .no, .no]) (f := fun y es => es.set 14 (.dat y)) (vs := [14]) (wi_seq hv rfl) ⟨_, rfl⟩ (fun P y hy => tg_name) (fun P2 Lo2 k y es' ey ⟨s14, e⟩ => ?_) fun es' ⟨s14, e⟩ => ?_
  · subst e
    obtain ⟨hy, wy, fy⟩ := okA y (List.mem_of_getElem? ey)
    have ey2 : axisD y = .tup [.str "axis", y] := by unfold axisD; rw [if_neg (by rw [wy]; decide)]
    refine c_if (b := false) (ed_same (ED.is (ed_laxis (ed_var rfl) hy) ey2) (ed_tup (es_cons ed_str (es_cons (ed_var rfl) es_nil)) (by show 2 ≤ 100000; decide)) rfl (flat_tup (n := 2) fun z hz => ?_) (by decide)) (fun z => by cases z) fun _ => c_next (c_turn' rfl ⟨_, rfl⟩)
    rcases List.mem_cons.mp hz with rfl | hz
    · exact (flat_str (by decide +kernel)).mono (by decide)
    · rw [List.mem_singleton.mp hz]
      exact fy
  subst e
  have ret1 := ret.low Lo
  refine s_asgV (φ := fun d => ∃ b, d = .tup [.str "axis", .bl b]) (EV.imp (evs_call (R := R_laxis) (dd := []) (evs_cons (ev_op (χ := fun d => ∃ b, d = .bl b) (ev_draw (k := 1) rfl ed_int (by decide) (by decide)) (ei_of ed_int) fun x y ⟨i, ei, _⟩ ⟨j, ej, _⟩ => by
    subst ei ej
    exact fun v u P H ex hv hu Q q => rd_eq rfl rfl v u P H ex hv hu Q fun z P2 H2 d hd => q z P2 H2 d ⟨_, hd⟩) es_nil) (fun _ => .nil) fun l ⟨d1, m, e, ⟨b, e1⟩, e2⟩ => by subst e e1 e2; exact ⟨_, _, rfl, rfl, rfl⟩) fun d ⟨l, ⟨d1, m, e, ⟨b, e1⟩, e2⟩, x, ex, _, ed⟩ => by
      subst e e1 e2
      cases ex
      exact ⟨b, ed⟩) fun d ⟨b, e⟩ => ?_
  subst e
  have lt2 : ∀ k : Int, Flat 1 (.tup [.str "let", .int k]) := fun k => flat_tup fun y hy => by
    rcases List.mem_cons.mp hy with rfl | hy
    · exact flat_str (by decide +kernel)
    · rw [List.mem_singleton.mp hy]
      exact flat_int k
  refine s_when (b := false) (eb_or2 (ed_same (ed_ixT (ed_var rfl) ed_int rfl) ed_str rfl (flat_str (by decide +kernel)) (by decide)) (eb_or2 (ed_same (ed_laxis ed_int rfl) (ed_tup (es_cons ed_str (es_cons ed_int es_nil)) (by show 2 ≤ 100000; decide)) rfl (lt2 0) (by decide)) (ed_same (ed_laxis ed_int rfl) (ed_tup (es_cons ed_str (es_cons ed_int es_nil)) (by show 2 ≤ 100000; decide)) rfl (lt2 1) (by decide)))) (fun z => by cases z) fun _ => ?_
  obtain ⟨r10, r12, r20, r22⟩ := hr
  have z10 : ∀ i : Int, 0 ≤ i → i ≤ 10 → Sz 10 i := fun i h1 h2 => by
    show i.natAbs < 1024
    omega
  refine s_asg (ed_mul (n := 10) (m := 10) (ed_I0 (ed_mul (n := 10) (m := 10) ed_int (ed_ixI (ed_var rfl) rfl ed_int rfl) (z10 _ (by decide) (by decide)) (z10 _ r10 (by omega)) (by decide)) ed_int) (ed_I0 (ed_mul (n := 10) (m := 10) ed_int (ed_ixI (ed_var rfl) rfl ed_int rfl) (z10 _ (by decide) (by decide)) (z10 _ r20 (by omega)) (by decide)) ed_int) (z10 _ (by omega) (by omega)) (z10 _ (by omega) (by omega)) (by decide)) ?_
  have eqA : reachL (cellR r) (cellD pA) = [cellD r, .int ((2 * r.1 + 1) * (2 * r.2 + 1))] := by
    unfold reachL
    rw [if_pos (pair_of rfl ⟨r10, r12, r20, r22⟩)]
    show [cellD r, Dt.int ((nearC r pA).length : Nat)] = _
    rw [len_nearC ⟨r10, r12, r20, r22⟩]
  have eqB : reachL bad (cellD pA) = [.str "bad", .str "bad"] := by
    unfold reachL
    rw [if_neg (by rw [qbad]; decide)]
  have f1 : Flat 2 (.lst [cellD r, .int ((2 * r.1 + 1) * (2 * r.2 + 1))]) := flat_lst fun y hy => by
    rcases List.mem_cons.mp hy with rfl | hy
    · exact flat_cell r
    · rw [List.mem_singleton.mp hy]
      exact (flat_int _).mono (by decide)
  have fb : Flat 1 (.lst [.str "bad", .str "bad"]) := flat_lst fun y hy => by
    rcases List.mem_cons.mp hy with rfl | hy
    · exact flat_str (by decide +kernel)
    · rw [List.mem_singleton.mp hy]
      exact flat_str (by decide +kernel)
  refine c_ret (ED.is (ed_and (ed_eq (ed_give rfl (eo_lreach (ed_give rfl (eo_list (ed_var rfl) rfl)) (ed_ixL (ed_varG rfl) (ed_var rfl) (at_nat (at_cell eA))) (part_cellR r) ⟨_, _, rfl⟩)) (ed_lst rfl (es_cons (ed_var rfl) (es_cons (ed_var rfl) es_nil)) (by show 2 ≤ 100000; decide)) (by
      show fine (.lst (reachL (cellR r) (cellD pA))) = true
      rw [eqA]; exact f1.fine (by decide)) (f1.fine (by decide))) fun _ =>
    ed_eq (ed_give rfl (eo_lreach (ed_var rfl) (ed_ixL (ed_varG rfl) (ed_var rfl) (at_nat (at_cell eA))) hbad ⟨_, _, rfl⟩)) (ed_lst rfl (es_cons ed_str (es_cons ed_str es_nil)) (by show 2 ≤ 100000; decide)) (by rw [eqB]; exact fb.fine (by decide)) (fb.fine (by decide))) ?_) ret1
  show Dt.bl (eqv (.lst (reachL (cellR r) (cellD pA))) _ && eqv (.lst (reachL bad (cellD pA))) _) = .bl true
  rw [eqA, eqB, f1.self, fb.self]
  rfl
end
end K03
set_option Elab.async false
set_option linter.all false
set_option maxRecDepth 100000
set_option maxHeartbeats 4000000
namespace K03
open PySem PySem.Spec PyProof.Rows L2 My StX RZ Lw
theorem d_law0 {P : Program} {w : World} {K : PySem.W.Frag} {mg : Str → Option Value} {base : Heap} {f : Addr} {cdv : Value} {A : Around} {outer : List Env} {s : Shared} {H : Hp} {E : XK} (T : Txt P w K mg base) (C_u_law_hand : Fd P w K mg base l_u_law_hand "_law_hand" ["_law_script"] [] (sp_u_law_hand K)) (C_u_law_draw : Fd P w K mg base l_u_law_draw "_law_draw" ["_law_hand_here", "_law_many"] [] (sp_u_law_draw K)) (C_u_law_odd_reach : Fd P w K mg base l_u_law_odd_reach "_law_odd_reach" ["_law_hand_here"] [] (sp_u_law_odd_reach K)) (C_u_law_odd_cell : Fd P w K mg base l_u_law_odd_cell "_law_odd_cell" ["_law_hand_here", "_law_cell"] [] (sp_u_law_odd_cell K)) (C_is_cell : Fd P w K mg base l_is_cell "is_cell" ["thing"] [] (sp_is_cell K)) (C_u_law_told : Fd P w K mg base l_u_law_told "_law_told" ["_law_deed", "_law_cells", "_law_reach_here"] [] (sp_u_law_told K)) (C_u_law_axis : Fd P w K mg base l_u_law_axis "_law_axis" ["_law_axis_here"] [] (sp_u_law_axis K)) (C_u_law_reach : Fd P w K mg base l_u_law_reach "_law_reach" ["_law_reach_here", "_law_cell"] [] (sp_u_law_reach K))
    (hr : Room m_law (A.deeper (envOfC "law" (defScope s_law) s.heap.objs.size f cdv))) :
    PSs (cxOf CX0 P w K mg base N_law "law" (defScope s_law) f cdv A outer s H E) (defBody s_law) (t_law K) :=
  (pss_cons (ps_set (i := 1) sc_law.nd (by rfl) (Or.inl rfl) (pe_fd C_u_law_hand (hr.mono (by decide)) (pa_cons (pv 0) pa_nil)))
    (pss_cons (ps_set (i := 2) sc_law.nd (by rfl) (Or.inl rfl) (pe_ix ix_seq (pe_tup (pa_cons pe_int (pa_cons pe_int (pa_cons pe_int (pa_cons pe_int (pa_cons pe_int (pa_cons pe_int pa_nil))))))) (pe_fd C_u_law_draw (hr.mono (by decide)) (pa_cons (pv 1) (pa_cons pe_int pa_nil))) (fun _ _ => rfl)))
    (pss_cons (ps_set (i := 3) sc_law.nd (by rfl) (Or.inl rfl) (pe_lst pa_nil))
    (pss_cons (ps_for (passes_of rfl) rfl (pi_range1 (by rfl) T.b_range (pa_cons (pv 2) pa_nil)) (pg_name (i := 4) sc_law.nd (by rfl) (Or.inl rfl)) (pss_one (ps_expr (pe_bm PySem.F.plainAttrs_list PySem.F.slot_list_append PySem.F.type_list_append mt_append (pv 3) (pa_cons (pe_tup (pa_cons (pe_op op_sub (pe_fd C_u_law_draw (hr.mono (by decide)) (pa_cons (pv 1) (pa_cons pe_int pa_nil))) pe_int) (pa_cons (pe_op op_sub (pe_fd C_u_law_draw (hr.mono (by decide)) (pa_cons (pv 1) (pa_cons pe_int pa_nil))) pe_int) pa_nil))) pa_nil)))))
    (pss_cons (ps_set (i := 5) sc_law.nd (by rfl) (Or.inl rfl) (pe_tup (pa_cons (pe_fd C_u_law_draw (hr.mono (by decide)) (pa_cons (pv 1) (pa_cons pe_int pa_nil))) (pa_cons (pe_fd C_u_law_draw (hr.mono (by decide)) (pa_cons (pv 1) (pa_cons pe_int pa_nil))) pa_nil))))
    (pss_cons (ps_set (i := 6) sc_law.nd (by rfl) (Or.inl rfl) (pe_fd C_u_law_odd_reach (hr.mono (by decide)) (pa_cons (pv 1) pa_nil)))
    (pss_cons (ps_set (i := 7) sc_law.nd (by rfl) (Or.inl rfl) (pe_fd C_u_law_draw (hr.mono (by decide)) (pa_cons (pv 1) (pa_cons (pv 2) pa_nil))))
    (pss_cons (ps_set (i := 8) sc_law.nd (by rfl) (Or.inl rfl) (pe_fd C_u_law_draw (hr.mono (by decide)) (pa_cons (pv 1) (pa_cons (pv 2) pa_nil))))
    (pss_cons (ps_set (i := 9) sc_law.nd (by rfl) (Or.inl rfl) (pe_callTy call_list_of (by rfl) T.b_list (by decide +kernel) (pa_cons (pv 3) pa_nil)))
    (pss_cons (ps_asg (pe_fd C_u_law_odd_cell (hr.mono (by decide)) (pa_cons (pv 1) (pa_cons (pe_ix ix_seq (pv 3) (pv 8) (fun _ _ => rfl)) pa_nil))) (pg_sub (pv 9) (pv 8) set_list))
    (pss_cons (ps_asg (pe_fd C_u_law_odd_cell (hr.mono (by decide)) (pa_cons (pv 1) (pa_cons (pe_ix ix_seq (pv 3) (pv 7) (fun _ _ => rfl)) pa_nil))) (pg_sub (pv 9) (pv 7) set_list))
    (pss_cons (ps_set (i := 10) sc_law.nd (by rfl) (Or.inl rfl) (pe_callB (call_min2 rfl) (by rfl) T.b_min (by decide +kernel) (pa_cons (pv 7) (pa_cons (pv 8) pa_nil))))
    (pss_cons (ps_if (PW.pt (pw_or (pt_cmpR op_notBl (pe_fd C_is_cell (hr.mono (by decide)) (pa_cons (pe_ix ix_seq (pv 9) (pv 7) (fun _ _ => rfl)) pa_nil)) pe_bl (nomark _)) (pw_or1 (pt_cmpR op_notBl (pe_fd C_is_cell (hr.mono (by decide)) (pa_cons (pe_ix ix_seq (pv 3) (pv 7) (fun _ _ => rfl)) pa_nil)) pe_bl (nomark _))))) (pss_one (ps_ret pe_bl)) pss_nil)
    (pss_cons (ps_for (passes_of rfl) rfl (pi_range1 (by rfl) T.b_range (pa_cons pe_int pa_nil)) (pg_name (i := 11) sc_law.nd (by rfl) (Or.inl rfl)) (pss_cons (ps_if (PW.pt (pw_or (pt_cmpR (op_neD hr.units) (pe_fd C_u_law_told (hr.mono (by decide)) (pa_cons (pv 11) (pa_cons (pv 9) (pa_cons (pv 5) pa_nil)))) (pe_tup (pa_cons pe_str (pa_cons (pv 10) (pa_cons pe_str pa_nil)))) (nomark _)) (pw_or1 (pt_cmpR (op_neD hr.units) (pe_fd C_u_law_told (hr.mono (by decide)) (pa_cons (pv 11) (pa_cons (pe_callTy call_tuple_of (by rfl) T.b_tuple (by decide +kernel) (pa_cons (pv 9) pa_nil)) (pa_cons (pv 6) pa_nil)))) (pe_tup (pa_cons pe_str (pa_cons (pv 10) (pa_cons pe_str pa_nil)))) (nomark _))))) (pss_one (ps_ret pe_bl)) pss_nil)
    (pss_cons (ps_if (pt_cmpR (op_neD hr.units) (pe_fd C_u_law_told (hr.mono (by decide)) (pa_cons (pv 11) (pa_cons (pv 3) (pa_cons (pv 5) pa_nil)))) (pe_tup (pa_cons pe_str pa_nil)) (nomark _)) (pss_one (ps_ret pe_bl)) pss_nil)
    (pss_cons (ps_if (PW.pt (pw_and (pt_cmpR op_gt (pv 11) pe_int (nomark _)) (pw_and1 (pt_cmpR (op_neD hr.units) (pe_fd C_u_law_told (hr.mono (by decide)) (pa_cons (pv 11) (pa_cons (pv 3) (pa_cons (pv 6) pa_nil)))) (pe_tup (pa_cons pe_str pa_nil)) (nomark _))))) (pss_one (ps_ret pe_bl)) pss_nil)
    (pss_cons (ps_set (i := 12) sc_law.nd (by rfl) (Or.inl rfl) (pe_op op_cat (pv 3) (pe_op op_rep (pe_lst (pa_cons (pe_ix ix_seq (pv 3) pe_int (fun _ _ => rfl)) pa_nil)) (pe_op op_sub pe_int (pv 2)))))
    (pss_cons (ps_if (PW.pt (pw_or (pt_cmpR (op_neD hr.units) (pe_fd C_u_law_told (hr.mono (by decide)) (pa_cons (pv 11) (pa_cons (pv 12) (pa_cons (pv 6) pa_nil)))) (pe_tup (pa_cons pe_str (pa_cons pe_int (pa_cons pe_str pa_nil)))) (nomark _)) (pw_or1 (pt_cmpR (op_neD hr.units) (pe_fd C_u_law_told (hr.mono (by decide)) (pa_cons (pv 11) (pa_cons (pe_op op_rep (pe_lst (pa_cons pe_non pa_nil)) pe_int) (pa_cons (pv 5) pa_nil)))) (pe_tup (pa_cons pe_str (pa_cons pe_int (pa_cons pe_str pa_nil)))) (nomark _))))) (pss_one (ps_ret pe_bl)) pss_nil)
    (pss_cons (ps_set (i := 13) sc_law.nd (by rfl) (Or.inl rfl) (pe_ix ix_seq (pe_tup (pa_cons pe_non (pa_cons pe_str (pa_cons pe_int (pa_cons (pe_dispT (units1 hr) (pe_tup (pa_cons pe_int (pa_cons pe_int pa_nil))) pe_int) (pa_cons pe_bl pa_nil)))))) (pe_fd C_u_law_draw (hr.mono (by decide)) (pa_cons (pv 1) (pa_cons pe_int pa_nil))) (fun _ _ => rfl)))
    (pss_one (ps_if (PW.pt (pw_or (pt_cmpR (op_neD hr.units) (pe_fd C_u_law_told (hr.mono (by decide)) (pa_cons (pv 11) (pa_cons (pv 13) (pa_cons (pv 5) pa_nil)))) (pe_tup (pa_cons pe_str (pa_cons pe_int (pa_cons pe_str pa_nil)))) (nomark _)) (pw_or1 (pt_cmpR (op_neD hr.units) (pe_fd C_u_law_told (hr.mono (by decide)) (pa_cons (pv 11) (pa_cons (pe_slice sl_list (pv 12) po_none (po_some pe_int)) (pa_cons (pv 5) pa_nil)))) (pe_tup (pa_cons pe_str pa_nil)) (nomark _))))) (pss_one (ps_ret pe_bl)) pss_nil)))))))))
    (pss_cons (ps_for (passes_of rfl) rfl (pi_seq (pe_lst (pa_cons (pe_op op_add pe_int (pe_fd C_u_law_draw (hr.mono (by decide)) (pa_cons (pv 1) (pa_cons (pe_op op_pow pe_int pe_int) pa_nil)))) (pa_cons (pe_op op_sub (pe_un un_neg pe_int) (pe_fd C_u_law_draw (hr.mono (by decide)) (pa_cons (pv 1) (pa_cons (pe_op op_pow pe_int pe_int) pa_nil)))) (pa_cons pe_non (pa_cons pe_str (pa_cons (pe_tup (pa_cons pe_int pa_nil)) pa_nil))))))) (pg_name (i := 14) sc_law.nd (by rfl) (Or.inl rfl)) (pss_one (ps_if (pt_cmpR (op_neD hr.units) (pe_fd C_u_law_axis (hr.mono (by decide)) (pa_cons (pv 14) pa_nil)) (pe_tup (pa_cons pe_str (pa_cons (pv 14) pa_nil))) (nomark _)) (pss_one (ps_ret pe_bl)) pss_nil)))
    (pss_cons (ps_set (i := 15) sc_law.nd (by rfl) (Or.inl rfl) (pe_fd C_u_law_axis (hr.mono (by decide)) (pa_cons (pe_cmpR (op_eqD hr.units) (pe_fd C_u_law_draw (hr.mono (by decide)) (pa_cons (pv 1) (pa_cons pe_int pa_nil))) pe_int (nomark _)) pa_nil)))
    (pss_cons (ps_if (PW.pt (pw_or (pt_cmpR (op_neD hr.units) (pe_ix ix_seq (pv 15) pe_int (fun _ _ => rfl)) pe_str (nomark _)) (pw_or (pt_cmpR (op_neD hr.units) (pe_fd C_u_law_axis (hr.mono (by decide)) (pa_cons pe_int pa_nil)) (pe_tup (pa_cons pe_str (pa_cons pe_int pa_nil))) (nomark _)) (pw_or1 (pt_cmpR (op_neD hr.units) (pe_fd C_u_law_axis (hr.mono (by decide)) (pa_cons pe_int pa_nil)) (pe_tup (pa_cons pe_str (pa_cons pe_int pa_nil))) (nomark _)))))) (pss_one (ps_ret pe_bl)) pss_nil)
    (pss_cons (ps_set (i := 16) sc_law.nd (by rfl) (Or.inl rfl) (pe_op op_mulW (pe_op op_add (pe_op op_mulW pe_int (pe_ix ix_seq (pv 5) pe_int (fun _ _ => rfl))) pe_int) (pe_op op_add (pe_op op_mulW pe_int (pe_ix ix_seq (pv 5) pe_int (fun _ _ => rfl))) pe_int)))
    (pss_one (ps_ret (pe_and (pe_cmpR (op_eqD hr.units) (pe_fd C_u_law_reach (hr.mono (by decide)) (pa_cons (pe_callTy call_list_of (by rfl) T.b_list (by decide +kernel) (pa_cons (pv 5) pa_nil)) (pa_cons (pe_ix ix_seq (pv 3) (pv 7) (fun _ _ => rfl)) pa_nil))) (pe_lst (pa_cons (pv 5) (pa_cons (pv 16) pa_nil))) (nomark _)) (pe_one (pe_cmpR (op_eqD hr.units) (pe_fd C_u_law_reach (hr.mono (by decide)) (pa_cons (pv 6) (pa_cons (pe_ix ix_seq (pv 3) (pv 7) (fun _ _ => rfl)) pa_nil))) (pe_lst (pa_cons pe_str (pa_cons pe_str pa_nil))) (nomark _))))))))))))))))))))))))
section
variable {P : Program} {w : World} {K : PySem.W.Frag} {mg : Str → Option Value} {base : Heap} {f C : Addr} {fd : FuncData}
abbrev FnP (K : PySem.W.Frag) (x : Str) (st : Stmt) (dvs : List V) (f : Addr) (fd : FuncData) : Prop := FunD K x x (defArgs st) (defBody st) (defScope st) dvs [] f fd
theorem ok_is_whole (T : Txt P w K mg base)  (F : FnP K "is_whole" s_is_whole [.non, .non] f fd) : FnOk P w K mg base (L2.CX P w) l_is_whole f fd ["thing", "low", "high"] (sp_is_whole K) :=
  fnD (n := 0) F sc_is_whole rfl (fun ds d h => by obtain ⟨x, lo, hi, rfl, hx, hlo, hhi, rfl⟩ := h; rfl) (by intro f cdv A outer s H E hr; apply d_is_whole <;> assumption) (fun P0 H0 D ds h k => by obtain ⟨_, x, lo, hi, rfl, hx, hlo, hhi, rfl⟩ := h; exact Lw.sem_is_whole hx hlo hhi (k.imp fun d hd => ⟨x, lo, hi, rfl, hx, hlo, hhi, hd⟩))
theorem bd_is_whole_1 (F : FnP K "is_whole" s_is_whole [.non, .non] f fd) : ∃ ds, Vals ([.non, .non] : List V) ds ∧ Binds K fd ["thing", "low", "high"] ds :=
  F.binds1 1 0 (by simp) rfl fun T kV doc pm an cdv ct us its h1 h2 => match us, its, h1, h2 with
    | [_], [_, _], _, _ => ⟨_, rfl, rfl⟩
theorem bd_is_whole_2 (F : FnP K "is_whole" s_is_whole [.non, .non] f fd) : ∃ ds, Vals ([.non] : List V) ds ∧ Binds K fd ["thing", "low", "high"] ds :=
  F.binds1 2 1 (by simp) rfl fun T kV doc pm an cdv ct us its h1 h2 => match us, its, h1, h2 with
    | [_, _], [_, _], _, _ => ⟨_, rfl, rfl⟩
theorem bd_is_whole_3 (F : FnP K "is_whole" s_is_whole [.non, .non] f fd) : ∃ ds, Vals ([] : List V) ds ∧ Binds K fd ["thing", "low", "high"] ds :=
  F.binds1 3 2 (by simp) rfl fun T kV doc pm an cdv ct us its h1 h2 => match us, its, h1, h2 with
    | [_, _, _], [_, _], _, _ => ⟨_, rfl, rfl⟩
theorem ok_is_sequence (T : Txt P w K mg base) (C_is_whole : Fd P w K mg base l_is_whole "is_whole" ["thing", "low", "high"] [] (sp_is_whole K)) (F : FnP K "is_sequence" s_is_sequence [.int 0, .non] f fd) : FnOk P w K mg base (L2.CX P w) l_is_sequence f fd ["thing", "low", "high"] (sp_is_sequence K) :=
  fnD (n := 0) F sc_is_sequence rfl (fun ds d h => by obtain ⟨x, lo, hi, rfl, hx, hN, hL, hU, rfl⟩ := h; rfl) (by intro f cdv A outer s H E hr; apply d_is_sequence <;> assumption) (fun P0 H0 D ds h k => by obtain ⟨_, x, lo, hi, rfl, hx, hN, hL, hU, rfl⟩ := h; exact Lw.sem_is_sequence hx hN hL hU (k.imp fun d hd => ⟨x, lo, hi, rfl, hx, hN, hL, hU, hd⟩))
theorem bd_is_sequence_1 (F : FnP K "is_sequence" s_is_sequence [.int 0, .non] f fd) : ∃ ds, Vals ([.int 0, .non] : List V) ds ∧ Binds K fd ["thing", "low", "high"] ds :=
  F.binds1 1 0 (by simp) rfl fun T kV doc pm an cdv ct us its h1 h2 => match us, its, h1, h2 with
    | [_], [_, _], _, _ => ⟨_, rfl, rfl⟩
theorem bd_is_sequence_2 (F : FnP K "is_sequence" s_is_sequence [.int 0, .non] f fd) : ∃ ds, Vals ([.non] : List V) ds ∧ Binds K fd ["thing", "low", "high"] ds :=
  F.binds1 2 1 (by simp) rfl fun T kV doc pm an cdv ct us its h1 h2 => match us, its, h1, h2 with
    | [_, _], [_, _], _, _ => ⟨_, rfl, rfl⟩
theorem bd_is_sequence_3 (F : FnP K "is_sequence" s_is_sequence [.int 0, .non] f fd) : ∃ ds, Vals ([] : List V) ds ∧ Binds K fd ["thing", "low", "high"] ds :=
  F.binds1 3 2 (by simp) rfl fun T kV doc pm an cdv ct us its h1 h2 => match us, its, h1, h2 with
    | [_, _, _], [_, _], _, _ => ⟨_, rfl, rfl⟩
theorem ok_is_cell (T : Txt P w K mg base) (C_is_sequence : Fd P w K mg base l_is_sequence "is_sequence" ["thing", "low", "high"] [] (sp_is_sequence K)) (C_is_whole : Fd P w K mg base l_is_whole "is_whole" ["thing", "low", "high"] [] (sp_is_whole K)) (F : FnP K "is_cell" s_is_cell [] f fd) : FnOk P w K mg base (L2.CX P w) l_is_cell f fd ["thing"] (sp_is_cell K) :=
  fnD (n := 1) F sc_is_cell rfl (fun ds d h => by first | (obtain ⟨rfl, _⟩ := h; rfl) | (obtain ⟨_, rfl, _⟩ := h; rfl) | (obtain ⟨_, _, rfl, _⟩ := h; rfl) | (obtain ⟨_, _, _, rfl, _⟩ := h; rfl) | (obtain ⟨_, _, _, _, rfl, _⟩ := h; rfl) | (obtain ⟨_, _, _, _, _, rfl, _⟩ := h; rfl) | (obtain ⟨_, _, _, _, _, _, rfl, _⟩ := h; rfl)) (by intro f cdv A outer s H E hr; apply d_is_cell <;> assumption) (Lw.sem_is_cell)
theorem f_is_cell (T : Txt P w K mg base) (C_is_sequence : Fd P w K mg base l_is_sequence "is_sequence" ["thing", "low", "high"] [] (sp_is_sequence K)) (C_is_whole : Fd P w K mg base l_is_whole "is_whole" ["thing", "low", "high"] [] (sp_is_whole K)) (F : FnP K "is_cell" s_is_cell [] f fd) (hm : mg "is_cell" = some (.ref f)) : Fd P w K mg base l_is_cell "is_cell" ["thing"] [] (sp_is_cell K) :=
  fdN F hm (by apply ok_is_cell <;> assumption) fun _ _ _ _ _ _ us hl => match us, hl with | [_], _ => rfl
theorem ok_check_cells (T : Txt P w K mg base) (C_is_sequence : Fd P w K mg base l_is_sequence "is_sequence" ["thing", "low", "high"] [] (sp_is_sequence K)) (C_is_cell : Fd P w K mg base l_is_cell "is_cell" ["thing"] [] (sp_is_cell K)) (F : FnP K "check_cells" s_check_cells [] f fd) : FnOk P w K mg base (L2.CX P w) l_check_cells f fd ["cells"] (sp_check_cells K) :=
  fnY (n := 2) F sc_check_cells rfl (fun ds d h => by first | (obtain ⟨rfl, _⟩ := h; rfl) | (obtain ⟨_, rfl, _⟩ := h; rfl) | (obtain ⟨_, _, rfl, _⟩ := h; rfl) | (obtain ⟨_, _, _, rfl, _⟩ := h; rfl) | (obtain ⟨_, _, _, _, rfl, _⟩ := h; rfl) | (obtain ⟨_, _, _, _, _, rfl, _⟩ := h; rfl) | (obtain ⟨_, _, _, _, _, _, rfl, _⟩ := h; rfl)) (by intro f cdv A outer s H E hr; apply d_check_cells <;> assumption) (Lw.sem_check_cells)
theorem f_check_cells (T : Txt P w K mg base) (C_is_sequence : Fd P w K mg base l_is_sequence "is_sequence" ["thing", "low", "high"] [] (sp_is_sequence K)) (C_is_cell : Fd P w K mg base l_is_cell "is_cell" ["thing"] [] (sp_is_cell K)) (F : FnP K "check_cells" s_check_cells [] f fd) (hm : mg "check_cells" = some (.ref f)) : Fd P w K mg base l_check_cells "check_cells" ["cells"] [] (sp_check_cells K) :=
  fdN F hm (by apply ok_check_cells <;> assumption) fun _ _ _ _ _ _ us hl => match us, hl with | [_], _ => rfl
theorem ok_check_axis (T : Txt P w K mg base) (C_is_whole : Fd P w K mg base l_is_whole "is_whole" ["thing", "low", "high"] [] (sp_is_whole K)) (F : FnP K "check_axis" s_check_axis [] f fd) : FnOk P w K mg base (L2.CX P w) l_check_axis f fd ["axis"] (sp_check_axis K) :=
  fnY (n := 0) F sc_check_axis rfl (fun ds d h => by first | (obtain ⟨rfl, _⟩ := h; rfl) | (obtain ⟨_, rfl, _⟩ := h; rfl) | (obtain ⟨_, _, rfl, _⟩ := h; rfl) | (obtain ⟨_, _, _, rfl, _⟩ := h; rfl) | (obtain ⟨_, _, _, _, rfl, _⟩ := h; rfl) | (obtain ⟨_, _, _, _, _, rfl, _⟩ := h; rfl) | (obtain ⟨_, _, _, _, _, _, rfl, _⟩ := h; rfl)) (by intro f cdv A outer s H E hr; apply d_check_axis <;> assumption) (Lw.sem_check_axis)
theorem f_check_axis (T : Txt P w K mg base) (C_is_whole : Fd P w K mg base l_is_whole "is_whole" ["thing", "low", "high"] [] (sp_is_whole K)) (F : FnP K "check_axis" s_check_axis [] f fd) (hm : mg "check_axis" = some (.ref f)) : Fd P w K mg base l_check_axis "check_axis" ["axis"] [] (sp_check_axis K) :=
  fdN F hm (by apply ok_check_axis <;> assumption) fun _ _ _ _ _ _ us hl => match us, hl with | [_], _ => rfl
theorem ok_is_reach (T : Txt P w K mg base) (C_is_sequence : Fd P w K mg base l_is_sequence "is_sequence" ["thing", "low", "high"] [] (sp_is_sequence K)) (C_is_whole : Fd P w K mg base l_is_whole "is_whole" ["thing", "low", "high"] [] (sp_is_whole K)) (F : FnP K "is_reach" s_is_reach [] f fd) : FnOk P w K mg base (L2.CX P w) l_is_reach f fd ["thing"] (sp_is_reach K) :=
  fnD (n := 1) F sc_is_reach rfl (fun ds d h => by first | (obtain ⟨rfl, _⟩ := h; rfl) | (obtain ⟨_, rfl, _⟩ := h; rfl) | (obtain ⟨_, _, rfl, _⟩ := h; rfl) | (obtain ⟨_, _, _, rfl, _⟩ := h; rfl) | (obtain ⟨_, _, _, _, rfl, _⟩ := h; rfl) | (obtain ⟨_, _, _, _, _, rfl, _⟩ := h; rfl) | (obtain ⟨_, _, _, _, _, _, rfl, _⟩ := h; rfl)) (by intro f cdv A outer s H E hr; apply d_is_reach <;> assumption) (Lw.sem_is_reach)
theorem f_is_reach (T : Txt P w K mg base) (C_is_sequence : Fd P w K mg base l_is_sequence "is_sequence" ["thing", "low", "high"] [] (sp_is_sequence K)) (C_is_whole : Fd P w K mg base l_is_whole "is_whole" ["thing", "low", "high"] [] (sp_is_whole K)) (F : FnP K "is_reach" s_is_reach [] f fd) (hm : mg "is_reach" = some (.ref f)) : Fd P w K mg base l_is_reach "is_reach" ["thing"] [] (sp_is_reach K) :=
  fdN F hm (by apply ok_is_reach <;> assumption) fun _ _ _ _ _ _ us hl => match us, hl with | [_], _ => rfl
theorem ok_check_reach (T : Txt P w K mg base) (C_is_reach : Fd P w K mg base l_is_reach "is_reach" ["thing"] [] (sp_is_reach K)) (F : FnP K "check_reach" s_check_reach [] f fd) : FnOk P w K mg base (L2.CX P w) l_check_reach f fd ["reach"] (sp_check_reach K) :=
  fnY (n := 0) F sc_check_reach rfl (fun ds d h => by first | (obtain ⟨rfl, _⟩ := h; rfl) | (obtain ⟨_, rfl, _⟩ := h; rfl) | (obtain ⟨_, _, rfl, _⟩ := h; rfl) | (obtain ⟨_, _, _, rfl, _⟩ := h; rfl) | (obtain ⟨_, _, _, _, rfl, _⟩ := h; rfl) | (obtain ⟨_, _, _, _, _, rfl, _⟩ := h; rfl) | (obtain ⟨_, _, _, _, _, _, rfl, _⟩ := h; rfl)) (by intro f cdv A outer s H E hr; apply d_check_reach <;> assumption) (Lw.sem_check_reach)
theorem f_check_reach (T : Txt P w K mg base) (C_is_reach : Fd P w K mg base l_is_reach "is_reach" ["thing"] [] (sp_is_reach K)) (F : FnP K "check_reach" s_check_reach [] f fd) (hm : mg "check_reach" = some (.ref f)) : Fd P w K mg base l_check_reach "check_reach" ["reach"] [] (sp_check_reach K) :=
  fdN F hm (by apply ok_check_reach <;> assumption) fun _ _ _ _ _ _ us hl => match us, hl with | [_], _ => rfl
theorem ok_near_cells (T : Txt P w K mg base) (C_check_reach : Fd P w K mg base l_check_reach "check_reach" ["reach"] [] (sp_check_reach K)) (F : FnP K "near_cells" s_near_cells [] f fd) : FnOk P w K mg base (L2.CX P w) l_near_cells f fd ["cell", "reach"] (sp_near_cells K) :=
  fnY (n := 6) F sc_near_cells rfl (fun ds d h => by first | (obtain ⟨rfl, _⟩ := h; rfl) | (obtain ⟨_, rfl, _⟩ := h; rfl) | (obtain ⟨_, _, rfl, _⟩ := h; rfl) | (obtain ⟨_, _, _, rfl, _⟩ := h; rfl) | (obtain ⟨_, _, _, _, rfl, _⟩ := h; rfl) | (obtain ⟨_, _, _, _, _, rfl, _⟩ := h; rfl) | (obtain ⟨_, _, _, _, _, _, rfl, _⟩ := h; rfl)) (by intro f cdv A outer s H E hr; apply d_near_cells <;> assumption) (Lw.sem_near_cells)
theorem f_near_cells (T : Txt P w K mg base) (C_check_reach : Fd P w K mg base l_check_reach "check_reach" ["reach"] [] (sp_check_reach K)) (F : FnP K "near_cells" s_near_cells [] f fd) (hm : mg "near_cells" = some (.ref f)) : Fd P w K mg base l_near_cells "near_cells" ["cell", "reach"] [] (sp_near_cells K) :=
  fdN F hm (by apply ok_near_cells <;> assumption) fun _ _ _ _ _ _ us hl => match us, hl with | [_, _], _ => rfl
theorem ok_grown_cells (T : Txt P w K mg base) (C_check_cells : Fd P w K mg base l_check_cells "check_cells" ["cells"] [] (sp_check_cells K)) (C_check_reach : Fd P w K mg base l_check_reach "check_reach" ["reach"] [] (sp_check_reach K)) (C_near_cells : Fd P w K mg base l_near_cells "near_cells" ["cell", "reach"] [] (sp_near_cells K)) (F : FnP K "grown_cells" s_grown_cells [] f fd) : FnOk P w K mg base (L2.CX P w) l_grown_cells f fd ["cells", "reach"] (sp_grown_cells K) :=
  fnY (n := 4) F sc_grown_cells rfl (fun ds d h => by first | (obtain ⟨rfl, _⟩ := h; rfl) | (obtain ⟨_, rfl, _⟩ := h; rfl) | (obtain ⟨_, _, rfl, _⟩ := h; rfl) | (obtain ⟨_, _, _, rfl, _⟩ := h; rfl) | (obtain ⟨_, _, _, _, rfl, _⟩ := h; rfl) | (obtain ⟨_, _, _, _, _, rfl, _⟩ := h; rfl) | (obtain ⟨_, _, _, _, _, _, rfl, _⟩ := h; rfl)) (by intro f cdv A outer s H E hr; apply d_grown_cells <;> assumption) (Lw.sem_grown_cells)
theorem f_grown_cells (T : Txt P w K mg base) (C_check_cells : Fd P w K mg base l_check_cells "check_cells" ["cells"] [] (sp_check_cells K)) (C_check_reach : Fd P w K mg base l_check_reach "check_reach" ["reach"] [] (sp_check_reach K)) (C_near_cells : Fd P w K mg base l_near_cells "near_cells" ["cell", "reach"] [] (sp_near_cells K)) (F : FnP K "grown_cells" s_grown_cells [] f fd) (hm : mg "grown_cells" = some (.ref f)) : Fd P w K mg base l_grown_cells "grown_cells" ["cells", "reach"] [] (sp_grown_cells K) :=
  fdN F hm (by apply ok_grown_cells <;> assumption) fun _ _ _ _ _ _ us hl => match us, hl with | [_, _], _ => rfl
theorem ok_shrunk_cells (T : Txt P w K mg base) (C_check_cells : Fd P w K mg base l_check_cells "check_cells" ["cells"] [] (sp_check_cells K)) (C_check_reach : Fd P w K mg base l_check_reach "check_reach" ["reach"] [] (sp_check_reach K)) (C_near_cells : Fd P w K mg base l_near_cells "near_cells" ["cell", "reach"] [] (sp_near_cells K)) (F : FnP K "shrunk_cells" s_shrunk_cells [] f fd) : FnOk P w K mg base (L2.CX P w) l_shrunk_cells f fd ["cells", "reach"] (sp_shrunk_cells K) :=
  fnY (n := 5) F sc_shrunk_cells rfl (fun ds d h => by first | (obtain ⟨rfl, _⟩ := h; rfl) | (obtain ⟨_, rfl, _⟩ := h; rfl) | (obtain ⟨_, _, rfl, _⟩ := h; rfl) | (obtain ⟨_, _, _, rfl, _⟩ := h; rfl) | (obtain ⟨_, _, _, _, rfl, _⟩ := h; rfl) | (obtain ⟨_, _, _, _, _, rfl, _⟩ := h; rfl) | (obtain ⟨_, _, _, _, _, _, rfl, _⟩ := h; rfl)) (by intro f cdv A outer s H E hr; apply d_shrunk_cells <;> assumption) (Lw.sem_shrunk_cells)
theorem f_shrunk_cells (T : Txt P w K mg base) (C_check_cells : Fd P w K mg base l_check_cells "check_cells" ["cells"] [] (sp_check_cells K)) (C_check_reach : Fd P w K mg base l_check_reach "check_reach" ["reach"] [] (sp_check_reach K)) (C_near_cells : Fd P w K mg base l_near_cells "near_cells" ["cell", "reach"] [] (sp_near_cells K)) (F : FnP K "shrunk_cells" s_shrunk_cells [] f fd) (hm : mg "shrunk_cells" = some (.ref f)) : Fd P w K mg base l_shrunk_cells "shrunk_cells" ["cells", "reach"] [] (sp_shrunk_cells K) :=
  fdN F hm (by apply ok_shrunk_cells <;> assumption) fun _ _ _ _ _ _ us hl => match us, hl with | [_, _], _ => rfl
theorem ok_u_law_mix (T : Txt P w K mg base)  (F : FnP K "_law_mix" s_u_law_mix [] f fd) : FnOk P w K mg base (L2.CX P w) l_u_law_mix f fd ["_law_number", "_law_turn"] (sp_u_law_mix K) :=
  fnD (n := 2) F sc_u_law_mix rfl (fun ds d h => by obtain ⟨n, t, rfl, h0, h1, h2, h3, _⟩ := h; rfl) (by intro f cdv A outer s H E hr; apply d_u_law_mix <;> assumption) (fun P0 H0 D ds h k => by obtain ⟨_, n, t, rfl, h0, h1, h2, h3, _⟩ := h; exact Lw.sem_mix h0 h1 h2 h3 (k.imp fun d hd => ⟨n, t, rfl, h0, h1, h2, h3, hd⟩))
theorem f_u_law_mix (T : Txt P w K mg base)  (F : FnP K "_law_mix" s_u_law_mix [] f fd) (hm : mg "_law_mix" = some (.ref f)) : Fd P w K mg base l_u_law_mix "_law_mix" ["_law_number", "_law_turn"] [] (sp_u_law_mix K) :=
  fdN F hm (by apply ok_u_law_mix <;> assumption) fun _ _ _ _ _ _ us hl => match us, hl with | [_, _], _ => rfl
theorem ok_u_law_hand (T : Txt P w K mg base)  (F : FnP K "_law_hand" s_u_law_hand [] f fd) : FnOk P w K mg base (L2.CX P w) l_u_law_hand f fd ["_law_script"] (sp_u_law_hand K) :=
  fnO (n := 3) F sc_u_law_hand rfl (fun ds d h => by obtain ⟨ns, rfl, hl, _⟩ := h; rfl) (by intro f cdv A outer s H E hr; apply d_u_law_hand <;> assumption) (fun P0 H0 D ds h k => by obtain ⟨_, ns, rfl, hl, _⟩ := h; exact Lw.sem_hand hl rfl fun l P H σ es ds hd => k l P H σ es ds ⟨ns, rfl, hl, hd⟩)
theorem f_u_law_hand (T : Txt P w K mg base)  (F : FnP K "_law_hand" s_u_law_hand [] f fd) (hm : mg "_law_hand" = some (.ref f)) : Fd P w K mg base l_u_law_hand "_law_hand" ["_law_script"] [] (sp_u_law_hand K) :=
  fdN F hm (by apply ok_u_law_hand <;> assumption) fun _ _ _ _ _ _ us hl => match us, hl with | [_], _ => rfl
theorem ok_u_law_draw (T : Txt P w K mg base) (C_u_law_mix : Fd P w K mg base l_u_law_mix "_law_mix" ["_law_number", "_law_turn"] [] (sp_u_law_mix K)) (F : FnP K "_law_draw" s_u_law_draw [] f fd) : FnOk P w K mg base (L2.CX P w) l_u_law_draw f fd ["_law_hand_here", "_law_many"] (sp_u_law_draw K) :=
  fnH (n := 2) F sc_u_law_draw rfl (fun ds d h => by obtain ⟨m, rfl, h0, h1, _⟩ := h; rfl) (by intro f cdv A outer s H E hr; apply d_u_law_draw <;> assumption) (fun P0 H0 a D ds h k => by obtain ⟨_, m, rfl, h0, h1, _⟩ := h; exact Lw.sem_draw h0 h1 rfl fun v P H d hs hd => k v P H d hs ⟨m, rfl, h0, h1, hd⟩)
theorem f_u_law_draw (T : Txt P w K mg base) (C_u_law_mix : Fd P w K mg base l_u_law_mix "_law_mix" ["_law_number", "_law_turn"] [] (sp_u_law_mix K)) (F : FnP K "_law_draw" s_u_law_draw [] f fd) (hm : mg "_law_draw" = some (.ref f)) : Fd P w K mg base l_u_law_draw "_law_draw" ["_law_hand_here", "_law_many"] [] (sp_u_law_draw K) :=
  fdN F hm (by apply ok_u_law_draw <;> assumption) fun _ _ _ _ _ _ us hl => match us, hl with | [_, _], _ => rfl
theorem ok_u_law_told (T : Txt P w K mg base) (C_check_cells : Fd P w K mg base l_check_cells "check_cells" ["cells"] [] (sp_check_cells K)) (C_grown_cells : Fd P w K mg base l_grown_cells "grown_cells" ["cells", "reach"] [] (sp_grown_cells K)) (C_shrunk_cells : Fd P w K mg base l_shrunk_cells "shrunk_cells" ["cells", "reach"] [] (sp_shrunk_cells K)) (F : FnP K "_law_told" s_u_law_told [] f fd) : FnOk P w K mg base (L2.CX P w) l_u_law_told f fd ["_law_deed", "_law_cells", "_law_reach_here"] (sp_u_law_told K) :=
  fnD (n := 2) F sc_u_law_told rfl (fun ds d h => by first | (obtain ⟨rfl, _⟩ := h; rfl) | (obtain ⟨_, rfl, _⟩ := h; rfl) | (obtain ⟨_, _, rfl, _⟩ := h; rfl) | (obtain ⟨_, _, _, rfl, _⟩ := h; rfl) | (obtain ⟨_, _, _, _, rfl, _⟩ := h; rfl) | (obtain ⟨_, _, _, _, _, rfl, _⟩ := h; rfl) | (obtain ⟨_, _, _, _, _, _, rfl, _⟩ := h; rfl)) (by intro f cdv A outer s H E hr; apply d_u_law_told <;> assumption) (sem_u_law_told T.exm_BadCells_BadCells T.exm_BadReach_BadCells T.exm_BadReach_BadReach)
theorem f_u_law_told (T : Txt P w K mg base) (C_check_cells : Fd P w K mg base l_check_cells "check_cells" ["cells"] [] (sp_check_cells K)) (C_grown_cells : Fd P w K mg base l_grown_cells "grown_cells" ["cells", "reach"] [] (sp_grown_cells K)) (C_shrunk_cells : Fd P w K mg base l_shrunk_cells "shrunk_cells" ["cells", "reach"] [] (sp_shrunk_cells K)) (F : FnP K "_law_told" s_u_law_told [] f fd) (hm : mg "_law_told" = some (.ref f)) : Fd P w K mg base l_u_law_told "_law_told" ["_law_deed", "_law_cells", "_law_reach_here"] [] (sp_u_law_told K) :=
  fdN F hm (by apply ok_u_law_told <;> assumption) fun _ _ _ _ _ _ us hl => match us, hl with | [_, _, _], _ => rfl
theorem ok_u_law_axis (T : Txt P w K mg base) (C_check_axis : Fd P w K mg base l_check_axis "check_axis" ["axis"] [] (sp_check_axis K)) (F : FnP K "_law_axis" s_u_law_axis [] f fd) : FnOk P w K mg base (L2.CX P w) l_u_law_axis f fd ["_law_axis_here"] (sp_u_law_axis K) :=
  fnD (n := 2) F sc_u_law_axis rfl (fun ds d h => by first | (obtain ⟨rfl, _⟩ := h; rfl) | (obtain ⟨_, rfl, _⟩ := h; rfl) | (obtain ⟨_, _, rfl, _⟩ := h; rfl) | (obtain ⟨_, _, _, rfl, _⟩ := h; rfl) | (obtain ⟨_, _, _, _, rfl, _⟩ := h; rfl) | (obtain ⟨_, _, _, _, _, rfl, _⟩ := h; rfl) | (obtain ⟨_, _, _, _, _, _, rfl, _⟩ := h; rfl)) (by intro f cdv A outer s H E hr; apply d_u_law_axis <;> assumption) (sem_u_law_axis T.exm_BadAxis_BadAxis)
theorem f_u_law_axis (T : Txt P w K mg base) (C_check_axis : Fd P w K mg base l_check_axis "check_axis" ["axis"] [] (sp_check_axis K)) (F : FnP K "_law_axis" s_u_law_axis [] f fd) (hm : mg "_law_axis" = some (.ref f)) : Fd P w K mg base l_u_law_axis "_law_axis" ["_law_axis_here"] [] (sp_u_law_axis K) :=
  fdN F hm (by apply ok_u_law_axis <;> assumption) fun _ _ _ _ _ _ us hl => match us, hl with | [_], _ => rfl
theorem ok_u_law_reach (T : Txt P w K mg base) (C_check_reach : Fd P w K mg base l_check_reach "check_reach" ["reach"] [] (sp_check_reach K)) (C_near_cells : Fd P w K mg base l_near_cells "near_cells" ["cell", "reach"] [] (sp_near_cells K)) (F : FnP K "_law_reach" s_u_law_reach [] f fd) : FnOk P w K mg base (L2.CX P w) l_u_law_reach f fd ["_law_reach_here", "_law_cell"] (sp_u_law_reach K) :=
  fnO (n := 1) F sc_u_law_reach rfl (fun ds d h => by first | (obtain ⟨rfl, _⟩ := h; rfl) | (obtain ⟨_, rfl, _⟩ := h; rfl) | (obtain ⟨_, _, rfl, _⟩ := h; rfl) | (obtain ⟨_, _, _, rfl, _⟩ := h; rfl) | (obtain ⟨_, _, _, _, rfl, _⟩ := h; rfl) | (obtain ⟨_, _, _, _, _, rfl, _⟩ := h; rfl) | (obtain ⟨_, _, _, _, _, _, rfl, _⟩ := h; rfl)) (by intro f cdv A outer s H E hr; apply d_u_law_reach <;> assumption) (sem_u_law_reach T.exm_BadReach_BadReach)
theorem f_u_law_reach (T : Txt P w K mg base) (C_check_reach : Fd P w K mg base l_check_reach "check_reach" ["reach"] [] (sp_check_reach K)) (C_near_cells : Fd P w K mg base l_near_cells "near_cells" ["cell", "reach"] [] (sp_near_cells K)) (F : FnP K "_law_reach" s_u_law_reach [] f fd) (hm : mg "_law_reach" = some (.ref f)) : Fd P w K mg base l_u_law_reach "_law_reach" ["_law_reach_here", "_law_cell"] [] (sp_u_law_reach K) :=
  fdN F hm (by apply ok_u_law_reach <;> assumption) fun _ _ _ _ _ _ us hl => match us, hl with | [_, _], _ => rfl
theorem ok_u_law_odd_cell (T : Txt P w K mg base) (C_u_law_draw : Fd P w K mg base l_u_law_draw "_law_draw" ["_law_hand_here", "_law_many"] [] (sp_u_law_draw K)) (F : FnP K "_law_odd_cell" s_u_law_odd_cell [] f fd) : FnOk P w K mg base (L2.CX P w) l_u_law_odd_cell f fd ["_law_hand_here", "_law_cell"] (sp_u_law_odd_cell K) :=
  fnH (n := 4) F sc_u_law_odd_cell rfl (fun ds d h => by first | (obtain ⟨rfl, _⟩ := h; rfl) | (obtain ⟨_, rfl, _⟩ := h; rfl) | (obtain ⟨_, _, rfl, _⟩ := h; rfl) | (obtain ⟨_, _, _, rfl, _⟩ := h; rfl) | (obtain ⟨_, _, _, _, rfl, _⟩ := h; rfl) | (obtain ⟨_, _, _, _, _, rfl, _⟩ := h; rfl) | (obtain ⟨_, _, _, _, _, _, rfl, _⟩ := h; rfl)) (by intro f cdv A outer s H E hr; apply d_u_law_odd_cell <;> assumption) (sem_u_law_odd_cell)
theorem f_u_law_odd_cell (T : Txt P w K mg base) (C_u_law_draw : Fd P w K mg base l_u_law_draw "_law_draw" ["_law_hand_here", "_law_many"] [] (sp_u_law_draw K)) (F : FnP K "_law_odd_cell" s_u_law_odd_cell [] f fd) (hm : mg "_law_odd_cell" = some (.ref f)) : Fd P w K mg base l_u_law_odd_cell "_law_odd_cell" ["_law_hand_here", "_law_cell"] [] (sp_u_law_odd_cell K) :=
  fdN F hm (by apply ok_u_law_odd_cell <;> assumption) fun _ _ _ _ _ _ us hl => match us, hl with | [_, _], _ => rfl
theorem ok_u_law_odd_reach (T : Txt P w K mg base) (C_u_law_draw : Fd P w K mg base l_u_law_draw "_law_draw" ["_law_hand_here", "_law_many"] [] (sp_u_law_draw K)) (F : FnP K "_law_odd_reach" s_u_law_odd_reach [] f fd) : FnOk P w K mg base (L2.CX P w) l_u_law_odd_reach f fd ["_law_hand_here"] (sp_u_law_odd_reach K) :=
  fnH (n := 2) F sc_u_law_odd_reach rfl (fun ds d h => by first | (obtain ⟨rfl, _⟩ := h; rfl) | (obtain ⟨_, rfl, _⟩ := h; rfl) | (obtain ⟨_, _, rfl, _⟩ := h; rfl) | (obtain ⟨_, _, _, rfl, _⟩ := h; rfl) | (obtain ⟨_, _, _, _, rfl, _⟩ := h; rfl) | (obtain ⟨_, _, _, _, _, rfl, _⟩ := h; rfl) | (obtain ⟨_, _, _, _, _, _, rfl, _⟩ := h; rfl)) (by intro f cdv A outer s H E hr; apply d_u_law_odd_reach <;> assumption) (sem_u_law_odd_reach)
theorem f_u_law_odd_reach (T : Txt P w K mg base) (C_u_law_draw : Fd P w K mg base l_u_law_draw "_law_draw" ["_law_hand_here", "_law_many"] [] (sp_u_law_draw K)) (F : FnP K "_law_odd_reach" s_u_law_odd_reach [] f fd) (hm : mg "_law_odd_reach" = some (.ref f)) : Fd P w K mg base l_u_law_odd_reach "_law_odd_reach" ["_law_hand_here"] [] (sp_u_law_odd_reach K) :=
  fdN F hm (by apply ok_u_law_odd_reach <;> assumption) fun _ _ _ _ _ _ us hl => match us, hl with | [_], _ => rfl
theorem sc_initBadCells : FnScope ["self", "index", "what"] ["self", "index", "what"] (defScope s_initBadCells) := ⟨rfl, rfl, rfl, by decide +kernel, rfl, by decide +kernel, by decide +kernel⟩
theorem ok_initBadCells (T : OexC K C) (hno : PySem.W.findIn K (.ref C) "index" = some none) (hno2 : PySem.W.findIn K (.ref C) "what" = some none) (F : FunD K "__init__" "BadCells.__init__" (defArgs s_initBadCells) (defBody s_initBadCells) (defScope s_initBadCells) [] [] f fd) : FnOk P w K mg base (L2.CX P w) 1 f fd ["self", "index", "what"] (spIni2 K C "index" "what") := by
  refine F.ok sc_initBadCells (fun vs H Q E h => ?_) (fun cdv A outer s H vs Q E hr h => ⟨tSeq (tOst K "index" (tVar 0) (tVar 1)) (tOst K "what" (tVar 0) (tVar 2)), pss_cons (ps_ost (pv 0) (pv 1)) (pss_one (ps_ost (pv 0) (pv 2))), ?_⟩)
  · obtain ⟨a, v, u, rfl, _⟩ := h
    rfl
  · obtain ⟨a, v, u, rfl, ea, q⟩ := h
    refine ⟨v, rfl, .ref a, rfl, a, C, rfl, T, hno, .inl ⟨ea, fun dx h1 h2 => ?_⟩⟩
    exact ⟨u, rfl, .ref a, rfl, a, C, rfl, T, hno2, .inr ⟨dx, [("index", v)], upd_same, (upd_ne h2).trans upd_same, (by show 1 ≤ 900; decide), q dx h1 h2⟩⟩
theorem sc_initBadAxis : FnScope ["self", "axis"] ["self", "axis"] (defScope s_initBadAxis) := ⟨rfl, rfl, rfl, by decide +kernel, rfl, by decide +kernel, by decide +kernel⟩
theorem ok_initBadAxis (T : OexC K C) (hno : PySem.W.findIn K (.ref C) "axis" = some none) (F : FunD K "__init__" "BadAxis.__init__" (defArgs s_initBadAxis) (defBody s_initBadAxis) (defScope s_initBadAxis) [] [] f fd) : FnOk P w K mg base (L2.CX P w) 1 f fd ["self", "axis"] (spIni1 K C "axis") := by
  refine F.ok sc_initBadAxis (fun vs H Q E h => ?_) (fun cdv A outer s H vs Q E hr h => ⟨tOst K "axis" (tVar 0) (tVar 1), pss_one (ps_ost (pv 0) (pv 1)), ?_⟩)
  · obtain ⟨a, v, rfl, _⟩ := h
    rfl
  · obtain ⟨a, v, rfl, ea, q⟩ := h
    exact ⟨v, rfl, .ref a, rfl, a, C, rfl, T, hno, .inl ⟨ea, fun dx h1 h2 => q dx h1 h2⟩⟩
end
section
variable {P : Program} {w w' : World} {K : PySem.W.Frag} {h base : Heap} {mg : Str → Option Value} {f : Addr} {fd : FuncData}
theorem txt (X : K.In h) (G : h.Ns mainGlobals mg) (c : He.SaysX fa fn [] [] ex w h K) : Txt P w' K mg base := by
  obtain ⟨e1, m⟩ := He.ba (show _ = true from c.more)
  obtain ⟨e2, m⟩ := He.ba m
  obtain ⟨e3, m⟩ := He.ba m
  obtain ⟨e4, m⟩ := He.ba m
  obtain ⟨e5, m⟩ := He.ba m
  obtain ⟨e6, m⟩ := He.ba m
  obtain ⟨e7, m⟩ := He.ba m
  obtain ⟨e8, m⟩ := He.ba m
  obtain ⟨e9, m⟩ := He.ba m
  obtain ⟨e10, e11⟩ := He.ba m
  have TBadCells := oexB_ok e1
  have noBadCells_index := of_decide_eq_true e7
  have noBadCells_what := of_decide_eq_true e8
  obtain ⟨fBadCells, FBadCells⟩ := c.t.d.def_ 19 (d := di "BadCells" "BadCells.__init__" s_initBadCells) rfl
  have TBadAxis := oexB_ok e2
  have noBadAxis_axis := of_decide_eq_true e11
  obtain ⟨fBadAxis, FBadAxis⟩ := c.t.d.def_ 20 (d := di "BadAxis" "BadAxis.__init__" s_initBadAxis) rfl
  obtain ⟨qBadReach, kBadReach, sBadReach, tBadReach⟩ := He.exc_ok (c.t.d.fact 38 (f := .exc "BadReach") rfl)
  exact {
    b_abs := He.free_ok X G (c.t.d.fact 19 (f := .free "abs") rfl)
    b_all := He.free_ok X G (c.t.d.fact 20 (f := .free "all") rfl)
    b_bool := He.free_ok X G (c.t.d.fact 21 (f := .free "bool") rfl)
    b_enumerate := He.free_ok X G (c.t.d.fact 22 (f := .free "enumerate") rfl)
    b_int := He.free_ok X G (c.t.d.fact 23 (f := .free "int") rfl)
    b_isinstance := He.free_ok X G (c.t.d.fact 24 (f := .free "isinstance") rfl)
    b_len := He.free_ok X G (c.t.d.fact 25 (f := .free "len") rfl)
    b_list := He.free_ok X G (c.t.d.fact 26 (f := .free "list") rfl)
    b_min := He.free_ok X G (c.t.d.fact 27 (f := .free "min") rfl)
    b_range := He.free_ok X G (c.t.d.fact 28 (f := .free "range") rfl)
    b_sorted := He.free_ok X G (c.t.d.fact 29 (f := .free "sorted") rfl)
    b_tuple := He.free_ok X G (c.t.d.fact 30 (f := .free "tuple") rfl)
    g_BadCells := He.glo_ok X G (c.t.d.fact 31 (f := .glo "BadCells") rfl)
    g_BadAxis := He.glo_ok X G (c.t.d.fact 32 (f := .glo "BadAxis") rfl)
    g_BadReach := He.glo_ok X G (c.t.d.fact 33 (f := .glo "BadReach") rfl)
    oex_BadCells := TBadCells
    ini_BadCells := ⟨_, fBadCells, of_decide_eq_true e5, of_decide_eq_true e6, ok_initBadCells TBadCells noBadCells_index noBadCells_what FBadCells, FBadCells.bindsN fun _ _ _ _ _ _ us hl => match us, hl with | [_, _, _], _ => rfl⟩
    oex_BadAxis := TBadAxis
    ini_BadAxis := ⟨_, fBadAxis, of_decide_eq_true e9, of_decide_eq_true e10, ok_initBadAxis TBadAxis noBadAxis_axis FBadAxis, FBadAxis.bindsN fun _ _ _ _ _ _ us hl => match us, hl with | [_, _], _ => rfl⟩
    own_BadReach := ⟨qBadReach, kBadReach, sBadReach, tBadReach⟩
    xf_BadCells := xfB_ok e3
    no_BadCells_index := noBadCells_index
    no_BadCells_what := noBadCells_what
    xf_BadAxis := xfB_ok e4
    no_BadAxis_axis := noBadAxis_axis
    exm_BadCells_BadCells := He.exm_ok (c.t.d.fact 34 (f := .exm "BadCells" "BadCells" true) rfl)
    exm_BadReach_BadCells := He.exm_ok (c.t.d.fact 35 (f := .exm "BadReach" "BadCells" false) rfl)
    exm_BadReach_BadReach := He.exm_ok (c.t.d.fact 36 (f := .exm "BadReach" "BadReach" true) rfl)
    exm_BadAxis_BadAxis := He.exm_ok (c.t.d.fact 37 (f := .exm "BadAxis" "BadAxis" true) rfl)
  }
theorem ok_law (T : Txt P w K mg base) (C_u_law_hand : Fd P w K mg base l_u_law_hand "_law_hand" ["_law_script"] [] (sp_u_law_hand K)) (C_u_law_draw : Fd P w K mg base l_u_law_draw "_law_draw" ["_law_hand_here", "_law_many"] [] (sp_u_law_draw K)) (C_u_law_odd_reach : Fd P w K mg base l_u_law_odd_reach "_law_odd_reach" ["_law_hand_here"] [] (sp_u_law_odd_reach K)) (C_u_law_odd_cell : Fd P w K mg base l_u_law_odd_cell "_law_odd_cell" ["_law_hand_here", "_law_cell"] [] (sp_u_law_odd_cell K)) (C_is_cell : Fd P w K mg base l_is_cell "is_cell" ["thing"] [] (sp_is_cell K)) (C_u_law_told : Fd P w K mg base l_u_law_told "_law_told" ["_law_deed", "_law_cells", "_law_reach_here"] [] (sp_u_law_told K)) (C_u_law_axis : Fd P w K mg base l_u_law_axis "_law_axis" ["_law_axis_here"] [] (sp_u_law_axis K)) (C_u_law_reach : Fd P w K mg base l_u_law_reach "_law_reach" ["_law_reach_here", "_law_cell"] [] (sp_u_law_reach K)) (F : FnP K "law" s_law [] f fd) : FnOk P w K mg base CX0 l_law f fd ["_law_script"] (sp_law K) := by
  refine F.ok sc_law (fun vs H Q E h => ?_) (fun cdv A outer s H vs Q E hr h => ⟨t_law K, ?_, ?_⟩)
  · obtain ⟨P, ds, e, ha, ⟨d, ns, rfl, _, _⟩, _⟩ := h
    rw [ha.len] <;> rfl
  · apply d_law0 <;> assumption
  · obtain ⟨P, ds, e, ha, ⟨d, ns, rfl, hl, _⟩, q⟩ := h
    rw [start_eq (n := 16) (by rw [ha.len] <;> rfl)]
    exact sem_law P H { nx := fun _ H' => Q .non H', rt := Q } [.lst (ns.map Dt.int)] ⟨d, ns, rfl, hl, by assumption⟩ (fun v P' H' σ es x hx r hv => q v P' H' x hx (r.grow rfl) hv) _ P H (rep_start e ha)
theorem facts (X : K.In h) (G : h.Ns mainGlobals mg) (hfa : mg ("law" : Str) = some (.ref f)) (c : He.SaysX fa fn [] [] ex w h K) :
    ∃ fd : FuncData, (∀ (s : Shared) (v : Value), BindsTo s fd ⟨[v], []⟩ [("_law_script", v)]) ∧ ∀ base : Heap, FnOk P w K mg base CX0 l_law f fd ["_law_script"] (sp_law K) := by
  obtain ⟨d_0, F_0⟩ : ∃ fd, FnP K "is_whole" s_is_whole [.non, .non] (He.ga K "is_whole") fd := c.t.d.def_ 0 (d := dd "is_whole" s_is_whole [.non, .non]) rfl
  have m_0 : mg "is_whole" = some (.ref (He.ga K "is_whole")) := He.glo_ok X G (c.t.d.fact 0 (f := .glo "is_whole") rfl)
  obtain ⟨d_1, F_1⟩ : ∃ fd, FnP K "is_sequence" s_is_sequence [.int 0, .non] (He.ga K "is_sequence") fd := c.t.d.def_ 1 (d := dd "is_sequence" s_is_sequence [.int 0, .non]) rfl
  have m_1 : mg "is_sequence" = some (.ref (He.ga K "is_sequence")) := He.glo_ok X G (c.t.d.fact 1 (f := .glo "is_sequence") rfl)
  obtain ⟨d_2, F_2⟩ : ∃ fd, FnP K "is_cell" s_is_cell [] (He.ga K "is_cell") fd := c.t.d.def_ 2 (d := dd "is_cell" s_is_cell) rfl
  have m_2 : mg "is_cell" = some (.ref (He.ga K "is_cell")) := He.glo_ok X G (c.t.d.fact 2 (f := .glo "is_cell") rfl)
  obtain ⟨d_3, F_3⟩ : ∃ fd, FnP K "check_cells" s_check_cells [] (He.ga K "check_cells") fd := c.t.d.def_ 3 (d := dd "check_cells" s_check_cells) rfl
  have m_3 : mg "check_cells" = some (.ref (He.ga K "check_cells")) := He.glo_ok X G (c.t.d.fact 3 (f := .glo "check_cells") rfl)
  obtain ⟨d_4, F_4⟩ : ∃ fd, FnP K "check_axis" s_check_axis [] (He.ga K "check_axis") fd := c.t.d.def_ 4 (d := dd "check_axis" s_check_axis) rfl
  have m_4 : mg "check_axis" = some (.ref (He.ga K "check_axis")) := He.glo_ok X G (c.t.d.fact 4 (f := .glo "check_axis") rfl)
  obtain ⟨d_5, F_5⟩ : ∃ fd, FnP K "is_reach" s_is_reach [] (He.ga K "is_reach") fd := c.t.d.def_ 5 (d := dd "is_reach" s_is_reach) rfl
  have m_5 : mg "is_reach" = some (.ref (He.ga K "is_reach")) := He.glo_ok X G (c.t.d.fact 5 (f := .glo "is_reach") rfl)
  obtain ⟨d_6, F_6⟩ : ∃ fd, FnP K "check_reach" s_check_reach [] (He.ga K "check_reach") fd := c.t.d.def_ 6 (d := dd "check_reach" s_check_reach) rfl
  have m_6 : mg "check_reach" = some (.ref (He.ga K "check_reach")) := He.glo_ok X G (c.t.d.fact 6 (f := .glo "check_reach") rfl)
  obtain ⟨d_7, F_7⟩ : ∃ fd, FnP K "near_cells" s_near_cells [] (He.ga K "near_cells") fd := c.t.d.def_ 7 (d := dd "near_cells" s_near_cells) rfl
  have m_7 : mg "near_cells" = some (.ref (He.ga K "near_cells")) := He.glo_ok X G (c.t.d.fact 7 (f := .glo "near_cells") rfl)
  obtain ⟨d_8, F_8⟩ : ∃ fd, FnP K "grown_cells" s_grown_cells [] (He.ga K "grown_cells") fd := c.t.d.def_ 8 (d := dd "grown_cells" s_grown_cells) rfl
  have m_8 : mg "grown_cells" = some (.ref (He.ga K "grown_cells")) := He.glo_ok X G (c.t.d.fact 8 (f := .glo "grown_cells") rfl)
  obtain ⟨d_9, F_9⟩ : ∃ fd, FnP K "shrunk_cells" s_shrunk_cells [] (He.ga K "shrunk_cells") fd := c.t.d.def_ 9 (d := dd "shrunk_cells" s_shrunk_cells) rfl
  have m_9 : mg "shrunk_cells" = some (.ref (He.ga K "shrunk_cells")) := He.glo_ok X G (c.t.d.fact 9 (f := .glo "shrunk_cells") rfl)
  obtain ⟨d_10, F_10⟩ : ∃ fd, FnP K "_law_mix" s_u_law_mix [] (He.ga K "_law_mix") fd := c.t.d.def_ 10 (d := dd "_law_mix" s_u_law_mix) rfl
  have m_10 : mg "_law_mix" = some (.ref (He.ga K "_law_mix")) := He.glo_ok X G (c.t.d.fact 10 (f := .glo "_law_mix") rfl)
  obtain ⟨d_11, F_11⟩ : ∃ fd, FnP K "_law_hand" s_u_law_hand [] (He.ga K "_law_hand") fd := c.t.d.def_ 11 (d := dd "_law_hand" s_u_law_hand) rfl
  have m_11 : mg "_law_hand" = some (.ref (He.ga K "_law_hand")) := He.glo_ok X G (c.t.d.fact 11 (f := .glo "_law_hand") rfl)
  obtain ⟨d_12, F_12⟩ : ∃ fd, FnP K "_law_draw" s_u_law_draw [] (He.ga K "_law_draw") fd := c.t.d.def_ 12 (d := dd "_law_draw" s_u_law_draw) rfl
  have m_12 : mg "_law_draw" = some (.ref (He.ga K "_law_draw")) := He.glo_ok X G (c.t.d.fact 12 (f := .glo "_law_draw") rfl)
  obtain ⟨d_13, F_13⟩ : ∃ fd, FnP K "_law_told" s_u_law_told [] (He.ga K "_law_told") fd := c.t.d.def_ 13 (d := dd "_law_told" s_u_law_told) rfl
  have m_13 : mg "_law_told" = some (.ref (He.ga K "_law_told")) := He.glo_ok X G (c.t.d.fact 13 (f := .glo "_law_told") rfl)
  obtain ⟨d_14, F_14⟩ : ∃ fd, FnP K "_law_axis" s_u_law_axis [] (He.ga K "_law_axis") fd := c.t.d.def_ 14 (d := dd "_law_axis" s_u_law_axis) rfl
  have m_14 : mg "_law_axis" = some (.ref (He.ga K "_law_axis")) := He.glo_ok X G (c.t.d.fact 14 (f := .glo "_law_axis") rfl)
  obtain ⟨d_15, F_15⟩ : ∃ fd, FnP K "_law_reach" s_u_law_reach [] (He.ga K "_law_reach") fd := c.t.d.def_ 15 (d := dd "_law_reach" s_u_law_reach) rfl
  have m_15 : mg "_law_reach" = some (.ref (He.ga K "_law_reach")) := He.glo_ok X G (c.t.d.fact 15 (f := .glo "_law_reach") rfl)
  obtain ⟨d_16, F_16⟩ : ∃ fd, FnP K "_law_odd_cell" s_u_law_odd_cell [] (He.ga K "_law_odd_cell") fd := c.t.d.def_ 16 (d := dd "_law_odd_cell" s_u_law_odd_cell) rfl
  have m_16 : mg "_law_odd_cell" = some (.ref (He.ga K "_law_odd_cell")) := He.glo_ok X G (c.t.d.fact 16 (f := .glo "_law_odd_cell") rfl)
  obtain ⟨d_17, F_17⟩ : ∃ fd, FnP K "_law_odd_reach" s_u_law_odd_reach [] (He.ga K "_law_odd_reach") fd := c.t.d.def_ 17 (d := dd "_law_odd_reach" s_u_law_odd_reach) rfl
  have m_17 : mg "_law_odd_reach" = some (.ref (He.ga K "_law_odd_reach")) := He.glo_ok X G (c.t.d.fact 17 (f := .glo "_law_odd_reach") rfl)
  obtain ⟨d_18, F_18⟩ : ∃ fd, FnP K "law" s_law [] (He.ga K "law") fd := c.t.d.def_ 18 (d := dd "law" s_law) rfl
  have m_18 : mg "law" = some (.ref (He.ga K "law")) := He.glo_ok X G (c.t.d.fact 18 (f := .glo "law") rfl)
  have e := hfa.symm.trans m_18
  cases e
  refine ⟨_, fun s v => F_18.bindsA (ps := ["_law_script"]) (fun _ _ _ _ _ _ us hl => match us, hl with | [_], _ => rfl) s [v] rfl, fun base => ?_⟩
  have T : Txt P w K mg base := txt X G c
  have O_0 : FnOk P w K mg base (L2.CX P w) l_is_whole (He.ga K "is_whole") d_0 ["thing", "low", "high"] (sp_is_whole K) := by apply ok_is_whole <;> assumption
  have C_0_1 : Fd P w K mg base l_is_whole "is_whole" ["thing", "low", "high"] [.non, .non] (sp_is_whole K) := by
    obtain ⟨b, v, B⟩ := bd_is_whole_1 F_0
    exact ⟨_, _, b, O_0, B, v, m_0, F_0.kp⟩
  have C_0_2 : Fd P w K mg base l_is_whole "is_whole" ["thing", "low", "high"] [.non] (sp_is_whole K) := by
    obtain ⟨b, v, B⟩ := bd_is_whole_2 F_0
    exact ⟨_, _, b, O_0, B, v, m_0, F_0.kp⟩
  have C_0_3 : Fd P w K mg base l_is_whole "is_whole" ["thing", "low", "high"] [] (sp_is_whole K) := by
    obtain ⟨b, v, B⟩ := bd_is_whole_3 F_0
    exact ⟨_, _, b, O_0, B, v, m_0, F_0.kp⟩
  have O_1 : FnOk P w K mg base (L2.CX P w) l_is_sequence (He.ga K "is_sequence") d_1 ["thing", "low", "high"] (sp_is_sequence K) := by apply ok_is_sequence <;> assumption
  have C_1_1 : Fd P w K mg base l_is_sequence "is_sequence" ["thing", "low", "high"] [.int 0, .non] (sp_is_sequence K) := by
    obtain ⟨b, v, B⟩ := bd_is_sequence_1 F_1
    exact ⟨_, _, b, O_1, B, v, m_1, F_1.kp⟩
  have C_1_2 : Fd P w K mg base l_is_sequence "is_sequence" ["thing", "low", "high"] [.non] (sp_is_sequence K) := by
    obtain ⟨b, v, B⟩ := bd_is_sequence_2 F_1
    exact ⟨_, _, b, O_1, B, v, m_1, F_1.kp⟩
  have C_1_3 : Fd P w K mg base l_is_sequence "is_sequence" ["thing", "low", "high"] [] (sp_is_sequence K) := by
    obtain ⟨b, v, B⟩ := bd_is_sequence_3 F_1
    exact ⟨_, _, b, O_1, B, v, m_1, F_1.kp⟩
  have C_2 : Fd P w K mg base l_is_cell "is_cell" ["thing"] [] (sp_is_cell K) := by apply f_is_cell <;> assumption
  have C_3 : Fd P w K mg base l_check_cells "check_cells" ["cells"] [] (sp_check_cells K) := by apply f_check_cells <;> assumption
  have C_4 : Fd P w K mg base l_check_axis "check_axis" ["axis"] [] (sp_check_axis K) := by apply f_check_axis <;> assumption
  have C_5 : Fd P w K mg base l_is_reach "is_reach" ["thing"] [] (sp_is_reach K) := by apply f_is_reach <;> assumption
  have C_6 : Fd P w K mg base l_check_reach "check_reach" ["reach"] [] (sp_check_reach K) := by apply f_check_reach <;> assumption
  have C_7 : Fd P w K mg base l_near_cells "near_cells" ["cell", "reach"] [] (sp_near_cells K) := by apply f_near_cells <;> assumption
  have C_8 : Fd P w K mg base l_grown_cells "grown_cells" ["cells", "reach"] [] (sp_grown_cells K) := by apply f_grown_cells <;> assumption
  have C_9 : Fd P w K mg base l_shrunk_cells "shrunk_cells" ["cells", "reach"] [] (sp_shrunk_cells K) := by apply f_shrunk_cells <;> assumption
  have C_10 : Fd P w K mg base l_u_law_mix "_law_mix" ["_law_number", "_law_turn"] [] (sp_u_law_mix K) := by apply f_u_law_mix <;> assumption
  have C_11 : Fd P w K mg base l_u_law_hand "_law_hand" ["_law_script"] [] (sp_u_law_hand K) := by apply f_u_law_hand <;> assumption
  have C_12 : Fd P w K mg base l_u_law_draw "_law_draw" ["_law_hand_here", "_law_many"] [] (sp_u_law_draw K) := by apply f_u_law_draw <;> assumption
  have C_13 : Fd P w K mg base l_u_law_told "_law_told" ["_law_deed", "_law_cells", "_law_reach_here"] [] (sp_u_law_told K) := by apply f_u_law_told <;> assumption
  have C_14 : Fd P w K mg base l_u_law_axis "_law_axis" ["_law_axis_here"] [] (sp_u_law_axis K) := by apply f_u_law_axis <;> assumption
  have C_15 : Fd P w K mg base l_u_law_reach "_law_reach" ["_law_reach_here", "_law_cell"] [] (sp_u_law_reach K) := by apply f_u_law_reach <;> assumption
  have C_16 : Fd P w K mg base l_u_law_odd_cell "_law_odd_cell" ["_law_hand_here", "_law_cell"] [] (sp_u_law_odd_cell K) := by apply f_u_law_odd_cell <;> assumption
  have C_17 : Fd P w K mg base l_u_law_odd_reach "_law_odd_reach" ["_law_hand_here"] [] (sp_u_law_odd_reach K) := by apply f_u_law_odd_reach <;> assumption
  apply ok_law <;> assumption
end
end K03
set_option Elab.async false
set_option linter.all false
set_option maxRecDepth 100000
set_option maxHeartbeats 0
open PySem PySem.W PySem.Calls PyProof.Rows
theorem PySem.Challenge.cw_neverbare_k03_whole_cells_refused_holds : PySem.Challenge.rw_neverbare_k03_whole_cells_refused.Holds := by
  w_on; o_law
  refine My.head_imp (r := OpenLaw.row PySem.Challenge.rw_neverbare_k03_whole_cells_refused) (q := view (OpenLaw.row PySem.Challenge.rw_neverbare_k03_whole_cells_refused).prog [26]) (H := K03.hk) (ob := K03.ob) (M := 6000) (loose := K03.loose) (d := HandSHeadRun.topDef (OpenLaw.row PySem.Challenge.rw_neverbare_k03_whole_cells_refused).prog 26) (kwd := []) K03.ob_eq
    K03.run (by kernel_rfl) (by kernel_rfl) (by kernel_rfl) (by rfl) (by first | assumption | decide +kernel) (by decide +kernel) ⟨rfl, rfl, rfl, rfl, rfl, by decide +kernel⟩ ?hw ?hc
  case hw => w_witness2
  case hc =>
    refine L2.walk_ofE (l := PySem.Challenge.rw_neverbare_k03_whole_cells_refused) (n := 63) (k := 8) (x := "_law_script") (CX := L2.CX0) rfl (by decide) (by kernel_rfl) ⟨rfl, by decide, by decide⟩ ?F (fun _ _ _ _ z => z)
    intro w mg fa h Y G hmg0
    obtain ⟨K, KX, c⟩ := Y
    have hmg : mg ("law" : PySem.Str) = some (.ref fa) := by
      have e : (HandSHeadRun.topDef (OpenLaw.row PySem.Challenge.rw_neverbare_k03_whole_cells_refused).prog 26).name = ("law" : PySem.Str) := by kernel_rfl
      rw [← e]
      exact hmg0
    obtain ⟨fd, hb, hF⟩ := K03.facts (P := (PySem.Challenge.rw_neverbare_k03_whole_cells_refused).prog) (w := w) KX G hmg c
    refine ⟨K, fd, K03.sp_law K, KX, hb, fun H a ns hl _ hS => ?_, fun base _ _ => hF base⟩
    refine ⟨H, [.lst (ns.map My.Dt.int)], .refl H, .cons (.lst hS (My.HasAll.ints ns)) .nil, ⟨_, ns, rfl, hl, rfl⟩, fun v P' H' d ⟨_, _, _, ed⟩ g hv => ?_⟩
    subst ed
    cases hv
    rfl
