import PyProof.Rows.All
import Wide.All
import OpenK.AllK
import Wide.FinOn
import KE.KStateDown
import HandS.Head0
import HandS.Head1
import HandS.Head2
import HandS.ForMost
import HandS.ForExc
import HandS.ExcInit
import HandS.Defaults
import HandS.Evl
import HandS.IsInst
import HandS.Style
import HandS.Wide
import HandS.Gcd
import HandS.FStr
import HandS.Walk
import HandS.HeadHook1
import HandS.ExcField
import HandS.HeadHook4
import HandS.Deep
import HandS.Zip
import HandS.TupAny
import HandS.Strs
import HandS.Star
import KE.GoesEnum
import HandS.More
import PySem.Challenge.RW_neverbare_k22_whole_stands_passed_on_a_w
import HandS.HeadEnd
import HandS.HeadHook2
import HandS.HeadHook3
set_option Elab.async false
set_option linter.all false
set_option maxRecDepth 100000
/-! A head for programs that bring modules in: first their run, then the rest over a tree. -/
noncomputable section
namespace My
open PySem PySem.W PySem.Calls PyProof.Rows HandSHeadRun
/-- the rest of the top, from the state behind the imports -/
def fromTree (st : SharedT → Thread → Option (SharedT × Thread)) (M : Nat) (p : Program) (z : Shared) : Option SharedT :=
  match putAll z.heap.objs.toList .nil 0 with
  | none => none
  | some (t, n) => frNat n fun n₁ => goF st n₁ (z.heap.nsMap mainGlobals "__annotations__") M ⟨t, n, z.heap.life, z.gens, z.drawn, z.toks, z.os⟩ (topStub p)
theorem fromTree_ok {M : Nat} {p : Program} {w : World} {z : Shared} {r : SharedT} (h : fromTree (stepT (denote treeTable) p w) M p z = some r) :
    topRun treeTable p w z.heap.objs.size (z.heap.nsMap mainGlobals "__annotations__") M z (topStub p) = some r.abs := by
  unfold fromTree at h
  cases hq : putAll z.heap.objs.toList .nil 0 with
  | none =>
    rw [hq] at h
    cases h
  | some tn =>
    obtain ⟨t, n⟩ := tn
    rw [hq] at h
    have hg : (frNat n fun n₁ => goF (stepT (denote treeTable) p w) n₁ (z.heap.nsMap mainGlobals "__annotations__") M ⟨t, n, z.heap.life, z.gens, z.drawn, z.toks, z.os⟩ (topStub p)) = some r := h
    rw [frNat_eq] at hg
    have hrun := goF_ok hg
    have hheap := putAll_heap hq
    have hn : z.heap.objs.size = n := by
      rw [← hheap]
      exact absHeap_size t n _
    have habs : (⟨t, n, z.heap.life, z.gens, z.drawn, z.toks, z.os⟩ : SharedT).abs = z := by
      show (⟨absHeap t n z.heap.life, z.gens, z.drawn, z.toks, z.os⟩ : Shared) = z
      rw [hheap]
    rw [habs] at hrun
    rw [hn]
    exact hrun
/-- the whole top: the modules, the fence, the rest; what is looked at behind it -/
def allEnd {α : Type} (st : SharedT → Thread → Option (SharedT × Thread)) (M : Nat) (p : Program) (w : World) (look : Heap → SharedT → α) : Option α :=
  match importEnds treeTable (opening p) w M (start (opening p)).1 (start (opening p)).2 with
  | none => none
  | some y => match fenceModules? p y with
    | none => none
    | some z => match z.heap.isNs mainGlobals && z.gens.size == 0 with
      | false => none
      | true => (fromTree st M p z).map fun r => look z.heap r
theorem left_imp {p q : Program} {loose : List PySem.Str} {Xt : Shared → Bool} {α : Type} {Yf : Shared → α} {Ya : World → α} {N M : Nat} (le : Nat.ble M N = true)
    (run : ∀ w : World, allEnd (stepT (denote treeTable) p w) M p w (fun h r => (looksF p h r.abs, openSeen q loose (importedModules p.main.body) Xt true r.abs, Yf r.abs)) = some (true, openGood q loose, Ya w)) :
    LeftO p q loose Xt Yf Ya N true := fun w => by
  have hr := run w
  unfold allEnd at hr
  cases hy : importEnds treeTable (opening p) w M (start (opening p)).1 (start (opening p)).2 with
  | none =>
    rw [hy] at hr
    cases hr
  | some y =>
    rw [hy] at hr
    dsimp only at hr
    cases hz : fenceModules? p y with
    | none =>
      rw [hz] at hr
      cases hr
    | some z =>
      rw [hz] at hr
      dsimp only at hr
      cases hb : (z.heap.isNs mainGlobals && z.gens.size == 0) with
      | false =>
        rw [hb] at hr
        cases hr
      | true =>
        rw [hb] at hr
        dsimp only at hr
        obtain ⟨r, hf, hv⟩ := Option.map_eq_some_iff.mp hr
        obtain ⟨v1, v2, v3⟩ : _ ∧ _ ∧ _ := by simpa only [Prod.mk.injEq] using hv
        have hle : M + (N - M) = N := by
          have := Nat.le_of_ble_eq_true le
          omega
        have himp := importEnds_mono (N - M) _ _ _ _ hy
        rw [hle] at himp
        have htop := topRun_mono (N - M) _ _ _ _ (fromTree_ok hf)
        rw [hle] at htop
        have hlook : (staticsOk (importedModules p.main.body) z.heap r.abs.heap && namesBound p r.abs.heap && gensDone r.abs && laidKept z.heap r.abs.heap) = true := v1
        have hft : topFrom treeTable p w N z = some r.abs := by
          unfold topFrom
          rw [hb]
          dsimp only
          rw [htop]
          show (match staticsOk (importedModules p.main.body) z.heap r.abs.heap && namesBound p r.abs.heap && gensDone r.abs && laidKept z.heap r.abs.heap with
            | true => some r.abs
            | false => none) = _
          rw [hlook]
        unfold openEnds fencedOpening
        rw [himp]
        show ((fenceModules? p y).bind (topFrom treeTable p w N)).map _ = _
        rw [hz]
        show (topFrom treeTable p w N z).map _ = _
        rw [hft]
        exact congrArg some (Prod.ext v2 v3)
/-- what is to be computed of a row -/
def RunAll (r : OpenRow) (q : Program) (H : Hook) (ob : SharedT → H.α) (M : Nat) (loose : List PySem.Str) (w : World) : Prop :=
  allEnd (stepQ (denQ tabQ) r.prog w) M r.prog w (fun h s => (looksF r.prog h s.abs, seenQ q loose (importedModules r.prog.main.body) (fun s => xlAt q [] s && recOk r.toRowW.records s) s.abs, ob s)) = some (true, openGood q loose, H.val w)
theorem head_imp {r : OpenRow} {q : Program} {H : Hook} {ob : SharedT → H.α} {M : Nat} {loose : List PySem.Str} {d : DefRec} {kwd : List (PySem.Str × PySem.Expr)} (ho : ∀ s : SharedT, ob s = H.obs s.abs)
    (run : ∀ w, RunAll r q H ob M loose w) (hdef : defOf q r.name = some (d, kwd)) (hp : r.prog.theDef r.name = some (d.params, d.body, d.scope))
    (hk : kwWritten? d.params.kwonlyargs d.params.kw_defaults = some kwd) (hwr : (!r.writes || r.records.isEmpty) = true) (k1 : r.wellSaid = true)
    (ok : (chainsOk q && opensWell r.prog && (frees r.toRowW && r.within.isEmpty)) = true) (hb : r.prog.bare) (hw : r.toRowW.promised)
    (call : WalkO q loose (XL q []) H.says r.toRowW d kwd fun f vs => PySem.call f vs) : r.Holds := by
  have left : LeftO r.prog q loose (fun s => xlAt q [] s && recOk r.toRowW.records s) H.obs H.val M true :=
    left_imp (M := M) (Nat.ble_eq_true_of_le (Nat.le_refl _)) fun w => by
      have z := run w
      unfold RunAll at z
      have eo : ob = fun s => H.obs s.abs := funext ho
      rw [eo] at z
      simp only [stepQ_eq, denQ_eq, tabQ_eq, seenQ_eq]
      exact z
  exact holds_open (r := r) (q := q) (loose := loose) (XP := XL q []) (YP := H.says) (d := d) (kwd := kwd) left H.of H.keeps (fun s z => xl_of s (Bool.and_eq_true_iff.mp z).1) XL.keeps hdef hp hk
    (fun s z => recFacts_of (Bool.and_eq_true_iff.mp z).2) hwr k1 ok hb hw call
end My
end
set_option Elab.async false
set_option linter.all false
set_option maxRecDepth 100000
/-! The run looked at in parts. -/
noncomputable section
namespace My
open PySem PySem.W PySem.Calls PyProof.Rows HandSHeadRun
theorem allEnd_map {α β : Type} {st : SharedT → Thread → Option (SharedT × Thread)} {M : Nat} {p : Program} {w : World} {l : Heap → SharedT → α} {f : α → β} : allEnd st M p w (fun h r => f (l h r)) = (allEnd st M p w l).map f := by
  unfold allEnd
  split
  · rfl
  · split
    · rfl
    · split
      · rfl
      · rw [Option.map_map]
        rfl
theorem allEnd_two {α β : Type} {st : SharedT → Thread → Option (SharedT × Thread)} {M : Nat} {p : Program} {w : World} {l1 : Heap → SharedT → α} {l2 : Heap → SharedT → β} {a : α} {b : β} (h1 : allEnd st M p w l1 = some a) (h2 : allEnd st M p w l2 = some b) : allEnd st M p w (fun h r => (l1 h r, l2 h r)) = some (a, b) := by
  have e1 := allEnd_map (st := st) (M := M) (p := p) (w := w) (l := fun h r => (l1 h r, l2 h r)) (f := Prod.fst)
  have e2 := allEnd_map (st := st) (M := M) (p := p) (w := w) (l := fun h r => (l1 h r, l2 h r)) (f := Prod.snd)
  have e1 : allEnd st M p w l1 = _ := e1
  have e2 : allEnd st M p w l2 = _ := e2
  rw [h1] at e1
  rw [h2] at e2
  cases e : allEnd st M p w (fun h r => (l1 h r, l2 h r)) with
  | none => rw [e] at e1; cases e1
  | some x =>
    rw [e] at e1 e2
    obtain ⟨x, y⟩ := x
    cases e1
    cases e2
    rfl
end My
end
set_option Elab.async false
set_option linter.all false
set_option maxRecDepth 100000
set_option maxHeartbeats 2000000
/-! Data told without the heap: what a value reads as, states of slots, what expressions and statements do to them. -/
namespace My
open PySem L2
open Evl (Ex)

/-! ### data -/
inductive Dt where
  | non | bl (b : Bool) | int (i : Int) | str (s : Str) | lst (ds : List Dt) | tup (ds : List Dt)
  /-- a tuple of which it is known that it has no dict -/
  | tupN (ds : List Dt)
  | obj (C : Addr) (ns : List Str) (ds : List Dt)
mutual
inductive Has (K : PySem.W.Frag) (H : Hp) : V → Dt → Prop
  | non : Has K H .non .non
  | bl (b : Bool) : Has K H (.bl b) (.bl b)
  | int (i : Int) : Has K H (.int i) (.int i)
  | str (s : Str) : Has K H (.str s) (.str s)
  | lst {a : Addr} {xs : List V} {ds : List Dt} : SqL K H a xs → HasAll K H xs ds → Has K H (.ref a) (.lst ds)
  | tup {a : Addr} {xs : List V} {ds : List Dt} : SqT K H a xs → HasAll K H xs ds → Has K H (.ref a) (.tup ds)
  | tupN {a : Addr} {o : Obj} {xs : List V} {ds : List Dt} : H a = some (.frz o (.tup xs)) → o.cls = .type "tuple" → o.dict = none → HasAll K H xs ds → Has K H (.ref a) (.tupN ds)
  | obj {a C dx : Addr} {fs : List (Str × V)} {ds : List Dt} : H a = some (.ins C dx fs) → HasAll K H (fs.map (·.2)) ds → Has K H (.ref a) (.obj C (fs.map (·.1)) ds)
inductive HasAll (K : PySem.W.Frag) (H : Hp) : List V → List Dt → Prop
  | nil : HasAll K H [] []
  | cons {v : V} {vs : List V} {d : Dt} {ds : List Dt} : Has K H v d → HasAll K H vs ds → HasAll K H (v :: vs) (d :: ds)
end
section
variable {K : PySem.W.Frag} {H H' : Hp}
mutual
theorem Has.mono (e : Ex H H') : ∀ (d : Dt) {v : V}, Has K H v d → Has K H' v d
  | .non, _, h => by cases h; exact .non
  | .bl _, _, h => by cases h; exact .bl _
  | .int _, _, h => by cases h; exact .int _
  | .str _, _, h => by cases h; exact .str _
  | .lst ds, _, h => by
    cases h with
    | lst s r => exact .lst (Evl.ex_l e s) (HasAll.mono e ds r)
  | .tup ds, _, h => by
    cases h with
    | tup s r => exact .tup (Evl.ex_t e s) (HasAll.mono e ds r)
  | .tupN ds, _, h => by
    cases h with
    | tupN s c d r => exact .tupN (e _ _ s) c d (HasAll.mono e ds r)
  | .obj C ns ds, _, h => by
    cases h with
    | obj s r => exact .obj (e _ _ s) (HasAll.mono e ds r)
theorem HasAll.mono (e : Ex H H') : ∀ (ds : List Dt) {vs : List V}, HasAll K H vs ds → HasAll K H' vs ds
  | [], _, h => by cases h; exact .nil
  | d :: ds, _, h => by
    cases h with
    | cons a b => exact .cons (Has.mono e d a) (HasAll.mono e ds b)
end
theorem HasAll.len : ∀ {ds : List Dt} {vs : List V}, HasAll K H vs ds → vs.length = ds.length
  | [], _, h => by cases h; rfl
  | _ :: _, _, h => by
    cases h with
    | cons a b => rw [List.length_cons, List.length_cons, b.len]
theorem HasAll.get : ∀ {ds : List Dt} {vs : List V} {i : Nat} {d : Dt}, HasAll K H vs ds → ds[i]? = some d → ∃ v, vs[i]? = some v ∧ Has K H v d
  | [], _, _, _, _, e => by simp at e
  | _ :: _, _, 0, _, h, e => by
    cases h with
    | cons a b =>
      cases Option.some.inj e
      exact ⟨_, rfl, a⟩
  | _ :: ds, _, i + 1, d, h, e => by
    cases h with
    | cons a b =>
      obtain ⟨v, e1, h1⟩ := b.get (i := i) (d := d) (by simpa using e)
      exact ⟨v, by simpa using e1, h1⟩
theorem HasAll.get' : ∀ {ds : List Dt} {vs : List V} {i : Nat} {v : V}, HasAll K H vs ds → vs[i]? = some v → ∃ d, ds[i]? = some d ∧ Has K H v d
  | [], _, _, _, h, e => by cases h; simp at e
  | _ :: _, _, 0, _, h, e => by
    cases h with
    | cons a b =>
      cases Option.some.inj e
      exact ⟨_, rfl, a⟩
  | _ :: ds, _, i + 1, v, h, e => by
    cases h with
    | cons a b =>
      obtain ⟨d, e1, h1⟩ := b.get' (i := i) (v := v) (by simpa using e)
      exact ⟨d, by simpa using e1, h1⟩
theorem HasAll.append : ∀ {ds es : List Dt} {vs us : List V}, HasAll K H vs ds → HasAll K H us es → HasAll K H (vs ++ us) (ds ++ es)
  | [], _, _, _, h, g => by cases h; exact g
  | _ :: _, _, _, _, h, g => by
    cases h with
    | cons a b => exact .cons a (b.append g)
theorem HasAll.set : ∀ {ds : List Dt} {vs : List V} {v : V} {d : Dt} (i : Nat), HasAll K H vs ds → Has K H v d → HasAll K H (vs.set i v) (ds.set i d)
  | [], _, _, _, _, h, _ => by cases h; exact .nil
  | _ :: _, _, _, _, 0, h, g => by
    cases h with
    | cons a b => exact .cons g b
  | _ :: _, _, _, _, i + 1, h, g => by
    cases h with
    | cons a b => exact .cons a (b.set i g)
theorem HasAll.ints (ns : List Int) : HasAll K H (ns.map V.int) (ns.map Dt.int) := by
  induction ns with
  | nil => exact .nil
  | cons n ns ih => exact .cons (.int n) ih
end
/-! ### the library's own data -/
mutual
def py : Dt → PyData
  | .non => .none
  | .bl b => .bool b
  | .int i => .int i
  | .str s => .str s
  | .lst ds => .list (pyAll ds)
  | .tup ds => .tuple (pyAll ds)
  | .tupN ds => .tuple (pyAll ds)
  | .obj _ _ _ => .none
def pyAll : List Dt → List PyData
  | [] => []
  | d :: ds => py d :: pyAll ds
end
mutual
/-- no objects within -/
def bare : Dt → Bool
  | .obj _ _ _ => false
  | .lst ds => bareAll ds
  | .tup ds => bareAll ds
  | .tupN ds => bareAll ds
  | _ => true
def bareAll : List Dt → Bool
  | [] => true
  | d :: ds => bare d && bareAll ds
end
section
variable {K : PySem.W.Frag} {H H' : Hp}
mutual
theorem Has.dp : ∀ (d : Dt) {v : V}, Has K H v d → bare d = true → Dp K H v (py d)
  | .non, _, h, _ => by cases h; exact .non
  | .bl _, _, h, _ => by cases h; exact .bl _
  | .int _, _, h, _ => by cases h; exact .int _
  | .str _, _, h, _ => by cases h; exact .str _
  | .lst ds, _, h, z => by
    cases h with
    | lst s r => exact .lst s (HasAll.dp ds r z)
  | .tup ds, _, h, z => by
    cases h with
    | tup s r => exact .tup s (HasAll.dp ds r z)
  | .tupN ds, _, h, z => by
    cases h with
    | tupN s _ _ r => exact .tup (.inl (.inr ⟨_, s⟩)) (HasAll.dp ds r z)
  | .obj _ _ _, _, _, z => by cases z
theorem HasAll.dp : ∀ (ds : List Dt) {vs : List V}, HasAll K H vs ds → bareAll ds = true → DpAll K H vs (pyAll ds)
  | [], _, h, _ => by cases h; exact .nil
  | d :: ds, _, h, z => by
    cases h with
    | cons a b =>
      obtain ⟨z1, z2⟩ := Bool.and_eq_true_iff.mp (show (bare d && bareAll ds) = true from z)
      exact .cons (Has.dp d a z1) (HasAll.dp ds b z2)
end
end
def eqv (d e : Dt) : Bool := PyData.eqv (py d) (py e)
def fine (d : Dt) : Bool := bare d && SeqAt.shaped (py d)
theorem fine_bare {d : Dt} (h : fine d = true) : bare d = true := (Bool.and_eq_true_iff.mp h).1
theorem fine_shaped {d : Dt} (h : fine d = true) : SeqAt.shaped (py d) = true := (Bool.and_eq_true_iff.mp h).2

/-! ### growth of heaps -/
/-- P a part of H; behind some step P' of H': both have grown, what is new in P' was free in H -/
structure Grow (P H P' H' : Hp) : Prop where
  p : Ex P P'
  h : Ex H H'
  s : Ex P' H'
  f : ∀ a o, P' a = some o → P a = some o ∨ H a = none
theorem Grow.refl {P H : Hp} (e : Ex P H) : Grow P H P H := ⟨.refl P, .refl H, e, fun _ _ h => .inl h⟩
theorem none_back {H H' : Hp} {a : Addr} (e : Ex H H') (h : H' a = none) : H a = none := Evl.fresh_back e h
theorem Grow.trans {P H P1 H1 P2 H2 : Hp} (a : Grow P H P1 H1) (b : Grow P1 H1 P2 H2) : Grow P H P2 H2 :=
  ⟨a.p.trans b.p, a.h.trans b.h, b.s, fun x o h => (b.f x o h).elim (a.f x o) fun z => .inr (none_back a.h z)⟩

/-! ### the slots -/
inductive Sv where
  | no
  /-- a value that reads as d -/
  | dat (d : Dt)
  /-- a list of one's own at l -/
  | own (l : Addr) (ds : List Dt)
  /-- a hand of drawn numbers at l -/
  | hand (l : Addr)
  /-- several objects of one's own, the first at l, the others at ins; phi tells of them -/
  | gen (l : Addr) (ins : List Addr) (φ : Hp → Hp → Prop)
/-- the four things of a hand -/
def HandOk (ds : List Dt) : Prop := ∃ (ns : List Int) (p r t : Int), ds = [.lst (ns.map Dt.int), .int p, .int r, .int t] ∧ (∀ n ∈ ns, 0 ≤ n) ∧ ns.length ≤ 63 ∧ 0 ≤ p ∧ p ≤ ns.length ∧ 0 ≤ r ∧ 0 ≤ t ∧ t < 2147483648
def owns : List Sv → List Addr
  | [] => []
  | .own l _ :: es => l :: owns es
  | .hand l :: es => l :: owns es
  | .gen l ins _ :: es => (l :: ins) ++ owns es
  | _ :: es => owns es
/-- where one stands: the written part, the lists of the caller's that may change, the heaps at the entry -/
structure Fr where
  K : PySem.W.Frag
  mu : List Addr
  P0 : Hp
  H0 : Hp
def Mine (c : Fr) (P H : Hp) (l : Addr) (ds : List Dt) : Prop := (c.H0 l = none ∨ l ∈ c.mu) ∧ P l = none ∧ ∃ xs, H l = some (.lst xs) ∧ HasAll c.K P xs ds
/-- what is told of one's own objects stands while they stand -/
structure GenOk (c : Fr) (P H : Hp) (l : Addr) (ins : List Addr) (φ : Hp → Hp → Prop) : Prop where
  mine : ∀ a ∈ l :: ins, (c.H0 a = none ∨ a ∈ c.mu) ∧ P a = none ∧ ∃ o, H a = some o
  tell : φ P H
  st : ∀ P H P' H', Ex P P' → (∀ a ∈ l :: ins, H' a = H a) → φ P H → φ P' H'
inductive Sl (c : Fr) (P H : Hp) : L2.St → List Sv → Prop
  | nil : Sl c P H [] []
  | no {o : Option V} {σ : L2.St} {es : List Sv} : Sl c P H σ es → Sl c P H (o :: σ) (.no :: es)
  | dat {v : V} {d : Dt} {σ : L2.St} {es : List Sv} : Has c.K P v d → Sl c P H σ es → Sl c P H (some v :: σ) (.dat d :: es)
  | own {l : Addr} {ds : List Dt} {σ : L2.St} {es : List Sv} : Mine c P H l ds → Sl c P H σ es → Sl c P H (some (.ref l) :: σ) (.own l ds :: es)
  | hand {l : Addr} {σ : L2.St} {es : List Sv} : (∃ ds, HandOk ds ∧ Mine c P H l ds) → Sl c P H σ es → Sl c P H (some (.ref l) :: σ) (.hand l :: es)
  | gen {l : Addr} {ins : List Addr} {φ : Hp → Hp → Prop} {σ : L2.St} {es : List Sv} : GenOk c P H l ins φ → Sl c P H σ es → Sl c P H (some (.ref l) :: σ) (.gen l ins φ :: es)
structure Rep (c : Fr) (P H : Hp) (σ : L2.St) (es : List Sv) : Prop where
  b : Ex c.P0 P
  old : ∀ a o, a ∉ c.mu → c.H0 a = some o → H a = some o
  dom : ∀ a, H a = none → c.H0 a = none
  ex : Ex P H
  fr : ∀ a o, P a = some o → c.P0 a = some o ∨ c.H0 a = none
  sl : Sl c P H σ es
  nd : (owns es).Nodup
section
variable {c : Fr} {P H P' H' : Hp} {σ : L2.St} {es : List Sv} {i : Nat} {d : Dt} {l : Addr} {ds : List Dt}
theorem Mine.step (g : Grow P H P' H') (h : Mine c P H l ds) : Mine c P' H' l ds := by
  obtain ⟨h1, h2, xs, h3, h4⟩ := h
  refine ⟨h1, ?_, xs, g.h _ _ h3, HasAll.mono g.p _ h4⟩
  cases e : P' l with
  | none => rfl
  | some o =>
    rcases g.f _ _ e with z | z
    · rw [h2] at z; cases z
    · rw [h3] at z; cases z
theorem GenOk.step {ins : List Addr} {φ : Hp → Hp → Prop} (g : Grow P H P' H') (h : GenOk c P H l ins φ) : GenOk c P' H' l ins φ := by
  refine ⟨fun a m => ?_, h.st P H P' H' g.p (fun a m => ?_) h.tell, h.st⟩
  · obtain ⟨h1, h2, o, h3⟩ := h.mine a m
    refine ⟨h1, ?_, o, g.h _ _ h3⟩
    cases e : P' a with
    | none => rfl
    | some o =>
      rcases g.f _ _ e with z | z
      · rw [h2] at z; cases z
      · rw [h3] at z; cases z
  · obtain ⟨_, _, o, h3⟩ := h.mine a m
    rw [h3, g.h _ _ h3]
theorem Sl.step (g : Grow P H P' H') : ∀ {σ : L2.St} {es : List Sv}, Sl c P H σ es → Sl c P' H' σ es
  | _, _, .nil => .nil
  | _, _, .no h => .no (h.step g)
  | _, _, .dat a h => .dat (Has.mono g.p _ a) (h.step g)
  | _, _, .own a h => .own (a.step g) (h.step g)
  | _, _, .hand ⟨ds, z, a⟩ h => .hand ⟨ds, z, a.step g⟩ (h.step g)
  | _, _, .gen a h => .gen (a.step g) (h.step g)
theorem Rep.step (g : Grow P H P' H') (r : Rep c P H σ es) : Rep c P' H' σ es :=
  ⟨r.b.trans g.p, fun a o m h => g.h _ _ (r.old a o m h), fun a h => r.dom a (none_back g.h h), g.s, fun a o h => (g.f a o h).elim (r.fr a o) fun z => .inr (r.dom a z), r.sl.step g, r.nd⟩
theorem Rep.self (r : Rep c P H σ es) : Grow P H P H := .refl r.ex
/-- what the caller of a def without lists to change learns -/
theorem Rep.grow (r : Rep c P H σ es) (hm : c.mu = []) : Grow c.P0 c.H0 P H := ⟨r.b, fun a o h => r.old a o (by rw [hm]; exact List.not_mem_nil) h, r.ex, r.fr⟩
theorem Sl.get : ∀ {σ : L2.St} {es : List Sv} {i : Nat}, Sl c P H σ es → es[i]? = some (.dat d) → ∃ v, σ[i]? = some (some v) ∧ Has c.K P v d
  | _, _, _, .nil, e => by simp at e
  | _, _, 0, .no _, e => by simp at e
  | _, _, 0, .dat a _, e => by
    have e1 := Sv.dat.inj (Option.some.inj e)
    subst e1
    exact ⟨_, rfl, a⟩
  | _, _, 0, .own _ _, e => by simp at e
  | _, _, 0, .hand _ _, e => by simp at e
  | _, _, 0, .gen _ _, e => by simp at e
  | _, _, i + 1, .gen _ h, e => by simpa using h.get (i := i) (by simpa using e)
  | _, _, i + 1, .no h, e => by simpa using h.get (i := i) (by simpa using e)
  | _, _, i + 1, .dat _ h, e => by simpa using h.get (i := i) (by simpa using e)
  | _, _, i + 1, .own _ h, e => by simpa using h.get (i := i) (by simpa using e)
  | _, _, i + 1, .hand _ h, e => by simpa using h.get (i := i) (by simpa using e)
theorem Sl.getO : ∀ {σ : L2.St} {es : List Sv} {i : Nat}, Sl c P H σ es → es[i]? = some (.own l ds) → σ[i]? = some (some (.ref l)) ∧ Mine c P H l ds
  | _, _, _, .nil, e => by simp at e
  | _, _, 0, .no _, e => by simp at e
  | _, _, 0, .dat _ _, e => by simp at e
  | _, _, 0, .own a _, e => by
    obtain ⟨e1, e2⟩ := Sv.own.inj (Option.some.inj e)
    subst e1 e2
    exact ⟨rfl, a⟩
  | _, _, 0, .hand _ _, e => by simp at e
  | _, _, 0, .gen _ _, e => by simp at e
  | _, _, i + 1, .gen _ h, e => by simpa using h.getO (i := i) (by simpa using e)
  | _, _, i + 1, .no h, e => by simpa using h.getO (i := i) (by simpa using e)
  | _, _, i + 1, .dat _ h, e => by simpa using h.getO (i := i) (by simpa using e)
  | _, _, i + 1, .own _ h, e => by simpa using h.getO (i := i) (by simpa using e)
  | _, _, i + 1, .hand _ h, e => by simpa using h.getO (i := i) (by simpa using e)
theorem Sl.getH : ∀ {σ : L2.St} {es : List Sv} {i : Nat}, Sl c P H σ es → es[i]? = some (.hand l) → σ[i]? = some (some (.ref l)) ∧ ∃ ds, HandOk ds ∧ Mine c P H l ds
  | _, _, _, .nil, e => by simp at e
  | _, _, 0, .no _, e => by simp at e
  | _, _, 0, .dat _ _, e => by simp at e
  | _, _, 0, .own _ _, e => by simp at e
  | _, _, 0, .hand a _, e => by
    have e1 := Sv.hand.inj (Option.some.inj e)
    subst e1
    exact ⟨rfl, a⟩
  | _, _, 0, .gen _ _, e => by simp at e
  | _, _, i + 1, .gen _ h, e => by simpa using h.getH (i := i) (by simpa using e)
  | _, _, i + 1, .no h, e => by simpa using h.getH (i := i) (by simpa using e)
  | _, _, i + 1, .dat _ h, e => by simpa using h.getH (i := i) (by simpa using e)
  | _, _, i + 1, .own _ h, e => by simpa using h.getH (i := i) (by simpa using e)
  | _, _, i + 1, .hand _ h, e => by simpa using h.getH (i := i) (by simpa using e)
theorem Sl.getG {ins : List Addr} {φ : Hp → Hp → Prop} : ∀ {σ : L2.St} {es : List Sv} {i : Nat}, Sl c P H σ es → es[i]? = some (.gen l ins φ) → σ[i]? = some (some (.ref l)) ∧ GenOk c P H l ins φ
  | _, _, _, .nil, e => by simp at e
  | _, _, 0, .no _, e => by simp at e
  | _, _, 0, .dat _ _, e => by simp at e
  | _, _, 0, .own _ _, e => by simp at e
  | _, _, 0, .hand _ _, e => by simp at e
  | _, _, 0, .gen a _, e => by
    obtain ⟨e1, e2, e3⟩ := Sv.gen.inj (Option.some.inj e)
    subst e1 e2 e3
    exact ⟨rfl, a⟩
  | _, _, i + 1, .no h, e => by simpa using h.getG (i := i) (by simpa using e)
  | _, _, i + 1, .dat _ h, e => by simpa using h.getG (i := i) (by simpa using e)
  | _, _, i + 1, .own _ h, e => by simpa using h.getG (i := i) (by simpa using e)
  | _, _, i + 1, .hand _ h, e => by simpa using h.getG (i := i) (by simpa using e)
  | _, _, i + 1, .gen _ h, e => by simpa using h.getG (i := i) (by simpa using e)
theorem owns_memG {ins : List Addr} {φ : Hp → Hp → Prop} {a : Addr} (ha : a ∈ l :: ins) : ∀ {es : List Sv} {i : Nat}, es[i]? = some (.gen l ins φ) → a ∈ owns es
  | [], _, e => by simp at e
  | s :: es, 0, e => by
    cases Option.some.inj e
    exact List.mem_append_left _ ha
  | s :: es, i + 1, e => by
    have q := owns_memG ha (es := es) (i := i) (by simpa using e)
    cases s with
    | no => exact q
    | dat _ => exact q
    | own _ _ => exact List.mem_cons_of_mem _ q
    | hand _ => exact List.mem_cons_of_mem _ q
    | gen _ _ _ => exact List.mem_append_right _ q
theorem owns_mem : ∀ {es : List Sv} {i : Nat}, (es[i]? = some (.own l ds) ∨ es[i]? = some (.hand l)) → l ∈ owns es
  | [], _, e => by simp at e
  | s :: es, 0, e => by
    rcases e with e | e
    · cases Option.some.inj e
      exact List.mem_cons_self
    · cases Option.some.inj e
      exact List.mem_cons_self
  | s :: es, i + 1, e => by
    have q := owns_mem (es := es) (i := i) (by simpa using e)
    cases s with
    | no => exact q
    | dat _ => exact q
    | own _ _ => exact List.mem_cons_of_mem _ q
    | hand _ => exact List.mem_cons_of_mem _ q
    | gen _ _ _ => exact List.mem_append_right _ q
theorem owns_sub (s : Sv) (es : List Sv) : List.Sublist (owns es) (owns (s :: es)) := by
  cases s with
  | no => exact List.Sublist.refl _
  | dat _ => exact List.Sublist.refl _
  | own _ _ => exact List.sublist_cons_self _ _
  | hand _ => exact List.sublist_cons_self _ _
  | gen _ _ _ => exact List.sublist_append_right _ _
theorem owns_set : ∀ (es : List Sv) (i : Nat) (s : Sv), owns [s] = [] → List.Sublist (owns (es.set i s)) (owns es)
  | [], _, _, _ => .slnil
  | e :: es, 0, s, h => by
    cases s with
    | no => exact owns_sub e es
    | dat _ => exact owns_sub e es
    | own _ _ => cases h
    | hand _ => cases h
    | gen _ _ _ => cases h
  | e :: es, i + 1, s, h => by
    have q := owns_set es i s h
    cases e with
    | no => exact q
    | dat _ => exact q
    | own _ _ => exact q.cons₂ _
    | hand _ => exact q.cons₂ _
    | gen l ins _ => exact List.Sublist.append_left q (l :: ins)
theorem owns_put : ∀ (es : List Sv) (i : Nat) (s : Sv) (l : Addr), owns [s] = [l] → l ∉ owns es → (owns es).Nodup → (owns (es.set i s)).Nodup ∧ ∀ x ∈ owns (es.set i s), x = l ∨ x ∈ owns es
  | [], _, _, _, _, _, n => ⟨n, fun _ h => .inr h⟩
  | e :: es, 0, s, l, h, hn, n => by
    have q : owns (s :: es) = l :: owns es := by
      cases s with
      | no => cases h
      | dat _ => cases h
      | own a _ => cases (List.cons.inj h).1; rfl
      | hand a => cases (List.cons.inj h).1; rfl
      | gen a ins _ =>
        have h' : (a :: ins) ++ [] = [l] := h
        rw [List.append_nil] at h'
        cases (List.cons.inj h').1
        cases (List.cons.inj h').2
        rfl
    have sub : List.Sublist (owns es) (owns (e :: es)) := owns_sub e es
    show (owns (s :: es)).Nodup ∧ ∀ x ∈ owns (s :: es), x = l ∨ x ∈ owns (e :: es)
    rw [q]
    exact ⟨List.nodup_cons.mpr ⟨fun z => hn (sub.subset z), n.sublist sub⟩, fun x hx => (List.mem_cons.mp hx).elim .inl fun z => .inr (sub.subset z)⟩
  | e :: es, i + 1, s, l, h, hn, n => by
    cases e with
    | no => exact owns_put es i s l h hn n
    | dat _ => exact owns_put es i s l h hn n
    | own a _ =>
      have n' := List.nodup_cons.mp (show (a :: owns es).Nodup from n)
      obtain ⟨q1, q2⟩ := owns_put es i s l h (fun z => hn (List.mem_cons_of_mem _ z)) n'.2
      refine ⟨List.nodup_cons.mpr ⟨fun z => ?_, q1⟩, fun x hx => ?_⟩
      · rcases q2 a z with e | z
        · exact hn (by rw [← e]; exact List.mem_cons_self)
        · exact n'.1 z
      · rcases List.mem_cons.mp (show x ∈ a :: owns (es.set i s) from hx) with e | z
        · exact .inr (by rw [e]; exact List.mem_cons_self)
        · exact (q2 x z).imp id fun z => List.mem_cons_of_mem _ z
    | hand a =>
      have n' := List.nodup_cons.mp (show (a :: owns es).Nodup from n)
      obtain ⟨q1, q2⟩ := owns_put es i s l h (fun z => hn (List.mem_cons_of_mem _ z)) n'.2
      refine ⟨List.nodup_cons.mpr ⟨fun z => ?_, q1⟩, fun x hx => ?_⟩
      · rcases q2 a z with e | z
        · exact hn (by rw [← e]; exact List.mem_cons_self)
        · exact n'.1 z
      · rcases List.mem_cons.mp (show x ∈ a :: owns (es.set i s) from hx) with e | z
        · exact .inr (by rw [e]; exact List.mem_cons_self)
        · exact (q2 x z).imp id fun z => List.mem_cons_of_mem _ z
    | gen a ins _ =>
      have n' := List.nodup_append.mp (show ((a :: ins) ++ owns es).Nodup from n)
      obtain ⟨q1, q2⟩ := owns_put es i s l h (fun z => hn (List.mem_append_right _ z)) n'.2.1
      refine ⟨List.nodup_append.mpr ⟨n'.1, q1, fun x hx y hy e => ?_⟩, fun x hx => ?_⟩
      · subst e
        rcases q2 x hy with e | z
        · exact hn (by rw [← e]; exact List.mem_append_left _ hx)
        · exact n'.2.2 x hx x z rfl
      · rcases List.mem_append.mp (show x ∈ (a :: ins) ++ owns (es.set i s) from hx) with m | z
        · exact .inr (List.mem_append_left _ m)
        · exact (q2 x z).imp id fun z => List.mem_append_right _ z
theorem owns_same' {es : List Sv} {i : Nat} {s s' : Sv} (h : owns [s'] = owns [s]) : es[i]? = some s → owns (es.set i s') = owns es := by
  induction es generalizing i with
  | nil => intro e; simp at e
  | cons t es ih =>
    intro e
    have app : ∀ (s : Sv) (es : List Sv), owns (s :: es) = owns [s] ++ owns es := fun s es => by
      cases s with
      | gen a ins _ => show (a :: ins) ++ owns es = ((a :: ins) ++ []) ++ owns es; rw [List.append_nil]
      | _ => rfl
    cases i with
    | zero =>
      cases Option.some.inj e
      show owns (s' :: es) = owns (s :: es)
      rw [app s' es, app s es, h]
    | succ i =>
      show owns (t :: es.set i s') = owns (t :: es)
      rw [app t (es.set i s'), app t es, ih (by simpa using e)]
theorem Sl.len : ∀ {σ : L2.St} {es : List Sv}, Sl c P H σ es → σ.length = es.length
  | _, _, .nil => rfl
  | _, _, .no h => by rw [List.length_cons, List.length_cons, h.len]
  | _, _, .dat _ h => by rw [List.length_cons, List.length_cons, h.len]
  | _, _, .own _ h => by rw [List.length_cons, List.length_cons, h.len]
  | _, _, .hand _ h => by rw [List.length_cons, List.length_cons, h.len]
  | _, _, .gen _ h => by rw [List.length_cons, List.length_cons, h.len]
/-- one slot anew, by what it is alone -/
theorem Sl.set {o : Option V} {s : Sv} (h1 : Sl c P H [o] [s]) : ∀ {σ : L2.St} {es : List Sv} (i : Nat), Sl c P H σ es → Sl c P H (σ.set i o) (es.set i s)
  | _, _, _, .nil => .nil
  | _, _, 0, .no h => by cases h1 <;> first | exact .no h | exact .dat (by assumption) h | exact .own (by assumption) h | exact .hand (by assumption) h | exact .gen (by assumption) h
  | _, _, 0, .dat _ h => by cases h1 <;> first | exact .no h | exact .dat (by assumption) h | exact .own (by assumption) h | exact .hand (by assumption) h | exact .gen (by assumption) h
  | _, _, 0, .own _ h => by cases h1 <;> first | exact .no h | exact .dat (by assumption) h | exact .own (by assumption) h | exact .hand (by assumption) h | exact .gen (by assumption) h
  | _, _, 0, .hand _ h => by cases h1 <;> first | exact .no h | exact .dat (by assumption) h | exact .own (by assumption) h | exact .hand (by assumption) h | exact .gen (by assumption) h
  | _, _, 0, .gen _ h => by cases h1 <;> first | exact .no h | exact .dat (by assumption) h | exact .own (by assumption) h | exact .hand (by assumption) h | exact .gen (by assumption) h
  | _, _, i + 1, .gen a h => .gen a (Sl.set h1 i h)
  | _, _, i + 1, .no h => .no (Sl.set h1 i h)
  | _, _, i + 1, .dat a h => .dat a (Sl.set h1 i h)
  | _, _, i + 1, .own a h => .own a (Sl.set h1 i h)
  | _, _, i + 1, .hand a h => .hand a (Sl.set h1 i h)
theorem Rep.put {v : V} (r : Rep c P H σ es) (i : Nat) (h : Has c.K P v d) : Rep c P H (σ.set i (some v)) (es.set i (.dat d)) :=
  ⟨r.b, r.old, r.dom, r.ex, r.fr, Sl.set (.dat h .nil) i r.sl, r.nd.sublist (owns_set es i _ rfl)⟩
theorem Rep.drop {o : Option V} (r : Rep c P H σ es) (i : Nat) : Rep c P H (σ.set i o) (es.set i .no) :=
  ⟨r.b, r.old, r.dom, r.ex, r.fr, Sl.set (.no .nil) i r.sl, r.nd.sublist (owns_set es i _ rfl)⟩
theorem Rep.putO (r : Rep c P H σ es) (i : Nat) (h : Mine c P H l ds) (hn : l ∉ owns es) : Rep c P H (σ.set i (some (.ref l))) (es.set i (.own l ds)) :=
  ⟨r.b, r.old, r.dom, r.ex, r.fr, Sl.set (.own h .nil) i r.sl, (owns_put es i _ l rfl hn r.nd).1⟩
/-- lists of one's own stand -/
theorem Sl.there : ∀ {σ : L2.St} {es : List Sv}, Sl c P H σ es → ∀ l ∈ owns es, ∃ o, H l = some o
  | _, _, .nil, _, h => by cases h
  | _, _, .no h, l, m => h.there l m
  | _, _, .dat _ h, l, m => h.there l m
  | _, _, .own ⟨_, _, xs, q, _⟩ h, l, m => by
    rcases List.mem_cons.mp m with e | m
    · rw [e]; exact ⟨_, q⟩
    · exact h.there l m
  | _, _, .hand ⟨_, _, _, _, xs, q, _⟩ h, l, m => by
    rcases List.mem_cons.mp m with e | m
    · rw [e]; exact ⟨_, q⟩
    · exact h.there l m
  | _, _, .gen a h, l, m => by
    rcases List.mem_append.mp m with m | m
    · exact (a.mine l m).2.2
    · exact h.there l m
theorem Rep.fresh (r : Rep c P H σ es) (h : H l = none) : l ∉ owns es := fun m => by
  obtain ⟨xs, q⟩ := r.sl.there l m
  rw [q] at h; cases h
theorem GenOk.turn {ins : List Addr} {φ : Hp → Hp → Prop} {b : Addr} {o : HO} (n : b ∉ l :: ins) (h : GenOk c P H l ins φ) : GenOk c P (upd H b o) l ins φ := by
  have e : ∀ a ∈ l :: ins, upd H b o a = H a := fun a m => upd_ne fun z => n (by rw [← z]; exact m)
  exact ⟨fun a m => by rw [e a m]; exact h.mine a m, h.st P H P _ (.refl P) e h.tell, h.st⟩
/-- a list of one's own changes -/
theorem Sl.turn {xs : List V} (hP : P l = none) : ∀ {σ : L2.St} {es : List Sv}, l ∉ owns es → Sl c P H σ es → Sl c P (upd H l (.lst xs)) σ es
  | _, _, _, .nil => .nil
  | _, _, n, .no h => .no (h.turn hP n)
  | _, _, n, .dat a h => .dat a (h.turn hP n)
  | _, .own a _ :: _, n, .own ⟨m1, m2, ys, q, z⟩ h => .own ⟨m1, m2, ys, by rw [upd_ne fun e => n (by rw [← e]; exact List.mem_cons_self)]; exact q, z⟩ (h.turn hP fun m => n (List.mem_cons_of_mem _ m))
  | _, .hand a :: _, n, .hand ⟨ds, k, m1, m2, ys, q, z⟩ h => .hand ⟨ds, k, m1, m2, ys, by rw [upd_ne fun e => n (by rw [← e]; exact List.mem_cons_self)]; exact q, z⟩ (h.turn hP fun m => n (List.mem_cons_of_mem _ m))
  | _, .gen a ins _ :: _, n, .gen g h => .gen (g.turn fun m => n (List.mem_append_left _ m)) (h.turn hP fun m => n (List.mem_append_right _ m))
theorem Sl.change {xs : List V} {ds' : List Dt} (hx : HasAll c.K P xs ds') : ∀ {σ : L2.St} {es : List Sv} {i : Nat}, (owns es).Nodup → es[i]? = some (.own l ds) → Sl c P H σ es → Sl c P (upd H l (.lst xs)) σ (es.set i (.own l ds'))
  | _, _, _, _, e, .nil => by simp at e
  | _, _, 0, _, e, .no _ => by simp at e
  | _, _, 0, _, e, .dat _ _ => by simp at e
  | _, _, 0, n, e, .own a h => by
    obtain ⟨e1, e2⟩ := Sv.own.inj (Option.some.inj e)
    subst e1 e2
    obtain ⟨m1, m2, _⟩ := a
    exact .own ⟨m1, m2, xs, upd_same, hx⟩ (h.turn m2 (List.nodup_cons.mp n).1)
  | _, _, 0, _, e, .hand _ _ => by simp at e
  | _, _, 0, _, e, .gen _ _ => by simp at e
  | _, .gen a ins _ :: es, i + 1, n, e, .gen g h => by
    have n' := List.nodup_append.mp (show ((a :: ins) ++ owns es).Nodup from n)
    have e' : es[i]? = some (.own l ds) := by simpa using e
    exact .gen (g.turn fun m => (n'.2.2 l m l (owns_mem (.inl e'))) rfl) (Sl.change hx n'.2.1 e' h)
  | _, _, i + 1, n, e, .no h => .no (Sl.change hx n (by simpa using e) h)
  | _, _, i + 1, n, e, .dat a h => .dat a (Sl.change hx n (by simpa using e) h)
  | _, .own a _ :: es, i + 1, n, e, .own ⟨m1, m2, ys, q, z⟩ h => by
    have n' := List.nodup_cons.mp (show (a :: owns es).Nodup from n)
    have e' : es[i]? = some (.own l ds) := by simpa using e
    exact .own ⟨m1, m2, ys, by rw [upd_ne fun e => n'.1 (by rw [e]; exact owns_mem (.inl e'))]; exact q, z⟩ (Sl.change hx n'.2 e' h)
  | _, .hand a :: es, i + 1, n, e, .hand ⟨us, k, m1, m2, ys, q, z⟩ h => by
    have n' := List.nodup_cons.mp (show (a :: owns es).Nodup from n)
    have e' : es[i]? = some (.own l ds) := by simpa using e
    exact .hand ⟨us, k, m1, m2, ys, by rw [upd_ne fun e => n'.1 (by rw [e]; exact owns_mem (.inl e'))]; exact q, z⟩ (Sl.change hx n'.2 e' h)
theorem owns_same : ∀ {es : List Sv} {i : Nat} {ds' : List Dt}, es[i]? = some (.own l ds) → owns (es.set i (.own l ds')) = owns es
  | [], _, _, e => by simp at e
  | s :: es, 0, _, e => by
    cases Option.some.inj e
    rfl
  | s :: es, i + 1, ds', e => by
    have q := owns_same (es := es) (i := i) (ds' := ds') (by simpa using e)
    cases s with
    | no => exact q
    | dat _ => exact q
    | own a _ => exact congrArg (List.cons a) q
    | hand a => exact congrArg (List.cons a) q
    | gen a ins _ => exact congrArg ((a :: ins) ++ ·) q
theorem Rep.change {xs : List V} {ds' : List Dt} (r : Rep c P H σ es) (e : es[i]? = some (.own l ds)) (hx : HasAll c.K P xs ds') : Rep c P (upd H l (.lst xs)) σ (es.set i (.own l ds')) := by
  obtain ⟨_, m1, m2, _⟩ := r.sl.getO e
  refine ⟨r.b, fun a o m h => ?_, fun a h => ?_, fun a o h => ?_, r.fr, r.sl.change hx r.nd e, by rw [owns_same e]; exact r.nd⟩
  · have ne : a ≠ l := fun z => by
      subst z
      rcases m1 with q | q
      · rw [q] at h; cases h
      · exact m q
    rw [upd_ne ne]
    exact r.old a o m h
  · by_cases z : a = l
    · subst z; rw [upd_same] at h; cases h
    · rw [upd_ne z] at h
      exact r.dom a h
  · have ne : a ≠ l := fun z => by
      subst z; rw [m2] at h; cases h
    rw [upd_ne ne]
    exact r.ex a o h
end
end My
set_option Elab.async false
set_option linter.all false
set_option maxRecDepth 100000
set_option maxHeartbeats 2000000
/-! What expressions come to, over slots that are told. -/
namespace My
open PySem L2
open Evl (Ex)

/-- the hands among the slots -/
def handsOf : List Sv → List Addr
  | [] => []
  | .hand l :: es => l :: handsOf es
  | _ :: es => handsOf es
/-- the part has grown, all that was tracked stands but the hands -/
structure Kp (es : List Sv) (P H P' H' : Hp) : Prop where
  p : Ex P P'
  k : ∀ b o, b ∉ handsOf es → H b = some o → H' b = some o
  n : ∀ b, H' b = none → H b = none
  f : ∀ b o, P' b = some o → P b = some o ∨ H b = none
theorem Kp.refl {es : List Sv} {P H : Hp} : Kp es P H P H := ⟨.refl P, fun _ _ _ h => h, fun _ h => h, fun _ _ h => .inl h⟩
theorem Kp.trans {es : List Sv} {P H P1 H1 P2 H2 : Hp} (a : Kp es P H P1 H1) (b : Kp es P1 H1 P2 H2) : Kp es P H P2 H2 :=
  ⟨a.p.trans b.p, fun x o n h => b.k x o n (a.k x o n h), fun x h => a.n x (b.n x h), fun x o h => (b.f x o h).elim (a.f x o) fun z => .inr (a.n x z)⟩
theorem Kp.of {es : List Sv} {P H P1 H1 : Hp} (g : Grow P H P1 H1) : Kp es P H P1 H1 := ⟨g.p, fun x o _ h => g.h x o h, fun _ h => none_back g.h h, g.f⟩
theorem Kp.grow {es : List Sv} {P H P1 H1 : Hp} (k : Kp es P H P1 H1) (hh : handsOf es = []) (s : Ex P1 H1) : Grow P H P1 H1 := ⟨k.p, fun x o h => k.k x o (by rw [hh]; exact List.not_mem_nil) h, s, k.f⟩
theorem Kp.put {es : List Sv} {P H P1 H1 : Hp} {a : Addr} {o : HO} (k : Kp es P H P1 H1) (h : H a = none) : Kp es P H P1 (upd H1 a o) :=
  ⟨k.p, fun x u n e => by rw [upd_ne (ne_of_none e h)]; exact k.k x u n e, fun x e => by
    by_cases z : x = a
    · rw [z, upd_same] at e; cases e
    · rw [upd_ne z] at e; exact k.n x e, k.f⟩
theorem Kp.give {es : List Sv} {P H P1 H1 : Hp} {a : Addr} {o : HO} (k : Kp es P H P1 H1) (h : H a = none) (h1 : P1 a = none) : Kp es P H (upd P1 a o) H1 :=
  ⟨k.p.trans (Ex.new h1), k.k, k.n, fun x u e => by
    by_cases z : x = a
    · rw [z]; exact .inr h
    · rw [upd_ne z] at e; exact k.f x u e⟩
def EV (c : Fr) (te : TE) (es : List Sv) (φ : Dt → Prop) : Prop :=
  ∀ σ P H, Rep c P H σ es → ∀ Q : VK, (∀ v P' H' d, φ d → Rep c P' H' σ es → Kp es P H P' H' → Has c.K P' v d → Q v H') → te σ H Q
abbrev ED (c : Fr) (te : TE) (es : List Sv) (d : Dt) : Prop := EV c te es (fun x => x = d)
def EVs (c : Fr) (ta : TA) (es : List Sv) (φ : List Dt → Prop) : Prop :=
  ∀ σ P H, Rep c P H σ es → ∀ Q : List V → Hp → Prop, (∀ vs P' H' ds, φ ds → Rep c P' H' σ es → Kp es P H P' H' → HasAll c.K P' vs ds → Q vs H') → ta σ H Q
abbrev EDs (c : Fr) (ta : TA) (es : List Sv) (ds : List Dt) : Prop := EVs c ta es (fun x => x = ds)
def EB (c : Fr) (tt : TT) (es : List Sv) (φ : Bool → Prop) : Prop :=
  ∀ σ P H, Rep c P H σ es → ∀ Q : Bool → Hp → Prop, (∀ b P' H', φ b → Rep c P' H' σ es → Kp es P H P' H' → Q b H') → tt σ H Q
abbrev EBd (c : Fr) (tt : TT) (es : List Sv) (b : Bool) : Prop := EB c tt es (fun x => x = b)
/-- a fresh list of one's own -/
def EO (c : Fr) (te : TE) (es : List Sv) (φ : List Dt → Prop) : Prop :=
  ∀ σ P H, Rep c P H σ es → ∀ Q : VK, (∀ l P' H' ds, φ ds → Rep c P' H' σ es → Kp es P H P' H' → l ∉ owns es → H l = none → Mine c P' H' l ds → Q (.ref l) H') → te σ H Q
section
variable {c : Fr} {es : List Sv} {te ta tb tx : TE} {tt tu : TT} {ts : TA} {d x y : Dt} {ds : List Dt} {φ ψ χ : Dt → Prop} {i j : Int} {b b' : Bool}
theorem EV.imp (h : EV c te es φ) (k : ∀ d, φ d → ψ d) : EV c te es ψ := fun σ P H r Q q => h σ P H r Q fun v P' H' d e => q v P' H' d (k d e)
theorem ED.is (h : ED c te es d) (e : d = x) : ED c te es x := e ▸ h
theorem EB.imp {α β : Bool → Prop} (h : EB c tt es α) (k : ∀ b, α b → β b) : EB c tt es β := fun σ P H r Q q => h σ P H r Q fun v P' H' e => q v P' H' (k v e)
theorem EBd.is (h : EBd c tt es b) (e : b = b') : EBd c tt es b' := e ▸ h
/-! ### names, constants -/
theorem ed_var {n : Nat} (h : es[n]? = some (.dat d)) : ED c (tVar n) es d := fun σ P H r Q q => by
  obtain ⟨v, e, z⟩ := r.sl.get h
  exact ⟨v, e, q v P H d rfl r Kp.refl z⟩
theorem ed_c {v : V} (h : ∀ P, Has c.K P v d) : ED c (tC v) es d := fun σ P H r Q q => q v P H d rfl r Kp.refl (h P)
theorem ed_int : ED c (tC (.int i)) es (.int i) := ed_c fun _ => .int i
theorem ed_bl : ED c (tC (.bl b)) es (.bl b) := ed_c fun _ => .bl b
theorem ed_str {s : Str} : ED c (tC (.str s)) es (.str s) := ed_c fun _ => .str s
theorem ed_non : ED c (tC .non) es .non := ed_c fun _ => .non
/-! ### operators -/
/-- what an operator gives of two values that read as x and y -/
def RD (c : Fr) (r : R2) (x y : Dt) (χ : Dt → Prop) : Prop :=
  ∀ v u P H, Ex P H → Has c.K P v x → Has c.K P u y → ∀ Q : VK, (∀ w P' H' d, χ d → Grow P H P' H' → Has c.K P' w d → Q w H') → r v u H Q
theorem ev_op {r : R2} (ha : EV c ta es φ) (hb : EV c tb es ψ) (hr : ∀ x y, φ x → ψ y → RD c r x y χ) : EV c (tOp r ta tb) es χ := fun σ P H r0 Q q =>
  ha σ P H r0 _ fun v P1 H1 x hx r1 e1 h1 => hb σ P1 H1 r1 _ fun u P2 H2 y hy r2 e2 h2 =>
    hr x y hx hy v u P2 H2 r2.ex (Has.mono e2.p _ h1) h2 _ fun w P3 H3 z hz g h3 => q w P3 H3 z hz (r2.step g) ((e1.trans e2).trans (.of g)) h3
theorem ed_op {r : R2} (ha : ED c ta es x) (hb : ED c tb es y) (hr : RD c r x y (fun z => z = d)) : ED c (tOp r ta tb) es d :=
  ev_op ha hb fun _ _ e1 e2 => by rw [e1, e2]; exact hr
theorem rd_sc {r : R2} {w : V} (hw : ∀ P, Has c.K P w d) (h : ∀ v u P H, Ex P H → Has c.K P v x → Has c.K P u y → ∀ Q : VK, Q w H → r v u H Q) : RD c r x y (fun z => z = d) :=
  fun v u P H e hv hu Q q => h v u P H e hv hu Q (q w P H d rfl (.refl e) (hw P))
theorem rd_I0 {f : Int → Int → Int} : RD c (rI0 fun i j => .int (f i j)) (.int i) (.int j) (fun z => z = .int (f i j)) :=
  rd_sc (fun _ => .int _) fun v u P H _ hv hu Q q => by cases hv; cases hu; exact ⟨i, j, rfl, rfl, q⟩
theorem rd_B0 {f : Int → Int → Bool} : RD c (rI0 fun i j => .bl (f i j)) (.int i) (.int j) (fun z => z = .bl (f i j)) :=
  rd_sc (fun _ => .bl _) fun v u P H _ hv hu Q q => by cases hv; cases hu; exact ⟨i, j, rfl, rfl, q⟩
theorem rd_I {C : Int → Int → Prop} {f : Int → Int → Int} (hc : C i j) : RD c (rI C fun i j => .int (f i j)) (.int i) (.int j) (fun z => z = .int (f i j)) :=
  rd_sc (fun _ => .int _) fun v u P H _ hv hu Q q => by cases hv; cases hu; exact ⟨i, j, rfl, rfl, hc, q⟩
theorem ed_I0 {f : Int → Int → Int} (ha : ED c ta es (.int i)) (hb : ED c tb es (.int j)) : ED c (tOp (rI0 fun i j => .int (f i j)) ta tb) es (.int (f i j)) := ed_op ha hb rd_I0
theorem ed_B0 {f : Int → Int → Bool} (ha : ED c ta es (.int i)) (hb : ED c tb es (.int j)) : ED c (tOp (rI0 fun i j => .bl (f i j)) ta tb) es (.bl (f i j)) := ed_op ha hb rd_B0
theorem ed_I {C : Int → Int → Prop} {f : Int → Int → Int} (ha : ED c ta es (.int i)) (hb : ED c tb es (.int j)) (hc : C i j) : ED c (tOp (rI C fun i j => .int (f i j)) ta tb) es (.int (f i j)) := ed_op ha hb (rd_I hc)
theorem ed_neg (ha : ED c ta es (.int i)) : ED c (tUn (rU fun i => .int (-i)) ta) es (.int (-i)) := fun σ P H r Q q =>
  ha σ P H r _ fun v P1 H1 z hz r1 e1 h1 => by
    subst hz
    cases h1
    exact ⟨i, rfl, q _ P1 H1 _ rfl r1 e1 (.int _)⟩
/-- numbers of which something is known -/
def IsI (α : Int → Prop) : Dt → Prop := fun d => ∃ k, d = .int k ∧ α k
theorem ei_of (h : ED c te es (.int i)) : EV c te es (IsI fun k => k = i) := EV.imp h fun _ e => ⟨i, e, rfl⟩
theorem ei_I0 {α β : Int → Prop} {f : Int → Int → Int} (ha : EV c ta es (IsI α)) (hb : EV c tb es (IsI β)) : EV c (tOp (rI0 fun i j => .int (f i j)) ta tb) es (IsI fun k => ∃ i j, α i ∧ β j ∧ k = f i j) :=
  ev_op ha hb fun x y ⟨i, e1, a⟩ ⟨j, e2, b⟩ v u P H e hv hu Q q => rd_I0 (i := i) (j := j) v u P H e (e1 ▸ hv) (e2 ▸ hu) Q fun w P' H' z hz => q w P' H' z ⟨f i j, hz, i, j, a, b, rfl⟩
theorem ei_I {α β : Int → Prop} {C : Int → Int → Prop} {f : Int → Int → Int} (ha : EV c ta es (IsI α)) (hb : EV c tb es (IsI β)) (hc : ∀ i j, α i → β j → C i j) : EV c (tOp (rI C fun i j => .int (f i j)) ta tb) es (IsI fun k => ∃ i j, α i ∧ β j ∧ k = f i j) :=
  ev_op ha hb fun x y ⟨i, e1, a⟩ ⟨j, e2, b⟩ v u P H e hv hu Q q => rd_I (hc i j a b) v u P H e (e1 ▸ hv) (e2 ▸ hu) Q fun w P' H' z hz => q w P' H' z ⟨f i j, hz, i, j, a, b, rfl⟩
/-! ### ==, != -/
theorem rd_eq (hx : fine x = true) (hy : fine y = true) : RD c (rEqD c.K) x y (fun z => z = .bl (eqv x y)) :=
  rd_sc (fun _ => .bl _) fun v u P H e hv hu Q q => ⟨py x, py y, Has.dp _ (Has.mono e _ hv) (fine_bare hx), Has.dp _ (Has.mono e _ hu) (fine_bare hy), fine_shaped hx, fine_shaped hy, q⟩
theorem rd_ne (hx : fine x = true) (hy : fine y = true) : RD c (rNeD c.K) x y (fun z => z = .bl (!eqv x y)) :=
  rd_sc (fun _ => .bl _) fun v u P H e hv hu Q q => ⟨py x, py y, Has.dp _ (Has.mono e _ hv) (fine_bare hx), Has.dp _ (Has.mono e _ hu) (fine_bare hy), fine_shaped hx, fine_shaped hy, q⟩
theorem ed_eq (ha : ED c ta es x) (hb : ED c tb es y) (hx : fine x = true) (hy : fine y = true) : ED c (tOp (rEqD c.K) ta tb) es (.bl (eqv x y)) := ed_op ha hb (rd_eq hx hy)
theorem ed_ne (ha : ED c ta es x) (hb : ED c tb es y) (hx : fine x = true) (hy : fine y = true) : ED c (tOp (rNeD c.K) ta tb) es (.bl (!eqv x y)) := ed_op ha hb (rd_ne hx hy)
def isNon : Dt → Bool
  | .non => true
  | _ => false
theorem isNon_of {K : PySem.W.Frag} {P : Hp} {v : V} (h : Has K P v x) : decide (v = .non) = isNon x := by cases h <;> rfl
theorem ed_isN (ha : ED c ta es x) : ED c (tOp (fun x y H Q => y = .non ∧ Q (.bl (decide (x = .non))) H) ta (tC .non)) es (.bl (isNon x)) :=
  ed_op ha ed_non (rd_sc (fun _ => .bl _) fun v u P H _ hv hu Q q => by cases hu; exact ⟨rfl, by rw [isNon_of hv]; exact q⟩)
theorem ed_notN (ha : ED c ta es x) : ED c (tOp (fun x y H Q => y = .non ∧ Q (.bl (!decide (x = .non))) H) ta (tC .non)) es (.bl (!isNon x)) :=
  ed_op ha ed_non (rd_sc (fun _ => .bl _) fun v u P H _ hv hu Q q => by cases hu; exact ⟨rfl, by rw [isNon_of hv]; exact q⟩)
theorem ed_isB (ha : ED c ta es (.bl b)) (hb : ED c tb es (.bl b')) : ED c (tOp rIsB ta tb) es (.bl (decide (b = b'))) :=
  ed_op ha hb (rd_sc (fun _ => .bl _) fun v u P H _ hv hu Q q => by cases hv; cases hu; exact ⟨b, b', rfl, rfl, q⟩)
theorem ed_notB (ha : ED c ta es (.bl b)) (hb : ED c tb es (.bl b')) : ED c (tOp rNotB ta tb) es (.bl (!decide (b = b'))) :=
  ed_op ha hb (rd_sc (fun _ => .bl _) fun v u P H _ hv hu Q q => by cases hv; cases hu; exact ⟨b, b', rfl, rfl, q⟩)
/-! ### truth -/
theorem ed_and (ha : ED c ta es (.bl b)) (hb : b = true → ED c tb es (.bl b')) : ED c (tAndV ta tb) es (.bl (b && b')) := fun σ P H r Q q =>
  ha σ P H r _ fun v P1 H1 z hz r1 e1 h1 => by
    subst hz
    cases h1
    refine ⟨b, rfl, ?_⟩
    cases b with
    | true => exact iteT (hb rfl σ P1 H1 r1 Q fun w P2 H2 z hz r2 e2 h2 => q w P2 H2 z (by rw [hz]; rfl) r2 (e1.trans e2) h2)
    | false => exact iteF (q _ P1 H1 _ rfl r1 e1 (.bl false))
theorem ed_or (ha : ED c ta es (.bl b)) (hb : b = false → ED c tb es (.bl b')) : ED c (tOrV ta tb) es (.bl (b || b')) := fun σ P H r Q q =>
  ha σ P H r _ fun v P1 H1 z hz r1 e1 h1 => by
    subst hz
    cases h1
    refine ⟨b, rfl, ?_⟩
    cases b with
    | true => exact iteT (q _ P1 H1 _ rfl r1 e1 (.bl true))
    | false => exact iteF (hb rfl σ P1 H1 r1 Q fun w P2 H2 z hz r2 e2 h2 => q w P2 H2 z (by rw [hz]; rfl) r2 (e1.trans e2) h2)
theorem ed_not (ha : ED c ta es (.bl b)) : ED c (tNotV ta) es (.bl (!b)) := fun σ P H r Q q =>
  ha σ P H r _ fun v P1 H1 z hz r1 e1 h1 => by
    subst hz
    cases h1
    exact ⟨b, rfl, q _ P1 H1 _ rfl r1 e1 (.bl _)⟩
theorem eb_test (h : ED c te es (.bl b)) : EBd c (tTest te) es b := fun σ P H r Q q => h σ P H r _ fun v P1 H1 z hz r1 e1 h1 => by
  subst hz
  cases h1
  exact ⟨b, rfl, q b P1 H1 rfl r1 e1⟩
theorem eb_B (h : ED c te es (.bl b)) : EBd c (tB te) es b := fun σ P H r Q q => h σ P H r _ fun v P1 H1 z hz r1 e1 h1 => by
  subst hz
  cases h1
  exact ⟨b, rfl, q b P1 H1 rfl r1 e1⟩
theorem eb_and (ha : EBd c tt es b) (hb : b = true → EBd c tu es b') : EBd c (tAnd tt tu) es (b && b') := fun σ P H r Q q =>
  ha σ P H r _ fun a P1 H1 z r1 e1 => by
    subst z
    cases a with
    | true => exact iteT (hb rfl σ P1 H1 r1 Q fun w P2 H2 z r2 e2 => q w P2 H2 (by rw [z]; rfl) r2 (e1.trans e2))
    | false => exact iteF (q _ P1 H1 rfl r1 e1)
theorem eb_or (ha : EBd c tt es b) (hb : b = false → EBd c tu es b') : EBd c (tOr tt tu) es (b || b') := fun σ P H r Q q =>
  ha σ P H r _ fun a P1 H1 z r1 e1 => by
    subst z
    cases a with
    | true => exact iteT (q _ P1 H1 rfl r1 e1)
    | false => exact iteF (hb rfl σ P1 H1 r1 Q fun w P2 H2 z r2 e2 => q w P2 H2 (by rw [z]; rfl) r2 (e1.trans e2))
theorem eb_not (ha : EBd c tt es b) : EBd c (tNot tt) es (!b) := fun σ P H r Q q => ha σ P H r _ fun a P1 H1 z r1 e1 => q _ P1 H1 (by rw [z]) r1 e1
theorem ev_if (h : EBd c tt es b) (h1 : b = true → EV c ta es φ) (h2 : b = false → EV c tb es φ) : EV c (tIf tt ta tb) es φ := fun σ P H r Q q =>
  h σ P H r _ fun a P1 H1 z r1 e1 => by
    subst z
    cases a with
    | true => exact iteT (h1 rfl σ P1 H1 r1 Q fun w P2 H2 z hz r2 e2 => q w P2 H2 z hz r2 (e1.trans e2))
    | false => exact iteF (h2 rfl σ P1 H1 r1 Q fun w P2 H2 z hz r2 e2 => q w P2 H2 z hz r2 (e1.trans e2))
/-- a < b < c -/
theorem ed_chain {r1 r2 : R2} {tc : TE} {z : Dt} (ha : ED c ta es x) (hb : ED c tb es y) (h1 : RD c r1 x y (fun w => w = .bl b)) (hc : b = true → ED c tc es z) (h2 : b = true → RD c r2 y z (fun w => w = .bl b')) : ED c (tChain r1 r2 ta tb tc) es (.bl (b && b')) := fun σ P H r Q q =>
  ha σ P H r _ fun v P1 H1 a hv q1 e1 k1 => hb σ P1 H1 q1 _ fun u P2 H2 a2 hu q2 e2 k2 => by
    subst hv hu
    refine h1 v u P2 H2 q2.ex (Has.mono e2.p _ k1) k2 _ fun w P3 H3 a3 hw g3 k3 => ?_
    subst hw
    cases k3
    refine ⟨b, rfl, ?_⟩
    cases b with
    | false => exact iteF (q _ P3 H3 _ rfl (q2.step g3) ((e1.trans e2).trans (.of g3)) (.bl false))
    | true =>
      refine iteT (hc rfl σ P3 H3 (q2.step g3) _ fun w P4 H4 a4 hw q4 e4 k4 => ?_)
      subst hw
      exact h2 rfl u w P4 H4 q4.ex (Has.mono (g3.p.trans e4.p) _ k2) k4 _ fun w5 P5 H5 a5 h5 g5 k5 => q w5 P5 H5 a5 (by rw [h5]; rfl) (q4.step g5) ((((e1.trans e2).trans (.of g3)).trans e4).trans (.of g5)) k5
/-! ### arguments, displays -/
theorem es_nil : EDs c tNil es [] := fun σ P H r Q q => q [] P H [] rfl r Kp.refl .nil
theorem evs_cons {ρ : List Dt → Prop} (h : EV c te es φ) (hr : EVs c ts es ρ) : EVs c (tCons te ts) es (fun l => ∃ d ds, l = d :: ds ∧ φ d ∧ ρ ds) := fun σ P H r Q q =>
  h σ P H r _ fun v P1 H1 a ha r1 e1 h1 => hr σ P1 H1 r1 _ fun vs P2 H2 l hl r2 e2 h2 => q _ P2 H2 _ ⟨a, l, rfl, ha, hl⟩ r2 (e1.trans e2) (.cons (Has.mono e2.p _ h1) h2)
theorem es_cons (h : ED c te es d) (hr : EDs c ts es ds) : EDs c (tCons te ts) es (d :: ds) := fun σ P H r Q q =>
  evs_cons h hr σ P H r Q fun vs P' H' l ⟨a, l', e, ea, el⟩ => q vs P' H' l (by rw [e, ea, el])
theorem EVs.imp {ρ τ : List Dt → Prop} (h : EVs c ts es ρ) (k : ∀ l, ρ l → τ l) : EVs c ts es τ := fun σ P H r Q q => h σ P H r Q fun v P' H' d e => q v P' H' d (k d e)
/-- a new object at p that goes to the part -/
theorem grow_new {P H : Hp} {p : Addr} {o : HO} (e : Ex P H) (hp : H p = none) : Grow P H (upd P p o) (upd H p o) :=
  ⟨Ex.new (none_back e hp), Ex.new hp, fun a u h => by
    by_cases z : a = p
    · subst z; rw [upd_same] at h ⊢; exact h
    · rw [upd_ne z] at h ⊢; exact e a u h, fun a u h => by
    by_cases z : a = p
    · subst z; exact .inr hp
    · rw [upd_ne z] at h; exact .inl h⟩
/-- .. or stays one's own -/
theorem grow_own {P H : Hp} {p : Addr} {o : HO} (e : Ex P H) (hp : H p = none) : Grow P H P (upd H p o) :=
  ⟨.refl P, Ex.new hp, e.trans (Ex.new hp), fun _ _ h => .inl h⟩
theorem ev_tup {ρ : List Dt → Prop} (h : EVs c ts es ρ) (hl : ∀ l, ρ l → l.length ≤ 100000) : EV c (tTup ts) es (fun z => ∃ l, z = .tup l ∧ ρ l) := fun σ P H r Q q =>
  h σ P H r _ fun vs P1 H1 l hρ r1 e1 h1 => ⟨Evl.sz_of (by rw [h1.len]; exact hl l hρ), fun p hp => by
    have g := grow_new (o := .tup vs) r1.ex hp
    exact q _ _ _ _ ⟨l, rfl, hρ⟩ (r1.step g) (e1.trans (.of g)) (.tup (Evl.st_of upd_same) (HasAll.mono g.p _ h1))⟩
theorem ed_tup (h : EDs c ts es ds) (hl : ds.length ≤ 100000) : ED c (tTup ts) es (.tup ds) := EV.imp (ev_tup h fun _ e => by rw [e]; exact hl) fun z ⟨l, e1, e2⟩ => by rw [e1, e2]
theorem eo_lst {ρ : List Dt → Prop} (h : EVs c ts es ρ) (hl : ∀ l, ρ l → l.length ≤ 100000) : EO c (tLst ts) es ρ := fun σ P H r Q q =>
  h σ P H r _ fun vs P1 H1 l hρ r1 e1 h1 => ⟨Evl.sz_of (by rw [h1.len]; exact hl l hρ), fun p hp => by
    have g := grow_own (o := .lst vs) r1.ex hp
    exact q p P1 _ l hρ (r1.step g) (e1.trans (.of g)) (r1.fresh hp) (e1.n p hp) ⟨.inl (r1.dom p hp), none_back r1.ex hp, vs, upd_same, h1⟩⟩
theorem GenOk.give {P H : Hp} {l b : Addr} {ins : List Addr} {ψ : Hp → Hp → Prop} {o : HO} (n : b ∉ l :: ins) (hP : P b = none) (h : GenOk c P H l ins ψ) : GenOk c (upd P b o) H l ins ψ :=
  ⟨fun a m => ⟨(h.mine a m).1, by rw [upd_ne fun z => n (by rw [← z]; exact m)]; exact (h.mine a m).2.1, (h.mine a m).2.2⟩, h.st P H _ H (Ex.new hP) (fun _ _ => rfl) h.tell, h.st⟩
/-- a list of one's own that is never changed any more is data -/
theorem Rep.give {P H : Hp} {σ : L2.St} {l : Addr} (r : Rep c P H σ es) (hn : l ∉ owns es) (hl : c.H0 l = none) (hP : P l = none) {xs : List V} (hx : H l = some (.lst xs)) : Rep c (upd P l (.lst xs)) H σ es := by
  have key : ∀ {σ : L2.St} {es : List Sv}, l ∉ owns es → Sl c P H σ es → Sl c (upd P l (.lst xs)) H σ es := by
    intro σ es n h
    induction h with
    | nil => exact .nil
    | no _ ih => exact .no (ih n)
    | dat a _ ih => exact .dat (Has.mono (Ex.new hP) _ a) (ih n)
    | own a _ ih =>
      obtain ⟨m1, m2, ys, q, z⟩ := a
      have ne : _ ≠ l := fun e => n (by rw [← e]; exact List.mem_cons_self)
      exact .own ⟨m1, by rw [upd_ne ne]; exact m2, ys, q, HasAll.mono (Ex.new hP) _ z⟩ (ih fun m => n (List.mem_cons_of_mem _ m))
    | hand a _ ih =>
      obtain ⟨ds, k, m1, m2, ys, q, z⟩ := a
      have ne : _ ≠ l := fun e => n (by rw [← e]; exact List.mem_cons_self)
      exact .hand ⟨ds, k, m1, by rw [upd_ne ne]; exact m2, ys, q, HasAll.mono (Ex.new hP) _ z⟩ (ih fun m => n (List.mem_cons_of_mem _ m))
    | gen g _ ih => exact .gen (g.give (fun m => n (List.mem_append_left _ m)) hP) (ih fun m => n (List.mem_append_right _ m))
  refine ⟨r.b.trans (Ex.new hP), r.old, r.dom, fun a o h => ?_, fun a o h => ?_, key hn r.sl, r.nd⟩
  · by_cases z : a = l
    · subst z; rw [upd_same] at h; rw [hx]; exact h
    · rw [upd_ne z] at h; exact r.ex a o h
  · by_cases z : a = l
    · subst z; exact .inr hl
    · rw [upd_ne z] at h; exact r.fr a o h
theorem ev_give {ρ : List Dt → Prop} (hm : c.mu = []) (h : EO c te es ρ) : EV c te es (fun z => ∃ l, z = .lst l ∧ ρ l) := fun σ P H r Q q =>
  h σ P H r _ fun l P1 H1 ds hρ r1 e1 hn h0 ⟨m1, m2, xs, hx, hd⟩ => by
    have m0 : c.H0 l = none := m1.elim id fun z => by rw [hm] at z; cases z
    exact q _ _ _ _ ⟨ds, rfl, hρ⟩ (r1.give hn m0 m2 hx) (e1.give h0 m2) (.lst (Evl.sq_of upd_same) (HasAll.mono (Ex.new m2) _ hd))
/-! ### items, lengths -/
theorem atI_has {K : PySem.W.Frag} {P : Hp} {xs : List V} {l : List Dt} {k : Int} {d : Dt} (h : HasAll K P xs l) (e : atI l k = some d) : ∃ v, atI xs k = some v ∧ Has K P v d := by
  unfold atI at e ⊢
  rw [h.len]
  cases q : ixN l.length k with
  | none => rw [q] at e; cases e
  | some n =>
    rw [q] at e
    obtain ⟨v, e1, h1⟩ := h.get (i := n) (d := d) e
    exact ⟨v, e1, h1⟩
theorem rd_ixT {l : List Dt} (e : atI l i = some d) : RD c (rIx c.K) (.tup l) (.int i) (fun z => z = d) := fun v u P H ex hv hu Q q => by
  cases hu
  cases hv with
  | tup s r =>
    obtain ⟨w, e1, h1⟩ := atI_has r e
    exact .inr (.inl ⟨_, _, i, w, rfl, rfl, Evl.ex_t ex s, e1, q w P H d rfl (.refl ex) h1⟩)
theorem rd_ixL {l : List Dt} (e : atI l i = some d) : RD c (rIx c.K) (.lst l) (.int i) (fun z => z = d) := fun v u P H ex hv hu Q q => by
  cases hu
  cases hv with
  | lst s r =>
    obtain ⟨w, e1, h1⟩ := atI_has r e
    exact .inl ⟨_, _, i, w, rfl, rfl, Evl.ex_l ex s, e1, q w P H d rfl (.refl ex) h1⟩
theorem ed_ixT {l : List Dt} (ha : ED c ta es (.tup l)) (hb : ED c tb es (.int i)) (e : atI l i = some d) : ED c (tOp (rIx c.K) ta tb) es d := ed_op ha hb (rd_ixT e)
theorem ed_ixL {l : List Dt} (ha : ED c ta es (.lst l)) (hb : ED c tb es (.int i)) (e : atI l i = some d) : ED c (tOp (rIx c.K) ta tb) es d := ed_op ha hb (rd_ixL e)
/-- an item of a list of one's own -/
theorem ed_ixO {n : Nat} {a : Addr} {l : List Dt} (h : es[n]? = some (.own a l)) (hb : ED c tb es (.int i)) (e : atI l i = some d) : ED c (tOp (rIx c.K) (tVar n) tb) es d := fun σ P H r Q q => by
  refine ⟨_, (r.sl.getO h).1, ?_⟩
  refine hb σ P H r _ fun u P1 H1 z hz r1 e1 h1 => ?_
  subst hz
  cases h1
  obtain ⟨_, _, _, xs, hx, hd⟩ := r1.sl.getO h
  obtain ⟨w, e2, h2⟩ := atI_has hd e
  exact .inl ⟨a, xs, i, w, rfl, rfl, Evl.sq_of hx, e2, q w P1 H1 d rfl r1 e1 h2⟩
def lenD : Dt → Option Nat
  | .lst l => some l.length
  | .tup l => some l.length
  | _ => none
theorem ed_len {n : Nat} (ha : ED c ta es x) (e : lenD x = some n) : ED c (tCB (Evl.rLenS c.K) (tCons ta tNil)) es (.int n) := fun σ P H r Q q =>
  ha σ P H r _ fun v P1 H1 z hz r1 e1 h1 => by
    subst hz
    cases h1 with
    | lst s k =>
      cases Option.some.inj e
      exact ⟨_, _, rfl, .inl (Evl.ex_l r1.ex s), by rw [k.len]; exact q _ P1 H1 _ rfl r1 e1 (.int _)⟩
    | tup s k =>
      cases Option.some.inj e
      exact ⟨_, _, rfl, .inr (Evl.ex_t r1.ex s), by rw [k.len]; exact q _ P1 H1 _ rfl r1 e1 (.int _)⟩
    | _ => cases e
theorem ed_lenO {n : Nat} {a : Addr} {l : List Dt} (h : es[n]? = some (.own a l)) : ED c (tCB (Evl.rLenS c.K) (tCons (tVar n) tNil)) es (.int l.length) := fun σ P H r Q q => by
  obtain ⟨e0, _, _, xs, hx, hd⟩ := r.sl.getO h
  exact ⟨_, e0, a, xs, rfl, .inl (Evl.sq_of hx), by rw [hd.len]; exact q _ P H _ rfl r Kp.refl (.int _)⟩
/-! ### isinstance -/
def tyD : Dt → Option String
  | .non => some "NoneType"
  | .bl _ => some "bool"
  | .int _ => some "int"
  | .str _ => some "str"
  | .lst _ => some "list"
  | .tup _ => some "tuple"
  | .tupN _ => some "tuple"
  | .obj _ _ _ => none
theorem Has.ty {K : PySem.W.Frag} {P H : Hp} {v : V} {d : Dt} {n : String} (ex : Ex P H) (h : Has K P v d) (e : tyD d = some n) : TyX K H v (.type n) := by
  cases h with
  | non => cases Option.some.inj e; exact .base .non
  | bl b => cases Option.some.inj e; exact .base (.bl b)
  | int i => cases Option.some.inj e; exact .base (.int i)
  | str s => cases Option.some.inj e; exact .base (.str s)
  | lst s r =>
    cases Option.some.inj e
    rcases Evl.ex_l ex s with (q | ⟨o, q⟩) | ⟨o, its, n, q, z, _⟩
    · exact .base (.lst q)
    · exact .base (.frz q)
    · exact .kList q z
  | tup s r =>
    cases Option.some.inj e
    rcases Evl.ex_t ex s with (q | ⟨o, q⟩) | ⟨o, its, n, q, z, _⟩
    · exact .base (.tup q)
    · exact .fTuple q
    · exact .kTuple q z
  | tupN s _ _ r =>
    cases Option.some.inj e
    exact .fTuple (ex _ _ s)
  | obj s r => cases e
end
end My
set_option Elab.async false
set_option linter.all false
set_option maxRecDepth 100000
set_option maxHeartbeats 2000000
/-! Calls and statements over slots that are told. -/
namespace My
open PySem L2
open Evl (Ex)

/-! ### promises by data -/
/-- f gives of things that read as ds one that reads as d, R ds d; nothing changes -/
def spD (K : PySem.W.Frag) (R : List Dt → Dt → Prop) : Sp := fun vs H Q _ => ∃ P ds, Ex P H ∧ HasAll K P vs ds ∧ (∃ d, R ds d) ∧
  ∀ v P' H' d, R ds d → Grow P H P' H' → Has K P' v d → Q v H'
/-- .. gives a fresh list of one's own -/
def spO (K : PySem.W.Frag) (R : List Dt → List Dt → Prop) : Sp := fun vs H Q _ => ∃ P ds, Ex P H ∧ HasAll K P vs ds ∧ (∃ l, R ds l) ∧
  ∀ p P' H' xs l, R ds l → Grow P H P' H' → P' p = none → H p = none → H' p = some (.lst xs) → HasAll K P' xs l → Q (.ref p) H'
/-- f changes the hand that it gets first -/
def spH (K : PySem.W.Frag) (R : List Dt → Dt → Prop) : Sp := fun vs H Q _ => ∃ P a us hs ds, vs = .ref a :: us ∧ Ex P H ∧ P a = none ∧ (∃ xs, H a = some (.lst xs) ∧ HasAll K P xs hs) ∧ HandOk hs ∧ HasAll K P us ds ∧ (∃ d, R ds d) ∧
  ∀ v P' H' d xs' hs', R ds d → Ex P P' → (∀ b o, b ≠ a → H b = some o → H' b = some o) → (∀ b, H' b = none → H b = none) → Ex P' H' → (∀ b o, P' b = some o → P b = some o ∨ H b = none) → P' a = none → H' a = some (.lst xs') → HasAll K P' xs' hs' → HandOk hs' → Has K P' v d → Q v H'
/-- .. and gives a fresh list of one's own -/
def spHO (K : PySem.W.Frag) (R : List Dt → List Dt → Prop) : Sp := fun vs H Q _ => ∃ P a us hs ds, vs = .ref a :: us ∧ Ex P H ∧ P a = none ∧ (∃ xs, H a = some (.lst xs) ∧ HasAll K P xs hs) ∧ HandOk hs ∧ HasAll K P us ds ∧ (∃ l, R ds l) ∧
  ∀ p P' H' l ys xs' hs', R ds l → Ex P P' → (∀ b o, b ≠ a → H b = some o → H' b = some o) → (∀ b, H' b = none → H b = none) → Ex P' H' → (∀ b o, P' b = some o → P b = some o ∨ H b = none) → P' a = none → H' a = some (.lst xs') → HasAll K P' xs' hs' → HandOk hs' →
    P' p = none → H p = none → H' p = some (.lst ys) → HasAll K P' ys l → Q (.ref p) H'
section
variable {c : Fr} {es : List Sv} {te ta tb tx : TE} {tt tu : TT} {ts : TA} {d x y : Dt} {ds dd : List Dt} {φ ψ χ : Dt → Prop} {i j : Int} {b b' : Bool} {R : List Dt → Dt → Prop} {E : XK} {dvs : List V}
theorem evs_call {ρ : List Dt → Prop} (h : EVs c ts es ρ) (hd : ∀ P, HasAll c.K P dvs dd) (hR : ∀ l, ρ l → ∃ d, R (l ++ dd) d) : EV c (tCall (spD c.K R) dvs E ts) es (fun d => ∃ l, ρ l ∧ R (l ++ dd) d) := fun σ P H r Q q =>
  h σ P H r _ fun vs P1 H1 l hl r1 e1 h1 => ⟨P1, l ++ dd, r1.ex, h1.append (hd P1), hR l hl, fun v P2 H2 d hr g hv => q v P2 H2 d ⟨l, hl, hr⟩ (r1.step g) (e1.trans (.of g)) hv⟩
/-- the answer is one -/
theorem ed_call (h : EDs c ts es ds) (hR : R ds d) (h1 : ∀ x, R ds x → x = d) : ED c (tCall (spD c.K R) [] E ts) es d :=
  EV.imp (evs_call (dd := []) h (fun _ => .nil) fun l e => ⟨d, by rw [e, List.append_nil]; exact hR⟩) fun x ⟨l, e, z⟩ => by
    rw [e, List.append_nil] at z
    exact h1 x z
theorem ev_call (h : EDs c ts es ds) (hR : ∃ d, R ds d) : EV c (tCall (spD c.K R) [] E ts) es (R ds) :=
  EV.imp (evs_call (dd := []) h (fun _ => .nil) fun l e => by rw [e, List.append_nil]; exact hR) fun x ⟨l, e, z⟩ => by
    rw [e, List.append_nil] at z
    exact z
theorem ed_callD (h : EDs c ts es ds) (hd : ∀ P, HasAll c.K P dvs dd) (hR : R (ds ++ dd) d) (h1 : ∀ x, R (ds ++ dd) x → x = d) : ED c (tCall (spD c.K R) dvs E ts) es d :=
  EV.imp (evs_call (dd := dd) h hd fun l e => ⟨d, by rw [e]; exact hR⟩) fun x ⟨l, e, z⟩ => by
    rw [e] at z
    exact h1 x z
theorem Mine.own_new {P H P' H' : Hp} {p : Addr} {xs : List V} {l : List Dt} (m : c.H0 p = none) (h1 : P' p = none) (h2 : H' p = some (.lst xs)) (h3 : HasAll c.K P' xs l) : Mine c P' H' p l := ⟨.inl m, h1, xs, h2, h3⟩
theorem eo_call {RO : List Dt → List Dt → Prop} (h : EDs c ts es ds) (hR : ∃ l, RO ds l) : EO c (tCall (spO c.K RO) [] E ts) es (RO ds) := fun σ P H r Q q =>
  h σ P H r _ fun vs P1 H1 l hl r1 e1 h1 => ⟨P1, ds, r1.ex, by rw [List.append_nil, ← hl]; exact h1, hR, fun p P2 H2 xs l hr g k1 k2 k3 k4 => q p P2 H2 l hr (r1.step g) (e1.trans (.of g)) (r1.fresh k2) (e1.n p k2) ⟨.inl (r1.dom p k2), k1, xs, k3, k4⟩⟩
/-- the hand's slot behind a draw -/
theorem Sl.hands {P H P' H' : Hp} {a : Addr} {xs : List V} {hs : List Dt} (k1 : Ex P P') (k2 : ∀ b o, b ≠ a → H b = some o → H' b = some o) (k4 : ∀ b o, P' b = some o → P b = some o ∨ H b = none) (k5 : P' a = none) (k6 : H' a = some (.lst xs)) (k7 : HasAll c.K P' xs hs) (k8 : HandOk hs) :
    ∀ {σ : L2.St} {es : List Sv}, (a ∈ owns es → ∃ n : Nat, es[n]? = some (Sv.hand a)) → (owns es).Nodup → Sl c P H σ es → Sl c P' H' σ es := by
  have keep : ∀ {l : Addr} {ds : List Dt}, l ≠ a → Mine c P H l ds → Mine c P' H' l ds := fun {l ds} ne ⟨m1, m2, ys, q, z⟩ => by
    refine ⟨m1, ?_, ys, k2 _ _ ne q, HasAll.mono k1 _ z⟩
    cases e : P' l with
    | none => rfl
    | some o =>
      rcases k4 _ _ e with w | w
      · rw [m2] at w; cases w
      · rw [q] at w; cases w
  intro σ es n nd h
  induction h with
  | nil => exact .nil
  | no _ ih => exact .no (ih (fun m => by
      obtain ⟨k, e⟩ := n m
      cases k with
      | zero => simp at e
      | succ k => exact ⟨k, by simpa using e⟩) nd)
  | dat z _ ih => exact .dat (Has.mono k1 _ z) (ih (fun m => by
      obtain ⟨k, e⟩ := n m
      cases k with
      | zero => simp at e
      | succ k => exact ⟨k, by simpa using e⟩) nd)
  | @own l ds σ es m h ih =>
    have nd' := List.nodup_cons.mp (show (l :: owns es).Nodup from nd)
    have ne : l ≠ a := fun z => by
      subst z
      obtain ⟨k, e⟩ := n List.mem_cons_self
      cases k with
      | zero => simp at e
      | succ k => exact nd'.1 (owns_mem (ds := []) (.inr (by simpa using e)))
    exact .own (keep ne m) (ih (fun m => by
      obtain ⟨k, e⟩ := n (List.mem_cons_of_mem _ m)
      cases k with
      | zero => simp at e
      | succ k => exact ⟨k, by simpa using e⟩) nd'.2)
  | @hand l σ es m h ih =>
    have nd' := List.nodup_cons.mp (show (l :: owns es).Nodup from nd)
    have m0 := m
    obtain ⟨ds, z, m⟩ := m
    have rest := fun (hx : a ∈ owns es → ∃ n : Nat, es[n]? = some (Sv.hand a)) => ih hx nd'.2
    have hx : a ∈ owns es → ∃ n : Nat, es[n]? = some (Sv.hand a) := fun mm => by
      obtain ⟨k, e⟩ := n (List.mem_cons_of_mem _ mm)
      cases k with
      | zero =>
        have e1 := Sv.hand.inj (Option.some.inj e)
        subst e1
        exact (nd'.1 mm).elim
      | succ k => exact ⟨k, by simpa using e⟩
    by_cases ne : l = a
    · subst ne
      exact .hand ⟨hs, k8, m.1, k5, xs, k6, k7⟩ (rest hx)
    · exact .hand ⟨ds, z, keep ne m⟩ (rest hx)
  | @gen l ins φ σ es m h ih =>
    have nd' := List.nodup_append.mp (show ((l :: ins) ++ owns es).Nodup from nd)
    have ne : ∀ b ∈ l :: ins, b ≠ a := fun b hb z => by
      subst z
      obtain ⟨k, e⟩ := n (List.mem_append_left _ hb)
      cases k with
      | zero => simp at e
      | succ k => exact nd'.2.2 b hb b (owns_mem (ds := []) (.inr (by simpa using e))) rfl
    have keepG : GenOk c P' H' l ins φ := by
      have eH : ∀ b ∈ l :: ins, H' b = H b := fun b hb => by
        obtain ⟨_, _, o, h3⟩ := m.mine b hb
        rw [h3, k2 b o (ne b hb) h3]
      refine ⟨fun b hb => ?_, m.st P H P' H' k1 eH m.tell, m.st⟩
      obtain ⟨h1, h2, o, h3⟩ := m.mine b hb
      refine ⟨h1, ?_, o, k2 b o (ne b hb) h3⟩
      cases e : P' b with
      | none => rfl
      | some o =>
        rcases k4 _ _ e with w | w
        · rw [h2] at w; cases w
        · rw [h3] at w; cases w
    exact .gen keepG (ih (fun mm => by
      obtain ⟨k, e⟩ := n (List.mem_append_right _ mm)
      cases k with
      | zero => simp at e
      | succ k => exact ⟨k, by simpa using e⟩) nd'.2.1)
theorem Rep.hands {P H P' H' : Hp} {σ : L2.St} {a : Addr} {n : Nat} {xs : List V} {hs : List Dt} (r : Rep c P H σ es) (hn : es[n]? = some (Sv.hand a)) (k1 : Ex P P') (k2 : ∀ b o, b ≠ a → H b = some o → H' b = some o) (k2' : ∀ b, H' b = none → H b = none) (k3 : Ex P' H') (k4 : ∀ b o, P' b = some o → P b = some o ∨ H b = none)
    (k5 : P' a = none) (k6 : H' a = some (.lst xs)) (k7 : HasAll c.K P' xs hs) (k8 : HandOk hs) : Rep c P' H' σ es := by
  obtain ⟨_, _, _, m1, m2, _⟩ := r.sl.getH hn
  refine ⟨r.b.trans k1, fun b o m h => ?_, fun b h => r.dom b (k2' b h), k3, fun b o h => (k4 b o h).elim (r.fr b o) fun z => .inr (r.dom b z), r.sl.hands k1 k2 k4 k5 k6 k7 k8 (fun _ => ⟨n, hn⟩) r.nd, r.nd⟩
  have ne : b ≠ a := fun z => by
    subst z
    rcases m1 with q | q
    · rw [q] at h; cases h
    · exact m q
  exact k2 b o ne (r.old b o m h)
theorem hands_mem : ∀ {es : List Sv} {n : Nat} {a : Addr}, es[n]? = some (Sv.hand a) → a ∈ handsOf es
  | [], _, _, e => by simp at e
  | s :: es, 0, a, e => by
    cases Option.some.inj e
    exact List.mem_cons_self
  | s :: es, n + 1, a, e => by
    have q := hands_mem (es := es) (n := n) (a := a) (by simpa using e)
    cases s with
    | hand _ => exact List.mem_cons_of_mem _ q
    | no => exact q
    | dat _ => exact q
    | own _ _ => exact q
    | gen _ _ _ => exact q
theorem ev_callH {n : Nat} {a : Addr} {ρ : List Dt → Prop} (hn : es[n]? = some (Sv.hand a)) (h : EVs c ts es ρ) (hR : ∀ l, ρ l → ∃ d, R l d) : EV c (tCall (spH c.K R) [] E (tCons (tVar n) ts)) es (fun d => ∃ l, ρ l ∧ R l d) := fun σ P H r Q q => by
  refine ⟨_, (r.sl.getH hn).1, ?_⟩
  refine h σ P H r _ fun vs P1 H1 l hl r1 e1 h1 => ?_
  obtain ⟨_, hs, ok, m1, m2, xs, hx, hd⟩ := r1.sl.getH hn
  refine ⟨P1, a, vs, hs, l, by rw [List.append_nil], r1.ex, m2, ⟨xs, hx, hd⟩, ok, h1, hR l hl, fun v P2 H2 d xs2 hs2 hr k1 k2 k2' k3 k4 k5 k6 k7 k8 k9 => ?_⟩
  exact q v P2 H2 d ⟨l, hl, hr⟩ (r1.hands hn k1 k2 k2' k3 k4 k5 k6 k7 k8) (e1.trans ⟨k1, fun b o n h => k2 b o (fun z => n (by rw [z]; exact hands_mem hn)) h, k2', k4⟩) k9
theorem eo_callH {n : Nat} {a : Addr} {ρ : List Dt → Prop} {RO : List Dt → List Dt → Prop} (hn : es[n]? = some (Sv.hand a)) (h : EVs c ts es ρ) (hR : ∀ l, ρ l → ∃ d, RO l d) : EO c (tCall (spHO c.K RO) [] E (tCons (tVar n) ts)) es (fun d => ∃ l, ρ l ∧ RO l d) := fun σ P H r Q q => by
  refine ⟨_, (r.sl.getH hn).1, ?_⟩
  refine h σ P H r _ fun vs P1 H1 l hl r1 e1 h1 => ?_
  obtain ⟨_, hs, ok, m1, m2, xs, hx, hd⟩ := r1.sl.getH hn
  refine ⟨P1, a, vs, hs, l, by rw [List.append_nil], r1.ex, m2, ⟨xs, hx, hd⟩, ok, h1, hR l hl, fun p P2 H2 d ys xs2 hs2 hr k1 k2 k2' k3 k4 k5 k6 k7 k8 j1 j2 j3 j4 => ?_⟩
  exact q p P2 H2 d ⟨l, hl, hr⟩ (r1.hands hn k1 k2 k2' k3 k4 k5 k6 k7 k8) (e1.trans ⟨k1, fun b o n h => k2 b o (fun z => n (by rw [z]; exact hands_mem hn)) h, k2', k4⟩) (r1.fresh j2) (e1.n p j2) ⟨.inl (r1.dom p j2), j1, ys, j3, j4⟩
/-! ### isinstance -/
def isB (t n : String) : Bool := (kitB t n).getD false
theorem ed_isi {t n : String} (ha : ED c ta es x) (e : tyD x = some t) (k : (kitB t n).isSome = true) : ED c (tCB (rIsi c.K) (tCons ta (tCons (tC (.ty n)) tNil))) es (.bl (isB t n)) := fun σ P H r Q q =>
  ha σ P H r _ fun v P1 H1 z hz r1 e1 h1 => by
    subst hz
    refine ⟨v, .ty n, .type t, .type n, isB t n, rfl, .ty n, h1.ty r1.ex e, kit_ty ?_, q _ P1 H1 _ rfl r1 e1 (.bl _)⟩
    unfold isB
    cases w : kitB t n with
    | none => rw [w] at k; cases k
    | some b => rfl
theorem ed_isi2 {t n m : String} (ha : ED c ta es x) (e : tyD x = some t) (k : (kitB t n).isSome = true) (k' : (kitB t m).isSome = true) :
    ED c (tCB (rIsiT c.K) (tCons ta (tCons (tTup (tCons (tC (.ty n)) (tCons (tC (.ty m)) tNil))) tNil))) es (.bl (isB t n || isB t m)) := fun σ P H r Q q =>
  ha σ P H r _ fun v P1 H1 z hz r1 e1 h1 => by
    subst hz
    refine ⟨by show 2 ≤ sizeLine; decide, fun p hp => ?_⟩
    have g := grow_own (o := .tup [.ty n, .ty m]) r1.ex hp
    refine ⟨v, p, [.ty n, .ty m], .type t, [.type n, .type m], isB t n || isB t m, rfl, upd_same, .cons (.ty n) (.cons (.ty m) .nil), h1.ty (r1.step g).ex e, ?_, q _ P1 _ _ rfl (r1.step g) (e1.trans (.of g)) (.bl _)⟩
    have one : ∀ {n : String}, (kitB t n).isSome = true → PySem.W.kitOne c.K (.type t) (.type n) = some (isB t n) := fun {n} k => kit_ty (by
      unfold isB
      cases w : kitB t n with
      | none => rw [w] at k; cases k
      | some b => rfl)
    refine kitAny_cons (one k) (fun h0 => kitAny_cons (one k') (fun h1 => by rw [h0, h1]; exact kitAny_nil) fun h1 => by rw [h0, h1]; rfl) fun h0 => by rw [h0]; rfl
/-! ### numbers by built-ins -/
theorem ed_gcd (ha : ED c ta es (.int i)) (hb : ED c tb es (.int j)) : ED c (tCB rGcd (tCons ta (tCons tb tNil))) es (.int ((Nat.gcd i.natAbs j.natAbs : Nat) : Int)) := fun σ P H r Q q =>
  ha σ P H r _ fun v P1 H1 z hz r1 e1 h1 => hb σ P1 H1 r1 _ fun u P2 H2 z2 hz2 r2 e2 h2 => by
    subst hz hz2
    cases h1
    cases h2
    exact ⟨i, j, rfl, q _ P2 H2 _ rfl r2 (e1.trans e2) (.int _)⟩
theorem ed_int1 (ha : ED c ta es (.int i)) : ED c (tCB (fun xs H Q => (∃ i, xs = [.int i] ∧ Q (.int i) H) ∨ ∃ k, xs = [.bl k] ∧ Q (.int (if k then 1 else 0)) H) (tCons ta tNil)) es (.int i) := fun σ P H r Q q =>
  ha σ P H r _ fun v P1 H1 z hz r1 e1 h1 => by
    subst hz
    cases h1
    exact .inl ⟨i, rfl, q _ P1 H1 _ rfl r1 e1 (.int _)⟩
theorem ei_int1 {α : Int → Prop} (ha : EV c ta es (IsI α)) : EV c (tCB (fun xs H Q => (∃ i, xs = [.int i] ∧ Q (.int i) H) ∨ ∃ k, xs = [.bl k] ∧ Q (.int (if k then 1 else 0)) H) (tCons ta tNil)) es (IsI α) := fun σ P H r Q q =>
  ha σ P H r _ fun v P1 H1 z ⟨i, hz, hα⟩ r1 e1 h1 => by
    subst hz
    cases h1
    exact .inl ⟨i, rfl, q _ P1 H1 _ ⟨i, rfl, hα⟩ r1 e1 (.int _)⟩
theorem ed_abs (ha : ED c ta es (.int i)) : ED c (tCB (fun xs H Q => ∃ i, xs = [.int i] ∧ Q (.int (if i < 0 then -i else i)) H) (tCons ta tNil)) es (.int (if i < 0 then -i else i)) := fun σ P H r Q q =>
  ha σ P H r _ fun v P1 H1 z hz r1 e1 h1 => by
    subst hz
    cases h1
    exact ⟨i, rfl, q _ P1 H1 _ rfl r1 e1 (.int _)⟩
theorem ed_strI (ha : ED c ta es (.int i)) (hi : i.natAbs.log2 < 1920) : ED c (tCB (fun xs H Q => ∃ i, xs = [.int i] ∧ i.natAbs.log2 < 1920 ∧ Q (.str (toString i)) H) (tCons ta tNil)) es (.str (toString i)) := fun σ P H r Q q =>
  ha σ P H r _ fun v P1 H1 z hz r1 e1 h1 => by
    subst hz
    cases h1
    exact ⟨i, rfl, hi, q _ P1 H1 _ rfl r1 e1 (.str _)⟩
end
/-! ### statements -/
/-- from slots told by es the word k holds -/
def Cont (c : Fr) (k : L2.St → Hp → Prop) (es : List Sv) : Prop := ∀ σ P H, Rep c P H σ es → k σ H
/-- what is handed back reads as d, nothing else has changed -/
def RetD (c : Fr) (k : VK) (φ : Dt → Prop) : Prop := ∀ v P H σ es d, φ d → Rep c P H σ es → Has c.K P v d → k v H
section
variable {c : Fr} {es es' : List Sv} {te ta tb tx : TE} {tt : TT} {t u w : TS} {ts : TA} {d x y : Dt} {ds : List Dt} {φ ψ χ : Dt → Prop} {i j : Int} {b : Bool} {D : Ends} {n m : Nat}
theorem Cont.any {k : L2.St → Hp → Prop} (h : ∀ es', Cont c k es') : Cont c k es := h es
theorem c_seq (h : Cont c (t { D with nx := u D }) es) : Cont c (tSeq t u D) es := h
theorem c_next (h : Cont c D.nx es) : Cont c (tNext D) es := h
theorem c_asgV (h : EV c te es φ) (k : ∀ d, φ d → Cont c D.nx (es.set n (.dat d))) : Cont c (tAsg te (gName n) D) es := fun σ P H r =>
  h σ P H r _ fun v P1 H1 d hd r1 e1 h1 => k d hd _ P1 H1 (r1.put n h1)
theorem c_asg (h : ED c te es d) (k : Cont c D.nx (es.set n (.dat d))) : Cont c (tAsg te (gName n) D) es := c_asgV h fun _ e => by rw [e]; exact k
theorem c_asgO {ρ : List Dt → Prop} (h : EO c te es ρ) (k : ∀ l ds, ρ ds → Cont c D.nx (es.set n (.own l ds))) : Cont c (tAsg te (gName n) D) es := fun σ P H r =>
  h σ P H r _ fun l P1 H1 ds hd r1 e1 hn _ m => k l ds hd _ P1 H1 (r1.putO n m hn)
theorem c_par {m : Nat} (h : EDs c ts es [x, y]) (k : Cont c D.nx ((es.set n (.dat x)).set m (.dat y))) : Cont c (tPar n m ts D) es := fun σ P H r =>
  h σ P H r _ fun vs P1 H1 l hl r1 e1 h1 => by
    subst hl
    cases h1 with
    | cons a h1 =>
      cases h1 with
      | cons b h1 =>
        cases h1
        exact ⟨_, _, rfl, k _ P1 H1 ((r1.put n a).put m b)⟩
/-- a, b = e -/
theorem c_unpack {m : Nat} (h : ED c te es (.tup [x, y])) (k : Cont c D.nx ((es.set n (.dat x)).set m (.dat y))) : Cont c (tAsg te (gTup c.K 2 (gCons (gName n) (gCons (gName m) gNil))) D) es := fun σ P H r =>
  h σ P H r _ fun v P1 H1 l hl r1 e1 h1 => by
    subst hl
    cases h1 with
    | tup s h1 =>
      cases h1 with
      | cons a h1 =>
        cases h1 with
        | cons b h1 =>
          cases h1
          exact ⟨_, _, rfl, Evl.ex_t r1.ex s, rfl, _, _, rfl, _, _, rfl, rfl, k _ P1 H1 ((r1.put n a).put m b)⟩
theorem c_unpackL {m : Nat} (h : ED c te es (.lst [x, y])) (k : Cont c D.nx ((es.set n (.dat x)).set m (.dat y))) : Cont c (tAsg te (gLst c.K 2 (gCons (gName n) (gCons (gName m) gNil))) D) es := fun σ P H r =>
  h σ P H r _ fun v P1 H1 l hl r1 e1 h1 => by
    subst hl
    cases h1 with
    | lst s h1 =>
      cases h1 with
      | cons a h1 =>
        cases h1 with
        | cons b h1 =>
          cases h1
          exact ⟨_, _, rfl, Evl.ex_l r1.ex s, rfl, _, _, rfl, _, _, rfl, rfl, k _ P1 H1 ((r1.put n a).put m b)⟩
theorem c_aug {f : Int → Int → Int} (h0 : es[n]? = some (.dat (.int i))) (h : ED c te es (.int j)) (k : Cont c D.nx (es.set n (.dat (.int (f i j))))) : Cont c (tAug n te (ipI f) D) es := fun σ P H r => by
  obtain ⟨v, e, z⟩ := r.sl.get h0
  cases z
  exact ⟨_, e, h σ P H r _ fun v P1 H1 d hd r1 e1 h1 => by
    subst hd
    cases h1
    exact ⟨i, j, rfl, rfl, k _ P1 H1 (r1.put n (.int _))⟩⟩
theorem c_if (h : EBd c tt es b) (h1 : b = true → Cont c (t D) es) (h2 : b = false → Cont c (u D) es) : Cont c (tIfS tt t u D) es := fun σ P H r =>
  h σ P H r _ fun a P1 H1 z r1 e1 => by
    subst z
    cases a with
    | true => exact iteT (h1 rfl _ P1 H1 r1)
    | false => exact iteF (h2 rfl _ P1 H1 r1)
theorem c_retV (h : EV c te es φ) (k : RetD c D.rt φ) : Cont c (tRet te D) es := fun σ P H r => h σ P H r _ fun v P1 H1 d hd r1 e1 h1 => k v P1 H1 _ _ d hd r1 h1
theorem c_ret (h : ED c te es d) (k : RetD c D.rt (fun x => x = d)) : Cont c (tRet te D) es := c_retV h k
theorem RetD.imp (k : RetD c D.rt φ) (h : ∀ x, ψ x → φ x) : RetD c D.rt ψ := fun v P H σ es d e r z => k v P H σ es d (h d e) r z
theorem c_drop (h : EV c te es φ) (k : Cont c D.nx es) : Cont c (tDrop te D) es := fun σ P H r => h σ P H r _ fun v P1 H1 d hd r1 e1 h1 => k _ P1 H1 r1
theorem c_brk (k : Cont c D.bk es) : Cont c (tBreak D) es := k
theorem c_cont (k : Cont c D.ct es) : Cont c (tCont D) es := k
/-- xs.append(e), xs one's own -/
theorem c_app {l : Addr} (h0 : es[n]? = some (.own l ds)) (h : EV c te es φ) (hz : ds.length < 100000) (k : ∀ d, φ d → Cont c D.nx (es.set n (.own l (ds ++ [d])))) :
    Cont c (tDrop (tBM c.K "list" rAppend (tVar n) (tCons te tNil)) D) es := fun σ P H r => by
  obtain ⟨e0, _, _, xs, hx, hd⟩ := r.sl.getO h0
  refine ⟨_, e0, .inl ⟨rfl, xs, Evl.sq_of hx⟩, h σ P H r _ fun v P1 H1 d hφ r1 e1 h1 => ?_⟩
  obtain ⟨_, _, _, ys, hy, hd⟩ := r1.sl.getO h0
  exact ⟨l, ys, v, rfl, rfl, hy, Evl.sz_lt (by rw [hd.len]; exact hz), k d hφ _ P1 _ (r1.change h0 (hd.append (.cons h1 .nil)))⟩
/-- xs[j] = e -/
theorem c_set {l : Addr} {j : Nat} (h0 : es[n]? = some (.own l ds)) (h : EV c te es φ) (hj : ED c tb es (.int (j : Int))) (hl : j < ds.length) (k : ∀ d, φ d → Cont c D.nx (es.set n (.own l (ds.set j d)))) :
    Cont c (tAsg te (gSub (tVar n) tb rSetL) D) es := fun σ P H r =>
  h σ P H r _ fun v P1 H1 d hφ r1 e1 h1 => by
    refine ⟨_, (r1.sl.getO h0).1, ?_⟩
    refine hj σ P1 H1 r1 _ fun u P2 H2 z hz r2 e2 h2 => ?_
    subst hz
    cases h2
    obtain ⟨_, _, _, ys, hy, hd⟩ := r2.sl.getO h0
    exact ⟨l, ys, _, j, rfl, rfl, hy, Evl.ixN_nat (by rw [hd.len]; exact hl), k d hφ _ P2 _ (r2.change h0 (hd.set j (Has.mono e2.p _ h1)))⟩
/-! loops -/
/-- the word of a loop: the slots are told by some es with I k es -/
inductive Turn (c : Fr) (I : Nat → List Sv → Prop) (k : Nat) (σ : L2.St) (H : Hp) : Prop
  | mk (P : Hp) (es : List Sv) (h : I k es) (r : Rep c P H σ es)
theorem c_turn {I : Nat → List Sv → Prop} {k : Nat} (h : I k es) : Cont c (Turn c I k) es := fun σ P H r => ⟨P, es, h, r⟩
theorem c_rng1 {I : Nat → List Sv → Prop} (h : ED c ta es (.int i)) (hb : 0 ≤ i ∧ i ≤ 1000000) (h0 : I 0 es)
    (hs : ∀ (k : Nat) es, (k : Int) < i → I k es → Cont c (u { D with nx := Turn c I (k + 1), ct := Turn c I (k + 1), bk := D.nx }) (es.set n (.dat (.int k)))) (hd : ∀ es, I i.toNat es → Cont c D.nx es) :
    Cont c (tFor (iRng1 (tCons ta tNil)) (gName n) u D) es := fun σ P H r =>
  h σ P H r _ fun v P1 H1 z hz r1 e1 h1 => by
    subst hz
    cases h1
    refine ⟨i, rfl, by omega, by omega, for_range (lo := 0) (n := i.toNat) (fun k => Turn c I k) ⟨P1, es, h0, r1⟩ (fun k σ H hk ⟨P, es, hI, r⟩ => ?_) fun σ H ⟨P, es, hI, r⟩ => hd es hI _ P H r⟩
    have e0 : (0 : Int) + (k : Int) = (k : Int) := Int.zero_add _
    rw [e0]
    exact hs k es (by omega) hI _ P H (r.put n (.int _))
theorem c_rng2 {I : Nat → List Sv → Prop} (h : EDs c ts es [.int i, .int j]) (hb : -1000000 ≤ i ∧ i ≤ 1000000 ∧ -1000000 ≤ j ∧ j ≤ 1000000) (h0 : I 0 es)
    (hs : ∀ (k : Nat) es, i + (k : Int) < j → I k es → Cont c (u { D with nx := Turn c I (k + 1), ct := Turn c I (k + 1), bk := D.nx }) (es.set n (.dat (.int (i + k))))) (hd : ∀ es, I (j - i).toNat es → Cont c D.nx es) :
    Cont c (tFor (iRng2 ts) (gName n) u D) es := fun σ P H r =>
  h σ P H r _ fun v P1 H1 z hz r1 e1 h1 => by
    subst hz
    cases h1 with
    | cons a h1 =>
      cases h1 with
      | cons b h1 =>
        cases h1
        cases a
        cases b
        exact ⟨i, j, rfl, ⟨by omega, by omega, by omega, by omega⟩, for_range (lo := i) (n := (j - i).toNat) (fun k => Turn c I k) ⟨P1, es, h0, r1⟩ (fun k σ H hk ⟨P, es, hI, r⟩ =>
          hs k es (by omega) hI _ P H (r.put n (.int _))) fun σ H ⟨P, es, hI, r⟩ => hd es hI _ P H r⟩
end
end My
set_option Elab.async false
set_option linter.all false
set_option maxRecDepth 100000
set_option maxHeartbeats 2000000
/-! Loops and comprehensions over whatever is walked, by data. -/
namespace My
open PySem L2
open Evl (Ex)
abbrev Fr.at (c : Fr) (P : Hp) : Fr := ⟨c.K, c.mu, P, c.H0⟩
/-- what is told later is told of the entry -/
def Low (c : Fr) (P1 : Hp) : Prop := ∀ {P H σ es}, Rep (c.at P1) P H σ es → Rep c P H σ es
section
variable {c : Fr} {es es' : List Sv} {P H P1 H1 : Hp} {σ : L2.St} {k : L2.St → Hp → Prop} {kv : VK} {φ : Dt → Prop}
theorem Sl.at : ∀ {σ : L2.St} {es : List Sv}, Sl c P H σ es → Sl (c.at P1) P H σ es
  | _, _, .nil => .nil
  | _, _, .no h => .no h.at
  | _, _, .dat a h => .dat a h.at
  | _, _, .own a h => .own a h.at
  | _, _, .hand a h => .hand a h.at
  | _, _, .gen a h => .gen ⟨a.mine, a.tell, a.st⟩ h.at
theorem Sl.back : ∀ {σ : L2.St} {es : List Sv}, Sl (c.at P1) P H σ es → Sl c P H σ es
  | _, _, .nil => .nil
  | _, _, .no h => .no h.back
  | _, _, .dat a h => .dat a h.back
  | _, _, .own a h => .own a h.back
  | _, _, .hand a h => .hand a h.back
  | _, _, .gen a h => .gen ⟨a.mine, a.tell, a.st⟩ h.back
theorem Rep.at (r : Rep c P H σ es) : Rep (c.at P) P H σ es := ⟨.refl P, r.old, r.dom, r.ex, fun _ _ h => .inl h, r.sl.at, r.nd⟩
theorem Rep.low {σ1 : L2.St} {es1 : List Sv} (r : Rep c P1 H1 σ1 es1) : Low c P1 := fun q =>
  ⟨r.b.trans q.b, q.old, q.dom, q.ex, fun a o h => (q.fr a o h).elim (fun z => r.fr a o z) .inr, q.sl.back, q.nd⟩
theorem Rep.up {P2 : Hp} (r : Rep c P H σ es) (L : Ex P1 P) (hf : ∀ a o, P a = some o → P1 a = some o ∨ c.H0 a = none) : Rep (c.at P1) P H σ es := ⟨L, r.old, r.dom, r.ex, hf, r.sl.at, r.nd⟩
theorem Cont.low (L : Low c P1) (h : Cont c k es) : Cont (c.at P1) k es := fun σ P H r => h σ P H (L r)
theorem RetD.low (L : Low c P1) (h : RetD c kv φ) : RetD (c.at P1) kv φ := fun v P H σ es d e r z => h v P H σ es d e (L r) z
end
/-- what a target does with a thing that reads as x; vs: the slots that it sets -/
def TgD (c : Fr) (g : TG) (f : List Sv → List Sv) (vs : List Nat) (x : Dt) : Prop := ∀ v P H σ es (Q : L2.St → Hp → Prop), Rep c P H σ es → Has c.K P v x → (∀ σ', wipe σ' vs = wipe σ vs → Rep c P H σ' (f es) → Q σ' H) → g v σ H Q
section
variable {c : Fr} {es : List Sv} {x y z : Dt} {n m q : Nat}
theorem wipe_get {σ : L2.St} : ∀ {vs : List Nat} {i : Nat}, (wipe σ vs)[i]? = if i ∈ vs then (σ[i]?).map (fun _ => none) else σ[i]?
  | [], i => by rw [if_neg List.not_mem_nil] <;> rfl
  | v :: vs, i => by
    show ((wipe σ vs).set v none)[i]? = _
    rw [List.getElem?_set, wipe_get (vs := vs) (i := i), wipe_length]
    by_cases e : v = i
    · subst e
      rw [if_pos rfl, if_pos List.mem_cons_self]
      by_cases h : v < σ.length
      · rw [if_pos h, List.getElem?_eq_getElem h] <;> rfl
      · rw [if_neg h, List.getElem?_eq_none (by omega)] <;> rfl
    · rw [if_neg e]
      by_cases h : i ∈ vs
      · rw [if_pos h, if_pos (List.mem_cons_of_mem _ h)]
      · rw [if_neg h, if_neg fun z => (List.mem_cons.mp z).elim (fun z => e z.symm) h]
theorem wipe_mem {σ : L2.St} {vs : List Nat} {n : Nat} {o : Option V} (h : n ∈ vs) : wipe (σ.set n o) vs = wipe σ vs := by
  apply List.ext_getElem?
  intro i
  rw [wipe_get, wipe_get]
  by_cases hi : i ∈ vs
  · rw [if_pos hi, if_pos hi, List.getElem?_set]
    by_cases e : n = i
    · subst e
      rw [if_pos rfl]
      by_cases hl : n < σ.length
      · rw [if_pos hl, List.getElem?_eq_getElem hl] <;> rfl
      · rw [if_neg hl, List.getElem?_eq_none (by omega)]
    · rw [if_neg e]
  · rw [if_neg hi, if_neg hi, List.getElem?_set_ne fun e => hi (by rw [← e]; exact h)]
theorem tg_name : TgD c (gName n) (fun es => es.set n (.dat x)) [n] x := fun v P H σ es Q r h q => q _ (wipe_mem List.mem_cons_self) (r.put n h)
theorem tg_two : TgD c (gTup c.K 2 (gCons (gName n) (gCons (gName m) gNil))) (fun es => (es.set n (.dat x)).set m (.dat y)) [n, m] (.tup [x, y]) := fun v P H σ es Q r h q => by
  cases h with
  | tup s h1 =>
    cases h1 with
    | cons a h1 =>
      cases h1 with
      | cons b h1 =>
        cases h1
        exact ⟨_, _, rfl, Evl.ex_t r.ex s, rfl, _, _, rfl, _, _, rfl, rfl, q _ (by rw [wipe_mem (by simp), wipe_mem (by simp)]) ((r.put n a).put m b)⟩
/-- i, (a, b) -/
theorem tg_pair {y1 y2 : Dt} : TgD c (gTup c.K 2 (gCons (gName n) (gCons (gTup c.K 2 (gCons (gName m) (gCons (gName q) gNil))) gNil))) (fun es => ((es.set n (.dat x)).set m (.dat y1)).set q (.dat y2)) [n, m, q] (.tup [x, .tup [y1, y2]]) := fun v P H σ es Q r h k => by
  cases h with
  | tup s h1 =>
    cases h1 with
    | cons a h1 =>
      cases h1 with
      | cons b h1 =>
        cases h1
        cases b with
        | tup s2 h2 =>
          cases h2 with
          | cons b1 h2 =>
            cases h2 with
            | cons b2 h2 =>
              cases h2
              refine ⟨_, _, rfl, Evl.ex_t r.ex s, rfl, _, _, rfl, _, _, rfl, ⟨_, _, rfl, Evl.ex_t r.ex s2, rfl, _, _, rfl, _, _, rfl, rfl, rfl, ?_⟩⟩
              refine k _ ?_ (((r.put n a).put m b1).put q b2)
              rw [wipe_mem (by simp), wipe_mem (by simp), wipe_mem (by simp)]
end
theorem wipe_wipe {σ : L2.St} {vs : List Nat} : wipe (wipe σ vs) vs = wipe σ vs := by
  apply List.ext_getElem?
  intro i
  rw [wipe_get, wipe_get]
  by_cases hi : i ∈ vs
  · rw [if_pos hi, if_pos hi]
    cases σ[i]? <;> rfl
  · rw [if_neg hi, if_neg hi]
/-- what wi walks: things that read as the items of l, one after the other -/
def WI (c : Fr) (wi : TI) (es : List Sv) (l : List Dt) : Prop :=
  ∀ σ P H, Rep c P H σ es → ∀ R : It → Hp → Prop, (∀ J P1 H1 G Y, Rep c P1 H1 σ es → Kp es P H P1 H1 → Walk J l.length G Y → (∀ P' H', Ex P1 P' → Ex P' H' → G H') →
    (∀ i P' H' x H'', i < l.length → Ex P1 P' → Ex P' H' → Y i H' x H'' → ∃ P'' d, Grow P' H' P'' H'' ∧ l[i]? = some d ∧ Has c.K P'' x d) → R J H1) → wi σ H R
/-- a list or a tuple, walked -/
def iSeq (K : PySem.W.Frag) (tl : TE) : TI := fun σ H R => tl σ H fun x H1 => ∃ a, x = .ref a ∧ (((∃ xs, SqL K H1 a xs) ∧ R (Itl K a) H1) ∨ ((∃ xs, SqT K H1 a xs) ∧ R (Itt K a) H1))
def itemsD : Dt → Option (List Dt)
  | .lst l => some l
  | .tup l => some l
  | _ => none
section
variable {c : Fr} {es : List Sv} {ta te : TE} {ts : TA} {x d : Dt} {l : List Dt} {wi : TI} {g : TG} {u : TS} {D : Ends} {i j : Int} {n : Nat}
theorem wi_seq (h : ED c ta es x) (hx : itemsD x = some l) : WI c (iSeq c.K ta) es l := fun σ P H r R q =>
  h σ P H r _ fun v P1 H1 z hz r1 e1 h1 => by
    subst hz
    have yat : ∀ {xs : List V}, HasAll c.K P1 xs l → ∀ i P' H' x H'', i < l.length → Ex P1 P' → Ex P' H' → YAt xs i H' x H'' → ∃ P'' d, Grow P' H' P'' H'' ∧ l[i]? = some d ∧ Has c.K P'' x d := fun {xs} ha i P' H' x H'' hi a b y => by
      obtain ⟨rfl, e⟩ := y
      obtain ⟨d, e2, hd⟩ := ha.get' e
      exact ⟨P', d, .refl b, e2, Has.mono a _ hd⟩
    cases h1 with
    | lst s ha =>
      cases Option.some.inj hx
      exact ⟨_, rfl, .inl ⟨⟨_, Evl.ex_l r1.ex s⟩, q _ P1 H1 _ _ r1 e1 (by rw [← ha.len]; exact walk_list) (fun P' H' a b => Evl.ex_l (a.trans b) s) (yat ha)⟩⟩
    | tup s ha =>
      cases Option.some.inj hx
      exact ⟨_, rfl, .inr ⟨⟨_, Evl.ex_t r1.ex s⟩, q _ P1 H1 _ _ r1 e1 (by rw [← ha.len]; exact walk_tup) (fun P' H' a b => Evl.ex_t (a.trans b) s) (yat ha)⟩⟩
    | _ => cases hx
theorem wi_enum (h : ED c ta es (.lst l)) : WI c (iEnum c.K (tCons ta tNil)) es (l.mapIdx fun k y => .tup [.int k, y]) := fun σ P H r R q =>
  h σ P H r _ fun v P1 H1 z hz r1 e1 h1 => by
    subst hz
    cases h1 with
    | lst s ha =>
      refine ⟨_, _, rfl, Evl.ex_l r1.ex s, q _ P1 H1 _ _ r1 e1 (by rw [List.length_mapIdx, ← ha.len]; exact walk_enum) (fun P' H' a b => Evl.ex_l (a.trans b) s) fun i P' H' x H'' hi a b y => ?_⟩
      obtain ⟨T, x1, x2, rfl, nT, rfl, e2, e3⟩ := y
      obtain ⟨d, e4, hd⟩ := ha.get' e3
      have g := grow_new (o := .tup [x1, x2]) b nT
      refine ⟨_, .tup [.int i, d], g, by rw [List.getElem?_mapIdx, e4] <;> rfl, ?_⟩
      cases Option.some.inj e2
      exact .tup (Evl.st_of upd_same) (.cons (.int _) (.cons (Has.mono (a.trans g.p) _ hd) .nil))
def intsL (lo : Int) (n : Nat) : List Dt := (List.range n).map fun k => .int (lo + (k : Nat))
theorem intsL_len {lo : Int} {n : Nat} : (intsL lo n).length = n := by
  unfold intsL
  rw [List.length_map, List.length_range]
theorem intsL_get {lo : Int} {n k : Nat} (h : k < n) : (intsL lo n)[k]? = some (.int (lo + (k : Nat))) := by
  unfold intsL
  rw [List.getElem?_map, List.getElem?_range h] <;> rfl
theorem wi_rng1 (h : ED c ta es (.int i)) (hb : -1000000000 ≤ i ∧ i ≤ 1000000000) : WI c (iRng1 (tCons ta tNil)) es (intsL 0 i.toNat) := fun σ P H r R q =>
  h σ P H r _ fun v P1 H1 z hz r1 e1 h1 => by
    subst hz
    cases h1
    refine ⟨i, rfl, by omega, by omega, q _ P1 H1 _ _ r1 e1 (by rw [intsL_len]; exact walk_range) (fun _ _ _ _ => trivial) fun k P' H' x H'' hk a b y => ?_⟩
    rw [intsL_len] at hk
    obtain ⟨rfl, rfl⟩ := y
    exact ⟨P', _, .refl b, intsL_get hk, .int _⟩
theorem wi_rng2 (h : EDs c ts es [.int i, .int j]) (hb : -1000000000 ≤ i ∧ i ≤ 1000000000 ∧ -1000000000 ≤ j ∧ j ≤ 1000000000) : WI c (iRng2 ts) es (intsL i (j - i).toNat) := fun σ P H r R q =>
  h σ P H r _ fun v P1 H1 z hz r1 e1 h1 => by
    subst hz
    cases h1 with
    | cons a h1 =>
      cases h1 with
      | cons b h1 =>
        cases h1
        cases a
        cases b
        refine ⟨i, j, rfl, ⟨by omega, by omega, by omega, by omega⟩, q _ P1 H1 _ _ r1 e1 (by rw [intsL_len]; exact walk_range) (fun _ _ _ _ => trivial) fun k P' H' x H'' hk a b y => ?_⟩
        rw [intsL_len] at hk
        obtain ⟨rfl, rfl⟩ := y
        exact ⟨P', _, .refl b, intsL_get hk, .int _⟩
/-! loops -/
theorem c_for {I : Nat → List Sv → Prop} {f : Dt → List Sv → List Sv} {vs : List Nat} (h : WI c wi es l) (h0 : I 0 es) (hg : ∀ P y, y ∈ l → TgD (c.at P) g (f y) vs y)
    (hs : ∀ P1, Low c P1 → ∀ k y es, l[k]? = some y → I k es → Cont (c.at P1) (u { D with nx := Turn (c.at P1) I (k + 1), ct := Turn (c.at P1) I (k + 1), bk := D.nx }) (f y es)) (hd : ∀ es, I l.length es → Cont c D.nx es) :
    Cont c (tFor wi g u D) es := fun σ P H r =>
  h σ P H r _ fun J P1 H1 G Y r1 e1 w hG hY => by
    have L : Low c P1 := r1.low
    refine for_it w (fun k => Turn (c.at P1) I k) ⟨P1, es, h0, r1.at⟩ (fun k σ H hk ⟨P, es, hI, r⟩ => hG P H r.b r.ex) (fun k x σ H H' hk ⟨P, es, hI, r⟩ y => ?_) fun σ H ⟨P, es, hI, r⟩ => hd es hI _ P H (L r)
    obtain ⟨P', d, g', e, hx⟩ := hY k P H x H' hk r.b r.ex y
    exact hg P1 d (List.mem_of_getElem? e) x P' H' σ es _ (r.step g') hx fun σ' _ r' => hs P1 L k d es e hI _ P' H' r'
end
/-! comprehensions -/
def wipeE (es : List Sv) : List Nat → List Sv
  | [] => es
  | v :: vs => (wipeE es vs).set v .no
theorem Rep.wipe {c : Fr} {es : List Sv} {P H : Hp} {σ : L2.St} (r : Rep c P H σ es) : ∀ vs : List Nat, Rep c P H (wipe σ vs) (wipeE es vs)
  | [] => r
  | v :: vs => (r.wipe vs).drop v
section
variable {c : Fr} {es : List Sv} {te : TE} {tt : TT} {l : List Dt} {wi : TI} {g : TG}
theorem eo_lc {f : Dt → List Sv → List Sv} {vs : List Nat} {p : Dt → Bool} {fn : Dt → Dt} (hh : handsOf es = []) (h : WI c wi es l) (hl : l.length ≤ 1000000) (hg : ∀ P y, y ∈ l → TgD (c.at P) g (f y) vs y)
    (hf : ∀ y ∈ l, handsOf (f y (wipeE es vs)) = []) (ht : ∀ P, Low c P → ∀ y ∈ l, EBd (c.at P) tt (f y (wipeE es vs)) (p y)) (he : ∀ P, Low c P → ∀ y ∈ l, p y = true → ED (c.at P) te (f y (wipeE es vs)) (fn y)) :
    EO c (tLc wi g tt te vs) es (fun r => r = (l.filter p).map fn) := fun σ P H r Q q =>
  h σ P H r _ fun J P1 H1 G Y r1 e1 w hG hY => fun a ha => by
    have L : Low c P1 := r1.low
    have na := r1.fresh ha
    let Pv : Nat → Hp → Prop := fun i H => ∃ P xs, Rep (c.at P1) P H σ es ∧ Kp es P1 H1 P H ∧ P a = none ∧ H a = some (.lst xs) ∧ HasAll c.K P xs (((l.take i).filter p).map fn)
    have g0 := grow_own (o := .lst []) r1.ex ha
    refine lc_it w Pv ⟨P1, [], r1.at.step g0, .of g0, none_back r1.ex ha, upd_same, .nil⟩ (fun i H _ ⟨P, xs, r, _⟩ => hG P H r.b r.ex) (fun i x H H' hi ⟨P, xs, r, eH, hPa, hHa, hd⟩ y => ?_) fun H ⟨P, xs, r, eH, hPa, hHa, hd⟩ => ?_
    · obtain ⟨P', d, g', e, hx⟩ := hY i P H x H' hi r.b r.ex y
      have hm : d ∈ l := List.mem_of_getElem? e
      have r2 := r.step g'
      have tk : l.take (i + 1) = l.take i ++ [d] := by rw [List.take_add_one, e] <;> rfl
      refine hg P1 d hm x P' H' _ _ _ (r2.wipe vs) hx fun σ' hw r3 => ⟨by rw [hw]; exact wipe_wipe, ?_⟩
      refine ht P1 L d hm σ' P' H' r3 _ fun b P3 H3 hb r4 k4 => ?_
      have hands : ∀ {b : Addr}, b ∉ handsOf (f d (wipeE es vs)) := fun {b} => by rw [hf d hm]; exact List.not_mem_nil
      have hPa' : P' a = none := by
        cases z : P' a with
        | none => rfl
        | some o =>
          rcases g'.f _ _ z with z | z
          · rw [hPa] at z; cases z
          · rw [hHa] at z; cases z
      have hHa' := g'.h _ _ hHa
      subst hb
      cases hp : p d with
      | false =>
        refine iteF ?_
        have g4 := k4.grow (hf d hm) r4.ex
        have r5 := r2.step g4
        refine ⟨P3, xs, r5, (eH.trans (.of g')).trans (.of g4), ?_, g4.h _ _ hHa', ?_⟩
        · cases z : P3 a with
          | none => rfl
          | some o =>
            rcases g4.f _ _ z with z | z
            · rw [hPa'] at z; cases z
            · rw [hHa'] at z; cases z
        · rw [tk, List.filter_append, List.filter_cons, if_neg (by rw [hp]; decide), List.filter_nil, List.append_nil]
          exact HasAll.mono (g'.p.trans g4.p) _ hd
      | true =>
        refine iteT ?_
        refine he P1 L d hm hp σ' P3 H3 r4 _ fun v P4 H4 dv hv r6 k6 hx6 => ?_
        subst hv
        have g4 := k4.grow (hf d hm) r4.ex
        have g6 := k6.grow (hf d hm) r6.ex
        have g7 := g4.trans g6
        have hPa4 : P4 a = none := by
          cases z : P4 a with
          | none => rfl
          | some o =>
            rcases g7.f _ _ z with z | z
            · rw [hPa'] at z; cases z
            · rw [hHa'] at z; cases z
        have hHa4 := g7.h _ _ hHa'
        have hd4 := HasAll.mono (g'.p.trans g7.p) _ hd
        have len : xs.length ≤ l.length := by
          rw [hd.len, List.length_map]
          exact Nat.le_trans (List.length_filter_le _ _) (by rw [List.length_take]; omega)
        refine ⟨xs, hHa4, Nat.lt_of_le_of_lt (Nat.le_trans len hl) (by decide), P4, xs ++ [v], ?_, ?_, hPa4, upd_same, ?_⟩
        · have r7 := r2.step g7
          exact ⟨r7.b, fun b o m h => by
            by_cases z : b = a
            · subst z
              have q1 := r1.dom b ha
              rw [show (c.at P1).H0 b = c.H0 b from rfl, q1] at h; cases h
            · rw [upd_ne z]; exact r7.old b o m h, fun b h => by
            by_cases z : b = a
            · subst z; rw [upd_same] at h; cases h
            · rw [upd_ne z] at h; exact r7.dom b h, fun b o h => by
            by_cases z : b = a
            · subst z; rw [hPa4] at h; cases h
            · rw [upd_ne z]; exact r7.ex b o h, r7.fr, r7.sl.turn hPa4 na, r7.nd⟩
        · exact ((eH.trans (.of g')).trans (.of g7)).put ha
        · rw [tk, List.filter_append, List.filter_cons, if_pos hp, List.filter_nil, List.map_append]
          exact hd4.append (.cons hx6 .nil)
    · have et : l.take l.length = l := List.take_length
      rw [et] at hd
      have r' := L r
      exact q a P H _ rfl r' (e1.trans eH) na (e1.n a ha) ⟨.inl (r1.dom a ha), hPa, xs, hHa, hd⟩
end
end My
set_option Elab.async false
set_option linter.all false
set_option maxRecDepth 100000
set_option maxHeartbeats 2000000
/-! Defs by their names; division by any number; what is raised, by data. -/
namespace My
open PySem L2
open Evl (Ex)
/-! ### a def that a name of the module stands for -/
structure Fd (P : Program) (w : World) (K : PySem.W.Frag) (mg : Str → Option Value) (base : Heap) (k : Nat) (x : Str) (ps : List Str) (dvs : List V) (sp : Sp) : Prop where
  ex : ∃ f fd ds, FnOk P w K mg base (L2.CX P w) k f fd ps sp ∧ Binds K fd ps ds ∧ Vals dvs ds ∧ mg x = some (.ref f) ∧ PySem.W.keepIn K (.ref f) = true
section
variable {X : Cx} {k : Nat} {x : Str} {ps : List Str} {sp : Sp} {dvs : List V} {p pos : Pos} {e : Expr} {es : List Expr} {t : TA}
theorem pe_fd (C : Fd X.prog X.w X.K X.mg X.base k x ps dvs sp) (hr : Room k X.A) (ha : PA X (e :: es) t) (hg : Gl X x := by rfl) (hdb : (x == ("__debug__" : Str)) = false := by decide) (he : starEach (e :: es) X.env = (false, eval e X.env) :: starEach es X.env := by rfl)
    (hpl : (backTo pos (starEach es X.env)).any (·.1) = false := by rfl) : PE X (.Call (.Name x p) (e :: es) [] pos) (tCall sp dvs E0 t) := by
  obtain ⟨f, fd, ds, F, hb, hd, hm, hk⟩ := C.ex
  exact pe_call F hr hg hm hk hb hd passL ha hdb he hpl
/-- .. that may raise, W is wished for -/
theorem pe_fdS (C : Fd X.prog X.w X.K X.mg X.base k x ps [] sp) (hr : Room k X.A) {W : WX} (tk : Takes X W) (ha : PA X (e :: es) t) (hg : Gl X x := by rfl) (hdb : (x == ("__debug__" : Str)) = false := by decide)
    (he : starEach (e :: es) X.env = (false, eval e X.env) :: starEach es X.env := by rfl) (hpl : (backTo pos (starEach es X.env)).any (·.1) = false := by rfl) : PE X (.Call (.Name x p) (e :: es) [] pos) (tCallS sp (WE W) t) := by
  obtain ⟨f, fd, ds, F, hb, hd, hm, hk⟩ := C.ex
  cases hd
  exact pe_callS F hr hg hm hk hb (fun σ => passAt tk σ) ha hdb he hpl
end
/-! ### a list or a tuple, walked -/
theorem pi_seq {X : Cx} {tg l : Expr} {tl : TE} (hl : PE X l tl) : PI X tg l (iSeq X.K tl) := by
  refine ⟨fun pins s σ H R I h => ?_⟩
  refine thn (hl.run pins s σ H _ I h) fun v s1 hh => ?_
  obtain ⟨x, H1, I1, r1, a, rfl, z⟩ := hh
  obtain rfl : v = Value.ref a := r1
  have nw : ∀ b ∈ [s1.heap.objs.size], FpOk X pins H1 b := fun b hb => by
    obtain rfl : b = s1.heap.objs.size := by simpa using hb
    exact I1.fpOk (Nat.le_refl _) (I1.hok.fresh (Nat.le_refl _))
  rcases z with ⟨⟨xs, hq⟩, q⟩ | ⟨⟨xs, hq⟩, q⟩
  · obtain ⟨its, rv, pl, hz⟩ := I1.list hq
    exact wpAny_pyIter_list pl.isList ⟨s1.heap.objs.size, [s1.heap.objs.size], _, _, H1, rfl, I1.kept (t' := s1.toks) fun b o e => Heap.get?_push_of_some _ e, turn_list a _, ⟨_, Heap.get?_push_size _ rfl, rfl, rfl⟩, nw, q⟩
  · obtain ⟨its, rv, pl, hz⟩ := I1.tuple hq
    exact wpAny_pyIter_tuple (show s1.heap.IsTuple a its.toArray from pl) ⟨s1.heap.objs.size, [s1.heap.objs.size], _, _, H1, rfl, I1.kept (t' := s1.toks) fun b o e => Heap.get?_push_of_some _ e, turn_tuple a _, ⟨_, Heap.get?_push_size _ rfl, rfl, rfl⟩, nw, q⟩
/-! ### division by whatever is not 0 -/
def CDivA (_ j : Int) : Prop := j ≠ 0 ∧ j.natAbs.log2 < 9000
theorem op_fdivA {X : Cx} : OpR X (binaryOp .FloorDiv) (rI CDivA fun i j => .int (i.fdiv j)) := opI fun i j _ _ _ _ _ hc q => PyProof.Rows.floordiv_int hc.1 q (.inl (PyProof.noPylong_of_log2 hc.2))
theorem cdivA {i j : Int} {b : Nat} (h : j ≠ 0) (hb : j.natAbs < 2 ^ b) (h0 : 0 < b) (h9 : b ≤ 9000) : CDivA i j := ⟨h, Nat.lt_of_lt_of_le (PySem.Flt.log2_lt_of h0 hb) h9⟩
/-! ### what is raised -/
inductive Out where
  | ok (d : Dt)
  | ex (C : Addr) (ns : List Str) (ds : List Dt)
/-- R ds o: of things that read as ds comes o -/
def spX (K : PySem.W.Frag) (R : List Dt → Out → Prop) : Sp := fun vs H Q E => ∃ P ds, Ex P H ∧ HasAll K P vs ds ∧ (∃ o, R ds o) ∧
  (∀ v P' H' d, R ds (.ok d) → Grow P H P' H' → Has K P' v d → Q v H') ∧
  (∀ dx P' H' C fs fd, R ds (.ex C (fs.map (·.1)) fd) → Grow P H P' H' → H dx = none → P' dx = none → H' dx = some (.xd fs) → HasAll K P' (fs.map (·.2)) fd → E (.ref C) (some dx) H')
/-- the wish of a def's own way out -/
def XtD (c : Fr) (E : XK) (R : Out → Prop) : Prop := ∀ dx P H σ es C fs fd, R (.ex C (fs.map (·.1)) fd) → Rep c P H σ es → c.H0 dx = none → P dx = none → H dx = some (.xd fs) → HasAll c.K P (fs.map (·.2)) fd → E (.ref C) (some dx) H
section
variable {c : Fr} {es : List Sv} {te ta tb tx : TE} {tt tu : TT} {ts : TA} {d x y : Dt} {ds dd : List Dt} {R : List Dt → Out → Prop} {dvs : List V} {D : Ends} {E : XK} {C : Addr} {f : Str}
/-- a call that surely comes back -/
theorem ed_callX (h : EDs c ts es ds) (hd : ∀ P, HasAll c.K P dvs dd) (hR : R (ds ++ dd) (.ok d)) (h1 : ∀ o, R (ds ++ dd) o → o = .ok d) : ED c (tCall (spX c.K R) dvs E ts) es d := fun σ P H r Q q =>
  h σ P H r _ fun vs P1 H1 l hl r1 e1 k1 => by
    subst hl
    refine ⟨P1, l ++ dd, r1.ex, k1.append (hd P1), ⟨_, hR⟩, fun v P2 H2 x hr g hv => ?_, fun dx P2 H2 C fs fd hr _ _ _ _ _ => by cases h1 _ hr⟩
    cases h1 _ hr
    exact q v P2 H2 _ rfl (r1.step g) (e1.trans (.of g)) hv
/-- the __init__ of an error with one field -/
def spIni1 (K : PySem.W.Frag) (C : Addr) (f : Str) : Sp := fun vs H Q _ => ∃ (a : Addr) (v : V), vs = [.ref a, v] ∧ H a = some (exo a C none) ∧ ∀ dx, H dx = none → dx ≠ a → Q .non (upd (upd H dx (exd dx [(f, v)])) a (exo a C (some dx)))
def spIni2 (K : PySem.W.Frag) (C : Addr) (f g : Str) : Sp := fun vs H Q _ => ∃ (a : Addr) (v u : V), vs = [.ref a, v, u] ∧ H a = some (exo a C none) ∧
  ∀ dx, H dx = none → dx ≠ a → Q .non (upd (upd (upd H dx (exd dx [(f, v)])) a (exo a C (some dx))) dx (exd dx [(g, u), (f, v)]))
/-- raise C(e) -/
theorem c_raise1 {Ro : Out → Prop} {ns : List Str} (h : EDs c ts es [x]) (hk : XtD c E Ro) (hR : Ro (.ex C [f] [x])) (hn : ns = [f]) : Cont c ((fun (_ : Ends) σ H => tMkO C (spIni1 c.K C f) [] ts σ H fun cls d H' => E cls d H') D) es := fun σ P H r =>
  h σ P H r _ fun vs P1 H1 l hl r1 e1 k1 => by
    subst hl
    cases k1 with
    | @cons v _ _ _ kx k1 =>
      cases k1
      refine ⟨by show 1 ≤ 1000; decide, fun a ha => ⟨a, v, rfl, upd_same, fun dx hdx ne => ⟨rfl, dx, [(f, v)], upd_same, ?_, ?_, ?_⟩⟩⟩
      · rw [upd_ne ne, upd_same]
      · rw [upd_ne ne] at hdx; exact hdx
      · have hd0 : H1 dx = none := by rw [upd_ne ne] at hdx; exact hdx
        have e : upd (del (upd (upd (upd H1 a (exo a C none)) dx (exd dx [(f, v)])) a (exo a C (some dx))) a) dx (.xd [(f, v)]) = upd H1 dx (.xd [(f, v)]) := by
          funext b
          by_cases z : b = dx
          · subst z; rw [upd_same, upd_same]
          · rw [upd_ne z, upd_ne z]
            by_cases z2 : b = a
            · subst z2; rw [del_same, ha]
            · rw [del_ne z2, upd_ne z2, upd_ne z, upd_ne z2]
        rw [e]
        have g := grow_own (o := .xd [(f, v)]) r1.ex hd0
        exact hk dx P1 _ σ es C [(f, v)] [x] hR (r1.step g) (r1.dom dx hd0) (none_back r1.ex hd0) upd_same (.cons kx .nil)
end
end My
set_option Elab.async false
set_option linter.all false
set_option maxRecDepth 100000
set_option maxHeartbeats 2000000
/-! Calls by keywords, texts, tuples one behind the other, copies. -/
namespace My
open PySem L2
open Evl (Ex)
structure Fk (P : Program) (w : World) (K : PySem.W.Frag) (mg : Str → Option Value) (base : Heap) (k : Nat) (x : Str) (ps ks : List Str) (gV : List V → List V → List V) (sp : Sp) : Prop where
  ex : ∃ f fd g, FnOk P w K mg base (L2.CX P w) k f fd ps sp ∧ KBinds K fd ps ks g gV ∧ mg x = some (.ref f) ∧ PySem.W.keepIn K (.ref f) = true
section
variable {X : Cx} {k : Nat} {x : Str} {ps ks : List Str} {sp : Sp} {gV : List V → List V → List V} {p pos : Pos} {e : Expr} {es : List Expr} {kws : List Keyword} {t tk : TA}
theorem pe_fk (C : Fk X.prog X.w X.K X.mg X.base k x ps ks gV sp) (hr : Room k X.A) (ha : PA X (e :: es) t) (hkw : PK X kws tk) (hg : Gl X x := by rfl) (hall : (backToKw pos (keywordEach kws X.env)).all (·.1.isSome) = true := by rfl)
    (hks : (backToKw pos (keywordEach kws X.env)).filterMap (·.1) = ks := by rfl) (hdb : (x == ("__debug__" : Str)) = false := by decide) (he : starEach (e :: es) X.env = (false, eval e X.env) :: starEach es X.env := by rfl)
    (hpl : ((backTo pos (starEach (e :: es) X.env)).any (·.1) || (backToKw pos (keywordEach kws X.env)).any (·.1.isNone)) = false := by rfl) : PE X (.Call (.Name x p) (e :: es) kws pos) (tCallK sp gV E0 t tk) := by
  obtain ⟨f, fd, g, F, hb, hm, hk⟩ := C.ex
  exact pe_callK F hr hg hm hk hb passL ha hkw hall hks hdb he hpl
/-- texts one behind the other -/
def rAddS : R2 := fun x y H Q => ∃ i j, x = .str i ∧ y = .str j ∧ i.length + j.length ≤ sizeLine ∧ Q (.str (i ++ j)) H
theorem op_addS {X : Cx} : OpR X (binaryOp .Add) rAddS := op_add_str
def tJoin (ts : List TE) : TE := fun σ H Q => tJs ts Str.empty σ H fun out H1 => Q (.str out) H1
def rTupleOf (K : PySem.W.Frag) : List V → Hp → VK → Prop := fun xs H Q => ∃ p ys, xs = [.ref p] ∧ ((SqL K H p ys ∧ ∀ l, H l = none → Q (.ref l) (upd H l (.tup ys))) ∨ (SqT K H p ys ∧ Q (.ref p) H))
end
section
variable {c : Fr} {es : List Sv} {te ta tb tx : TE} {tt tu : TT} {ts : TA} {d x y : Dt} {ds dd : List Dt} {R : List Dt → Dt → Prop} {i j : Int} {a b : Str}
theorem ed_addS (ha : ED c ta es (.str a)) (hb : ED c tb es (.str b)) (h : a.length + b.length ≤ 100000) : ED c (tOp rAddS ta tb) es (.str (a ++ b)) :=
  ed_op ha hb (rd_sc (fun _ => .str _) fun v u P H _ hv hu Q q => by cases hv; cases hu; exact ⟨a, b, rfl, rfl, Evl.sz_of h, q⟩)
theorem ed_fmtI (h : ED c te es (.int i)) (hi : i.natAbs.log2 < 1920) : ED c (tFmt te) es (.str (toString i)) := fun σ P H r Q q => h σ P H r _ fun v P1 H1 z hz r1 e1 h1 => by
  subst hz
  cases h1
  exact .inr ⟨i, rfl, hi, q _ P1 H1 _ rfl r1 e1 (.str _)⟩
theorem ed_fmtS (h : ED c te es (.str a)) (hi : a.length ≤ 100000) : ED c (tFmt te) es (.str a) := fun σ P H r Q q => h σ P H r _ fun v P1 H1 z hz r1 e1 h1 => by
  subst hz
  cases h1
  exact .inl ⟨a, rfl, Evl.sz_of hi, q _ P1 H1 _ rfl r1 e1 (.str _)⟩
/-- three parts of an f-string -/
theorem ed_join3 {t1 t2 t3 : TE} {a1 a2 a3 : Str} (h1 : ED c t1 es (.str a1)) (h2 : ED c t2 es (.str a2)) (h3 : ED c t3 es (.str a3)) (hl : a1.length + a2.length + a3.length ≤ 100000) : ED c (tJoin [t1, t2, t3]) es (.str (((Str.empty ++ a1) ++ a2) ++ a3)) := fun σ P H r Q q =>
  h1 σ P H r _ fun v P1 H1 z hz r1 e1 k1 => by
    subst hz
    cases k1
    refine ⟨a1, rfl, Evl.sz_of (by rw [Str.length_append]; show 0 + _ ≤ _; omega), h2 σ P1 H1 r1 _ fun v P2 H2 z hz r2 e2 k2 => ?_⟩
    subst hz
    cases k2
    refine ⟨a2, rfl, Evl.sz_of (by rw [Str.length_append, Str.length_append]; show 0 + _ + _ ≤ _; omega), h3 σ P2 H2 r2 _ fun v P3 H3 z hz r3 e3 k3 => ?_⟩
    subst hz
    cases k3
    exact ⟨a3, rfl, Evl.sz_of (by rw [Str.length_append, Str.length_append, Str.length_append]; show 0 + _ + _ + _ ≤ _; omega), q _ P3 H3 _ rfl r3 ((e1.trans e2).trans e3) (.str _)⟩
/-- tuple + tuple -/
theorem ed_catT {l m : List Dt} (ha : ED c ta es (.tup l)) (hb : ED c tb es (.tup m)) (h1 : l ≠ []) (h2 : m ≠ []) (hl : l.length + m.length ≤ 100000) : ED c (tOp (rCatT c.K) ta tb) es (.tup (l ++ m)) :=
  ed_op ha hb fun v u P H e hv hu Q q => by
    cases hv with
    | @tup _ xs _ s k =>
      cases hu with
      | @tup _ ys _ s2 k2 =>
        refine ⟨_, _, _, _, rfl, rfl, Evl.ex_t e s, Evl.ex_t e s2, fun z => ?_, Evl.sz_of (by rw [k.len, k2.len]; exact hl), fun z => ?_, fun _ p hp => ?_⟩
        · rw [z] at k
          cases k
          exact h1 rfl
        · rw [z] at k2
          cases k2
          exact (h2 rfl).elim
        · have g := grow_new (o := .tup (xs ++ ys)) e hp
          exact q _ _ _ _ rfl g (.tup (Evl.st_of upd_same) ((HasAll.mono g.p _ k).append (HasAll.mono g.p _ k2)))
/-- list(x), a fresh one -/
theorem eo_list {l : List Dt} (ha : ED c ta es x) (hx : itemsD x = some l) : EO c (tCB (Evl.rListS c.K) (tCons ta tNil)) es (fun r => r = l) := fun σ P H r Q q =>
  ha σ P H r _ fun v P1 H1 z hz r1 e1 h1 => by
    subst hz
    cases h1 with
    | @lst _ xs _ s k =>
      cases Option.some.inj hx
      refine ⟨_, _, rfl, .inl (Evl.ex_l r1.ex s), fun p hp => ?_⟩
      have g := grow_own (o := .lst xs) r1.ex hp
      exact q p P1 _ _ rfl (r1.step g) (e1.trans (.of g)) (r1.fresh hp) (e1.n p hp) ⟨.inl (r1.dom p hp), none_back r1.ex hp, _, upd_same, k⟩
    | @tup _ xs _ s k =>
      cases Option.some.inj hx
      refine ⟨_, _, rfl, .inr (Evl.ex_t r1.ex s), fun p hp => ?_⟩
      have g := grow_own (o := .lst xs) r1.ex hp
      exact q p P1 _ _ rfl (r1.step g) (e1.trans (.of g)) (r1.fresh hp) (e1.n p hp) ⟨.inl (r1.dom p hp), none_back r1.ex hp, _, upd_same, k⟩
    | _ => cases hx
/-- tuple(x) -/
theorem ed_tupleOf {l : List Dt} (ha : ED c ta es x) (hx : itemsD x = some l) : ED c (tCB (rTupleOf c.K) (tCons ta tNil)) es (.tup l) := fun σ P H r Q q =>
  ha σ P H r _ fun v P1 H1 z hz r1 e1 h1 => by
    subst hz
    cases h1 with
    | @lst _ xs _ s k =>
      cases Option.some.inj hx
      refine ⟨_, _, rfl, .inl ⟨Evl.ex_l r1.ex s, fun p hp => ?_⟩⟩
      have g := grow_new (o := .tup xs) r1.ex hp
      exact q _ _ _ _ rfl (r1.step g) (e1.trans (.of g)) (.tup (Evl.st_of upd_same) (HasAll.mono g.p _ k))
    | tup s k =>
      cases Option.some.inj hx
      exact ⟨_, _, rfl, .inr ⟨Evl.ex_t r1.ex s, q _ P1 H1 _ rfl r1 e1 (.tup s k)⟩⟩
    | _ => cases hx
/-- a list of one's own is data from here on -/
theorem c_give {k : L2.St → Hp → Prop} {n : Nat} {l : Addr} (hn : es[n]? = some (.own l ds)) (hm : c.mu = []) (h : Cont c k (es.set n (.dat (.lst ds)))) : Cont c k es := fun σ P H r => by
  obtain ⟨e0, m1, m2, xs, hx, hd⟩ := r.sl.getO hn
  have m0 : c.H0 l = none := m1.elim id fun z => by rw [hm] at z; cases z
  have r1 := r.drop (o := none) n
  have nl : l ∉ owns (es.set n .no) := by
    have key : ∀ {es : List Sv} {n : Nat}, (owns es).Nodup → es[n]? = some (.own l ds) → l ∉ owns (es.set n .no) := by
      intro es
      induction es with
      | nil => intro n _ e; simp at e
      | cons s es ih =>
        intro n nd e
        cases n with
        | zero =>
          cases Option.some.inj e
          exact (List.nodup_cons.mp nd).1
        | succ n =>
          have e' : es[n]? = some (.own l ds) := by simpa using e
          cases s with
          | no => exact ih nd e'
          | dat _ => exact ih nd e'
          | own a _ =>
            have nd' := List.nodup_cons.mp (show (a :: owns es).Nodup from nd)
            intro m
            rcases List.mem_cons.mp (show l ∈ a :: owns (es.set n .no) from m) with z | z
            · exact nd'.1 (by rw [← z]; exact owns_mem (.inl e'))
            · exact ih nd'.2 e' z
          | hand a =>
            have nd' := List.nodup_cons.mp (show (a :: owns es).Nodup from nd)
            intro m
            rcases List.mem_cons.mp (show l ∈ a :: owns (es.set n .no) from m) with z | z
            · exact nd'.1 (by rw [← z]; exact owns_mem (ds := ds) (.inl e'))
            · exact ih nd'.2 e' z
          | gen a ins _ =>
            have nd' := List.nodup_append.mp (show ((a :: ins) ++ owns es).Nodup from nd)
            intro m
            rcases List.mem_append.mp (show l ∈ (a :: ins) ++ owns (es.set n .no) from m) with z | z
            · exact nd'.2.2 l z l (owns_mem (ds := ds) (.inl e')) rfl
            · exact ih nd'.2.1 e' z
    exact key r.nd hn
  have r2 := r1.give nl m0 m2 hx
  have r3 := r2.put n (v := .ref l) (d := .lst ds) (.lst (Evl.sq_of upd_same) (HasAll.mono (Ex.new m2) _ hd))
  rw [List.set_set, List.set_set] at r3
  have e1 : σ.set n (some (.ref l)) = σ := by
    obtain ⟨hl, hv⟩ := List.getElem?_eq_some_iff.mp e0
    rw [← hv]
    exact List.set_getElem_self hl
  rw [e1] at r3
  exact h σ _ H r3
/-- .. a hand -/
theorem c_hand {k : L2.St → Hp → Prop} {n : Nat} {l : Addr} (hn : es[n]? = some (.own l ds)) (hk : HandOk ds) (h : Cont c k (es.set n (.hand l))) : Cont c k es := fun σ P H r => by
  have key : ∀ {σ : L2.St} {es : List Sv} {n : Nat}, Sl c P H σ es → es[n]? = some (.own l ds) → Sl c P H σ (es.set n (.hand l)) ∧ owns (es.set n (.hand l)) = owns es := by
    intro σ es n s
    induction s generalizing n with
    | nil => intro e; simp at e
    | no s ih =>
      intro e
      cases n with
      | zero => simp at e
      | succ n =>
        obtain ⟨a, b⟩ := ih (n := n) (by simpa using e)
        exact ⟨.no a, b⟩
    | dat z s ih =>
      intro e
      cases n with
      | zero => simp at e
      | succ n =>
        obtain ⟨a, b⟩ := ih (n := n) (by simpa using e)
        exact ⟨.dat z a, b⟩
    | own z s ih =>
      intro e
      cases n with
      | zero =>
        obtain ⟨e1, e2⟩ := Sv.own.inj (Option.some.inj e)
        subst e1 e2
        exact ⟨.hand ⟨_, hk, z⟩ s, rfl⟩
      | succ n =>
        obtain ⟨a, b⟩ := ih (n := n) (by simpa using e)
        exact ⟨.own z a, congrArg (List.cons _) b⟩
    | hand z s ih =>
      intro e
      cases n with
      | zero => simp at e
      | succ n =>
        obtain ⟨a, b⟩ := ih (n := n) (by simpa using e)
        exact ⟨.hand z a, congrArg (List.cons _) b⟩
    | @gen l' ins φ σ es z s ih =>
      intro e
      cases n with
      | zero => simp at e
      | succ n =>
        obtain ⟨a, b⟩ := ih (n := n) (by simpa using e)
        exact ⟨.gen z a, congrArg ((l' :: ins) ++ ·) b⟩
  obtain ⟨s, ow⟩ := key r.sl hn
  exact h σ P H ⟨r.b, r.old, r.dom, r.ex, r.fr, s, by rw [ow]; exact r.nd⟩
end
end My
set_option Elab.async false
set_option linter.all false
set_option maxRecDepth 100000
set_option maxHeartbeats 2000000
/-! From what a body does to data, to the def's promise. -/
namespace My
open PySem PySem.Spec PyProof.Rows L2
open Evl (Ex)
theorem sl_nos {c : Fr} {P H : Hp} : ∀ n : Nat, Sl c P H (List.replicate n none) (List.replicate n .no)
  | 0 => .nil
  | n + 1 => .no (sl_nos n)
theorem sl_start {c : Fr} {P H : Hp} {n : Nat} : ∀ {ds : List Dt} {vs : List V}, HasAll c.K P vs ds → Sl c P H (vs.map some ++ List.replicate n none) (ds.map Sv.dat ++ List.replicate n .no)
  | [], _, h => by cases h; exact sl_nos n
  | d :: ds, _, h => by
    cases h with
    | cons a b => exact .dat a (sl_start b)
theorem owns_start (n : Nat) : ∀ ds : List Dt, owns (ds.map Sv.dat ++ List.replicate n .no) = []
  | [] => by
    show owns (List.replicate n .no) = []
    induction n with
    | zero => rfl
    | succ n ih => exact ih
  | _ :: ds => owns_start n ds
/-- the slots at the entry -/
abbrev args (ds : List Dt) (n : Nat) : List Sv := ds.map Sv.dat ++ List.replicate n .no
theorem rep_start {K : PySem.W.Frag} {P H : Hp} {ds : List Dt} {vs : List V} {n : Nat} (e : Ex P H) (h : HasAll K P vs ds) : Rep ⟨K, [], P, H⟩ P H (vs.map some ++ List.replicate n none) (args ds n) :=
  ⟨.refl P, fun _ _ _ h => h, fun _ h => h, e, fun _ _ h => .inl h, sl_start h, by rw [owns_start]; exact List.nodup_nil⟩
theorem start_eq {N : List Str} {vs : List V} {n : Nat} (h : N.length = vs.length + n) : L2.start N vs = vs.map some ++ List.replicate n none := by
  unfold L2.start
  rw [h, Nat.add_sub_cancel_left]
section
variable {P : Program} {w : World} {K : PySem.W.Frag} {mg : Str → Option Value} {base : Heap} {x : Str} {st : Stmt} {N ps : List Str} {m n : Nat} {R : List Dt → Dt → Prop} {RO : List Dt → List Dt → Prop} {RX : List Dt → Out → Prop} {fd : FuncData} {da : List V} {kw : List (Str × V)} {f : Addr} {t : TS} {tx : XK → TS}
/-- what the generator shows of a body -/
abbrev Drv (P : Program) (w : World) (K : PySem.W.Frag) (mg : Str → Option Value) (base : Heap) (x : Str) (st : Stmt) (N : List Str) (m : Nat) (t : XK → TS) : Prop :=
  ∀ (f : Addr) (cdv : Value) (A : Around) (outer : List Env) (s : Shared) (H : Hp) (E : XK), Room m (A.deeper (envOfC x (defScope st) s.heap.objs.size f cdv)) → PSs (cxOf (L2.CX P w) P w K mg base N x (defScope st) f cdv A outer s H E) (defBody st) (t E)
theorem fnD (F : FunD K x x (defArgs st) (defBody st) (defScope st) da kw f fd) (S : FnScope N ps (defScope st)) (hN : N.length = ps.length + n) (hl : ∀ ds d, R ds d → ds.length = ps.length) (drv : Drv P w K mg base x st N m fun _ => t)
    (sem : ∀ (P0 H0 : Hp) (D : Ends) (ds : List Dt), (∃ d, R ds d) → RetD ⟨K, [], P0, H0⟩ D.rt (R ds) → Cont ⟨K, [], P0, H0⟩ (t D) (args ds n)) : FnOk P w K mg base (L2.CX P w) (m + 1) f fd ps (spD K R) := by
  refine F.ok S (fun vs H Q E h => ?_) (fun cdv A outer s H vs Q E hr h => ⟨t, drv _ _ _ _ _ _ _ hr, ?_⟩)
  · obtain ⟨P, ds, e, ha, ⟨d, hd⟩, _⟩ := h
    rw [ha.len, hl ds d hd]
  · obtain ⟨P, ds, e, ha, ⟨d, hd⟩, q⟩ := h
    rw [start_eq (n := n) (by rw [hN, ha.len, hl ds d hd])]
    exact sem P H _ ds ⟨d, hd⟩ (fun v P' H' σ es x hx r hv => q v P' H' x hx (r.grow rfl) hv) _ P H (rep_start e ha)
theorem fnX (F : FunD K x x (defArgs st) (defBody st) (defScope st) da kw f fd) (S : FnScope N ps (defScope st)) (hN : N.length = ps.length + n) (hl : ∀ ds d, RX ds d → ds.length = ps.length) (drv : Drv P w K mg base x st N m tx)
    (sem : ∀ (P0 H0 : Hp) (D : Ends) (E : XK) (ds : List Dt), (∃ d, RX ds d) → RetD ⟨K, [], P0, H0⟩ D.rt (fun d => RX ds (.ok d)) → XtD ⟨K, [], P0, H0⟩ E (RX ds) → Cont ⟨K, [], P0, H0⟩ (tx E D) (args ds n)) : FnOk P w K mg base (L2.CX P w) (m + 1) f fd ps (spX K RX) := by
  refine F.ok S (fun vs H Q E h => ?_) (fun cdv A outer s H vs Q E hr h => ⟨tx E, drv _ _ _ _ _ _ _ hr, ?_⟩)
  · obtain ⟨P, ds, e, ha, ⟨d, hd⟩, _⟩ := h
    rw [ha.len, hl ds d hd]
  · obtain ⟨P, ds, e, ha, ⟨d, hd⟩, q, qx⟩ := h
    rw [start_eq (n := n) (by rw [hN, ha.len, hl ds d hd])]
    exact sem P H _ E ds ⟨d, hd⟩ (fun v P' H' σ es x hx r hv => q v P' H' x hx (r.grow rfl) hv) (fun dx P' H' σ es C fs fd hx r h0 h1 h2 h3 => qx dx P' H' C fs fd hx (r.grow rfl) h0 h1 h2 h3) _ P H (rep_start e ha)
/-- a fresh list handed back -/
def RetO (c : Fr) (k : VK) (ρ : List Dt → Prop) : Prop := ∀ l P H σ es ds, ρ ds → Rep c P H σ es → l ∉ owns es → c.H0 l = none → Mine c P H l ds → k (.ref l) H
theorem fnO (F : FunD K x x (defArgs st) (defBody st) (defScope st) da kw f fd) (S : FnScope N ps (defScope st)) (hN : N.length = ps.length + n) (hl : ∀ ds d, RO ds d → ds.length = ps.length) (drv : Drv P w K mg base x st N m fun _ => t)
    (sem : ∀ (P0 H0 : Hp) (D : Ends) (ds : List Dt), (∃ d, RO ds d) → RetO ⟨K, [], P0, H0⟩ D.rt (RO ds) → Cont ⟨K, [], P0, H0⟩ (t D) (args ds n)) : FnOk P w K mg base (L2.CX P w) (m + 1) f fd ps (spO K RO) := by
  refine F.ok S (fun vs H Q E h => ?_) (fun cdv A outer s H vs Q E hr h => ⟨t, drv _ _ _ _ _ _ _ hr, ?_⟩)
  · obtain ⟨P, ds, e, ha, ⟨d, hd⟩, _⟩ := h
    rw [ha.len, hl ds d hd]
  · obtain ⟨P, ds, e, ha, ⟨d, hd⟩, q⟩ := h
    rw [start_eq (n := n) (by rw [hN, ha.len, hl ds d hd])]
    exact sem P H _ ds ⟨d, hd⟩ (fun l P' H' σ es x hx r hn h0 ⟨_, m2, xs, m3, m4⟩ => q l P' H' xs x hx (r.grow rfl) m2 h0 m3 m4) _ P H (rep_start e ha)
/-- behind a def that changes its hand -/
def RetH (c : Fr) (a : Addr) (k : VK) (φ : Dt → Prop) : Prop := ∀ v P H d hs, φ d → Ex c.P0 P → (∀ b o, b ≠ a → c.H0 b = some o → H b = some o) → (∀ b, H b = none → c.H0 b = none) → Ex P H → (∀ b o, P b = some o → c.P0 b = some o ∨ c.H0 b = none) → HandOk hs → Mine c P H a hs → Has c.K P v d → k v H
theorem RetH.of {c : Fr} {a : Addr} {k : VK} {φ : Dt → Prop} {v : V} {P H : Hp} {d : Dt} {σ : L2.St} {es : List Sv} {i : Nat} {hs : List Dt} (h : RetH c a k φ) (hm : c.mu = [a]) (hd : φ d) (r : Rep c P H σ es) (e : es[i]? = some (.own a hs)) (ho : HandOk hs) (hv : Has c.K P v d) : k v H :=
  h v P H d hs hd r.b (fun b o ne q => r.old b o (by rw [hm]; simpa using ne) q) r.dom r.ex r.fr ho (r.sl.getO e).2 hv
theorem RetH.ofH {c : Fr} {a : Addr} {k : VK} {φ : Dt → Prop} {v : V} {P H : Hp} {d : Dt} {σ : L2.St} {es : List Sv} {i : Nat} (h : RetH c a k φ) (hm : c.mu = [a]) (hd : φ d) (r : Rep c P H σ es) (e : es[i]? = some (Sv.hand a)) (hv : Has c.K P v d) : k v H := by
  obtain ⟨_, hs, ok, mine⟩ := r.sl.getH e
  exact h v P H d hs hd r.b (fun b o ne q => r.old b o (by rw [hm]; simpa using ne) q) r.dom r.ex r.fr ok mine hv
theorem fnH (F : FunD K x x (defArgs st) (defBody st) (defScope st) da kw f fd) (S : FnScope N ps (defScope st)) (hN : N.length = ps.length + n) (hl : ∀ ds d, R ds d → ds.length + 1 = ps.length) (drv : Drv P w K mg base x st N m fun _ => t)
    (sem : ∀ (P0 H0 : Hp) (a : Addr) (D : Ends) (ds : List Dt), (∃ d, R ds d) → RetH ⟨K, [a], P0, H0⟩ a D.rt (R ds) → Cont ⟨K, [a], P0, H0⟩ (t D) (.hand a :: args ds n)) : FnOk P w K mg base (L2.CX P w) (m + 1) f fd ps (spH K R) := by
  refine F.ok S (fun vs H Q E h => ?_) (fun cdv A outer s H vs Q E hr h => ⟨t, drv _ _ _ _ _ _ _ hr, ?_⟩)
  · obtain ⟨P, a, us, hs, ds, rfl, e, _, _, _, ha, ⟨d, hd⟩, _⟩ := h
    rw [List.length_cons, ha.len, hl ds d hd]
  · obtain ⟨P, a, us, hs, ds, rfl, e, hPa, ⟨xs, hx, hxs⟩, ok, ha, ⟨d, hd⟩, q⟩ := h
    rw [start_eq (n := n) (by rw [hN, List.length_cons, ha.len, hl ds d hd])]
    refine sem P H a _ ds ⟨d, hd⟩ (fun v P' H' x hs' hx b k1 k2 k3 k4 ok' ⟨_, m2, ys, m3, m4⟩ hv => q v P' H' x ys hs' hx b k1 k2 k3 k4 m2 m3 m4 ok' hv) _ P H ?_
    exact ⟨.refl P, fun _ _ _ h => h, fun _ h => h, e, fun _ _ h => .inl h, .hand ⟨hs, ok, .inr (List.mem_singleton.mpr rfl), hPa, xs, hx, hxs⟩ (sl_start ha), by
      show (a :: owns (args ds n)).Nodup
      rw [owns_start]
      exact List.nodup_cons.mpr ⟨List.not_mem_nil, List.nodup_nil⟩⟩
end
/-! ### a name's def -/
theorem fdN {P : Program} {w : World} {K : PySem.W.Frag} {mg : Str → Option Value} {base : Heap} {x : Str} {st : Stmt} {ps : List Str} {k : Nat} {sp : Sp} {fd : FuncData} {f : Addr} (F : FunD K x x (defArgs st) (defBody st) (defScope st) [] [] f fd) (hm : mg x = some (.ref f)) (ok : FnOk P w K mg base (L2.CX P w) k f fd ps sp)
    (h : ∀ (kV doc pm : Value) (an : Option Addr) (cdv ct : Value) (us : List Value), us.length = ps.length → bindArgs (PySem.W.fnOf x x (defArgs st) (defBody st) (defScope st) .none kV doc pm an cdv ct) ⟨us, []⟩ = pure (ps.zip us)) : Fd P w K mg base k x ps [] sp :=
  ⟨f, fd, [], ok, F.bindsN h, .nil, hm, F.kp⟩
theorem c_retO {c : Fr} {te : TE} {es : List Sv} {ρ : List Dt → Prop} {D : Ends} (h : EO c te es ρ) (k : RetO c D.rt ρ) : Cont c (tRet te D) es := fun σ P H r =>
  h σ P H r _ fun l P1 H1 ds hd r1 e1 hn h0 m => k l P1 H1 σ es ds hd r1 hn (r.dom l h0) m
/-- the list in a slot handed back -/
theorem c_retO' {c : Fr} {es : List Sv} {ρ : List Dt → Prop} {D : Ends} {n : Nat} {l : Addr} {ds : List Dt} (hn : es[n]? = some (.own l ds)) (hm : c.mu = []) (hd : ρ ds) (k : ∀ P H, Mine c P H l ds → Rep c P H [] [] → c.H0 l = none → D.rt (.ref l) H) : Cont c (tRet (tVar n) D) es := fun σ P H r => by
  obtain ⟨e0, m⟩ := r.sl.getO hn
  exact ⟨_, e0, k P H m ⟨r.b, r.old, r.dom, r.ex, r.fr, .nil, List.nodup_nil⟩ (m.1.elim id fun z => by rw [hm] at z; cases z)⟩
theorem RetO.slot {c : Fr} {es : List Sv} {ρ : List Dt → Prop} {D : Ends} {n : Nat} {l : Addr} {ds : List Dt} (k : RetO c D.rt ρ) (hn : es[n]? = some (.own l ds)) (hm : c.mu = []) (hd : ρ ds) : Cont c (tRet (tVar n) D) es :=
  c_retO' hn hm hd fun P H m r h0 => k l P H [] [] ds hd r List.not_mem_nil h0 m
end My
set_option Elab.async false
set_option linter.all false
set_option maxRecDepth 100000
set_option maxHeartbeats 2000000
/-! Statements followed by others. -/
namespace My
open PySem PySem.Spec PyProof.Rows L2
open Evl (Ex)
section
variable {c : Fr} {es es' : List Sv} {te ta tb tx : TE} {tt : TT} {t u w : TS} {ts : TA} {d x y : Dt} {ds : List Dt} {φ ψ χ : Dt → Prop} {i j : Int} {b : Bool} {D : Ends} {n m : Nat}
theorem s_when (h : EBd c tt es b) (h1 : b = true → Cont c (t { D with nx := u D }) es) (h2 : b = false → Cont c (u D) es) : Cont c (tSeq (tIfS tt t tNext) u D) es := c_seq (c_if h h1 h2)
theorem s_if (h : EBd c tt es b) (h1 : b = true → Cont c (t { D with nx := u D }) es) (h2 : b = false → Cont c (w { D with nx := u D }) es) : Cont c (tSeq (tIfS tt t w) u D) es := c_seq (c_if h h1 h2)
theorem s_if3 (h : EBd c tt es b) (hr : Cont c (u D) es) (h1 : Cont c (u D) es → b = true → Cont c (t { D with nx := u D }) es) (h2 : Cont c (u D) es → b = false → Cont c (w { D with nx := u D }) es) : Cont c (tSeq (tIfS tt t w) u D) es := c_seq (c_if h (h1 hr) (h2 hr))
theorem s_ifA (h : EBd c tt es b) (hd : b = true → ED c te es d) (h1 : b = true → Cont c (u D) (es.set n (.dat d))) (h2 : b = false → Cont c (u D) es) : Cont c (tSeq (tIfS tt (tAsg te (gName n)) tNext) u D) es := c_seq (c_if h (fun z => c_asg (hd z) (h1 z)) h2)
theorem s_asgV (h : EV c te es φ) (k : ∀ d, φ d → Cont c (u D) (es.set n (.dat d))) : Cont c (tSeq (tAsg te (gName n)) u D) es := c_seq (c_asgV h k)
theorem s_asg (h : ED c te es d) (k : Cont c (u D) (es.set n (.dat d))) : Cont c (tSeq (tAsg te (gName n)) u D) es := c_seq (c_asg h k)
theorem s_asgO {ρ : List Dt → Prop} (h : EO c te es ρ) (k : ∀ l ds, ρ ds → Cont c (u D) (es.set n (.own l ds))) : Cont c (tSeq (tAsg te (gName n)) u D) es := c_seq (c_asgO h k)
theorem s_par (h : EDs c ts es [x, y]) (k : Cont c (u D) ((es.set n (.dat x)).set m (.dat y))) : Cont c (tSeq (tPar n m ts) u D) es := c_seq (c_par h k)
theorem s_unpack (h : ED c te es (.tup [x, y])) (k : Cont c (u D) ((es.set n (.dat x)).set m (.dat y))) : Cont c (tSeq (tAsg te (gTup c.K 2 (gCons (gName n) (gCons (gName m) gNil)))) u D) es := c_seq (c_unpack h k)
theorem s_drop (h : EV c te es φ) (k : Cont c (u D) es) : Cont c (tSeq (tDrop te) u D) es := c_seq (c_drop h k)
theorem s_app {l : Addr} (h0 : es[n]? = some (.own l ds)) (h : EV c te es φ) (hz : ds.length < 100000) (k : ∀ d, φ d → Cont c (u D) (es.set n (.own l (ds ++ [d])))) : Cont c (tSeq (tDrop (tBM c.K "list" rAppend (tVar n) (tCons te tNil))) u D) es := c_seq (c_app h0 h hz k)
theorem s_for {I : Nat → List Sv → Prop} {l : List Dt} {wi : TI} {g : TG} {f : Dt → List Sv → List Sv} {vs : List Nat} (h : WI c wi es l) (h0 : I 0 es) (hg : ∀ P y, y ∈ l → TgD (c.at P) g (f y) vs y)
    (hs : ∀ P1, Low c P1 → ∀ k y es, l[k]? = some y → I k es → Cont (c.at P1) (w { D with nx := Turn (c.at P1) I (k + 1), ct := Turn (c.at P1) I (k + 1), bk := u D }) (f y es)) (hd : ∀ es, I l.length es → Cont c (u D) es) :
    Cont c (tSeq (tFor wi g w) u D) es := c_seq (c_for h h0 hg hs hd)
theorem c_turn' {I : Nat → List Sv → Prop} {k' : L2.St → Hp → Prop} {k : Nat} (e : k' = Turn c I k) (h : I k es) : Cont c k' es := e ▸ c_turn h
end
end My
set_option Elab.async false
set_option linter.all false
set_option maxRecDepth 100000
set_option maxHeartbeats 2000000
/-! Hands as lists of one's own, what is caught. -/
namespace My
open PySem PySem.Spec PyProof.Rows L2
open Evl (Ex)
section
variable {c : Fr} {es es' : List Sv} {te ta tb tx : TE} {tt : TT} {t u w : TS} {ts : TA} {d x y : Dt} {ds : List Dt} {φ ψ χ : Dt → Prop} {i j : Int} {b : Bool} {D : Ends} {n m : Nat}
theorem eb_yes : EBd c tYes es true := fun σ P H r Q q => q true P H rfl r Kp.refl
theorem c_own {k : L2.St → Hp → Prop} {n : Nat} {l : Addr} (hn : es[n]? = some (.hand l)) (h : ∀ ds, HandOk ds → Cont c k (es.set n (.own l ds))) : Cont c k es := fun σ P H r => by
  have key : ∀ {σ : L2.St} {es : List Sv} {n : Nat}, Sl c P H σ es → es[n]? = some (.hand l) → ∃ ds, HandOk ds ∧ Sl c P H σ (es.set n (.own l ds)) ∧ owns (es.set n (.own l ds)) = owns es := by
    intro σ es n s
    induction s generalizing n with
    | nil => intro e; simp at e
    | no s ih =>
      intro e
      cases n with
      | zero => simp at e
      | succ n =>
        obtain ⟨ds, k, a, b⟩ := ih (n := n) (by simpa using e)
        exact ⟨ds, k, .no a, b⟩
    | dat z s ih =>
      intro e
      cases n with
      | zero => simp at e
      | succ n =>
        obtain ⟨ds, k, a, b⟩ := ih (n := n) (by simpa using e)
        exact ⟨ds, k, .dat z a, b⟩
    | own z s ih =>
      intro e
      cases n with
      | zero => simp at e
      | succ n =>
        obtain ⟨ds, k, a, b⟩ := ih (n := n) (by simpa using e)
        exact ⟨ds, k, .own z a, congrArg (List.cons _) b⟩
    | hand z s ih =>
      intro e
      cases n with
      | zero =>
        have e1 := Sv.hand.inj (Option.some.inj e)
        subst e1
        obtain ⟨ds, k, z⟩ := z
        exact ⟨ds, k, .own z s, rfl⟩
      | succ n =>
        obtain ⟨ds, k, a, b⟩ := ih (n := n) (by simpa using e)
        exact ⟨ds, k, .hand z a, congrArg (List.cons _) b⟩
    | @gen l' ins φ σ es z s ih =>
      intro e
      cases n with
      | zero => simp at e
      | succ n =>
        obtain ⟨ds, k, a, b⟩ := ih (n := n) (by simpa using e)
        exact ⟨ds, k, .gen z a, congrArg ((l' :: ins) ++ ·) b⟩
  obtain ⟨ds, k, s, ow⟩ := key r.sl hn
  exact h ds k σ P H ⟨r.b, r.old, r.dom, r.ex, r.fr, s, by rw [ow]; exact r.nd⟩
theorem c_retH {a : Addr} {hs : List Dt} (h : EV c te es φ) (k : RetH c a D.rt φ) (hm : c.mu = [a]) (e : es[n]? = some (.own a hs)) (ho : HandOk hs) : Cont c (tRet te D) es := fun σ P H r =>
  h σ P H r _ fun v P1 H1 d hd r1 e1 hv => k.of hm hd r1 e ho hv
theorem s_set {l : Addr} {j : Nat} (h0 : es[n]? = some (.own l ds)) (h : EV c te es φ) (hj : ED c tb es (.int (j : Int))) (hl : j < ds.length) (k : ∀ d, φ d → Cont c (u D) (es.set n (.own l (ds.set j d)))) :
    Cont c (tSeq (tAsg te (gSub (tVar n) tb rSetL)) u D) es := c_seq (c_set h0 h hj hl k)
/-! what is caught -/
theorem pairs_one {f : Str} {fs : List (Str × V)} (h : fs.map (·.1) = [f]) : ∃ v, fs = [(f, v)] := by
  match fs, h with
  | [(_, v)], h =>
    have e := (List.cons.inj h).1
    exact ⟨v, by rw [← e]⟩
  | [], h => cases h
  | _ :: _ :: _, h => cases h
section
variable {R : List Dt → Out → Prop} {C : Addr} {f : Str} {i : Nat} {Wout : WX}
theorem x_suite {a : Addr} {P H : Hp} {σ : L2.St} {dx : Addr} {v : V} (hi : i < es.length) (r : Rep c P H σ es) (hx : H dx = some (.xd [(f, v)])) (hv : Has c.K P v d) (k : Cont c D.nx (((es.set i .no).set n (.dat d)).set i .no)) :
    tAsg (tXf a (.ref C) (some dx) C f (tVar i)) (gName n) { nx := fun σ' H' => D.nx (σ'.set i none) H', rt := D.rt, bk := fun σ' H' => D.bk (σ'.set i none) H', ct := fun σ' H' => D.ct (σ'.set i none) H' } (σ.set i (some (.ref a))) H := by
  refine ⟨.ref a, ?_, rfl, rfl, dx, _, v, rfl, hx, ?_, ?_⟩
  · rw [List.getElem?_set_self (by rw [r.sl.len]; exact hi)]
  · show ([(f, v)] : List (Str × V)).lookup f = some v
    rw [List.lookup_cons, beq_self_eq_true]
  · exact k _ P H (((r.drop i).put n hv).drop i)
theorem c_tryD (h : EDs c ts es ds) (hi : i < es.length) (hm : PySem.W.exmOne c.K (.ref C) (.ref C) = some true) (hR : ∃ o, R ds o) (hok : ∀ d, R ds (.ok d) → Cont c D.nx es)
    (hex : ∀ C' ns fd, R ds (.ex C' ns fd) → C' = C ∧ ns = [f] ∧ ∃ d, fd = [d] ∧ Cont c D.nx (((es.set i .no).set n (.dat d)).set i .no)) :
    Cont c ((fun D σ H => (fun W => tDrop (tCallS (spX c.K R) (WE W) ts)) (wAs c.K (.ref C) i (fun a cls d => tAsg (tXf a cls d C f (tVar i)) (gName n)) Wout D) D σ H) D) es := fun σ P H r =>
  h σ P H r _ fun vs P1 H1 l hl r1 e1 h1 => by
    subst hl
    refine ⟨P1, l, r1.ex, h1, hR, fun v P2 H2 d hr g hv => hok d hr _ P2 H2 (r1.step g), fun dx P2 H2 C' fs fd hr g h0 hP hx hf => ?_⟩
    obtain ⟨rfl, hn, d, rfl, k⟩ := hex _ _ _ hr
    obtain ⟨v, rfl⟩ := pairs_one hn
    cases hf with
    | cons hv _ => exact ⟨true, hm, fun _ a ha => x_suite hi (r1.step g) hx hv k, fun z => by cases z⟩
theorem c_tryA (h : EDs c ts es ds) (hi : i < es.length) (hm : PySem.W.exmOne c.K (.ref C) (.ref C) = some true) (hR : ∃ o, R ds o) (hok : ∀ d, R ds (.ok d) → Cont c D.nx (es.set m (.dat d)))
    (hex : ∀ C' ns fd, R ds (.ex C' ns fd) → C' = C ∧ ns = [f] ∧ ∃ d, fd = [d] ∧ Cont c D.nx (((es.set i .no).set n (.dat d)).set i .no)) :
    Cont c ((fun D σ H => (fun W => tAsg (tCallS (spX c.K R) (WE W) ts) (gName m)) (wAs c.K (.ref C) i (fun a cls d => tAsg (tXf a cls d C f (tVar i)) (gName n)) Wout D) D σ H) D) es := fun σ P H r =>
  h σ P H r _ fun vs P1 H1 l hl r1 e1 h1 => by
    subst hl
    refine ⟨P1, l, r1.ex, h1, hR, fun v P2 H2 d hr g hv => hok d hr _ P2 H2 ((r1.step g).put m hv), fun dx P2 H2 C' fs fd hr g h0 hP hx hf => ?_⟩
    obtain ⟨rfl, hn, d, rfl, k⟩ := hex _ _ _ hr
    obtain ⟨v, rfl⟩ := pairs_one hn
    cases hf with
    | cons hv _ => exact ⟨true, hm, fun _ a ha => x_suite hi (r1.step g) hx hv k, fun z => by cases z⟩
end
end
end My
set_option Elab.async false
set_option linter.all false
set_option maxRecDepth 100000
set_option maxHeartbeats 2000000
/-! What is known of drawn numbers. -/
namespace My
open PySem PySem.Spec PyProof.Rows L2
open Evl (Ex)
section
variable {c : Fr} {es es' : List Sv} {te ta tb tx : TE} {tt tu : TT} {t u w : TS} {ts : TA} {d x y : Dt} {ds : List Dt} {φ ψ χ : Dt → Prop} {i j : Int} {b : Bool} {D : Ends} {n m : Nat} {α β : Int → Prop}
theorem c_rng1V {I : Int → Nat → List Sv → Prop} (h : EV c ta es (IsI α)) (hb : ∀ i, α i → 0 ≤ i ∧ i ≤ 1000000) (h0 : ∀ i, α i → I i 0 es)
    (hs : ∀ i, α i → ∀ (k : Nat) es, (k : Int) < i → I i k es → Cont c (u { D with nx := Turn c (I i) (k + 1), ct := Turn c (I i) (k + 1), bk := D.nx }) (es.set n (.dat (.int k)))) (hd : ∀ i, α i → ∀ es, I i i.toNat es → Cont c D.nx es) :
    Cont c (tFor (iRng1 (tCons ta tNil)) (gName n) u D) es := fun σ P H r =>
  h σ P H r _ fun v P1 H1 z ⟨i, hz, hα⟩ r1 e1 h1 => by
    subst hz
    cases h1
    have hb := hb i hα
    refine ⟨i, rfl, by omega, by omega, for_range (lo := 0) (n := i.toNat) (fun k => Turn c (I i) k) ⟨P1, es, h0 i hα, r1⟩ (fun k σ H hk ⟨P, es, hI, r⟩ => ?_) fun σ H ⟨P, es, hI, r⟩ => hd i hα es hI _ P H r⟩
    have e0 : (0 : Int) + (k : Int) = (k : Int) := Int.zero_add _
    rw [e0]
    exact hs i hα k es (by omega) hI _ P H (r.put n (.int _))
theorem ev_ixT {l : List Dt} (ha : ED c ta es (.tup l)) (hb : EV c tb es (IsI α)) (h : ∀ z, α z → ∃ d, atI l z = some d ∧ φ d) : EV c (tOp (rIx c.K) ta tb) es φ :=
  ev_op ha hb fun x y e ⟨z, ez, az⟩ => by
    subst e ez
    obtain ⟨d, e1, hd⟩ := h z az
    exact fun v u P H ex hv hu Q q => rd_ixT e1 v u P H ex hv hu Q fun w P' H' k hk => q w P' H' k (by rw [hk]; exact hd)
theorem c_ifV {ρ : Bool → Prop} (h : EB c tt es ρ) (h1 : ρ true → Cont c (t D) es) (h2 : ρ false → Cont c (u D) es) : Cont c (tIfS tt t u D) es := fun σ P H r =>
  h σ P H r _ fun a P1 H1 z r1 e1 => by
    cases a with
    | true => exact iteT (h1 z _ P1 H1 r1)
    | false => exact iteF (h2 z _ P1 H1 r1)
theorem eb_andV {ρ : Bool → Prop} (ha : EBd c tt es b) (hb : b = true → EB c tu es ρ) : EB c (tAnd tt tu) es (fun r => r = true → b = true) := fun σ P H r Q q =>
  ha σ P H r _ fun a P1 H1 z r1 e1 => by
    subst z
    cases a with
    | true => exact iteT (hb rfl σ P1 H1 r1 Q fun w P2 H2 z r2 e2 => q w P2 H2 (fun _ => rfl) r2 (e1.trans e2))
    | false => exact iteF (q _ P1 H1 (fun z => by cases z) r1 e1)
theorem eb_eqV (ha : EV c ta es (IsI α)) (hb : EV c tb es (IsI β)) : EB c (tTest (tOp (rEqD c.K) ta tb)) es (fun _ => True) := fun σ P H r Q q =>
  (ev_op (χ := fun d => ∃ b, d = .bl b) ha hb fun x y ⟨i, ei, _⟩ ⟨j, ej, _⟩ => by
    subst ei ej
    exact fun v u P H ex hv hu Q q => rd_eq (x := .int i) (y := .int j) rfl rfl v u P H ex hv hu Q fun w P' H' k hk => q w P' H' k ⟨_, hk⟩) σ P H r _ fun v P1 H1 d ⟨b, e⟩ r1 e1 h1 => by
    subst e
    cases h1
    exact ⟨b, rfl, q b P1 H1 trivial r1 e1⟩
theorem s_ifV {ρ : Bool → Prop} (h : EB c tt es ρ) (h1 : ρ true → Cont c (t { D with nx := u D }) es) (h2 : ρ false → Cont c (w { D with nx := u D }) es) : Cont c (tSeq (tIfS tt t w) u D) es := c_seq (c_ifV h h1 h2)
theorem ed_lst (hm : c.mu = []) (h : EDs c ts es ds) (hl : ds.length ≤ 100000) : ED c (tLst ts) es (.lst ds) :=
  EV.imp (ev_give hm (eo_lst h fun l e => by rw [e]; exact hl)) fun z ⟨l, e1, e2⟩ => by rw [e1, e2]
theorem atI_ex {l : List Dt} (h1 : -(l.length : Int) ≤ i) (h2 : i < l.length) : ∃ d, d ∈ l ∧ atI l i = some d := by
  unfold atI ixN
  by_cases h : 0 ≤ i
  · rw [if_pos h, if_pos h2]
    have : i.toNat < l.length := by omega
    exact ⟨l[i.toNat], List.getElem_mem this, List.getElem?_eq_getElem this⟩
  · rw [if_neg h, if_pos h1]
    have : (i + l.length).toNat < l.length := by omega
    exact ⟨l[(i + l.length).toNat], List.getElem_mem this, List.getElem?_eq_getElem this⟩
theorem ed_notBd {b b' : Bool} (ha : ED c ta es (.bl b)) (h : b = b') : EBd c (tTest (tOp rNotB ta (tC (.bl b')))) es false :=
  EBd.is (eb_test (ed_notB ha ed_bl)) (by rw [decide_eq_true h] <;> rfl)
theorem ed_isBd {b b' : Bool} (ha : ED c ta es (.bl b)) (h : b = b') : ED c (tOp rIsB ta (tC (.bl b'))) es (.bl true) :=
  ED.is (ed_isB ha ed_bl) (by rw [decide_eq_true h] <;> rfl)
end
end My
set_option Elab.async false
set_option linter.all false
set_option maxRecDepth 100000
set_option maxHeartbeats 2000000
/-! What the head looks up of an error's class. -/
namespace My
open PySem PySem.Spec PyProof.Rows L2
def mroB (C : Addr) : List Value → Bool
  | .ref C' :: bm => decide (C' = C) && PySem.HandSPX.refsVE bm
  | _ => false
def slB : List (Option Value) → Bool
  | [_, _, _, _, k4, _] => decide (k4 = some (.builtin "ValueError.__new__"))
  | _ => false
def oexO (C : Addr) (o : Obj) : Bool := match o.cls with
  | .type c => decide (c = "type") && (match o.data with
    | .cls cd => cd.hasDict && (!cd.hasDel && (mroB C cd.mro && slB o.slots.toList))
    | _ => false)
  | _ => false
def oexB (K : PySem.W.Frag) (C : Addr) : Bool := (match K.lookup C with
  | some o => oexO C o
  | none => false) && (decide (PySem.W.findIn K (.ref C) "__setattr__" = some (some (.builtin "object.__setattr__"))) && (decide (PySem.W.subIn K (.ref C) (.type "BaseException") = some true) && (decide (PySem.W.typeIn K (.ref C) = some (.type "type")) && PySem.W.keepIn K (.ref C))))
theorem oexO_ok {C : Addr} {o : Obj} (h : oexO C o = true) : ∃ nm q N bs bm sn sub ab col dd k0 k1 k2 k3 k5, o = excClassObj nm q C N bs bm true sn sub ab col dd k0 k1 k2 k3 k5 "ValueError.__new__" ∧ PySem.HandSPX.refsVE bm = true := by
  obtain ⟨oc, od, dt, ⟨sl⟩⟩ := o
  cases oc with
  | type c =>
    cases dt with
    | cls cd =>
      obtain ⟨nm, bs, mro, ns, q, hd, sn, sub, ab, col, del⟩ := cd
      obtain ⟨h1, h⟩ := He.ba (show (decide (c = "type") && (hd && (!del && (mroB C mro && slB sl)))) = true from h)
      obtain ⟨h2, h⟩ := He.ba h
      obtain ⟨h3, h⟩ := He.ba h
      obtain ⟨h4, h5⟩ := He.ba h
      have h1 := of_decide_eq_true h1
      subst h1 h2
      cases del with
      | true => cases h3
      | false =>
        cases mro with
        | nil => cases h4
        | cons m bm =>
          cases m with
          | ref C' =>
            obtain ⟨h6, h7⟩ := He.ba (show (decide (C' = C) && PySem.HandSPX.refsVE bm) = true from h4)
            have h6 := of_decide_eq_true h6
            subst h6
            match sl, h5 with
            | [k0, k1, k2, k3, k4, k5], h5 =>
              have h5 : k4 = some (.builtin "ValueError.__new__") := of_decide_eq_true h5
              subst h5
              exact ⟨nm, q, ns, bs, bm, sn, sub, ab, col, od, k0, k1, k2, k3, k5, rfl, h7⟩
          | _ => cases h4
    | _ => cases (He.ba (show (decide (c = "type") && false) = true from h)).2
  | _ => cases h
theorem oexB_ok {K : PySem.W.Frag} {C : Addr} (h : oexB K C = true) : OexC K C := by
  obtain ⟨h1, h⟩ := He.ba h
  obtain ⟨h2, h⟩ := He.ba h
  obtain ⟨h3, h⟩ := He.ba h
  obtain ⟨h4, h5⟩ := He.ba h
  refine ⟨?_, of_decide_eq_true h2, of_decide_eq_true h3, of_decide_eq_true h4, h5⟩
  cases e : K.lookup C with
  | none => rw [e] at h1; cases h1
  | some o =>
    rw [e] at h1
    obtain ⟨nm, q, N, bs, bm, sn, sub, ab, col, dd, k0, k1, k2, k3, k5, rfl, hb⟩ := oexO_ok h1
    exact ⟨nm, q, N, bs, bm, sn, sub, ab, col, dd, k0, k1, k2, k3, k5, rfl, hb⟩
end My
set_option Elab.async false
set_option linter.all false
set_option maxRecDepth 100000
set_option maxHeartbeats 2000000
/-! Ratios: the mathematics. -/
namespace My
open PySem L2
def ratD (q : Rat) : Dt := .tup [.int q.num, .int q.den]
theorem den_pos (q : Rat) : (0 : Int) < q.den := by have := q.den_nz; omega
theorem divInt_of (q : Rat) : Rat.divInt q.num q.den = q := Rat.num_divInt_den q
/-- the part in common, with the sign of the bottom -/
def partOf (a b : Int) : Int := if b < 0 then -((Nat.gcd a.natAbs b.natAbs : Nat) : Int) else ((Nat.gcd a.natAbs b.natAbs : Nat) : Int)
theorem gcd_pos {a b : Int} (h : b ≠ 0) : 0 < Nat.gcd a.natAbs b.natAbs := Nat.gcd_pos_of_pos_right _ (by omega)
theorem partOf_ne {a b : Int} (h : b ≠ 0) : partOf a b ≠ 0 := by
  have := gcd_pos (a := a) h
  unfold partOf
  split <;> omega
theorem low_num {a b : Int} (h : b ≠ 0) : a.fdiv (partOf a b) = (Rat.divInt a b).num := by
  have g := gcd_pos (a := a) h
  have e : b.gcd a = Nat.gcd a.natAbs b.natAbs := Nat.gcd_comm _ _
  rw [Rat.num_divInt, e]
  unfold partOf
  by_cases hb : b < 0
  · rw [if_pos hb, Int.sign_eq_neg_one_of_neg hb]
    have := Int.neg_fdiv_neg (-a) ((Nat.gcd a.natAbs b.natAbs : Nat) : Int)
    rw [Int.neg_neg] at this
    rw [this, Int.fdiv_eq_ediv_of_nonneg _ (by omega)]
    congr 1
    omega
  · rw [if_neg hb, Int.sign_eq_one_of_pos (by omega), Int.fdiv_eq_ediv_of_nonneg _ (by omega), Int.one_mul]
theorem low_den {a b : Int} (h : b ≠ 0) : b.fdiv (partOf a b) = ((Rat.divInt a b).den : Int) := by
  have g := gcd_pos (a := a) h
  have e : b.gcd a = Nat.gcd a.natAbs b.natAbs := Nat.gcd_comm _ _
  rw [Rat.den_divInt, if_neg h, e]
  unfold partOf
  by_cases hb : b < 0
  · rw [if_pos hb]
    have := Int.neg_fdiv_neg (-b) ((Nat.gcd a.natAbs b.natAbs : Nat) : Int)
    rw [Int.neg_neg] at this
    rw [this, Int.fdiv_eq_ediv_of_nonneg _ (by omega), Int.natCast_ediv]
    congr 1
    omega
  · rw [if_neg hb, Int.fdiv_eq_ediv_of_nonneg _ (by omega), Int.natCast_ediv]
    congr 1
    omega
/-! sizes -/
def Sz (n : Nat) (x : Int) : Prop := x.natAbs < 2 ^ n
theorem Sz.mono {n m : Nat} {x : Int} (h : Sz n x) (e : n ≤ m) : Sz m x := Nat.lt_of_lt_of_le h (Nat.pow_le_pow_right (by decide) e)
theorem Sz.mul {n m : Nat} {x y : Int} (h : Sz n x) (k : Sz m y) : Sz (n + m) (x * y) := wide_lt h k
theorem Sz.add {n : Nat} {x y : Int} (h : Sz n x) (k : Sz n y) : Sz (n + 1) (x + y) := by
  unfold Sz at *
  have := Int.natAbs_add_le x y
  rw [Nat.pow_succ]
  omega
theorem Sz.sub {n : Nat} {x y : Int} (h : Sz n x) (k : Sz n y) : Sz (n + 1) (x - y) := by
  unfold Sz at *
  have := Int.natAbs_add_le x (-y)
  rw [Int.natAbs_neg] at this
  rw [Nat.pow_succ]
  have e : x - y = x + -y := Int.sub_eq_add_neg
  rw [e]
  omega
theorem Sz.neg {n : Nat} {x : Int} (h : Sz n x) : Sz n (-x) := by
  unfold Sz at *
  rw [Int.natAbs_neg]
  exact h
/-- a ratio of numbers below 2 ^ n -/
structure SzR (n : Nat) (q : Rat) : Prop where
  num : Sz n q.num
  den : Sz n q.den
theorem SzR.mono {n m : Nat} {q : Rat} (h : SzR n q) (e : n ≤ m) : SzR m q := ⟨h.num.mono e, h.den.mono e⟩
theorem div_le {a : Int} {g : Nat} (hg : 0 < g) : (a / (g : Int)).natAbs ≤ a.natAbs := Int.natAbs_ediv_le_natAbs a g
theorem SzR.of {n : Nat} {a b : Int} (h : b ≠ 0) (ha : Sz n a) (hb : Sz n b) : SzR n (Rat.divInt a b) := by
  have g := gcd_pos (a := a) h
  have e : b.gcd a = Nat.gcd a.natAbs b.natAbs := Nat.gcd_comm _ _
  constructor
  · rw [Rat.num_divInt, e]
    unfold Sz at *
    refine Nat.lt_of_le_of_lt (div_le g) ?_
    rw [Int.natAbs_mul]
    have : b.sign.natAbs ≤ 1 := by
      rw [Int.natAbs_sign_of_ne_zero h]
      exact Nat.le_refl 1
    refine Nat.lt_of_le_of_lt (Nat.mul_le_mul_right _ this) ?_
    rw [Nat.one_mul]
    exact ha
  · rw [Rat.den_divInt, if_neg h]
    unfold Sz at *
    have : (((b.natAbs / b.gcd a : Nat) : Int)).natAbs = b.natAbs / b.gcd a := Int.natAbs_natCast _
    rw [this]
    exact Nat.lt_of_le_of_lt (Nat.div_le_self _ _) hb
theorem sz_ok {n m : Nat} {x y : Int} (h : Sz n x) (k : Sz m y) (e : n + m ≤ 900000) : CMulW x y := by
  have h' := h.mono (show n ≤ n + 1 by omega)
  have k' := k.mono (show m ≤ m + 1 by omega)
  exact wide_mul h' k' (by omega) (by omega) (by omega)
theorem sz_div {n : Nat} {x y : Int} (h0 : y ≠ 0) (h : Sz n y) (e : n ≤ 8000) : CDivA x y := cdivA h0 (h.mono (show n ≤ n + 1 by omega)) (by omega) (by omega)
theorem sz_part {n : Nat} {a b : Int} (h0 : b ≠ 0) (h : Sz n b) : Sz n (partOf a b) := by
  have : Nat.gcd a.natAbs b.natAbs ≤ b.natAbs := Nat.gcd_le_right _ (by omega)
  unfold Sz partOf at *
  split
  · rw [Int.natAbs_neg, Int.natAbs_natCast]
    omega
  · rw [Int.natAbs_natCast]
    omega
end My
set_option Elab.async false
set_option linter.all false
set_option maxRecDepth 100000
set_option maxHeartbeats 2000000
/-! More words over data: while, slices, +, zip, in, index, min, max, extend. -/
namespace My
open PySem PySem.Spec PyProof.Rows L2
open Evl (Ex)
theorem own_hand : ∀ {es : List Sv} {n : Nat} {l : Addr} {ds : List Dt}, es[n]? = some (.own l ds) → (owns es).Nodup → l ∉ handsOf es
  | [], _, _, _, e, _ => by simp at e
  | s :: es, 0, l, ds, e, nd => by
    cases Option.some.inj e
    have nd' := List.nodup_cons.mp (show (l :: owns es).Nodup from nd)
    intro m
    have sub : ∀ {es : List Sv}, ∀ a ∈ handsOf es, a ∈ owns es := by
      intro es
      induction es with
      | nil => intro a h; cases h
      | cons s es ih =>
        intro a h
        cases s with
        | no => exact ih a h
        | dat _ => exact ih a h
        | own _ _ => exact List.mem_cons_of_mem _ (ih a h)
        | hand b =>
          rcases List.mem_cons.mp h with rfl | h
          · exact List.mem_cons_self
          · exact List.mem_cons_of_mem _ (ih a h)
        | gen _ _ _ => exact List.mem_append_right _ (ih a h)
    exact nd'.1 (sub l m)
  | s :: es, n + 1, l, ds, e, nd => by
    have e' : es[n]? = some (.own l ds) := by simpa using e
    cases s with
    | no => exact own_hand (es := es) e' nd
    | dat _ => exact own_hand (es := es) e' nd
    | own b _ => exact own_hand (es := es) e' (List.nodup_cons.mp (show (b :: owns es).Nodup from nd)).2
    | hand b =>
      have nd' := List.nodup_cons.mp (show (b :: owns es).Nodup from nd)
      intro m
      rcases List.mem_cons.mp (show l ∈ b :: handsOf es from m) with z | z
      · exact nd'.1 (by rw [← z]; exact owns_mem (.inl e'))
      · exact own_hand e' nd'.2 z
    | gen b ins _ => exact own_hand (es := es) e' (List.nodup_append.mp (show ((b :: ins) ++ owns es).Nodup from nd)).2.1
theorem fresh_hand {c : Fr} {es : List Sv} {l : Addr} (h : l ∉ owns es) : l ∉ handsOf es := fun m => by
  have sub : ∀ {es : List Sv}, ∀ a ∈ handsOf es, a ∈ owns es := by
    intro es
    induction es with
    | nil => intro a h; cases h
    | cons s es ih =>
      intro a h
      cases s with
      | no => exact ih a h
      | dat _ => exact ih a h
      | own _ _ => exact List.mem_cons_of_mem _ (ih a h)
      | hand b =>
        rcases List.mem_cons.mp h with rfl | h
        · exact List.mem_cons_self
        · exact List.mem_cons_of_mem _ (ih a h)
      | gen _ _ _ => exact List.mem_append_right _ (ih a h)
  exact h (sub l m)
/-- a list of one's own, in a slot or fresh -/
def EL (c : Fr) (te : TE) (es : List Sv) (φ : List Dt → Prop) : Prop :=
  ∀ σ P H, Rep c P H σ es → ∀ Q : VK, (∀ l P' H' ds xs, φ ds → Rep c P' H' σ es → Kp es P H P' H' → P' l = none → H' l = some (.lst xs) → HasAll c.K P' xs ds → l ∉ handsOf es → Q (.ref l) H') → te σ H Q
section
variable {c : Fr} {es es' : List Sv} {te ta tb tx : TE} {tt tu : TT} {t u w : TS} {ts : TA} {d x y : Dt} {ds : List Dt} {φ ψ χ : Dt → Prop} {i j : Int} {b : Bool} {D : Ends} {n m : Nat} {α β : List Dt → Prop}
theorem el_own {l : Addr} (h : es[n]? = some (.own l ds)) : EL c (tVar n) es (fun r => r = ds) := fun σ P H r Q q => by
  obtain ⟨e0, _, m2, xs, hx, hd⟩ := r.sl.getO h
  exact ⟨_, e0, q l P H ds xs rfl r Kp.refl m2 hx hd (own_hand h r.nd)⟩
theorem el_new (h : EO c te es α) : EL c te es α := fun σ P H r Q q => h σ P H r _ fun l P1 H1 ds hd r1 e1 hn h0 ⟨_, m2, xs, hx, hh⟩ => q l P1 H1 ds xs hd r1 e1 m2 hx hh (fresh_hand (c := c) hn)
/-- + of two such -/
theorem eo_cat (ha : EL c ta es α) (hb : EL c tb es β) (hl : ∀ x y, α x → β y → x.length + y.length ≤ 100000) : EO c (tOp rCat ta tb) es (fun r => ∃ x y, α x ∧ β y ∧ r = x ++ y) := fun σ P H r Q q =>
  ha σ P H r _ fun l P1 H1 x xs hx r1 e1 p1 h1 k1 n1 => hb σ P1 H1 r1 _ fun l2 P2 H2 y ys hy r2 e2 p2 h2 k2 n2 => by
    have h1' : H2 l = some (.lst xs) := e2.k l _ n1 h1
    have k1' := HasAll.mono e2.p _ k1
    refine ⟨l, l2, xs, ys, rfl, rfl, h1', h2, Evl.sz_of (by rw [k1.len, k2.len]; exact hl x y hx hy), fun p hp => ?_⟩
    have g := grow_own (o := .lst (xs ++ ys)) r2.ex hp
    exact q p P2 _ (x ++ y) ⟨x, y, hx, hy, rfl⟩ (r2.step g) ((e1.trans e2).trans (.of g)) (r2.fresh hp) ((e1.trans e2).n p hp) ⟨.inl (r2.dom p hp), none_back r2.ex hp, _, upd_same, k1'.append k2⟩
/-! while -/
inductive Less (c : Fr) (I : Nat → List Sv → Prop) (m : Nat) (σ : L2.St) (H : Hp) : Prop
  | mk (m' : Nat) (lt : m' < m) (P : Hp) (es : List Sv) (h : I m' es) (r : Rep c P H σ es)
theorem c_less {I : Nat → List Sv → Prop} {k : L2.St → Hp → Prop} (e : k = Less c I m) (n : Nat) (lt : n < m) (h : I n es) : Cont c k es := by
  subst e
  exact fun σ P H r => ⟨n, lt, P, es, h, r⟩
theorem c_while {I : Nat → List Sv → Prop} (m0 : Nat) (h0 : I m0 es) (hs : ∀ m es, I m es → ∃ b, EBd c tt es b ∧ (b = true → Cont c (t { D with nx := Less c I m, ct := Less c I m, bk := D.nx }) es) ∧ (b = false → Cont c D.nx es)) : Cont c (tWhile tt t D) es := fun σ P H r =>
  ⟨fun m σ H => ∃ P es, I m es ∧ Rep c P H σ es, ⟨m0, P, es, h0, r⟩, fun m σ H ⟨P, es, hI, r⟩ => by
    obtain ⟨b, hb, h1, h2⟩ := hs m es hI
    refine hb σ P H r _ fun a P1 H1 e r1 e1 => ?_
    subst e
    cases a with
    | true =>
      rw [if_pos rfl]
      exact ⟨Less c I m, fun σ' H' ⟨m', lt, P, es, h, r⟩ => ⟨m', lt, P, es, h, r⟩, h1 rfl _ P1 H1 r1⟩
    | false =>
      rw [if_neg (by decide)]
      exact h2 rfl _ P1 H1 r1⟩
theorem s_while {I : Nat → List Sv → Prop} (m0 : Nat) (h0 : I m0 es) (hs : ∀ m es, I m es → ∃ b, EBd c tt es b ∧ (b = true → Cont c (t { D with nx := Less c I m, ct := Less c I m, bk := u D }) es) ∧ (b = false → Cont c (u D) es)) : Cont c (tSeq (tWhile tt t) u D) es := c_seq (c_while m0 h0 hs)
/-! slices -/
def cutD (l : List Dt) (lo hi : Option Int) : List Dt := (l.drop (HT.sIx l.length 0 lo)).take (HT.sIx l.length l.length hi - HT.sIx l.length 0 lo)
theorem HasAll.drop {K : PySem.W.Frag} {H : Hp} : ∀ {ds : List Dt} {vs : List V} (n : Nat), HasAll K H vs ds → HasAll K H (vs.drop n) (ds.drop n)
  | _, _, 0, h => h
  | [], _, n + 1, h => by cases h; exact .nil
  | _ :: _, _, n + 1, h => by
    cases h with
    | cons a b => exact b.drop n
theorem HasAll.take {K : PySem.W.Frag} {H : Hp} : ∀ {ds : List Dt} {vs : List V} (n : Nat), HasAll K H vs ds → HasAll K H (vs.take n) (ds.take n)
  | _, _, 0, _ => .nil
  | [], _, n + 1, h => by cases h; exact .nil
  | _ :: _, _, n + 1, h => by
    cases h with
    | cons a b => exact .cons a (b.take n)
theorem HasAll.cut {K : PySem.W.Frag} {H : Hp} {ds : List Dt} {vs : List V} {lo hi : Option Int} (h : HasAll K H vs ds) : HasAll K H (cutV vs lo hi) (cutD ds lo hi) := by
  unfold cutV cutD
  rw [h.len]
  exact (h.drop _).take _
/-- a slice's part -/
def EP1 (c : Fr) (tl : TO) (es : List Sv) (o : Option Int) : Prop := ∀ σ P H, Rep c P H σ es → ∀ Q : Option Int → Hp → Prop, (∀ P' H', Rep c P' H' σ es → Kp es P H P' H' → Q o H') → tl σ H Q
theorem ep_none : EP1 c tNoPart es none := fun σ P H r Q q => q P H r Kp.refl
theorem ep_some (h : ED c te es (.int i)) : EP1 c (tPart te) es (some i) := fun σ P H r Q q => h σ P H r _ fun v P1 H1 z hz r1 e1 h1 => by
  subst hz
  cases h1
  exact ⟨i, rfl, q P1 H1 r1 e1⟩
variable {lo hi : Option Int} {tl th : TO}
theorem eo_slice {l : List Dt} (h : ED c te es (.lst l)) (hl : EP1 c tl es lo) (hh : EP1 c th es hi) : EO c (tSl (rSlL c.K) te tl th) es (fun r => r = cutD l lo hi) := fun σ P H r Q q =>
  h σ P H r _ fun v P1 H1 z hz r1 e1 h1 => hl σ P1 H1 r1 _ fun P2 H2 r2 e2 => hh σ P2 H2 r2 _ fun P3 H3 r3 e3 => by
    subst hz
    cases h1 with
    | @lst _ xs _ s k =>
      have s3 := Evl.ex_l r3.ex (Evl.ex_l e3.p (Evl.ex_l e2.p s))
      have k3 := HasAll.mono (e2.p.trans e3.p) _ k
      refine ⟨_, _, rfl, s3, fun p hp => ?_⟩
      have g := grow_own (o := .lst (cutV xs lo hi)) r3.ex hp
      exact q p P3 _ _ rfl (r3.step g) (((e1.trans e2).trans e3).trans (.of g)) (r3.fresh hp) (((e1.trans e2).trans e3).n p hp) ⟨.inl (r3.dom p hp), none_back r3.ex hp, _, upd_same, k3.cut⟩
theorem ed_sliceT {l : List Dt} (h : ED c te es (.tup l)) (hl : EP1 c tl es lo) (hh : EP1 c th es hi) : ED c (tSl (rSlA c.K) te tl th) es (.tup (cutD l lo hi)) := fun σ P H r Q q =>
  h σ P H r _ fun v P1 H1 z hz r1 e1 h1 => hl σ P1 H1 r1 _ fun P2 H2 r2 e2 => hh σ P2 H2 r2 _ fun P3 H3 r3 e3 => by
    subst hz
    cases h1 with
    | @tup a xs _ s k =>
      have s3 := Evl.ex_t r3.ex (Evl.ex_t e3.p (Evl.ex_t e2.p s))
      have k3 := HasAll.mono (e2.p.trans e3.p) _ k
      refine ⟨_, _, rfl, s3, fun z => ?_, fun _ p hp => ?_⟩
      · refine q _ P3 H3 _ rfl r3 ((e1.trans e2).trans e3) (.tup (Evl.ex_t e3.p (Evl.ex_t e2.p s)) ?_)
        have e : cutD l lo hi = l := by
          unfold cutD
          rw [k.len] at z
          rw [z.1, z.2, List.drop_zero, Nat.sub_zero, List.take_length]
        rw [e]
        exact k3
      · have g := grow_new (o := .tup (cutV xs lo hi)) r3.ex hp
        exact q _ _ _ _ rfl (r3.step g) (((e1.trans e2).trans e3).trans (.of g)) (.tup (Evl.st_of upd_same) (HasAll.mono g.p _ k3.cut))
/-! in, not in, index: lists of data -/
theorem any_eqv (x : Dt) : ∀ l : List Dt, ((pyAll l).any fun z => PyData.eqv z (py x)) = l.any fun y => eqv y x
  | [] => rfl
  | a :: l => congrArg (eqv a x || ·) (any_eqv x l)
theorem rd_in {l : List Dt} (hx : fine x = true) (hy : fine (.lst l) = true) : RD c (rInD c.K) x (.lst l) (fun z => z = .bl (l.any fun y => eqv y x)) :=
  rd_sc (fun _ => .bl _) fun v u P H e hv hu Q q => ⟨py x, pyAll l, Has.dp _ (Has.mono e _ hv) (fine_bare hx), Has.dp _ (Has.mono e _ hu) (fine_bare hy), fine_shaped hx, fine_shaped hy, by
    rw [any_eqv]
    exact q⟩
theorem rd_notIn {l : List Dt} (hx : fine x = true) (hy : fine (.lst l) = true) : RD c (rNotInD c.K) x (.lst l) (fun z => z = .bl (!l.any fun y => eqv y x)) :=
  rd_sc (fun _ => .bl _) fun v u P H e hv hu Q q => ⟨py x, pyAll l, Has.dp _ (Has.mono e _ hv) (fine_bare hx), Has.dp _ (Has.mono e _ hu) (fine_bare hy), fine_shaped hx, fine_shaped hy, by
    rw [any_eqv]
    exact q⟩
theorem ed_in {l : List Dt} (ha : ED c ta es x) (hb : ED c tb es (.lst l)) (hx : fine x = true) (hy : fine (.lst l) = true) : ED c (tOp (rInD c.K) ta tb) es (.bl (l.any fun y => eqv y x)) := ed_op ha hb (rd_in hx hy)
theorem ed_notIn {l : List Dt} (ha : ED c ta es x) (hb : ED c tb es (.lst l)) (hx : fine x = true) (hy : fine (.lst l) = true) : ED c (tOp (rNotInD c.K) ta tb) es (.bl (!l.any fun y => eqv y x)) := ed_op ha hb (rd_notIn hx hy)
/-! the lesser, the greater of two numbers -/
theorem ed_min2 (ha : ED c ta es (.int i)) (hb : ED c tb es (.int j)) : ED c (tCB (fun xs H Q => ∃ i j, xs = [.int i, .int j] ∧ Q (.int (if j < i then j else i)) H) (tCons ta (tCons tb tNil))) es (.int (if j < i then j else i)) := fun σ P H r Q q =>
  ha σ P H r _ fun v P1 H1 z hz r1 e1 h1 => hb σ P1 H1 r1 _ fun u P2 H2 z2 hz2 r2 e2 h2 => by
    subst hz hz2
    cases h1
    cases h2
    exact ⟨i, j, rfl, q _ P2 H2 _ rfl r2 (e1.trans e2) (.int _)⟩
theorem ed_max2 (ha : ED c ta es (.int i)) (hb : ED c tb es (.int j)) : ED c (tCB (fun xs H Q => ∃ i j, xs = [.int i, .int j] ∧ Q (.int (if j > i then j else i)) H) (tCons ta (tCons tb tNil))) es (.int (if j > i then j else i)) := fun σ P H r Q q =>
  ha σ P H r _ fun v P1 H1 z hz r1 e1 h1 => hb σ P1 H1 r1 _ fun u P2 H2 z2 hz2 r2 e2 h2 => by
    subst hz hz2
    cases h1
    cases h2
    exact ⟨i, j, rfl, q _ P2 H2 _ rfl r2 (e1.trans e2) (.int _)⟩
/-! zip of two lists -/
theorem wi_zip {l m : List Dt} (h : EDs c ts es [.lst l, .lst m]) : WI c (iZip c.K ts) es (List.zipWith (fun a b => Dt.tup [a, b]) l m) := fun σ P H r R q =>
  h σ P H r _ fun vs P1 H1 z hz r1 e1 h1 => by
    subst hz
    cases h1 with
    | cons a1 h1 =>
      cases h1 with
      | cons a2 h1 =>
        cases h1
        cases a1 with
        | @lst A xs _ s k =>
          cases a2 with
          | @lst B ys _ s2 k2 =>
            refine ⟨_, _, _, _, rfl, Evl.ex_l r1.ex s, Evl.ex_l r1.ex s2, q (Itz c.K A B) P1 H1 (fun H => SqL c.K H A xs ∧ SqL c.K H B ys) (YPair (fun i => xs[i]?) fun i => ys[i]?) r1 e1 (by rw [List.length_zipWith, ← k.len, ← k2.len]; exact walk_zip rfl) (fun P' H' a b => ⟨Evl.ex_l (a.trans b) s, Evl.ex_l (a.trans b) s2⟩) fun i P' H' x H'' hi a b y => ?_⟩
            obtain ⟨T, x1, x2, rfl, nT, rfl, e2, e3⟩ := y
            obtain ⟨d1, e4, hd1⟩ := k.get' e2
            obtain ⟨d2, e5, hd2⟩ := k2.get' e3
            have g := grow_new (o := .tup [x1, x2]) b nT
            refine ⟨_, .tup [d1, d2], g, by rw [List.getElem?_zipWith, e4, e5], ?_⟩
            exact .tup (Evl.st_of upd_same) (.cons (Has.mono (a.trans g.p) _ hd1) (.cons (Has.mono (a.trans g.p) _ hd2) .nil))
end
end My
set_option Elab.async false
set_option linter.all false
set_option maxRecDepth 100000
set_option maxHeartbeats 2000000
/-! index in tuples of data, starred displays, extend. -/
namespace My
open PySem PySem.Spec PyProof.Rows L2 StX
open Evl (Ex)
def rTIndexD (K : PySem.W.Frag) : V → List V → Hp → VK → Prop := fun x xs H Q => ∃ (a : Addr) (y : V) (d : PyData) (ds : List PyData) (j : Nat) (z : PyData), x = V.ref a ∧ xs = [y] ∧ Dp K H (V.ref a) (.tuple ds) ∧ Dp K H y d ∧
  SeqAt.shaped (.tuple ds) = true ∧ SeqAt.shaped d = true ∧ ds[j]? = some z ∧ PyData.eqv z d = true ∧ (∀ (m : Nat) (z' : PyData), m < j → ds[m]? = some z' → PyData.eqv z' d = false) ∧ Q (.int (j : Nat)) H
theorem room_tup {A : Around} {d : PyData} {ds : List PyData} (hd : SeqAt.shaped d = true) (hu : A.units + 65 < cLine) : A.units + 1 + min (PyData.depthAll ds) d.depth < cLine := by
  have h1 := SeqAt.depth_of_shaped hd
  have h2 : min (PyData.depthAll ds) d.depth ≤ d.depth := Nat.min_le_right _ _
  omega
theorem mt_tindexD {X : Cx} (hu : X.A.units + 65 < cLine) : MtR X "tuple.index" (rTIndexD X.K) := by
  intro pins s σ H x xs v us Q I rx rxs h
  obtain ⟨a, y, d, ds, j, z, rfl, rfl, hl, hy, sl, sd, hz, hzj, hno, q⟩ := h
  cases rx
  cases rxs with
  | cons ry rt =>
    rename_i uy ut
    cases rt
    obtain ⟨bs, r1⟩ := Dp.reads I d y uy hy ry
    have hxs : PyData.canLayAll0 ds = true := SeqAt.canLay_of_shaped sl
    have hroom : X.A.units + 1 + min (PyData.depthAll ds) d.depth < cLine := room_tup sd hu
    cases hl with
    | tup hs ha =>
      obtain ⟨its, rv, ⟨⟨cls, dd, data, sls⟩, ho, hc, n, hdt⟩, hlen⟩ := I.tuple hs
      simp only at hc hdt
      subst hc hdt
      obtain ⟨as, h4⟩ := Dp.readsAll I ds _ its ha rv
      have hn : its.length = ds.length := SeqAt.ReadsAll.length ds its as h4
      have hmap : its.map (SeqAt.readOf s.heap) = ds := SeqAt.readsAll_map ds its as hxs h4
      obtain ⟨hjd, _⟩ := List.getElem?_eq_some_iff.mp hz
      have hjl : j < its.length := by omega
      have hj : j < its.toArray.size := by simpa using hjl
      have at_ : ∀ (m : Nat) (hm : m < its.toArray.size) (z' : PyData), ds[m]? = some z' → SeqAt.readOf s.heap its.toArray[m] = z' := fun m hm z' hz' => by
        have hml : m < its.length := by simpa using hm
        rw [← hmap, List.getElem?_map, List.getElem?_eq_getElem hml] at hz'
        simpa using (Option.some.inj hz' : SeqAt.readOf s.heap its[m] = z')
      refine call_meets PySem.F.slot_tuple_index ⟨_, ho, rfl⟩ PySem.F.entry_tuple_index (PySem.F.args_tuple_index_2 _ _)
        (TI.tuple_indexAt a its.toArray n dd sls uy (fun u => PyData.eqv (SeqAt.readOf s.heap u) d) j hj ?_ ?_) ⟨ho, SeqAt.items_eqAt (vs := its.toArray) (show ReadsAll s.heap its.toArray.toList ds as from h4) r1 hxs (SeqAt.canLay_of_shaped sd) hroom, ?_⟩
      · show PyData.eqv (SeqAt.readOf s.heap its.toArray[j]) d = true
        rw [at_ j hj z hz]
        exact hzj
      · intro m hm hmj
        have hz' : ds[m]? = some ds[m] := List.getElem?_eq_getElem (show m < ds.length by omega)
        show PyData.eqv (SeqAt.readOf s.heap its.toArray[m]) d = false
        rw [at_ m hm _ hz']
        exact hno m _ hmj hz'
      · exact ⟨.int (j : Nat), H, I.tok _, ⟨_, rfl⟩, q⟩
/-! a tuple made here has no dict: its methods are the type's -/
section
variable {X : Cx} {e o : Expr} {es : List Expr} {to : TE} {t : TA} {name : Str} {apos cpos pos : Pos} {id : String} {r : V → List V → Hp → VK → Prop}
def tTupN (ts : TA) : TE := fun σ H Q => ts σ H fun xs H1 => xs.length ≤ sizeLine ∧ ∀ p, H1 p = none → ∀ o : Obj, o.cls = .type "tuple" → o.dict = none → Q (.ref p) (upd H1 p (.frz o (.tup xs)))
theorem pe_tupN {x1} (h : PA X es t) : PE X (.Tuple es x1 pos) (tTupN t) := by
  refine ⟨fun pins s σ H Q I hq => ?_⟩
  refine wpAny_Tuple_spliced (thn (h.run pos pins s σ H _ I hq) fun us s1 ⟨xs, H1, I1, r, z, q⟩ => ⟨by rw [← r.length]; exact z, ?_⟩)
  have hf : H1 s1.heap.objs.size = none := I1.hok.fresh (Nat.le_refl _)
  refine ⟨.ref s1.heap.objs.size, upd H1 s1.heap.objs.size (.frz _ (.tup xs)), I1.laid (t' := s1.toks) (fun b u e => Heap.get?_push_of_some _ e) (Nat.le_refl _) ⟨Heap.get?_push_size _ rfl, ?_⟩, rfl, q _ hf _ rfl rfl⟩
  exact ⟨z, us, r, ⟨_, Heap.get?_push_size _ rfl, rfl, _, rfl⟩⟩
def tBMN (r : V → List V → Hp → VK → Prop) (to : TE) (t : TA) : TE := fun σ H Q => to σ H fun x H1 => (∃ a ob u, x = .ref a ∧ H1 a = some (.frz ob u) ∧ ob.cls = .type "tuple" ∧ ob.dict = none) ∧ t σ H1 fun xs H2 => r x xs H2 Q
theorem pe_bmN (slot : Slot "tuple" name id) (hty : typeOf (.builtin id) = pure (.type "method_descriptor")) (hm : MtR X id r) (ho : PE X o to) (ha : PA X (e :: es) t)
    (hbase : attributeBase o name X.env (eval o X.env) = eval o X.env := by rfl)
    (hfew : ((backTo cpos (starEach (e :: es) X.env)).all (fun x => !x.1) && (backToKw cpos (keywordEach [] X.env)).all (fun x => x.1.isSome)
      && decide ((e :: es).length + ([] : List Keyword).length + (if ([] : List Keyword).isEmpty then 0 else 1) < 30)) = true := by rfl)
    (hline : (apos.endLine == cpos.line) = true := by rfl) (hs : starEach (e :: es) X.env = (false, eval e X.env) :: starEach es X.env := by rfl) (hplain : (backTo cpos (starEach es X.env)).any (·.1) = false := by rfl) :
    PE X (.Call (.Attribute o name apos) (e :: es) [] cpos) (tBMN r to t) := by
  refine ⟨fun pins s σ H Q I h => ?_⟩
  refine wpAny_Call_method_late hbase hfew hline rfl (thn (ho.run pins s σ H _ I h) fun v s1 ⟨x, H1, I1, r1, ty, q1⟩ => ?_)
  obtain ⟨a, ob, u, rfl, ha1, hc, hd⟩ := ty
  obtain rfl : v = Value.ref a := r1
  have hg : s1.heap.get? a = some ob := (I1.hok a _ ha1).1
  refine ⟨"tuple", id, PySem.F.plainAttrs_tuple, slot, hty, ⟨ob, hg, hc⟩, fun b eb => by cases eb; exact ⟨ob, hg, hd⟩, ?_⟩
  have hA := ha.run cpos pins s1 σ H1 _ I1 q1
  rw [hs] at hA ⊢
  refine Calls.callWith_builtin (by show (false || (backTo cpos (starEach es X.env)).any (·.1)) = false; rw [hplain] <;> rfl) (Calls.evalArgs_plain ?_)
  exact thn hA fun us s2 ⟨vs, H2, I2, r2, q2⟩ => hm pins s2 σ H2 (.ref a) vs (.ref a) us _ I2 rfl r2 q2
end
section
variable {c : Fr} {es es' : List Sv} {te ta tb tx : TE} {tt tu : TT} {t u w : TS} {ts : TA} {d x y : Dt} {ds : List Dt} {φ ψ χ : Dt → Prop} {i j : Int} {b : Bool} {D : Ends} {n m : Nat} {α β : List Dt → Prop}
theorem pyAll_get : ∀ {l : List Dt} {j : Nat} {d : Dt}, l[j]? = some d → (pyAll l)[j]? = some (py d)
  | [], _, _, h => by simp at h
  | _ :: _, 0, _, h => by cases Option.some.inj h; rfl
  | _ :: l, j + 1, d, h => by simpa [pyAll] using pyAll_get (l := l) (j := j) (d := d) (by simpa using h)
theorem pyAll_get' : ∀ {l : List Dt} {j : Nat} {p : PyData}, (pyAll l)[j]? = some p → ∃ d, l[j]? = some d ∧ p = py d
  | [], _, _, h => by simp [pyAll] at h
  | a :: _, 0, _, h => ⟨a, rfl, (Option.some.inj h).symm⟩
  | _ :: l, j + 1, p, h => by
    obtain ⟨d, e1, e2⟩ := pyAll_get' (l := l) (j := j) (p := p) (by simpa [pyAll] using h)
    exact ⟨d, by simpa using e1, e2⟩
/-- (.., *e, ..) -/
theorem evs_star {l : List Dt} {ρ : List Dt → Prop} (h : ED c te es x) (hx : itemsD x = some l) (hr : EVs c ts es ρ) : EVs c (tStar c.K te ts) es (fun r => ∃ m, r = l ++ m ∧ ρ m) := fun σ P H r Q q =>
  h σ P H r _ fun v P1 H1 a e r1 e1 h1 => by
    subst e
    cases h1 with
    | @lst p xs _ s k =>
      cases Option.some.inj hx
      exact ⟨p, xs, rfl, .inr (Evl.ex_l r1.ex s), hr σ P1 H1 r1 _ fun vs P2 H2 m hm r2 e2 h2 => q _ P2 H2 _ ⟨m, rfl, hm⟩ r2 (e1.trans e2) ((HasAll.mono e2.p _ k).append h2)⟩
    | @tup p xs _ s k =>
      cases Option.some.inj hx
      exact ⟨p, xs, rfl, .inl (Evl.ex_t r1.ex s), hr σ P1 H1 r1 _ fun vs P2 H2 m hm r2 e2 h2 => q _ P2 H2 _ ⟨m, rfl, hm⟩ r2 (e1.trans e2) ((HasAll.mono e2.p _ k).append h2)⟩
    | _ => cases hx
theorem es_star {l m : List Dt} (h : ED c te es x) (hx : itemsD x = some l) (hr : EDs c ts es m) : EDs c (tStar c.K te ts) es (l ++ m) :=
  EVs.imp (evs_star h hx hr) fun r ⟨m', e, e'⟩ => by rw [e, e']
theorem ed_tupN (h : EDs c ts es ds) (hl : ds.length ≤ 100000) : ED c (tTupN ts) es (.tupN ds) := fun σ P H r Q q =>
  h σ P H r _ fun vs P1 H1 l e r1 e1 h1 => by
    subst e
    refine ⟨Evl.sz_of (by rw [h1.len]; exact hl), fun p hp o hc hd => ?_⟩
    have g := grow_new (o := .frz o (.tup vs)) r1.ex hp
    exact q _ _ _ _ rfl (r1.step g) (e1.trans (.of g)) (.tupN upd_same hc hd (HasAll.mono g.p _ h1))
/-- t.index(x), t made here: the first place -/
theorem ed_tindex {l : List Dt} {j : Nat} (ha : ED c ta es (.tupN l)) (hb : ED c tb es x) (hl : fine (.tupN l) = true) (hx : fine x = true) (hj : l[j]? = some y) (hy : eqv y x = true) (hno : ∀ m z, m < j → l[m]? = some z → eqv z x = false) :
    ED c (tBMN (rTIndexD c.K) ta (tCons tb tNil)) es (.int j) := fun σ P H r Q q =>
  ha σ P H r _ fun v P1 H1 a e r1 e1 h1 => by
    subst e
    have h1' := h1
    cases h1 with
    | @tupN a o xs _ s hc hd k =>
      refine ⟨⟨a, o, _, rfl, r1.ex _ _ s, hc, hd⟩, es_cons hb es_nil σ P1 H1 r1 _ fun us P2 H2 z hz r2 e2 h2 => ?_⟩
      subst hz
      cases h2 with
      | @cons u _ _ _ hu h2 =>
        cases h2
        refine ⟨a, u, py x, pyAll l, j, py y, rfl, rfl, Has.dp _ (Has.mono (e2.p.trans r2.ex) _ h1') (fine_bare hl), Has.dp _ (Has.mono r2.ex _ hu) (fine_bare hx), fine_shaped hl, fine_shaped hx, pyAll_get hj, hy, fun m z' lt hz => ?_, q _ P2 H2 _ rfl r2 (e1.trans e2) (.int _)⟩
        obtain ⟨d, e3, rfl⟩ := pyAll_get' hz
        exact hno m d lt e3
/-- raise C(e, e') -/
theorem c_raise2 {Ro : Out → Prop} {f g : Str} {C : Addr} {E : XK} (h : EDs c ts es [x, y]) (hk : XtD c E Ro) (hR : Ro (.ex C [g, f] [y, x])) : Cont c ((fun (_ : Ends) σ H => tMkO C (spIni2 c.K C f g) [] ts σ H fun cls d H' => E cls d H') D) es := fun σ P H r =>
  h σ P H r _ fun vs P1 H1 l hl r1 e1 k1 => by
    subst hl
    cases k1 with
    | @cons v _ _ _ kx k1 =>
      cases k1 with
      | @cons u _ _ _ ky k1 =>
        cases k1
        refine ⟨by show 2 ≤ 1000; decide, fun a ha => ⟨a, v, u, rfl, upd_same, fun dx hdx ne => ⟨rfl, dx, [(g, u), (f, v)], ?_, upd_same, ?_, ?_⟩⟩⟩
        · rw [upd_ne (fun z => ne z.symm), upd_same]
        · rw [upd_ne ne] at hdx; exact hdx
        · have hd0 : H1 dx = none := by rw [upd_ne ne] at hdx; exact hdx
          have e : upd (del (upd (upd (upd (upd H1 a (exo a C none)) dx (exd dx [(f, v)])) a (exo a C (some dx))) dx (exd dx [(g, u), (f, v)])) a) dx (.xd [(g, u), (f, v)]) = upd H1 dx (.xd [(g, u), (f, v)]) := by
            funext b
            by_cases z : b = dx
            · subst z; rw [upd_same, upd_same]
            · rw [upd_ne z, upd_ne z]
              by_cases z2 : b = a
              · subst z2; rw [del_same, ha]
              · rw [del_ne z2, upd_ne z, upd_ne z2, upd_ne z, upd_ne z2]
          rw [e]
          have gg := grow_own (o := .xd [(g, u), (f, v)]) r1.ex hd0
          exact hk dx P1 _ σ es C [(g, u), (f, v)] [y, x] hR (r1.step gg) (r1.dom dx hd0) (none_back r1.ex hd0) upd_same (.cons ky (.cons kx .nil))
end
end My
set_option Elab.async false
set_option linter.all false
set_option maxRecDepth 100000
set_option maxHeartbeats 4000000
/-! enumerate over a tuple, and over a list or a tuple. -/
namespace My
open PySem PySem.Spec PyProof.Rows L2
open Evl (Ex)
section
variable {prog : Program} {w : World} {A : Around} {E : Value → Shared → Prop} {s : Shared}
abbrev enumO (it : Addr) : Obj := { cls := .type "enumerate", data := .fields #[.none, .bool false, .ref it, rawInt 0, .none, .none] }
theorem meets_enumOne {v : Value} {o : Obj} {H : Heap → Prop} (B : Begins v o H) :
    Meets (Builtin.«enumerate.__new__» ⟨[.type "enumerate", v], []⟩) (fun _ R s => H s.heap ∧ R (.ok (.ret (.ref (s.heap.push o).objs.size))) { s with heap := (s.heap.push o).push (enumO s.heap.objs.size) }) :=
  .of_wp fun prog w A R s h => by
    obtain ⟨hp, g, d, tk, os⟩ := s
    obtain ⟨h1, h⟩ := h
    have sub := sub_enumerate
    have q1 : ∀ {A' : Around} {E : Value → Shared → Prop} {Q : Value → Shared → Prop}, Q (.ref hp.objs.size) ⟨hp.push o, g, d, tk, os⟩ → wpAny (model prog w) A' (pyIter v) Q E ⟨hp, g, d, tk, os⟩ := fun q => B.iter prog w _ _ ⟨hp, g, d, tk, os⟩ _ h1 q
    wp_walk using q1
    refine wpAny_stack_any fun st => wpAny_pure ?_
    split
    · rename_i c _ _ _ _ _
      cases (c == Value.type "enumerate")
      · wp_walk using q1
        exact ⟨_, rfl, h⟩
      · wp_walk using q1
        exact ⟨_, rfl, h⟩
    · wp_walk using q1
      exact ⟨_, rfl, h⟩
theorem call_enumOne {v : Value} {o : Obj} {H : Heap → Prop} {Q : Value → Shared → Prop} (B : Begins v o H) (h1 : H s.heap)
    (h : ∀ h', IsEnum h' (s.heap.objs.size + 1) s.heap.objs.size 0 .none → h'.get? s.heap.objs.size = some o → h'.objs.size = s.heap.objs.size + 2 → (∀ b o, s.heap.get? b = some o → h'.get? b = some o) → Q (.ref (s.heap.objs.size + 1)) { s with heap := h' }) :
    wpAny (model prog w) A (call (.type "enumerate") [v]) Q E s := by
  refine callType_new F.called_enumerate (by decide) (F.typeCall_enumerate_1 _) (F.newCall_enumerate_1 _) (fun obj => F.args_object_init_2 obj _) F.entry_enumerate_new (meets_enumOne B) ⟨h1, ?_⟩
  have hz : (s.heap.push o).objs.size = s.heap.objs.size + 1 := Heap.size_push ..
  show _ ∧ _
  rw [hz]
  have he : IsEnum ((s.heap.push o).push (enumO s.heap.objs.size)) (s.heap.objs.size + 1) s.heap.objs.size 0 .none := by
    have e := Heap.get?_push_size (s.heap.push o) (o := enumO s.heap.objs.size) rfl
    rw [hz] at e
    exact e
  exact ⟨⟨_, he, rfl⟩, h _ he (Heap.get?_push_of_some _ (Heap.get?_push_size _ B.free)) (by rw [Heap.size_push, hz]) fun b o x => Heap.get?_push_of_some _ (Heap.get?_push_of_some _ x)⟩
end
/-- the tuple at a as it stands at each turn, each item in a new pair -/
def IteT (K : PySem.W.Frag) (a : Addr) : It :=
  ⟨fun i H => ∃ (xs : List V) (x : V), SqT K H a xs ∧ xs[i]? = some x, fun i H v H' => ∃ T x, v = .ref T ∧ H T = none ∧ H' = upd H T (.tup [.int (i : Nat), x]) ∧ ∀ xs, SqT K H a xs → xs[i]? = some x, fun i H => ∃ xs : List V, SqT K H a xs ∧ xs.length = i⟩
theorem turn_enumT {P : Program} {w : World} {K : PySem.W.Frag} {elts : List Expr} {kk : Nat} {tpos : Pos} (a e it : Addr) (h1 : e ≠ it) (h2 : e ≠ a) (h3 : a ≠ it) :
    L2.Turn P w K (.Tuple elts kk tpos) (IteT K a) [e, it] e (fun i h => (∃ old, IsEnum h e it ((i : Nat) : Int) old) ∧ h.IsTupleIter it a i) where
  mem := by simp
  obj := fun i h st b hb => by
    obtain ⟨⟨old, he⟩, o, ho, hc, hd⟩ := st
    have e' : b = e ∨ b = it := by simpa using hb
    rcases e' with z | z
    · subst z; exact ⟨_, he, fun v q => nomatch q⟩
    · subst z; exact ⟨o, ho, fun v q => by rw [hd] at q; cases q⟩
  keep := fun i h h' st k => let ⟨⟨old, he⟩, hi⟩ := st; ⟨⟨old, k e (by simp) _ he⟩, hi.at fun o q => k it (by simp) o q⟩
  item := by
    intro X hP hw hK hc i pins s σ H E I hf st hg
    subst hP hw hK
    obtain ⟨⟨old, he⟩, hit⟩ := st
    obtain ⟨xs, x, hq, hx⟩ := hg
    obtain ⟨its, rv, p, hz⟩ := I.tuple hq
    obtain ⟨u, hu, ru⟩ := rv.get hx
    have pl : s.heap.IsTuple a its.toArray := p
    have hel : e < s.heap.objs.size := Heap.lt_size he
    have hil : it < s.heap.objs.size := by obtain ⟨_, q, _⟩ := hit; exact Heap.lt_size q
    have hh : X.A.in1.handled = none := I.ok.hd hc
    have hi : i < its.toArray.size := by
      have := (List.getElem?_eq_some_iff.mp hu).1
      simpa using this
    refine wpAny_pyNext_enum_itemD (Draws.tuple hh it a h3 its.toArray) he ⟨hit, pl⟩ hi h1 (by simp [h1, h2]) fun y h' tk hy ho hst hT hsz hk => ?_
    have hyu : y = u := by
      have a1 : its[i]? = some y := by simpa using hy
      rw [hu] at a1
      exact (Option.some.inj a1).symm
    subst hyu
    refine ⟨_, rfl, wpAny_letOwnedTupleGo_enum (s := { s with heap := h', toks := tk + 1 }) ho fun h'' he' sb => ?_⟩
    have hT2 : h''.get? s.heap.objs.size = some { cls := .type "tuple", data := .seq #[.int i tk, y] } := (sb.2 _ (Nat.ne_of_gt hel)).trans hT
    have new : ObjOk X.prog X.w (upd H s.heap.objs.size (.tup [.int (i : Nat), x])) h'' s.heap.objs.size (.tup [.int (i : Nat), x]) :=
      ⟨by show 2 ≤ sizeLine; decide, [.int i tk, y], .cons ⟨_, rfl⟩ (.cons ru .nil), ⟨_, hT2, rfl, _, rfl⟩⟩
    have I1 : Inv X pins σ (upd H s.heap.objs.size (.tup [.int (i : Nat), x])) { s with heap := h'', toks := tk + 1 } :=
      I.turnedNew (ch := [e, it]) (fun b ob hb q => (sb.2 b (fun z => hb (by simp [z]))).trans (hk b ob (fun z => hb (by simp [z])) (fun z => hb (by simp [z])) q)) hf (Nat.le_refl _) new
    refine ⟨.ref s.heap.objs.size, _, I1, rfl, ⟨_, x, rfl, I.hok.fresh (Nat.le_refl _), rfl, fun ys hy => by rw [I.tuple_inj hy hq]; exact hx⟩, ⟨⟨y, ?_⟩, hst.1.at fun o q => (sb.2 it (Ne.symm h1)).trans q⟩, fun b hb => ?_⟩
    · have e1 : ((i + 1 : Nat) : Int) = (i : Int) + 1 := by omega
      rw [e1]; exact he'
    · have hb' : b < s.heap.objs.size := by
        have e' : b = e ∨ b = it := by simpa using hb
        rcases e' with z | z
        · rw [z]; exact hel
        · rw [z]; exact hil
      rw [upd_ne (Nat.ne_of_lt hb')]
      exact (hf b hb).1
  done := by
    intro X hP hw hK hc i pins s σ H E I hf st hg
    subst hP hw hK
    obtain ⟨⟨old, he⟩, hit⟩ := st
    obtain ⟨xs, hq, hx⟩ := hg
    obtain ⟨its, rv, p, hz⟩ := I.tuple hq
    have pl : s.heap.IsTuple a its.toArray := p
    obtain ⟨f0, f1, f2, f3, f4, f5⟩ := hf it (by simp)
    have hl := rv.length
    have hh : X.A.in1.handled = none := I.ok.hd hc
    have hn : i = its.toArray.size := by simp; omega
    subst hn
    exact wpAny_pyNext_enum_endD (Draws.tuple hh it a h3 its.toArray) he ⟨hit, pl⟩ fun h' eb => ⟨rfl, I.turned (t' := s.toks) (fun b o hb q => eb b o hb q) f0 f1 f3 f4 f5⟩
  self := fun A i s Q E st h => let ⟨⟨_, he⟩, _⟩ := st; wpAny_pyIter_enum he h
/-- enumerate(x), x a list or a tuple -/
def iEnumA (K : PySem.W.Frag) (ta : TA) : TI := fun σ H R => ta σ H fun vs H1 => ∃ a xs, vs = [.ref a] ∧ ((SqL K H1 a xs ∧ R (Ite K a) H1) ∨ (SqT K H1 a xs ∧ R (IteT K a) H1))
theorem pi_enumA {X : Cx} {e : Expr} {ta : TA} {p pos tpos : Pos} {elts : List Expr} {kk : Nat} (hg : Gl X "enumerate") (hm : X.mg "enumerate" = none) (ha : PA X [e] ta) (hs : starEach [e] X.env = [(false, eval e X.env)] := by rfl) :
    PI X (.Tuple elts kk tpos) (.Call (.Name "enumerate" p) [e] [] pos) (iEnumA X.K ta) := by
  refine ⟨fun pins s σ H R I h => ?_⟩
  refine Call_ (ld_blt I hg hm boot_enumerate (PyProof.Rows.callWith_type1 (thn (ha.run pos pins s σ H _ I h) fun us s1 ⟨vs, H1, I1, r1, q1⟩ => ?_) hs rfl))
  obtain ⟨a, xs, ex, q⟩ := q1
  subst ex
  cases r1 with
  | cons r rr =>
    cases rr
    cases r
    have two : ∀ b ∈ [s1.heap.objs.size + 1, s1.heap.objs.size], FpOk X pins H1 b := fun b hb => by
      have e' : b = s1.heap.objs.size + 1 ∨ b = s1.heap.objs.size := by simpa using hb
      have hle : s1.heap.objs.size ≤ b := by omega
      exact I1.fpOk hle (I1.hok.fresh hle)
    rcases q with ⟨hq, q⟩ | ⟨hq, q⟩
    · obtain ⟨its, rv, p', hz⟩ := I1.list hq
      refine call_enumerate_list p'.isList fun h' he hit hsz hk => wpAny_pyIter_enum he ?_
      have I2 : Inv X pins σ H1 { s1 with heap := h' } := I1.kept (t' := s1.toks) hk
      exact ⟨s1.heap.objs.size + 1, [s1.heap.objs.size + 1, s1.heap.objs.size], _, _, H1, rfl, I2, turn_enum a (s1.heap.objs.size + 1) s1.heap.objs.size, ⟨⟨.none, he⟩, hit, Nat.succ_ne_self _⟩, two, q⟩
    · obtain ⟨its, rv, p', hz⟩ := I1.tuple hq
      have pl : s1.heap.IsTuple a its.toArray := p'
      have la : a < s1.heap.objs.size := p'.lt
      refine call_enumOne (begins_tuple a its.toArray) pl fun h' he hit hsz hk => wpAny_pyIter_enum he ?_
      have I2 : Inv X pins σ H1 { s1 with heap := h' } := I1.kept (t' := s1.toks) hk
      exact ⟨s1.heap.objs.size + 1, [s1.heap.objs.size + 1, s1.heap.objs.size], _, _, H1, rfl, I2, turn_enumT a (s1.heap.objs.size + 1) s1.heap.objs.size (Nat.succ_ne_self _) (Nat.ne_of_gt (Nat.lt_succ_of_lt la)) (Nat.ne_of_lt la), ⟨⟨.none, he⟩, ⟨_, hit, rfl, rfl⟩⟩, two, q⟩
theorem walk_enumT {K : PySem.W.Frag} {a : Addr} {xs : List V} : Walk (IteT K a) xs.length (fun H => SqT K H a xs) (YPair (fun i => some (.int (i : Nat))) (fun i => xs[i]?)) :=
  ⟨fun i _ hi q => ⟨xs, xs[i], q, List.getElem?_eq_getElem hi⟩, fun _ q => ⟨xs, q, rfl⟩, fun i H v H' _ q y => by
    obtain ⟨T, x, e1, e2, e3, e4⟩ := y
    exact ⟨T, .int (i : Nat), x, e1, e2, e3, rfl, e4 xs q⟩⟩
theorem wi_enumA {c : Fr} {es : List Sv} {ta : TE} {x : Dt} {l : List Dt} (h : ED c ta es x) (hx : itemsD x = some l) : WI c (iEnumA c.K (tCons ta tNil)) es (l.mapIdx fun k y => .tup [.int k, y]) := fun σ P H r R q =>
  h σ P H r _ fun v P1 H1 z hz r1 e1 h1 => by
    subst hz
    cases h1 with
    | @lst a xs _ s ha =>
      cases Option.some.inj hx
      refine ⟨_, _, rfl, .inl ⟨Evl.ex_l r1.ex s, q _ P1 H1 _ _ r1 e1 (by rw [List.length_mapIdx, ← ha.len]; exact walk_enum) (fun P' H' a b => Evl.ex_l (a.trans b) s) fun i P' H' x H'' hi a b y => ?_⟩⟩
      obtain ⟨T, x1, x2, rfl, nT, rfl, e2, e3⟩ := y
      obtain ⟨d, e4, hd⟩ := ha.get' e3
      have g := grow_new (o := .tup [x1, x2]) b nT
      refine ⟨_, .tup [.int i, d], g, by rw [List.getElem?_mapIdx, e4] <;> rfl, ?_⟩
      cases Option.some.inj e2
      exact .tup (Evl.st_of upd_same) (.cons (.int _) (.cons (Has.mono (a.trans g.p) _ hd) .nil))
    | @tup a xs _ s ha =>
      cases Option.some.inj hx
      refine ⟨_, _, rfl, .inr ⟨Evl.ex_t r1.ex s, q _ P1 H1 _ _ r1 e1 (by rw [List.length_mapIdx, ← ha.len]; exact walk_enumT) (fun P' H' a b => Evl.ex_t (a.trans b) s) fun i P' H' x H'' hi a b y => ?_⟩⟩
      obtain ⟨T, x1, x2, rfl, nT, rfl, e2, e3⟩ := y
      obtain ⟨d, e4, hd⟩ := ha.get' e3
      have g := grow_new (o := .tup [x1, x2]) b nT
      refine ⟨_, .tup [.int i, d], g, by rw [List.getElem?_mapIdx, e4] <;> rfl, ?_⟩
      cases Option.some.inj e2
      exact .tup (Evl.st_of upd_same) (.cons (.int _) (.cons (Has.mono (a.trans g.p) _ hd) .nil))
    | _ => cases hx
/-! calls whose errors go on -/
section
variable {X : Cx} {k : Nat} {x : Str} {ps : List Str} {sp : Sp} {dvs : List V} {p pos : Pos} {e : Expr} {es : List Expr} {t : TA} {E : XK} {W : WX}
theorem pe_fdE (C : Fd X.prog X.w X.K X.mg X.base k x ps dvs sp) (hr : Room k X.A) (tk : Takes X W) (hW : ∀ cls d σ H, E cls d H → W cls d σ H) (ha : PA X (e :: es) t) (hg : Gl X x := by rfl) (hdb : (x == ("__debug__" : Str)) = false := by decide)
    (he : starEach (e :: es) X.env = (false, eval e X.env) :: starEach es X.env := by rfl) (hpl : (backTo pos (starEach es X.env)).any (·.1) = false := by rfl) : PE X (.Call (.Name x p) (e :: es) [] pos) (tCall sp dvs E t) := by
  obtain ⟨f, fd, ds, F, hb, hd, hm, hk⟩ := C.ex
  exact pe_call F hr hg hm hk hb hd (passes_call tk hW) ha hdb he hpl
end
section
variable {c : Fr} {es : List Sv} {ts : TA} {ds dd : List Dt} {R : List Dt → Out → Prop} {Ro : Out → Prop} {dvs : List V} {E : XK}
theorem ev_callE (h : EDs c ts es ds) (hd : ∀ P, HasAll c.K P dvs dd) (hR : ∃ o, R (ds ++ dd) o) (hx : ∀ C ns fd, R (ds ++ dd) (.ex C ns fd) → Ro (.ex C ns fd)) (hk : XtD c E Ro) : EV c (tCall (spX c.K R) dvs E ts) es (fun d => R (ds ++ dd) (.ok d)) := fun σ P H r Q q =>
  h σ P H r _ fun vs P1 H1 l hl r1 e1 k1 => by
    subst hl
    exact ⟨P1, l ++ dd, r1.ex, k1.append (hd P1), hR, fun v P2 H2 d hr g hv => q v P2 H2 d hr (r1.step g) (e1.trans (.of g)) hv, fun dx P2 H2 C fs fd hr g h0 hP hx' hf => hk dx P2 H2 σ es C fs fd (hx _ _ _ hr) (r1.step g) (r1.dom dx h0) hP hx' hf⟩
theorem XtD.low {P1 : Hp} (L : Low c P1) (h : XtD c E Ro) : XtD (c.at P1) E Ro := fun dx P H σ es C fs fd e r h0 h1 h2 h3 => h dx P H σ es C fs fd e (L r) h0 h1 h2 h3
end
theorem units65 {k : Nat} {A : Around} (r : Room k A) : A.units + 65 < cLine := by
  have := r.un
  omega
end My
set_option Elab.async false
set_option linter.all false
set_option maxRecDepth 100000
set_option maxHeartbeats 4000000
/-! What most laws share: ratios.py, the draws, small words. -/
namespace Lw
open PySem PySem.Spec PyProof.Rows L2 My
local macro_rules | `(tactic| walk_at "ed") => `(tactic| first
  | exact ed_int | exact ed_bl | exact ed_str | exact ed_non
  | exact ed_var rfl
  | (apply ed_I0; (focus walk_at "ed"); (focus walk_at "ed"))
  | (apply ed_B0; (focus walk_at "ed"); (focus walk_at "ed"))
  | (apply ed_neg; (focus walk_at "ed"))
  | (apply ed_ixT; (focus walk_at "ed"); (focus walk_at "ed"); (focus rfl))
  | (apply ed_ixL; (focus walk_at "ed"); (focus walk_at "ed"); (focus rfl))
  | (apply ed_ixO; (focus rfl); (focus walk_at "ed"); (focus rfl))
  | (apply ed_len; (focus walk_at "ed"); (focus rfl))
  | (apply ed_lenO; (focus rfl))
  | (apply ed_tup; (focus walk_at "ed"); (focus (simp only [List.length_cons, List.length_nil]; decide)))
  | (apply ed_eq; (focus walk_at "ed"); (focus walk_at "ed"); (focus rfl); (focus rfl))
  | (apply ed_ne; (focus walk_at "ed"); (focus walk_at "ed"); (focus rfl); (focus rfl))
  | (apply ed_isN; (focus walk_at "ed"))
  | (apply ed_notN; (focus walk_at "ed"))
  | (apply ed_isB; (focus walk_at "ed"); (focus walk_at "ed"))
  | (apply ed_notB; (focus walk_at "ed"); (focus walk_at "ed"))
  | (apply ed_isi; (focus walk_at "ed"); (focus first | rfl | assumption); (focus decide +kernel))
  | (apply ed_isi2; (focus walk_at "ed"); (focus first | rfl | assumption); (focus decide +kernel); (focus decide +kernel))
  | (apply ed_not; (focus walk_at "ed"))
  | (apply ed_int1; (focus walk_at "ed"))
  | (apply ed_abs; (focus walk_at "ed"))
  | (apply ed_gcd; (focus walk_at "ed"); (focus walk_at "ed"))
  | exact es_nil
  | (apply es_cons; (focus walk_at "ed"); (focus walk_at "ed"))
  | (apply eb_test; (focus walk_at "ed"))
  | (apply eb_B; (focus walk_at "ed"))
  | (apply eb_not; (focus walk_at "ed")))
/-! ### promises -/
def Lim (d : Dt) : Prop := d = .non ∨ ∃ l, d = .int l
def lowOk : Dt → Int → Bool
  | .int l, i => decide (l ≤ i)
  | _, _ => true
def highOk : Dt → Int → Bool
  | .int h, i => decide (i ≤ h)
  | _, _ => true
def wholeB (x lo hi : Dt) : Bool := match x with
  | .int i => lowOk lo i && highOk hi i
  | _ => false
def Kin (d : Dt) : Prop := (tyD d).isSome = true
def R_is_whole (ds : List Dt) (d : Dt) : Prop := ∃ x lo hi, ds = [x, lo, hi] ∧ Kin x ∧ Lim lo ∧ Lim hi ∧ d = .bl (wholeB x lo hi)
def sp_is_whole (K : PySem.W.Frag) : Sp := spD K R_is_whole
def ratioB : Dt → Bool
  | .tup [.int a, .int b] => decide (1 ≤ b) && decide (Nat.gcd a.natAbs b.natAbs = 1)
  | _ => false
def Kins (x : Dt) : Prop := Kin x ∧ (∀ l, x = .tup l → ∀ y ∈ l, Kin y) ∧ ∀ l, x ≠ .tupN l
def R_is_ratio (ds : List Dt) (d : Dt) : Prop := ∃ x, ds = [x] ∧ Kins x ∧ d = .bl (ratioB x)
def sp_is_ratio (K : PySem.W.Frag) : Sp := spD K R_is_ratio
def R_lowest (ds : List Dt) (d : Dt) : Prop := ∃ a b : Int, ds = [.int a, .int b] ∧ b ≠ 0 ∧ Sz 5000 a ∧ Sz 5000 b ∧ d = ratD (Rat.divInt a b)
def sp_u_lowest (K : PySem.W.Frag) : Sp := spD K R_lowest
def SzD (x : Dt) : Prop := ∀ a, x = .int a → Sz 5000 a
def makeO (C : Addr) (x y : Dt) : Out := match x with
  | .int a => (match y with
    | .int b => if b = 0 then .ex C ["what"] [.str "bottom"] else .ok (ratD (Rat.divInt a b))
    | _ => .ex C ["what"] [.str "bottom"])
  | _ => .ex C ["what"] [.str "top"]
def R_make_ratio (C : Addr) (ds : List Dt) (o : Out) : Prop := ∃ x y, ds = [x, y] ∧ Kin x ∧ Kin y ∧ SzD x ∧ SzD y ∧ o = makeO C x y
def sp_make_ratio (K : PySem.W.Frag) : Sp := spX K (R_make_ratio (He.ga K "BadRatio"))
def R_two (f : Rat → Rat → Dt) (ds : List Dt) (d : Dt) : Prop := ∃ p q, ds = [ratD p, ratD q] ∧ SzR 2000 p ∧ SzR 2000 q ∧ d = f p q
def sp_plus (K : PySem.W.Frag) : Sp := spD K (R_two fun p q => ratD (p + q))
def sp_minus (K : PySem.W.Frag) : Sp := spD K (R_two fun p q => ratD (p - q))
def sp_times (K : PySem.W.Frag) : Sp := spD K (R_two fun p q => ratD (p * q))
def overO (C : Addr) (p q : Rat) : Out := if q.num = 0 then .ex C ["what"] [.str "zero"] else .ok (ratD (Rat.divInt (p.num * q.den) (p.den * q.num)))
def R_over (C : Addr) (ds : List Dt) (o : Out) : Prop := ∃ p q, ds = [ratD p, ratD q] ∧ SzR 2000 p ∧ SzR 2000 q ∧ o = overO C p q
def sp_over (K : PySem.W.Frag) : Sp := spX K (R_over (He.ga K "BadRatio"))
def R_negative (ds : List Dt) (d : Dt) : Prop := ∃ p, ds = [ratD p] ∧ d = ratD (-p)
def sp_negative (K : PySem.W.Frag) : Sp := spD K R_negative
def cmpI (p q : Rat) : Int := if p.num * q.den < q.num * p.den then -1 else if q.num * p.den < p.num * q.den then 1 else 0
def sp_compare (K : PySem.W.Frag) : Sp := spD K (R_two fun p q => .int (cmpI p q))
def R_sum_of (ds : List Dt) (d : Dt) : Prop := ∃ (x : Dt) (l : List Rat), ds = [x] ∧ itemsD x = some (l.map ratD) ∧ l.length ≤ 10 ∧ (∀ q ∈ l, SzR 100 q) ∧ d = ratD (l.foldl (· + ·) 0)
def sp_sum_of (K : PySem.W.Frag) : Sp := spD K R_sum_of
def lessR (p q : Rat) : Bool := decide (p.num * q.den < q.num * p.den)
def leastR (p : Rat) (l : List Rat) : Rat := l.foldl (fun b q => if lessR q b then q else b) p
def greatR (p : Rat) (l : List Rat) : Rat := l.foldl (fun b q => if lessR b q then q else b) p
def R_pick (f : Rat → List Rat → Rat) (ds : List Dt) (d : Dt) : Prop := ∃ (x : Dt) (p : Rat) (l : List Rat), ds = [x] ∧ itemsD x = some ((p :: l).map ratD) ∧ (∀ q ∈ p :: l, SzR 100 q) ∧ (p :: l).length ≤ 10 ∧ d = ratD (f p (p :: l))
def sp_least_of (K : PySem.W.Frag) : Sp := spD K (R_pick leastR)
def sp_greatest_of (K : PySem.W.Frag) : Sp := spD K (R_pick greatR)
def R_floor_of (ds : List Dt) (d : Dt) : Prop := ∃ q, ds = [ratD q] ∧ SzR 2000 q ∧ d = .int (q.num / q.den)
def sp_floor_of (K : PySem.W.Frag) : Sp := spD K R_floor_of
def R_broken_of (ds : List Dt) (d : Dt) : Prop := ∃ q, ds = [ratD q] ∧ d = .tup [.int (q.num % q.den), .int q.den]
def sp_broken_of (K : PySem.W.Frag) : Sp := spD K R_broken_of
def ratText (q : Rat) : Str := if (q.den : Int) = 1 then toString q.num else (toString q.num ++ "/") ++ toString (q.den : Int)
def R_ratio_text (ds : List Dt) (d : Dt) : Prop := ∃ q, ds = [ratD q] ∧ SzR 1900 q ∧ d = .str (ratText q)
def sp_ratio_text (K : PySem.W.Frag) : Sp := spD K R_ratio_text
/-! the law's own -/
def R_mix (ds : List Dt) (d : Dt) : Prop := ∃ n t : Int, ds = [.int n, .int t] ∧ 0 ≤ n ∧ n < 2147483648 ∧ 0 ≤ t ∧ t < 1000 ∧ ∃ z : Int, 0 ≤ z ∧ d = .int z
def sp_u_law_mix (K : PySem.W.Frag) : Sp := spD K R_mix
def R_hand (ds : List Dt) (l : List Dt) : Prop := ∃ ns : List Int, ds = [.lst (ns.map Dt.int)] ∧ ns.length ≤ 63 ∧ HandOk l
def sp_u_law_hand (K : PySem.W.Frag) : Sp := spO K R_hand
def R_draw (ds : List Dt) (d : Dt) : Prop := ∃ m : Int, ds = [.int m] ∧ 0 < m ∧ m < 2 ^ 64 ∧ ∃ z : Int, 0 ≤ z ∧ z < m ∧ d = .int z
def sp_u_law_draw (K : PySem.W.Frag) : Sp := spH K R_draw
def isIntB : Dt → Bool
  | .int _ => true
  | _ => false
def t_is_whole (K : PySem.W.Frag) : TS :=
  (tSeq (tIfS (tOr (tNot (tB (tCB (rIsi K) (tCons (tVar 0) (tCons (tC (.ty "int")) tNil))))) (tB (tCB (rIsi K) (tCons (tVar 0) (tCons (tC (.ty "bool")) tNil))))) (tRet (tC (.bl false))) tNext)
    (tSeq (tIfS (tAnd (tTest (tOp (fun x y H Q => y = .non ∧ Q (.bl (!decide (x = .non))) H) (tVar 1) (tC .non))) (tTest (tOp (rI0 fun i j => .bl (decide (i < j))) (tVar 0) (tVar 1)))) (tRet (tC (.bl false))) tNext)
    (tRet (tOrV (tOp (fun x y H Q => y = .non ∧ Q (.bl (decide (x = .non))) H) (tVar 2) (tC .non)) (tOp (rI0 fun i j => .bl (decide (i ≤ j))) (tVar 0) (tVar 2))))))
def t_is_ratio (K : PySem.W.Frag) : TS :=
  (tSeq (tIfS (tOr (tNot (tB (tCB (rIsi K) (tCons (tVar 0) (tCons (tC (.ty "tuple")) tNil))))) (tTest (tOp (rNeD K) (tCB (Evl.rLenS K) (tCons (tVar 0) tNil)) (tC (.int 2))))) (tRet (tC (.bl false))) tNext)
    (tSeq (tAsg (tVar 0) (gTup K 2 (gCons (gName 1) (gCons (gName 2) gNil))))
    (tRet (tAndV (tCall (sp_is_whole K) [.non, .non] E0 (tCons (tVar 1) tNil)) (tAndV (tCall (sp_is_whole K) [.non] E0 (tCons (tVar 2) (tCons (tC (.int 1)) tNil))) (tOp (rEqD K) (tCB rGcd (tCons (tVar 1) (tCons (tVar 2) tNil))) (tC (.int 1))))))))
def t_u_lowest (K : PySem.W.Frag) : TS :=
  (tSeq (tAsg (tCB rGcd (tCons (tVar 0) (tCons (tVar 1) tNil))) (gName 2))
    (tSeq (tIfS (tTest (tOp (rI0 fun i j => .bl (decide (i < j))) (tVar 1) (tC (.int 0)))) (tAsg (tUn (rU fun i => .int (-i)) (tVar 2)) (gName 2)) tNext)
    (tRet (tTup (tCons (tOp (rI CDivA fun i j => .int (i.fdiv j)) (tVar 0) (tVar 2)) (tCons (tOp (rI CDivA fun i j => .int (i.fdiv j)) (tVar 1) (tVar 2)) tNil))))))
def t_make_ratio (K : PySem.W.Frag) (E : XK) : TS :=
  (tSeq (tIfS (tNot (tB (tCall (sp_is_whole K) [.non, .non] E0 (tCons (tVar 0) tNil)))) (fun (_ : Ends) σ H => tMkO (He.ga K "BadRatio") (spIni1 K (He.ga K "BadRatio") "what") [] (tCons (tC (.str "top")) tNil) σ H fun cls d H2 => E cls d H2) tNext)
    (tSeq (tIfS (tOr (tNot (tB (tCall (sp_is_whole K) [.non, .non] E0 (tCons (tVar 1) tNil)))) (tTest (tOp (rEqD K) (tVar 1) (tC (.int 0))))) (fun (_ : Ends) σ H => tMkO (He.ga K "BadRatio") (spIni1 K (He.ga K "BadRatio") "what") [] (tCons (tC (.str "bottom")) tNil) σ H fun cls d H2 => E cls d H2) tNext)
    (tRet (tCall (sp_u_lowest K) [] E0 (tCons (tVar 0) (tCons (tVar 1) tNil))))))
def t_plus (K : PySem.W.Frag) : TS :=
  (tRet (tCall (sp_u_lowest K) [] E0 (tCons (tOp (rI0 fun i j => .int (i + j)) (tOp (rI CMulW fun i j => .int (i * j)) (tOp (rIx K) (tVar 0) (tC (.int 0))) (tOp (rIx K) (tVar 1) (tC (.int 1)))) (tOp (rI CMulW fun i j => .int (i * j)) (tOp (rIx K) (tVar 1) (tC (.int 0))) (tOp (rIx K) (tVar 0) (tC (.int 1))))) (tCons (tOp (rI CMulW fun i j => .int (i * j)) (tOp (rIx K) (tVar 0) (tC (.int 1))) (tOp (rIx K) (tVar 1) (tC (.int 1)))) tNil))))
def t_minus (K : PySem.W.Frag) : TS :=
  (tRet (tCall (sp_u_lowest K) [] E0 (tCons (tOp (rI0 fun i j => .int (i - j)) (tOp (rI CMulW fun i j => .int (i * j)) (tOp (rIx K) (tVar 0) (tC (.int 0))) (tOp (rIx K) (tVar 1) (tC (.int 1)))) (tOp (rI CMulW fun i j => .int (i * j)) (tOp (rIx K) (tVar 1) (tC (.int 0))) (tOp (rIx K) (tVar 0) (tC (.int 1))))) (tCons (tOp (rI CMulW fun i j => .int (i * j)) (tOp (rIx K) (tVar 0) (tC (.int 1))) (tOp (rIx K) (tVar 1) (tC (.int 1)))) tNil))))
def t_times (K : PySem.W.Frag) : TS :=
  (tRet (tCall (sp_u_lowest K) [] E0 (tCons (tOp (rI CMulW fun i j => .int (i * j)) (tOp (rIx K) (tVar 0) (tC (.int 0))) (tOp (rIx K) (tVar 1) (tC (.int 0)))) (tCons (tOp (rI CMulW fun i j => .int (i * j)) (tOp (rIx K) (tVar 0) (tC (.int 1))) (tOp (rIx K) (tVar 1) (tC (.int 1)))) tNil))))
def t_over (K : PySem.W.Frag) (E : XK) : TS :=
  (tSeq (tIfS (tTest (tOp (rEqD K) (tOp (rIx K) (tVar 1) (tC (.int 0))) (tC (.int 0)))) (fun (_ : Ends) σ H => tMkO (He.ga K "BadRatio") (spIni1 K (He.ga K "BadRatio") "what") [] (tCons (tC (.str "zero")) tNil) σ H fun cls d H2 => E cls d H2) tNext)
    (tRet (tCall (sp_u_lowest K) [] E0 (tCons (tOp (rI CMulW fun i j => .int (i * j)) (tOp (rIx K) (tVar 0) (tC (.int 0))) (tOp (rIx K) (tVar 1) (tC (.int 1)))) (tCons (tOp (rI CMulW fun i j => .int (i * j)) (tOp (rIx K) (tVar 0) (tC (.int 1))) (tOp (rIx K) (tVar 1) (tC (.int 0)))) tNil)))))
def t_negative (K : PySem.W.Frag) : TS :=
  (tRet (tTup (tCons (tUn (rU fun i => .int (-i)) (tOp (rIx K) (tVar 0) (tC (.int 0)))) (tCons (tOp (rIx K) (tVar 0) (tC (.int 1))) tNil))))
def t_compare (K : PySem.W.Frag) : TS :=
  (tSeq (tAsg (tOp (rI CMulW fun i j => .int (i * j)) (tOp (rIx K) (tVar 0) (tC (.int 0))) (tOp (rIx K) (tVar 1) (tC (.int 1)))) (gName 2))
    (tSeq (tAsg (tOp (rI CMulW fun i j => .int (i * j)) (tOp (rIx K) (tVar 1) (tC (.int 0))) (tOp (rIx K) (tVar 0) (tC (.int 1)))) (gName 3))
    (tSeq (tIfS (tTest (tOp (rI0 fun i j => .bl (decide (i < j))) (tVar 2) (tVar 3))) (tRet (tUn (rU fun i => .int (-i)) (tC (.int 1)))) tNext)
    (tSeq (tIfS (tTest (tOp (rI0 fun i j => .bl (decide (j < i))) (tVar 2) (tVar 3))) (tRet (tC (.int 1))) tNext)
    (tRet (tC (.int 0)))))))
def t_sum_of (K : PySem.W.Frag) : TS :=
  (tSeq (tAsg (tC (.ref (He.ga K "ZERO"))) (gName 1))
    (tSeq (tFor (iSeq K (tVar 0)) (gName 2) (tAsg (tCall (sp_plus K) [] E0 (tCons (tVar 1) (tCons (tVar 2) tNil))) (gName 1)))
    (tRet (tVar 1))))
def t_least_of (K : PySem.W.Frag) : TS :=
  (tSeq (tAsg (tOp (rIx K) (tVar 0) (tC (.int 0))) (gName 1))
    (tSeq (tFor (iSeq K (tVar 0)) (gName 2) (tIfS (tTest (tOp (rI0 fun i j => .bl (decide (i < j))) (tCall (sp_compare K) [] E0 (tCons (tVar 2) (tCons (tVar 1) tNil))) (tC (.int 0)))) (tAsg (tVar 2) (gName 1)) tNext))
    (tRet (tVar 1))))
def t_greatest_of (K : PySem.W.Frag) : TS :=
  (tSeq (tAsg (tOp (rIx K) (tVar 0) (tC (.int 0))) (gName 1))
    (tSeq (tFor (iSeq K (tVar 0)) (gName 2) (tIfS (tTest (tOp (rI0 fun i j => .bl (decide (j < i))) (tCall (sp_compare K) [] E0 (tCons (tVar 2) (tCons (tVar 1) tNil))) (tC (.int 0)))) (tAsg (tVar 2) (gName 1)) tNext))
    (tRet (tVar 1))))
def t_floor_of (K : PySem.W.Frag) : TS :=
  (tRet (tOp (rI CDivA fun i j => .int (i.fdiv j)) (tOp (rIx K) (tVar 0) (tC (.int 0))) (tOp (rIx K) (tVar 0) (tC (.int 1)))))
def t_broken_of (K : PySem.W.Frag) : TS :=
  (tRet (tTup (tCons (tOp (rI (fun _ j => 0 < j) fun i j => .int (i % j)) (tOp (rIx K) (tVar 0) (tC (.int 0))) (tOp (rIx K) (tVar 0) (tC (.int 1)))) (tCons (tOp (rIx K) (tVar 0) (tC (.int 1))) tNil))))
def t_ratio_text (K : PySem.W.Frag) : TS :=
  (tSeq (tIfS (tTest (tOp (rEqD K) (tOp (rIx K) (tVar 0) (tC (.int 1))) (tC (.int 1)))) (tRet (tCB (fun xs H Q => ∃ i, xs = [.int i] ∧ i.natAbs.log2 < 1920 ∧ Q (.str (toString i)) H) (tCons (tOp (rIx K) (tVar 0) (tC (.int 0))) tNil))) tNext)
    (tRet (tJoin [(tFmt (tOp (rIx K) (tVar 0) (tC (.int 0)))), (tC (.str "/")), (tFmt (tOp (rIx K) (tVar 0) (tC (.int 1))))])))
def t_u_law_mix (K : PySem.W.Frag) : TS :=
  (tSeq (tAsg (tOp (rI (fun _ j => 0 < j) fun i j => .int (i % j)) (tCB (fun xs H Q => (∃ i, xs = [.int i] ∧ Q (.int i) H) ∨ ∃ k, xs = [.bl k] ∧ Q (.int (if k then 1 else 0)) H) (tCons (tOp (rI0 fun i j => .int (i + j)) (tOp (rI0 fun i j => .int (i + j)) (tOp (rI CMulW fun i j => .int (i * j)) (tVar 0) (tC (.int 48271))) (tOp (rI CMulW fun i j => .int (i * j)) (tVar 1) (tC (.int 16807)))) (tC (.int 11))) tNil)) (tC (.int 2147483647))) (gName 2))
    (tSeq (tAsg (tOp (rI (fun _ j => 0 < j) fun i j => .int (i % j)) (tCB (fun xs H Q => (∃ i, xs = [.int i] ∧ Q (.int i) H) ∨ ∃ k, xs = [.bl k] ∧ Q (.int (if k then 1 else 0)) H) (tCons (tOp (rI0 fun i j => .int (i + j)) (tOp (rI0 fun i j => .int (i + j)) (tOp (rI CMulW fun i j => .int (i * j)) (tVar 2) (tVar 2)) (tOp (rI CMulW fun i j => .int (i * j)) (tOp (rI CDivA fun i j => .int (i.fdiv j)) (tVar 2) (tC (.int 127))) (tC (.int 40692)))) (tOp (rI CMulW fun i j => .int (i * j)) (tVar 1) (tC (.int 69621)))) tNil)) (tC (.int 2147483399))) (gName 3))
    (tRet (tOp (rI CDivA fun i j => .int (i.fdiv j)) (tOp (rI (fun _ j => 0 < j) fun i j => .int (i % j)) (tCB (fun xs H Q => (∃ i, xs = [.int i] ∧ Q (.int i) H) ∨ ∃ k, xs = [.bl k] ∧ Q (.int (if k then 1 else 0)) H) (tCons (tOp (rI0 fun i j => .int (i + j)) (tOp (rI CDivA fun i j => .int (i.fdiv j)) (tOp (rI CMulW fun i j => .int (i * j)) (tVar 3) (tVar 3)) (tC (.int 1009))) (tVar 2)) tNil)) (tC (.int 2147483563))) (tC (.int 16))))))
def t_u_law_hand (K : PySem.W.Frag) : TS :=
  (tSeq (tAsg (tC (.int 0)) (gName 1))
    (tSeq (tFor (iEnum K (tCons (tVar 0) tNil)) (gTup K 2 (gCons (gName 2) (gCons (gName 3) gNil))) (tAsg (tOp (rI (fun _ j => 0 < j) fun i j => .int (i % j)) (tCB (fun xs H Q => (∃ i, xs = [.int i] ∧ Q (.int i) H) ∨ ∃ k, xs = [.bl k] ∧ Q (.int (if k then 1 else 0)) H) (tCons (tOp (rI0 fun i j => .int (i + j)) (tOp (rI CMul fun i j => .int (i * j)) (tVar 1) (tC (.int 31))) (tOp (rI CMul fun i j => .int (i * j)) (tCB (fun xs H Q => (∃ i, xs = [.int i] ∧ Q (.int i) H) ∨ ∃ k, xs = [.bl k] ∧ Q (.int (if k then 1 else 0)) H) (tCons (tVar 3) tNil)) (tOp (rI0 fun i j => .int (i + j)) (tVar 2) (tC (.int 7))))) tNil)) (tC (.int 2147483629))) (gName 1)))
    (tRet (tLst (tCons (tLc (iSeq K (tVar 0)) (gName 3) tYes (tCB (fun xs H Q => ∃ i, xs = [.int i] ∧ Q (.int (if i < 0 then -i else i)) H) (tCons (tCB (fun xs H Q => (∃ i, xs = [.int i] ∧ Q (.int i) H) ∨ ∃ k, xs = [.bl k] ∧ Q (.int (if k then 1 else 0)) H) (tCons (tVar 3) tNil)) tNil)) [3]) (tCons (tC (.int 0)) (tCons (tC (.int 0)) (tCons (tVar 1) tNil))))))))
def t_u_law_draw (K : PySem.W.Frag) : TS :=
  (tSeq (tIfS (tAnd (tTest (tOp (rEqD K) (tOp (rIx K) (tVar 0) (tC (.int 2))) (tC (.int 0)))) (tTest (tOp (rI0 fun i j => .bl (decide (i < j))) (tOp (rIx K) (tVar 0) (tC (.int 1))) (tCB (Evl.rLenS K) (tCons (tOp (rIx K) (tVar 0) (tC (.int 0))) tNil))))) (tSeq (tAsg (tOp (rIx K) (tOp (rIx K) (tVar 0) (tC (.int 0))) (tOp (rIx K) (tVar 0) (tC (.int 1)))) (gName 2))
    (tSeq (tAsg (tOp (rI0 fun i j => .int (i + j)) (tOp (rIx K) (tVar 0) (tC (.int 1))) (tC (.int 1))) (gSub (tVar 0) (tC (.int 1)) rSetL))
    (tSeq (tIfS (tTest (tOp (rI0 fun i j => .bl (decide (i < j))) (tVar 2) (tOp (rI CPow fun i j => .int (i ^ j.toNat)) (tC (.int 10)) (tC (.int 18))))) (tRet (tOp (rI (fun _ j => 0 < j) fun i j => .int (i % j)) (tCB (fun xs H Q => (∃ i, xs = [.int i] ∧ Q (.int i) H) ∨ ∃ k, xs = [.bl k] ∧ Q (.int (if k then 1 else 0)) H) (tCons (tCall (sp_u_law_mix K) [] E0 (tCons (tOp (rI (fun _ j => 0 < j) fun i j => .int (i % j)) (tCB (fun xs H Q => (∃ i, xs = [.int i] ∧ Q (.int i) H) ∨ ∃ k, xs = [.bl k] ∧ Q (.int (if k then 1 else 0)) H) (tCons (tVar 2) tNil)) (tC (.int 2147483647))) (tCons (tOp (rIx K) (tVar 0) (tC (.int 1))) tNil))) tNil)) (tVar 1))) tNext)
    (tAsg (tVar 2) (gSub (tVar 0) (tC (.int 2)) rSetL))))) tNext)
    (tSeq (tIfS (tTest (tOp (rI0 fun i j => .bl (decide (j < i))) (tOp (rIx K) (tVar 0) (tC (.int 2))) (tC (.int 0)))) (tSeq (tAsg (tOp (rIx K) (tVar 0) (tC (.int 2))) (gName 3))
    (tSeq (tAsg (tOp (rI CDivA fun i j => .int (i.fdiv j)) (tVar 3) (tVar 1)) (gSub (tVar 0) (tC (.int 2)) rSetL))
    (tRet (tOp (rI (fun _ j => 0 < j) fun i j => .int (i % j)) (tCB (fun xs H Q => (∃ i, xs = [.int i] ∧ Q (.int i) H) ∨ ∃ k, xs = [.bl k] ∧ Q (.int (if k then 1 else 0)) H) (tCons (tVar 3) tNil)) (tVar 1))))) tNext)
    (tSeq (tAsg (tOp (rI (fun _ j => 0 < j) fun i j => .int (i % j)) (tCB (fun xs H Q => (∃ i, xs = [.int i] ∧ Q (.int i) H) ∨ ∃ k, xs = [.bl k] ∧ Q (.int (if k then 1 else 0)) H) (tCons (tOp (rI0 fun i j => .int (i + j)) (tOp (rIx K) (tVar 0) (tC (.int 3))) (tC (.int 1))) tNil)) (tC (.int 2147483629))) (gSub (tVar 0) (tC (.int 3)) rSetL))
    (tRet (tOp (rI (fun _ j => 0 < j) fun i j => .int (i % j)) (tCB (fun xs H Q => (∃ i, xs = [.int i] ∧ Q (.int i) H) ∨ ∃ k, xs = [.bl k] ∧ Q (.int (if k then 1 else 0)) H) (tCons (tCall (sp_u_law_mix K) [] E0 (tCons (tOp (rIx K) (tVar 0) (tC (.int 3))) (tCons (tOp (rIx K) (tVar 0) (tC (.int 1))) tNil))) tNil)) (tVar 1))))))
theorem isB_self {t : String} : isB t t = true := by
  unfold isB kitB
  rw [if_pos (by simp)]
  rfl
theorem kin_some {x : Dt} (h : Kin x) : ∃ t, tyD x = some t := Option.isSome_iff_exists.mp h
/-- what isinstance says -/
def isK (x : Dt) (n : String) : Bool := match tyD x with
  | some t => isB t n
  | none => false
theorem kit_some {t n : String} (ht : t ∈ ["NoneType", "bool", "int", "str", "list", "tuple"]) (hn : n ∈ ["int", "bool", "tuple", "list", "str"]) : (kitB t n).isSome = true := by
  have key : (["NoneType", "bool", "int", "str", "list", "tuple"].all fun t => ["int", "bool", "tuple", "list", "str"].all fun n => (kitB t n).isSome) = true := by decide +kernel
  exact List.all_eq_true.mp (List.all_eq_true.mp key t ht) n hn
theorem ty_mem {x : Dt} {t : String} (h : tyD x = some t) : t ∈ ["NoneType", "bool", "int", "str", "list", "tuple"] := by
  cases x with
  | obj _ _ _ => cases h
  | _ => cases Option.some.inj h <;> decide
theorem ed_isK {c : Fr} {es : List Sv} {ta : TE} {x : Dt} {n : String} (ha : ED c ta es x) (hx : Kin x) (hn : n ∈ ["int", "bool", "tuple", "list", "str"]) : ED c (tCB (rIsi c.K) (tCons ta (tCons (tC (.ty n)) tNil))) es (.bl (isK x n)) := by
  obtain ⟨t, e⟩ := kin_some hx
  have q := ed_isi (n := n) ha e (kit_some (ty_mem e) hn)
  have z : isK x n = isB t n := by
    unfold isK
    rw [e]
  rw [z]
  exact q
theorem isK_int (x : Dt) : (!isK x "int" || isK x "bool") = !isIntB x := by
  cases x with
  | obj _ _ _ => rfl
  | non => exact (by decide +kernel : (!isB "NoneType" "int" || isB "NoneType" "bool") = true)
  | bl _ => exact (by decide +kernel : (!isB "bool" "int" || isB "bool" "bool") = true)
  | int _ => exact (by decide +kernel : (!isB "int" "int" || isB "int" "bool") = false)
  | str _ => exact (by decide +kernel : (!isB "str" "int" || isB "str" "bool") = true)
  | lst _ => exact (by decide +kernel : (!isB "list" "int" || isB "list" "bool") = true)
  | tup _ => exact (by decide +kernel : (!isB "tuple" "int" || isB "tuple" "bool") = true)
  | tupN _ => exact (by decide +kernel : (!isB "tuple" "int" || isB "tuple" "bool") = true)
theorem isK_whole (x : Dt) : (isK x "int" && !isK x "bool") = isIntB x := by
  cases x with
  | obj _ _ _ => rfl
  | non => exact (by decide +kernel : (isB "NoneType" "int" && !isB "NoneType" "bool") = false)
  | bl _ => exact (by decide +kernel : (isB "bool" "int" && !isB "bool" "bool") = false)
  | int _ => exact (by decide +kernel : (isB "int" "int" && !isB "int" "bool") = true)
  | str _ => exact (by decide +kernel : (isB "str" "int" && !isB "str" "bool") = false)
  | lst _ => exact (by decide +kernel : (isB "list" "int" && !isB "list" "bool") = false)
  | tup _ => exact (by decide +kernel : (isB "tuple" "int" && !isB "tuple" "bool") = false)
  | tupN _ => exact (by decide +kernel : (isB "tuple" "int" && !isB "tuple" "bool") = false)
def isTup : Dt → Bool
  | .tup _ => true
  | .tupN _ => true
  | _ => false
theorem isK_tuple (x : Dt) : isK x "tuple" = isTup x := by
  cases x with
  | obj _ _ _ => rfl
  | non => exact (by decide +kernel : (isB "NoneType" "tuple") = false)
  | bl _ => exact (by decide +kernel : (isB "bool" "tuple") = false)
  | int _ => exact (by decide +kernel : (isB "int" "tuple") = false)
  | str _ => exact (by decide +kernel : (isB "str" "tuple") = false)
  | lst _ => exact (by decide +kernel : (isB "list" "tuple") = false)
  | tup _ => exact (by decide +kernel : (isB "tuple" "tuple") = true)
  | tupN _ => exact (by decide +kernel : (isB "tuple" "tuple") = true)
section
variable {c : Fr} {D : Ends}
theorem sem_is_whole {x lo hi : Dt} (hx : Kin x) (hlo : Lim lo) (hhi : Lim hi) (k : RetD c D.rt (fun d => d = .bl (wholeB x lo hi))) : Cont c (t_is_whole c.K D) [.dat x, .dat lo, .dat hi] := by
  refine s_when (b := !isIntB x) ?_ (fun h => ?_) (fun h => ?_)
  · rw [← isK_int]
    exact eb_or (eb_not (eb_B (ed_isK (ed_var rfl) hx (by decide)))) fun _ => eb_B (ed_isK (ed_var rfl) hx (by decide))
  · refine c_ret ?_ k
    have : wholeB x lo hi = false := by
      cases x <;> first | rfl | (cases h)
    rw [this]
    exact ed_bl
  · cases x with
    | int i =>
      refine s_when (b := !lowOk lo i) ?_ (fun h => ?_) (fun h => ?_)
      · rcases hlo with rfl | ⟨l, rfl⟩
        · exact EBd.is (eb_and (b := false) (b' := false) (eb_test (ed_notN (x := .non) (ed_var rfl))) fun z => by cases z) rfl
        · refine EBd.is (eb_and (b := true) (b' := decide (i < l)) (eb_test (ed_notN (x := .int l) (ed_var rfl))) fun _ => eb_test (ed_B0 (ed_var rfl) (ed_var rfl))) ?_
          show decide (i < l) = !decide (l ≤ i)
          by_cases z : l ≤ i
          · rw [decide_eq_true z, decide_eq_false (by omega)] <;> rfl
          · rw [decide_eq_false z, decide_eq_true (by omega)] <;> rfl
      · refine c_ret ?_ k
        have : wholeB (.int i) lo hi = false := by
          show (lowOk lo i && highOk hi i) = false
          cases q : lowOk lo i with
          | false => rfl
          | true => rw [q] at h; cases h
        rw [this]
        exact ed_bl
      · refine c_ret ?_ k
        have e1 : lowOk lo i = true := by
          cases q : lowOk lo i with
          | true => rfl
          | false => rw [q] at h; cases h
        have : wholeB (.int i) lo hi = highOk hi i := by
          show (lowOk lo i && highOk hi i) = highOk hi i
          rw [e1] <;> rfl
        rw [this]
        rcases hhi with rfl | ⟨l, rfl⟩
        · exact ED.is (ed_or (b := true) (b' := true) (ed_isN (x := .non) (ed_var rfl)) fun z => by cases z) rfl
        · exact ED.is (ed_or (b := false) (b' := decide (i ≤ l)) (ed_isN (x := .int l) (ed_var rfl)) fun _ => ed_B0 (ed_var rfl) (ed_var rfl)) rfl
    | _ => cases h
end
section
variable {c : Fr} {D : Ends}
theorem sem_lowest {a b : Int} (hb : b ≠ 0) (ha : Sz 5000 a) (hs : Sz 5000 b) (k : RetD c D.rt (fun d => d = ratD (Rat.divInt a b))) : Cont c (t_u_lowest c.K D) [.dat (.int a), .dat (.int b), .no] := by
  refine s_asg (by walk_at "ed") ?_
  have fin : Cont c (tRet (tTup (tCons (tOp (rI CDivA fun i j => .int (i.fdiv j)) (tVar 0) (tVar 2)) (tCons (tOp (rI CDivA fun i j => .int (i.fdiv j)) (tVar 1) (tVar 2)) tNil))) D) [.dat (.int a), .dat (.int b), .dat (.int (partOf a b))] := by
    refine c_ret ?_ k
    have hp := sz_div (x := a) (partOf_ne (a := a) hb) (sz_part hb hs) (by decide)
    have hq := sz_div (x := b) (partOf_ne (a := a) hb) (sz_part hb hs) (by decide)
    have e : ratD (Rat.divInt a b) = .tup [.int (a.fdiv (partOf a b)), .int (b.fdiv (partOf a b))] := by
      rw [low_num hb, low_den hb] <;> rfl
    rw [e]
    exact ed_tup (es_cons (ed_I (ed_var rfl) (ed_var rfl) hp) (es_cons (ed_I (ed_var rfl) (ed_var rfl) hq) es_nil)) (by show 2 ≤ 100000; decide)
  refine s_when (b := decide (b < 0)) (by walk_at "ed") (fun h => ?_) (fun h => ?_)
  · refine c_asg (by walk_at "ed") ?_
    have e : partOf a b = -((Nat.gcd a.natAbs b.natAbs : Nat) : Int) := if_pos (of_decide_eq_true h)
    rw [e] at fin
    exact fin
  · have e : partOf a b = ((Nat.gcd a.natAbs b.natAbs : Nat) : Int) := if_neg (of_decide_eq_false h)
    rw [e] at fin
    exact fin
theorem den_ne (q : Rat) : (q.den : Int) ≠ 0 := by have := den_pos q; omega
theorem ed_low {es : List Sv} {ta tb : TE} {a b : Int} {q : Rat} {E : XK} (ha : ED c ta es (.int a)) (hb : ED c tb es (.int b)) (h0 : b ≠ 0) (h1 : Sz 5000 a) (h2 : Sz 5000 b) (e : Rat.divInt a b = q) : ED c (tCall (sp_u_lowest c.K) [] E (tCons ta (tCons tb tNil))) es (ratD q) :=
  e ▸ ed_call (es_cons ha (es_cons hb es_nil)) ⟨a, b, rfl, h0, h1, h2, rfl⟩ fun x ⟨a', b', e', _, _, _, ex⟩ => by
    have h := List.cons.inj e'
    have h' := List.cons.inj h.2
    rw [ex, Dt.int.inj h.1, Dt.int.inj h'.1]
theorem ix0 {es : List Sv} {n : Nat} {q : Rat} (h : es[n]? = some (.dat (ratD q))) : ED c (tOp (rIx c.K) (tVar n) (tC (.int 0))) es (.int q.num) := ed_ixT (ed_var h) ed_int rfl
theorem ix1 {es : List Sv} {n : Nat} {q : Rat} (h : es[n]? = some (.dat (ratD q))) : ED c (tOp (rIx c.K) (tVar n) (tC (.int 1))) es (.int q.den) := ed_ixT (ed_var h) ed_int rfl
theorem ed_mul {es : List Sv} {ta tb : TE} {i j : Int} {n m : Nat} (ha : ED c ta es (.int i)) (hb : ED c tb es (.int j)) (hi : Sz n i) (hj : Sz m j) (h : n + m ≤ 900000) : ED c (tOp (rI CMulW fun i j => .int (i * j)) ta tb) es (.int (i * j)) := ed_I ha hb (sz_ok hi hj h)
theorem sem_plus {p q : Rat} (hp : SzR 2000 p) (hq : SzR 2000 q) (k : RetD c D.rt (fun d => d = ratD (p + q))) : Cont c (t_plus c.K D) [.dat (ratD p), .dat (ratD q)] := by
  refine c_ret ?_ k
  refine ed_low (ed_I0 (ed_mul (ix0 rfl) (ix1 rfl) hp.num hq.den (by decide)) (ed_mul (ix0 rfl) (ix1 rfl) hq.num hp.den (by decide))) (ed_mul (ix1 rfl) (ix1 rfl) hp.den hq.den (by decide)) (Int.mul_ne_zero (den_ne p) (den_ne q)) ?_ ?_ ?_
  · exact ((hp.num.mul hq.den).add (hq.num.mul hp.den)).mono (by decide)
  · exact (hp.den.mul hq.den).mono (by decide)
  · rw [← Rat.divInt_add_divInt _ _ (den_ne p) (den_ne q), divInt_of, divInt_of]
theorem sem_minus {p q : Rat} (hp : SzR 2000 p) (hq : SzR 2000 q) (k : RetD c D.rt (fun d => d = ratD (p - q))) : Cont c (t_minus c.K D) [.dat (ratD p), .dat (ratD q)] := by
  refine c_ret ?_ k
  refine ed_low (ed_I0 (ed_mul (ix0 rfl) (ix1 rfl) hp.num hq.den (by decide)) (ed_mul (ix0 rfl) (ix1 rfl) hq.num hp.den (by decide))) (ed_mul (ix1 rfl) (ix1 rfl) hp.den hq.den (by decide)) (Int.mul_ne_zero (den_ne p) (den_ne q)) ?_ ?_ ?_
  · exact ((hp.num.mul hq.den).sub (hq.num.mul hp.den)).mono (by decide)
  · exact (hp.den.mul hq.den).mono (by decide)
  · rw [← Rat.divInt_sub_divInt _ _ (den_ne p) (den_ne q), divInt_of, divInt_of]
theorem sem_times {p q : Rat} (hp : SzR 2000 p) (hq : SzR 2000 q) (k : RetD c D.rt (fun d => d = ratD (p * q))) : Cont c (t_times c.K D) [.dat (ratD p), .dat (ratD q)] := by
  refine c_ret ?_ k
  refine ed_low (ed_mul (ix0 rfl) (ix0 rfl) hp.num hq.num (by decide)) (ed_mul (ix1 rfl) (ix1 rfl) hp.den hq.den (by decide)) (Int.mul_ne_zero (den_ne p) (den_ne q)) ?_ ?_ ?_
  · exact (hp.num.mul hq.num).mono (by decide)
  · exact (hp.den.mul hq.den).mono (by decide)
  · rw [← Rat.divInt_mul_divInt, divInt_of, divInt_of]
theorem sem_negative {p : Rat} (k : RetD c D.rt (fun d => d = ratD (-p))) : Cont c (t_negative c.K D) [.dat (ratD p)] := by
  refine c_ret ?_ k
  have e : ratD (-p) = .tup [.int (-p.num), .int p.den] := rfl
  rw [e]
  exact ed_tup (es_cons (ed_neg (ix0 rfl)) (es_cons (ix1 rfl) es_nil)) (by show 2 ≤ 100000; decide)
theorem sem_compare {p q : Rat} (hp : SzR 2000 p) (hq : SzR 2000 q) (k : RetD c D.rt (fun d => d = .int (cmpI p q))) : Cont c (t_compare c.K D) [.dat (ratD p), .dat (ratD q), .no, .no] := by
  refine s_asg (ed_mul (ix0 rfl) (ix1 rfl) hp.num hq.den (by decide)) ?_
  refine s_asg (ed_mul (ix0 rfl) (ix1 rfl) hq.num hp.den (by decide)) ?_
  refine s_when (b := decide (p.num * q.den < q.num * p.den)) (by walk_at "ed") (fun h => ?_) (fun h => ?_)
  · refine c_ret ?_ k
    have e : cmpI p q = -1 := if_pos (of_decide_eq_true h)
    rw [e]
    exact ed_neg ed_int
  · have h1 := of_decide_eq_false h
    refine s_when (b := decide (q.num * p.den < p.num * q.den)) (by walk_at "ed") (fun h => ?_) (fun h => ?_)
    · refine c_ret ?_ k
      have e : cmpI p q = 1 := (if_neg h1).trans (if_pos (of_decide_eq_true h))
      rw [e]
      exact ed_int
    · refine c_ret ?_ k
      have e : cmpI p q = 0 := (if_neg h1).trans (if_neg (of_decide_eq_false h))
      rw [e]
      exact ed_int
theorem sem_floor_of {q : Rat} (hq : SzR 2000 q) (k : RetD c D.rt (fun d => d = .int (q.num / q.den))) : Cont c (t_floor_of c.K D) [.dat (ratD q)] := by
  refine c_ret ?_ k
  rw [← Int.fdiv_eq_ediv_of_nonneg _ (Int.le_of_lt (den_pos q))]
  exact ed_I (ix0 rfl) (ix1 rfl) (sz_div (den_ne q) hq.den (by decide))
theorem sem_broken_of {q : Rat} (k : RetD c D.rt (fun d => d = .tup [.int (q.num % q.den), .int q.den])) : Cont c (t_broken_of c.K D) [.dat (ratD q)] := by
  refine c_ret ?_ k
  exact ed_tup (es_cons (ed_I (ix0 rfl) (ix1 rfl) (den_pos q)) (es_cons (ix1 rfl) es_nil)) (by show 2 ≤ 100000; decide)
end
theorem fine_str {a : Str} (h : PyData.strOk a = true) : fine (.str a) = true := by
  unfold fine SeqAt.shaped
  show (true && (PyData.canLay0 (.str a) && decide _)) = true
  rw [PyData.canLay0, h]
  rfl
theorem ok_of (s : String) : PyData.strOk (Str.ofString s) = true := by
  unfold PyData.strOk
  rw [Str.ofString_eq_toList]
  simp only [List.all_toArray, List.all_map, List.all_eq_true]
  intro ch _
  have h := ch.valid
  have : ch.val.toNat < 0x110000 := by
    rcases h with h | h
    · exact Nat.lt_trans h (by decide)
    · exact h.2
  simpa using this
theorem ok_app {a b : Str} (h : PyData.strOk a = true) (k : PyData.strOk b = true) : PyData.strOk (a ++ b) = true := by
  unfold PyData.strOk at *
  rw [Str.cps_append, Array.all_append, h, k]
  rfl
theorem text_len {n : Nat} {i : Int} (h : Sz n i) (h0 : 0 < n) : (Str.ofString (toString i)).length ≤ n + 1 := by
  have h2 : 2 ^ n ≤ 10 ^ n := Nat.pow_le_pow_left (by decide) n
  have h3 : (10 : Int) ^ n = ((10 ^ n : Nat) : Int) := by rw [Int.natCast_pow] <;> rfl
  unfold Sz at h
  by_cases z : i < 0
  · rw [len_text_neg z]
    have := toString_length_le (v := 0 - i) (by omega) h0 (by rw [h3]; omega)
    omega
  · have := toString_length_le (v := i) (by omega) h0 (by rw [h3]; omega)
    omega
theorem sz_log {n : Nat} {i : Int} (h : Sz n i) (h0 : 0 < n) : i.natAbs.log2 < n := PySem.Flt.log2_lt_of h0 h
section
variable {c : Fr} {D : Ends} {E : XK} {es : List Sv} {ta tb : TE} {x y : Dt} {p q : Rat}
theorem ed_whole0 (h : ED c ta es x) (hx : Kin x) : ED c (tCall (sp_is_whole c.K) [.non, .non] E (tCons ta tNil)) es (.bl (isIntB x)) :=
  ED.is (ed_callD (dd := [.non, .non]) (d := .bl (wholeB x .non .non)) (es_cons h es_nil) (fun _ => .cons .non (.cons .non .nil)) ⟨x, .non, .non, rfl, hx, .inl rfl, .inl rfl, rfl⟩ fun y ⟨a, b, d, e, _, _, _, ey⟩ => by
    have e' : [x, .non, .non] = [a, b, d] := e
    cases e'
    exact ey) (by cases x <;> rfl)
theorem ed_whole1 {l : Dt} (h : ED c ta es x) (hl : ED c tb es l) (hx : Kin x) (hL : Lim l) : ED c (tCall (sp_is_whole c.K) [.non] E (tCons ta (tCons tb tNil))) es (.bl (wholeB x l .non)) :=
  ed_callD (dd := [.non]) (es_cons h (es_cons hl es_nil)) (fun _ => .cons .non .nil) ⟨x, l, .non, rfl, hx, hL, .inl rfl, rfl⟩ fun y ⟨a, b, d, e, _, _, _, ey⟩ => by
    have e' : [x, l, .non] = [a, b, d] := e
    cases e'
    exact ey
theorem ed_whole2 {l u : Dt} {tx : TE} (h : ED c ta es x) (hl : ED c tb es l) (hu : ED c tx es u) (hx : Kin x) (hL : Lim l) (hU : Lim u) : ED c (tCall (sp_is_whole c.K) [] E (tCons ta (tCons tb (tCons tx tNil)))) es (.bl (wholeB x l u)) :=
  ed_call (es_cons h (es_cons hl (es_cons hu es_nil))) ⟨x, l, u, rfl, hx, hL, hU, rfl⟩ fun y ⟨a, b, d, e, _, _, _, ey⟩ => by
    cases e
    exact ey
def gcdB : Dt → Dt → Bool
  | .int a, .int b => decide (Nat.gcd a.natAbs b.natAbs = 1)
  | _, _ => false
theorem ratioB_two (y z : Dt) : ratioB (.tup [y, z]) = (isIntB y && (wholeB z (.int 1) .non && gcdB y z)) := by
  cases y with
  | int a => cases z with
    | int b =>
      show (decide (1 ≤ b) && _) = (true && ((decide (1 ≤ b) && true) && _))
      rw [Bool.and_true, Bool.true_and] <;> rfl
    | _ => rfl
  | _ => rfl
theorem eqv_int (i j : Int) : eqv (.int i) (.int j) = decide (i = j) := rfl
theorem sem_is_ratio (hx : Kins x) (k : RetD c D.rt (fun d => d = .bl (ratioB x))) : Cont c (t_is_ratio c.K D) [.dat x, .no, .no] := by
  obtain ⟨hk, hs, hN⟩ := hx
  cases ht : isTup x with
  | false =>
    refine s_when (b := true) (EBd.is (eb_or (b := true) (b' := true) (EBd.is (eb_not (eb_B (ed_isK (ed_var rfl) hk (by decide)))) (by rw [isK_tuple, ht] <;> rfl)) fun z => by cases z) rfl) (fun _ => ?_) fun z => by cases z
    refine c_ret ?_ k
    have e : ratioB x = false := by cases x <;> first | rfl | cases ht
    rw [e]
    exact ed_bl
  | true =>
    obtain ⟨l, rfl⟩ : ∃ l, x = .tup l := by
      cases x with
      | tup l => exact ⟨l, rfl⟩
      | tupN l => exact (hN l rfl).elim
      | _ => cases ht
    refine s_when (b := !decide ((l.length : Int) = 2)) (EBd.is (eb_or (b := false) (b' := !decide ((l.length : Int) = 2)) (EBd.is (eb_not (eb_B (ed_isK (ed_var rfl) hk (by decide)))) (by rw [isK_tuple] <;> rfl)) fun _ => eb_test (ed_ne (ed_len (ed_var rfl) rfl) ed_int rfl rfl)) rfl) (fun h => ?_) fun h => ?_
    · refine c_ret ?_ k
      have e : ratioB (.tup l) = false := by
        have h' : ¬ (l.length : Int) = 2 := fun z => by rw [decide_eq_true z] at h; cases h
        match l with
        | [] => rfl
        | [y] =>
          unfold ratioB
          split
          · rename_i e; cases e
          · rfl
        | [_, _] => exact (h' rfl).elim
        | _ :: _ :: _ :: _ =>
          unfold ratioB
          split
          · rename_i e; cases e
          · rfl
      rw [e]
      exact ed_bl
    · have h' : (l.length : Int) = 2 := Decidable.byContradiction fun z => by rw [decide_eq_false z] at h; cases h
      obtain ⟨y, z, rfl⟩ : ∃ y z, l = [y, z] := by
        match l, h' with
        | [y, z], _ => exact ⟨y, z, rfl⟩
        | [], h => exact absurd h (by decide)
        | [_], h => rw [List.length_cons, List.length_nil] at h; omega
        | _ :: _ :: _ :: _, h => rw [List.length_cons, List.length_cons, List.length_cons] at h; omega
      refine s_unpack (ed_var rfl) ?_
      refine c_ret ?_ k
      rw [ratioB_two]
      refine ed_and (ed_whole0 (ed_var rfl) (hs _ rfl y List.mem_cons_self)) fun h1 => ?_
      refine ed_and (ed_whole1 (ed_var rfl) ed_int (hs _ rfl z (List.mem_cons_of_mem _ List.mem_cons_self)) (.inr ⟨1, rfl⟩)) fun h2 => ?_
      cases y with
      | int a =>
        cases z with
        | int b =>
          have e : gcdB (.int a) (.int b) = eqv (.int ((Nat.gcd a.natAbs b.natAbs : Nat) : Int)) (.int 1) := by
            rw [eqv_int]
            show decide (Nat.gcd a.natAbs b.natAbs = 1) = _
            by_cases g : Nat.gcd a.natAbs b.natAbs = 1
            · rw [decide_eq_true g, decide_eq_true (by omega)]
            · rw [decide_eq_false g, decide_eq_false (by omega)]
          rw [e]
          exact ed_eq (ed_gcd (ed_var rfl) (ed_var rfl)) ed_int rfl rfl
        | _ => cases h2
      | _ => cases h1
theorem sem_make_ratio (hx : Kin x) (hy : Kin y) (sx : SzD x) (sy : SzD y) (k : RetD c D.rt (fun d => makeO (He.ga c.K "BadRatio") x y = .ok d)) (kx : XtD c E (fun o => o = makeO (He.ga c.K "BadRatio") x y)) : Cont c (t_make_ratio c.K E D) [.dat x, .dat y] := by
  refine s_when (b := !isIntB x) (eb_not (eb_B (ed_whole0 (ed_var rfl) hx))) (fun h => ?_) fun h => ?_
  · refine c_raise1 (D := D) (es_cons ed_str es_nil) kx ?_ (ns := ["what"]) rfl
    cases x <;> first | rfl | cases h
  · cases x with
    | int a =>
      refine s_when (b := !isIntB y || eqv y (.int 0)) ?_ (fun h => ?_) fun h => ?_
      · cases y with
        | int b => exact eb_or (eb_not (eb_B (ed_whole0 (ed_var rfl) hy))) fun _ => eb_test (ed_eq (ed_var rfl) ed_int rfl rfl)
        | _ => exact EBd.is (eb_or (b := true) (b' := true) (eb_not (eb_B (ed_whole0 (ed_var rfl) hy))) fun z => by cases z) rfl
      · refine c_raise1 (D := D) (es_cons ed_str es_nil) kx ?_ (ns := ["what"]) rfl
        cases y with
        | int b =>
          have e : b = 0 := of_decide_eq_true h
          subst e
          rfl
        | _ => rfl
      · cases y with
        | int b =>
          have e : b ≠ 0 := of_decide_eq_false h
          have eo : makeO (He.ga c.K "BadRatio") (.int a) (.int b) = .ok (ratD (Rat.divInt a b)) := if_neg e
          refine c_ret (ed_low (ed_var rfl) (ed_var rfl) e (sx a rfl) (sy b rfl) rfl) (RetD.imp k fun d z => ?_)
          rw [z, eo]
        | _ => cases h
    | _ => cases h
theorem sem_over (hp : SzR 2000 p) (hq : SzR 2000 q) (k : RetD c D.rt (fun d => overO (He.ga c.K "BadRatio") p q = .ok d)) (kx : XtD c E (fun o => o = overO (He.ga c.K "BadRatio") p q)) : Cont c (t_over c.K E D) [.dat (ratD p), .dat (ratD q)] := by
  refine s_when (b := decide (q.num = 0)) (eb_test (ed_eq (ix0 rfl) ed_int rfl rfl)) (fun h => ?_) fun h => ?_
  · refine c_raise1 (D := D) (es_cons ed_str es_nil) kx ?_ (ns := ["what"]) rfl
    have e : overO (He.ga c.K "BadRatio") p q = .ex _ ["what"] [.str "zero"] := if_pos (of_decide_eq_true h)
    rw [e]
  · have h' : q.num ≠ 0 := of_decide_eq_false h
    have e : overO (He.ga c.K "BadRatio") p q = .ok _ := if_neg h'
    refine c_ret ?_ (RetD.imp k fun d z => by rw [z]; exact e)
    refine ed_low (ed_mul (ix0 rfl) (ix1 rfl) hp.num hq.den (by decide)) (ed_mul (ix1 rfl) (ix0 rfl) hp.den hq.num (by decide)) (Int.mul_ne_zero (den_ne p) h') ?_ ?_ rfl
    · exact (hp.num.mul hq.den).mono (by decide)
    · exact (hp.den.mul hq.num).mono (by decide)
theorem sz_add {n m : Nat} (hp : SzR n p) (hq : SzR m q) : SzR (n + m + 1) (p + q) := by
  have e : p + q = Rat.divInt (p.num * q.den + q.num * p.den) (p.den * q.den) := by rw [← Rat.divInt_add_divInt _ _ (den_ne p) (den_ne q), divInt_of, divInt_of]
  rw [e]
  refine .of (Int.mul_ne_zero (den_ne p) (den_ne q)) ?_ ((hp.den.mul hq.den).mono (by omega))
  exact Sz.add (hp.num.mul hq.den) ((hq.num.mul hp.den).mono (by omega))
def sumTo (l : List Rat) (k : Nat) : Rat := (l.take k).foldl (· + ·) 0
theorem take_get {α : Type} {l : List α} {k : Nat} {a : α} (h : l[k]? = some a) : l.take (k + 1) = l.take k ++ [a] := by rw [List.take_add_one, h] <;> rfl
theorem sum_step {l : List Rat} {k : Nat} {a : Rat} (h : l[k]? = some a) : sumTo l (k + 1) = sumTo l k + a := by
  unfold sumTo
  rw [take_get h, List.foldl_append] <;> rfl
theorem ratD_inj {p q : Rat} (h : ratD p = ratD q) : p = q := by
  have h1 := List.cons.inj (Dt.tup.inj h)
  have h2 := List.cons.inj h1.2
  exact Rat.ext (Dt.int.inj h1.1) (Int.ofNat.inj (Dt.int.inj h2.1))
theorem ed_two {f : Rat → Rat → Dt} (ha : ED c ta es (ratD p)) (hb : ED c tb es (ratD q)) (hp : SzR 2000 p) (hq : SzR 2000 q) : ED c (tCall (spD c.K (R_two f)) [] E (tCons ta (tCons tb tNil))) es (f p q) :=
  ed_call (es_cons ha (es_cons hb es_nil)) ⟨p, q, rfl, hp, hq, rfl⟩ fun y ⟨a, b, e, _, _, ey⟩ => by
    have e1 := ratD_inj (List.cons.inj e).1
    have e2 := ratD_inj (List.cons.inj (List.cons.inj e).2).1
    rw [ey, e1, e2]
theorem sz_zero : SzR (1 + 101 * 0) 0 := ⟨show (0 : Nat) < 2 ^ 1 by decide, show (1 : Nat) < 2 ^ 1 by decide⟩
theorem sem_sum_of {l : List Rat} (hz : ∀ H, SqT c.K H (He.ga c.K "ZERO") [.int 0, .int 1]) (hx : itemsD x = some (l.map ratD)) (hl : l.length ≤ 10) (hs : ∀ q ∈ l, SzR 100 q) (k : RetD c D.rt (fun d => d = ratD (l.foldl (· + ·) 0))) : Cont c (t_sum_of c.K D) [.dat x, .no, .no] := by
  refine s_asg (d := ratD 0) (ed_c fun P => .tup (hz P) (.cons (.int 0) (.cons (.int 1) .nil))) ?_
  refine s_for (I := fun k es => SzR (1 + 101 * k) (sumTo l k) ∧ ∃ s, es = [.dat x, .dat (ratD (sumTo l k)), s]) (f := fun y es => es.set 2 (.dat y)) (wi_seq (ed_var rfl) hx) ⟨sz_zero, _, rfl⟩ (fun P y _ => tg_name) (fun P1 L k y es e ⟨h1, s, h2⟩ => ?_) fun es ⟨_, s, h2⟩ => ?_
  · subst h2
    obtain ⟨q, e1, rfl⟩ : ∃ q, l[k]? = some q ∧ ratD q = y := by
      rw [List.getElem?_map] at e
      exact Option.map_eq_some_iff.mp e
    have hk : k < l.length := (List.getElem?_eq_some_iff.mp e1).1
    have hq := hs q (List.mem_of_getElem? e1)
    refine c_asg (ed_two (ed_var rfl) (ed_var rfl) (h1.mono (by omega)) (hq.mono (by decide))) (c_turn' rfl ⟨?_, ?_⟩)
    · rw [sum_step e1]
      exact (sz_add h1 hq).mono (by omega)
    · rw [sum_step e1]
      exact ⟨_, rfl⟩
  · subst h2
    refine c_ret (ED.is (ed_var rfl) ?_) k
    rw [List.length_map]
    unfold sumTo
    rw [List.take_length]
theorem cmp_lt : decide (cmpI p q < 0) = lessR p q := by
  unfold cmpI lessR
  by_cases h : p.num * q.den < q.num * p.den
  · rw [if_pos h, decide_eq_true h] <;> rfl
  · rw [if_neg h, decide_eq_false h]
    split <;> rfl
theorem cmp_gt : decide (0 < cmpI p q) = lessR q p := by
  unfold cmpI lessR
  by_cases h : p.num * q.den < q.num * p.den
  · rw [if_pos h, decide_eq_false (by omega : ¬ q.num * p.den < p.num * q.den)] <;> rfl
  · rw [if_neg h]
    by_cases g : q.num * p.den < p.num * q.den
    · rw [if_pos g, decide_eq_true g] <;> rfl
    · rw [if_neg g, decide_eq_false g] <;> rfl
def pickTo (f : Rat → Rat → Rat) (p : Rat) (l : List Rat) (k : Nat) : Rat := (l.take k).foldl f p
theorem pick_step {f : Rat → Rat → Rat} {l : List Rat} {k : Nat} {a : Rat} (h : l[k]? = some a) : pickTo f p l (k + 1) = f (pickTo f p l k) a := by
  unfold pickTo
  rw [take_get h, List.foldl_append] <;> rfl
theorem items_at {l : List Dt} {i : Nat} {d : Dt} (hx : itemsD x = some l) (h : ED c ta es x) (e : l[i]? = some d) : ED c (tOp (rIx c.K) ta (tC (.int i))) es d := by
  have e2 : atI l (i : Int) = some d := by
    unfold atI
    rw [Evl.ixN_nat (List.getElem?_eq_some_iff.mp e).1]
    exact e
  cases x with
  | lst m => cases Option.some.inj hx; exact ed_ixL h ed_int e2
  | tup m => cases Option.some.inj hx; exact ed_ixT h ed_int e2
  | _ => cases hx
theorem sem_least_of {l : List Rat} (hx : itemsD x = some ((p :: l).map ratD)) (hs : ∀ q ∈ p :: l, SzR 100 q) (k : RetD c D.rt (fun d => d = ratD (leastR p (p :: l)))) : Cont c (t_least_of c.K D) [.dat x, .no, .no] := by
  refine s_asg (items_at (i := 0) hx (ed_var rfl) rfl) ?_
  refine s_for (I := fun k es => SzR 100 (pickTo (fun b q => if lessR q b then q else b) p (p :: l) k) ∧ ∃ s, es = [.dat x, .dat (ratD (pickTo (fun b q => if lessR q b then q else b) p (p :: l) k)), s]) (f := fun y es => es.set 2 (.dat y)) (wi_seq (ed_var rfl) hx) ⟨hs p List.mem_cons_self, _, rfl⟩ (fun P y _ => tg_name) (fun P1 L k y es e ⟨h1, s, h2⟩ => ?_) fun es ⟨_, s, h2⟩ => ?_
  · subst h2
    obtain ⟨q, e1, rfl⟩ : ∃ q, (p :: l)[k]? = some q ∧ ratD q = y := by
      rw [List.getElem?_map] at e
      exact Option.map_eq_some_iff.mp e
    have hq := hs q (List.mem_of_getElem? e1)
    refine c_if (b := lessR q (pickTo (fun b q => if lessR q b then q else b) p (p :: l) k)) (EBd.is (eb_test (ed_B0 (ed_two (ed_var rfl) (ed_var rfl) (hq.mono (by decide)) (h1.mono (by decide))) ed_int)) cmp_lt) (fun h => ?_) fun h => ?_
    · refine c_asg (ed_var rfl) (c_turn' rfl ?_)
      rw [pick_step e1, if_pos h]
      exact ⟨hq, _, rfl⟩
    · refine c_next (c_turn' rfl ?_)
      rw [pick_step e1, if_neg (by rw [h]; decide)]
      exact ⟨h1, _, rfl⟩
  · subst h2
    refine c_ret (ED.is (ed_var rfl) ?_) k
    rw [List.length_map]
    unfold pickTo leastR
    rw [List.take_length]
theorem sem_greatest_of {l : List Rat} (hx : itemsD x = some ((p :: l).map ratD)) (hs : ∀ q ∈ p :: l, SzR 100 q) (k : RetD c D.rt (fun d => d = ratD (greatR p (p :: l)))) : Cont c (t_greatest_of c.K D) [.dat x, .no, .no] := by
  refine s_asg (items_at (i := 0) hx (ed_var rfl) rfl) ?_
  refine s_for (I := fun k es => SzR 100 (pickTo (fun b q => if lessR b q then q else b) p (p :: l) k) ∧ ∃ s, es = [.dat x, .dat (ratD (pickTo (fun b q => if lessR b q then q else b) p (p :: l) k)), s]) (f := fun y es => es.set 2 (.dat y)) (wi_seq (ed_var rfl) hx) ⟨hs p List.mem_cons_self, _, rfl⟩ (fun P y _ => tg_name) (fun P1 L k y es e ⟨h1, s, h2⟩ => ?_) fun es ⟨_, s, h2⟩ => ?_
  · subst h2
    obtain ⟨q, e1, rfl⟩ : ∃ q, (p :: l)[k]? = some q ∧ ratD q = y := by
      rw [List.getElem?_map] at e
      exact Option.map_eq_some_iff.mp e
    have hq := hs q (List.mem_of_getElem? e1)
    refine c_if (b := lessR (pickTo (fun b q => if lessR b q then q else b) p (p :: l) k) q) (EBd.is (eb_test (ed_B0 (ed_two (ed_var rfl) (ed_var rfl) (hq.mono (by decide)) (h1.mono (by decide))) ed_int)) cmp_gt) (fun h => ?_) fun h => ?_
    · refine c_asg (ed_var rfl) (c_turn' rfl ?_)
      rw [pick_step e1, if_pos h]
      exact ⟨hq, _, rfl⟩
    · refine c_next (c_turn' rfl ?_)
      rw [pick_step e1, if_neg (by rw [h]; decide)]
      exact ⟨h1, _, rfl⟩
  · subst h2
    refine c_ret (ED.is (ed_var rfl) ?_) k
    rw [List.length_map]
    unfold pickTo greatR
    rw [List.take_length]
theorem sem_ratio_text (hq : SzR 1900 q) (k : RetD c D.rt (fun d => d = .str (ratText q))) : Cont c (t_ratio_text c.K D) [.dat (ratD q)] := by
  refine s_when (b := decide ((q.den : Int) = 1)) (eb_test (ed_eq (ix1 rfl) ed_int rfl rfl)) (fun h => ?_) fun h => ?_
  · refine c_ret ?_ k
    have e : ratText q = Str.ofString (toString q.num) := if_pos (of_decide_eq_true h)
    rw [e]
    exact ed_strI (ix0 rfl) (Nat.lt_trans (sz_log hq.num (by decide)) (by decide))
  · refine c_ret ?_ k
    have e : ratText q = ((Str.empty ++ Str.ofString (toString q.num)) ++ Str.ofString "/") ++ Str.ofString (toString (q.den : Int)) := (if_neg (of_decide_eq_false h)).trans (by rw [Str.empty_append] <;> rfl)
    rw [e]
    have l1 := text_len hq.num (by decide)
    have l2 := text_len hq.den (by decide)
    have l3 : (Str.ofString "/").length = 1 := by decide +kernel
    exact ed_join3 (ed_fmtI (ix0 rfl) (Nat.lt_trans (sz_log hq.num (by decide)) (by decide))) ed_str (ed_fmtI (ix1 rfl) (Nat.lt_trans (sz_log hq.den (by decide)) (by decide))) (by omega)
end
section
variable {c : Fr} {D : Ends} {E : XK} {es : List Sv} {ta tb : TE} {x y : Dt} {p q : Rat} {a b n t : Int}
theorem sz_lt {k : Nat} {i : Int} (h0 : 0 ≤ i) (h : i < 2 ^ k) : Sz k i := by
  unfold Sz
  have : ((2 ^ k : Nat) : Int) = 2 ^ k := by rw [Int.natCast_pow] <;> rfl
  omega
theorem mod_sz {m x : Int} (hm : 0 < m) (h : m < 2147483648) : Sz 31 (x % m) := by
  have h1 := Int.emod_nonneg x (show m ≠ 0 by omega)
  have h2 := Int.emod_lt_of_pos x hm
  refine sz_lt h1 ?_
  have : (2 : Int) ^ 31 = 2147483648 := rfl
  omega
theorem sz_fdiv {k : Nat} {x m : Int} (hm : 0 < m) (h : Sz k x) : Sz k (x.fdiv m) := by
  rw [Int.fdiv_eq_ediv_of_nonneg _ (by omega)]
  unfold Sz at *
  exact Nat.lt_of_le_of_lt (Int.natAbs_ediv_le_natAbs _ _) h
theorem divA {i : Int} {m : Nat} (h0 : m ≠ 0) (h : m < 2 ^ 64) : CDivA i (m : Int) := cdivA (b := 64) (by omega) (by omega) (by decide) (by decide)
theorem sem_mix (h0 : 0 ≤ n) (h1 : n < 2147483648) (h2 : 0 ≤ t) (h3 : t < 1000) (k : RetD c D.rt (fun d => ∃ z : Int, 0 ≤ z ∧ d = .int z)) : Cont c (t_u_law_mix c.K D) [.dat (.int n), .dat (.int t), .no, .no] := by
  have zn : Sz 31 n := sz_lt h0 h1
  have zt : Sz 31 t := sz_lt h2 (by have : (2 : Int) ^ 31 = 2147483648 := rfl; omega)
  have zc : ∀ {i : Int} (_ : 0 ≤ i) (_ : i < 2147483648), Sz 31 i := fun h0 h1 => sz_lt h0 h1
  have M : ∀ {m : Int} {es : List Sv} {ta : TE} {i : Int}, ED c ta es (.int i) → 0 < m → ED c (tOp (rI (fun _ j => 0 < j) fun i j => .int (i % j)) (tCB (fun xs H Q => (∃ i, xs = [.int i] ∧ Q (.int i) H) ∨ ∃ k, xs = [.bl k] ∧ Q (.int (if k then 1 else 0)) H) (tCons ta tNil)) (tC (.int m))) es (.int (i % m)) := fun h hm => ed_I (ed_int1 h) ed_int hm
  refine s_asg (M (ed_I0 (ed_I0 (ed_mul (ed_var rfl) ed_int zn (zc (by decide) (by decide)) (by decide)) (ed_mul (ed_var rfl) ed_int zt (zc (by decide) (by decide)) (by decide))) ed_int) (by decide)) ?_
  generalize hA : (n * 48271 + t * 16807 + 11) % 2147483647 = A
  have zA : Sz 31 A := by rw [← hA]; exact mod_sz (by decide) (by decide)
  refine s_asg (M (ed_I0 (ed_I0 (ed_mul (ed_var rfl) (ed_var rfl) zA zA (by decide)) (ed_mul (ed_I (ed_var rfl) ed_int (divA (m := 127) (by decide) (by decide))) ed_int (sz_fdiv (by decide) zA) (zc (by decide) (by decide)) (by decide))) (ed_mul (ed_var rfl) ed_int zt (zc (by decide) (by decide)) (by decide))) (by decide)) ?_
  generalize hB : (A * A + A.fdiv ((127 : Nat) : Int) * 40692 + t * 69621) % 2147483399 = B
  have zB : Sz 31 B := by rw [← hB]; exact mod_sz (by decide) (by decide)
  refine c_retV (EV.imp (ed_I (M (ed_I0 (ed_I (ed_mul (ed_var rfl) (ed_var rfl) zB zB (by decide)) ed_int (divA (m := 1009) (by decide) (by decide))) (ed_var rfl)) (by decide)) ed_int (divA (m := 16) (by decide) (by decide))) fun d e => ?_) k
  refine ⟨_, ?_, e⟩
  rw [Int.fdiv_eq_ediv_of_nonneg _ (by decide)]
  exact Int.ediv_nonneg (Int.emod_nonneg _ (by decide)) (by decide)
def absD : Dt → Dt
  | .int i => .int (if i < 0 then -i else i)
  | d => d
/-- a slot without a list -/
def Pl (s : Sv) : Prop := s = .no ∨ ∃ d, s = .dat d
theorem Pl.hands {s s' : Sv} (h : Pl s) (h' : Pl s') {d d' : Dt} : handsOf [.dat d, .dat d', s, s'] = [] := by
  rcases h with rfl | ⟨_, rfl⟩ <;> rcases h' with rfl | ⟨_, rfl⟩ <;> rfl
theorem sem_hand {ns : List Int} (hl : ns.length ≤ 63) (hm : c.mu = []) (k : RetO c D.rt HandOk) : Cont c (t_u_law_hand c.K D) [.dat (.lst (ns.map Dt.int)), .no, .no, .no] := by
  refine s_asg ed_int ?_
  refine s_for (I := fun _ es => ∃ (t : Int) (s s' : Sv), es = [.dat (.lst (ns.map Dt.int)), .dat (.int t), s, s'] ∧ 0 ≤ t ∧ t < 2147483648 ∧ Pl s ∧ Pl s')
    (f := fun y es => match y with
      | .tup [a, b] => (es.set 2 (.dat a)).set 3 (.dat b)
      | _ => es) (vs := [2, 3]) (wi_enum (ed_var rfl)) ⟨0, _, _, rfl, by decide, by decide, .inl rfl, .inl rfl⟩ (fun P y hy => ?_) (fun P1 L k y es e ⟨t, s, s', h2, h3, h4, _, _⟩ => ?_) fun es ⟨t, s, s', h2, h3, h4, h5, h6⟩ => ?_
  · obtain ⟨i, hi, e⟩ := List.mem_mapIdx.mp hy
    subst e
    exact tg_two
  · subst h2
    obtain ⟨n, hn, rfl⟩ : ∃ n, ns[k]? = some n ∧ Dt.tup [.int (k : Nat), .int n] = y := by
      rw [List.getElem?_mapIdx, List.getElem?_map] at e
      cases q : ns[k]? with
      | none => rw [q] at e; cases e
      | some n => rw [q] at e; exact ⟨n, rfl, Option.some.inj e⟩
    have hk : k < ns.length := (List.getElem?_eq_some_iff.mp hn).1
    refine c_asg (ed_I (i := t * 31 + n * ((k : Int) + 7)) (ed_int1 (ed_I0 (ed_I (ed_var rfl) ed_int (.inr ⟨by decide, by decide⟩)) (ed_I (ed_int1 (ed_var rfl)) (ed_I0 (ed_var rfl) ed_int) (.inr ⟨?_, ?_⟩)))) ed_int (show (0 : Int) < 2147483629 by decide)) (c_turn' rfl ⟨_, _, _, rfl, ?_, ?_, .inr ⟨_, rfl⟩, .inr ⟨_, rfl⟩⟩)
    · have : (2 : Int) ^ 64 = 18446744073709551616 := rfl
      omega
    · have : (2 : Int) ^ 64 = 18446744073709551616 := rfl
      omega
    · exact Int.emod_nonneg _ (by decide)
    · have := Int.emod_lt_of_pos (t * 31 + n * ((k : Int) + 7)) (show (0 : Int) < 2147483629 by decide)
      omega
  · subst h2
    refine c_retO (eo_lst (evs_cons (ev_give hm (eo_lc (f := fun y es => es.set 3 (.dat y)) (p := fun _ => true) (fn := absD) (h5.hands h6) (wi_seq (ed_var rfl) rfl) (by rw [List.length_map]; omega) (fun P y _ => tg_name) (fun y _ => h5.hands (.inr ⟨_, rfl⟩)) (fun P _ y _ => eb_yes) fun P _ y hy _ => ?_)) (evs_cons ed_int (evs_cons ed_int (evs_cons (ed_var rfl) es_nil)))) ?_) ?_
    · obtain ⟨n, _, rfl⟩ := List.mem_map.mp hy
      exact ed_abs (ed_int1 (ed_var rfl))
    · rintro l ⟨_, _, rfl, _, _, _, rfl, _, _, _, rfl, _, _, _, rfl, _, rfl⟩
      show 4 ≤ 100000
      decide
    · intro l P H σ es ds h r hn h0 m
      refine k l P H σ es ds ?_ r hn h0 m
      obtain ⟨_, _, rfl, ⟨_, rfl, rfl⟩, _, _, rfl, rfl, _, _, rfl, rfl, _, _, rfl, rfl, rfl⟩ := h
      refine ⟨ns.map fun i => if i < 0 then -i else i, 0, 0, t, ?_, ?_, ?_, by decide, by omega, by decide, h3, h4⟩
      · rw [List.filter_eq_self.mpr (fun _ _ => rfl), List.map_map, List.map_map] <;> rfl
      · intro n hn
        obtain ⟨i, _, rfl⟩ := List.mem_map.mp hn
        split <;> omega
      · rw [List.length_map]; exact hl
end
section
variable {c : Fr} {D : Ends} {E : XK} {es : List Sv} {ta tb : TE} {x y : Dt} {p q : Rat} {b n t : Int} {a : Addr}
theorem ei_mod {α : Int → Prop} {m : Int} (h : EV c ta es (IsI α)) (hb : ED c tb es (.int m)) (hm : 0 < m) : EV c (tOp (rI (fun _ j => 0 < j) fun i j => .int (i % j)) (tCB (fun xs H Q => (∃ i, xs = [.int i] ∧ Q (.int i) H) ∨ ∃ k, xs = [.bl k] ∧ Q (.int (if k then 1 else 0)) H) (tCons ta tNil)) tb) es (fun d => ∃ z : Int, 0 ≤ z ∧ z < m ∧ d = .int z) :=
  EV.imp (ei_I (ei_int1 h) (ei_of hb) fun i j _ e => by rw [e]; exact hm) fun d ⟨k, e, i, j, _, ej, ek⟩ => ⟨k, by rw [ek, ej]; exact Int.emod_nonneg _ (by omega), by rw [ek, ej]; exact Int.emod_lt_of_pos _ hm, e⟩
theorem ev_mix (ha : ED c ta es (.int n)) (hb : ED c tb es (.int t)) (h0 : 0 ≤ n) (h1 : n < 2147483648) (h2 : 0 ≤ t) (h3 : t < 1000) : EV c (tCall (sp_u_law_mix c.K) [] E (tCons ta (tCons tb tNil))) es (IsI fun _ => True) :=
  EV.imp (ev_call (es_cons ha (es_cons hb es_nil)) ⟨.int 0, n, t, rfl, h0, h1, h2, h3, 0, Int.le_refl 0, rfl⟩) fun d ⟨_, _, _, _, _, _, _, z, _, e⟩ => ⟨z, e, trivial⟩
theorem ed_eqI {i j : Int} (ha : ED c ta es (.int i)) (hb : ED c tb es (.int j)) : EBd c (tTest (tOp (rEqD c.K) ta tb)) es (decide (i = j)) := eb_test (ed_eq ha hb rfl rfl)
theorem sem_draw {m : Int} (h0 : 0 < m) (h1 : m < 2 ^ 64) (hm : c.mu = [a]) (k : RetH c a D.rt (fun d => ∃ z : Int, 0 ≤ z ∧ z < m ∧ d = .int z)) : Cont c (t_u_law_draw c.K D) [.hand a, .dat (.int m), .no, .no] := by
  refine c_own (n := 0) rfl fun ds hk => ?_
  obtain ⟨ns, p, r, t, rfl, hn, hl, hp0, hp1, hr, ht0, ht1⟩ := hk
  have I0 : ∀ {es : List Sv} {d0 d1 d2 d3 : Dt}, es[0]? = some (.own a [d0, d1, d2, d3]) → ED c (tOp (rIx c.K) (tVar 0) (tC (.int 0))) es d0 := fun h => ed_ixO h ed_int rfl
  have I1 : ∀ {es : List Sv} {d0 d1 d2 d3 : Dt}, es[0]? = some (.own a [d0, d1, d2, d3]) → ED c (tOp (rIx c.K) (tVar 0) (tC (.int 1))) es d1 := fun h => ed_ixO h ed_int rfl
  have I2 : ∀ {es : List Sv} {d0 d1 d2 d3 : Dt}, es[0]? = some (.own a [d0, d1, d2, d3]) → ED c (tOp (rIx c.K) (tVar 0) (tC (.int 2))) es d2 := fun h => ed_ixO h ed_int rfl
  have I3 : ∀ {es : List Sv} {d0 d1 d2 d3 : Dt}, es[0]? = some (.own a [d0, d1, d2, d3]) → ED c (tOp (rIx c.K) (tVar 0) (tC (.int 3))) es d3 := fun h => ed_ixO h ed_int rfl
  have rest : ∀ (p r : Int) s, 0 ≤ p → p ≤ ns.length → 0 ≤ r → Cont c ((tSeq (tIfS (tTest (tOp (rI0 fun i j => .bl (decide (j < i))) (tOp (rIx c.K) (tVar 0) (tC (.int 2))) (tC (.int 0)))) (tSeq (tAsg (tOp (rIx c.K) (tVar 0) (tC (.int 2))) (gName 3))
    (tSeq (tAsg (tOp (rI CDivA fun i j => .int (i.fdiv j)) (tVar 3) (tVar 1)) (gSub (tVar 0) (tC (.int 2)) rSetL))
    (tRet (tOp (rI (fun _ j => 0 < j) fun i j => .int (i % j)) (tCB (fun xs H Q => (∃ i, xs = [.int i] ∧ Q (.int i) H) ∨ ∃ k, xs = [.bl k] ∧ Q (.int (if k then 1 else 0)) H) (tCons (tVar 3) tNil)) (tVar 1))))) tNext)
    (tSeq (tAsg (tOp (rI (fun _ j => 0 < j) fun i j => .int (i % j)) (tCB (fun xs H Q => (∃ i, xs = [.int i] ∧ Q (.int i) H) ∨ ∃ k, xs = [.bl k] ∧ Q (.int (if k then 1 else 0)) H) (tCons (tOp (rI0 fun i j => .int (i + j)) (tOp (rIx c.K) (tVar 0) (tC (.int 3))) (tC (.int 1))) tNil)) (tC (.int 2147483629))) (gSub (tVar 0) (tC (.int 3)) rSetL))
    (tRet (tOp (rI (fun _ j => 0 < j) fun i j => .int (i % j)) (tCB (fun xs H Q => (∃ i, xs = [.int i] ∧ Q (.int i) H) ∨ ∃ k, xs = [.bl k] ∧ Q (.int (if k then 1 else 0)) H) (tCons (tCall (sp_u_law_mix c.K) [] E0 (tCons (tOp (rIx c.K) (tVar 0) (tC (.int 3))) (tCons (tOp (rIx c.K) (tVar 0) (tC (.int 1))) tNil))) tNil)) (tVar 1))))) D)
      [.own a [.lst (ns.map Dt.int), .int p, .int r, .int t], .dat (.int m), s, .no] := fun p r s hp0 hp1 hr => by
    refine s_when (b := decide (0 < r)) (eb_test (ed_B0 (I2 rfl) ed_int)) (fun _ => ?_) fun _ => ?_
    · refine s_asg (I2 rfl) ?_
      have hc : CDivA r m := cdivA (b := 64) (by omega) (by have : (2 : Int) ^ 64 = 18446744073709551616 := rfl; have : (2 : Nat) ^ 64 = 18446744073709551616 := rfl; omega) (by decide) (by decide)
      refine s_set (n := 0) (j := 2) rfl (ed_I (ed_var rfl) (ed_var rfl) hc) ed_int (by show 2 < 4; decide) fun d e => ?_
      subst e
      refine c_retH (n := 0) (ei_mod (ei_of (ed_var rfl)) (ed_var rfl) h0) k hm rfl ⟨ns, p, r.fdiv m, t, rfl, hn, hl, hp0, hp1, ?_, ht0, ht1⟩
      rw [Int.fdiv_eq_ediv_of_nonneg _ (by omega)]
      exact Int.ediv_nonneg hr (by omega)
    · refine s_set (n := 0) (j := 3) rfl (ed_I (ed_int1 (ed_I0 (I3 rfl) ed_int)) ed_int (show (0 : Int) < 2147483629 by decide)) ed_int (by show 3 < 4; decide) fun d e => ?_
      subst e
      have u0 := Int.emod_nonneg (t + 1) (show (2147483629 : Int) ≠ 0 by decide)
      have u1 := Int.emod_lt_of_pos (t + 1) (show (0 : Int) < 2147483629 by decide)
      refine c_retH (n := 0) (ei_mod (ev_mix (I3 rfl) (I1 rfl) u0 (by omega) hp0 (by omega)) (ed_var rfl) h0) k hm rfl ⟨ns, p, r, _, rfl, hn, hl, hp0, hp1, hr, u0, by omega⟩
  refine s_when (b := decide (r = 0) && decide (p < ns.length)) (eb_and (ed_eqI (I2 rfl) ed_int) fun _ => eb_test (ed_B0 (I1 rfl) (ed_len (I0 rfl) (by show some (ns.map Dt.int).length = _; rw [List.length_map])))) (fun h => ?_) fun _ => rest p r _ hp0 hp1 hr
  obtain ⟨g1, g2⟩ := Bool.and_eq_true_iff.mp h
  have g1 := of_decide_eq_true g1
  have g2 := of_decide_eq_true g2
  subst g1
  obtain ⟨pn, rfl⟩ : ∃ pn : Nat, p = pn := ⟨p.toNat, by omega⟩
  have hpn : pn < ns.length := by omega
  have e2 : atI (ns.map Dt.int) (pn : Int) = some (.int ns[pn]) := by
    unfold atI
    rw [Evl.ixN_nat (by rw [List.length_map]; exact hpn)]
    show (ns.map Dt.int)[pn]? = _
    rw [List.getElem?_map, List.getElem?_eq_getElem hpn] <;> rfl
  have hc := hn ns[pn] (List.getElem_mem hpn)
  generalize ns[pn] = cell at e2 hc
  refine s_asg (ed_ixL (I0 rfl) (I1 rfl) e2) ?_
  refine s_set (n := 0) (j := 1) rfl (ed_I0 (I1 rfl) ed_int) ed_int (by show 1 < 4; decide) fun d e => ?_
  subst e
  refine s_when (b := decide (cell < 10 ^ 18)) (EBd.is (eb_test (ed_B0 (ed_var rfl) (ed_I ed_int ed_int ⟨by decide, by decide, by decide⟩))) rfl) (fun _ => ?_) fun _ => ?_
  · have u0 := Int.emod_nonneg cell (show (2147483647 : Int) ≠ 0 by decide)
    have u1 := Int.emod_lt_of_pos cell (show (0 : Int) < 2147483647 by decide)
    exact c_retH (n := 0) (ei_mod (ev_mix (ed_I (ed_int1 (ed_var rfl)) ed_int (show (0 : Int) < 2147483647 by decide)) (I1 rfl) u0 (by omega) (by omega) (by omega)) (ed_var rfl) h0) k hm rfl ⟨ns, pn + 1, 0, t, rfl, hn, hl, by omega, by omega, hr, ht0, ht1⟩
  · refine c_set (n := 0) (j := 2) rfl (ed_var rfl) ed_int (by show 2 < 4; decide) fun d e => ?_
    subst e
    exact rest (pn + 1) cell _ (by omega) (by omega) hc
end
theorem eqv_ratD {p q : Rat} : eqv (ratD p) (ratD q) = decide (p = q) := by
  show ((p.num == q.num) && (((p.den : Int) == q.den) && true)) = _
  by_cases h : p = q
  · subst h
    rw [decide_eq_true rfl, beq_self_eq_true, beq_self_eq_true] <;> rfl
  · rw [decide_eq_false h]
    cases h1 : (p.num == q.num) with
    | false => rfl
    | true =>
      cases h2 : ((p.den : Int) == q.den) with
      | false => rfl
      | true => exact (h (Rat.ext (eq_of_beq h1) (Int.ofNat.inj (eq_of_beq h2)))).elim
section
variable {c : Fr} {D : Ends} {E : XK} {es : List Sv} {ta tb te tx : TE} {x y u l : Dt} {p q : Rat} {a b e f n t : Int}
theorem eb_notT (h : ED c te es (.bl true)) : EBd c (tNot (tB te)) es false := eb_not (eb_B h)
theorem eb_or2 {tt tu : TT} (h : EBd c tt es false) (k : EBd c tu es false) : EBd c (tOr tt tu) es false := eb_or h fun _ => k
theorem eb_neF {i j : Int} (ha : ED c ta es (.int i)) (hb : ED c tb es (.int j)) (h : i = j) : EBd c (tTest (tOp (rNeD c.K) ta tb)) es false :=
  EBd.is (eb_test (ed_ne ha hb rfl rfl)) (by rw [eqv_int, decide_eq_true h] <;> rfl)
theorem eqv_strS (s : Str) : eqv (.str s) (.str s) = true := beq_self_eq_true s
theorem text_ok (p : Rat) : PyData.strOk (ratText p) = true := by
  unfold ratText
  split
  · exact ok_of _
  · exact ok_app (ok_app (ok_of _) (ok_of _)) (ok_of _)
theorem ed_cmp (ha : ED c ta es (ratD p)) (hb : ED c tb es (ratD q)) (hp : SzR 2000 p) (hq : SzR 2000 q) : ED c (tCall (sp_compare c.K) [] E (tCons ta (tCons tb tNil))) es (.int (cmpI p q)) := ed_two (f := fun p q => .int (cmpI p q)) ha hb hp hq
theorem ed_negR (h : ED c ta es (ratD p)) : ED c (tCall (sp_negative c.K) [] E (tCons ta tNil)) es (ratD (-p)) :=
  ed_call (es_cons h es_nil) ⟨p, rfl, rfl⟩ fun y ⟨p', e, ey⟩ => by rw [ey, ratD_inj (List.cons.inj e).1]
theorem ed_floor (h : ED c ta es (ratD p)) (hp : SzR 2000 p) : ED c (tCall (sp_floor_of c.K) [] E (tCons ta tNil)) es (.int (p.num / p.den)) :=
  ed_call (es_cons h es_nil) ⟨p, rfl, hp, rfl⟩ fun y ⟨p', e, _, ey⟩ => by rw [ey, ratD_inj (List.cons.inj e).1]
theorem ed_text (h : ED c ta es (ratD p)) (hp : SzR 1900 p) : ED c (tCall (sp_ratio_text c.K) [] E (tCons ta tNil)) es (.str (ratText p)) :=
  ed_call (es_cons h es_nil) ⟨p, rfl, hp, rfl⟩ fun y ⟨p', e, _, ey⟩ => by rw [ey, ratD_inj (List.cons.inj e).1]
theorem ev_draw {k : Nat} {ad : Addr} {m : Int} (hn : es[k]? = some (.hand ad)) (h : ED c ta es (.int m)) (h0 : 0 < m) (h1 : m < 2 ^ 64) : EV c (tCall (sp_u_law_draw c.K) [] E (tCons (tVar k) (tCons ta tNil))) es (IsI fun z => 0 ≤ z ∧ z < m) :=
  EV.imp (ev_callH hn (es_cons h es_nil) fun l e => by
    subst e
    exact ⟨.int 0, m, rfl, h0, h1, 0, Int.le_refl 0, h0, rfl⟩) fun d ⟨l, e, m', e', _, _, z, z0, z1, ez⟩ => by
    subst e
    cases e'
    exact ⟨z, ez, z0, z1⟩
theorem ed_isratio (h : ED c ta es x) (hx : Kins x) : ED c (tCall (sp_is_ratio c.K) [] E (tCons ta tNil)) es (.bl (ratioB x)) :=
  ed_call (es_cons h es_nil) ⟨x, rfl, hx, rfl⟩ fun y ⟨x', e, _, ey⟩ => by rw [ey, (List.cons.inj e).1]
theorem kins_of {d : Dt} (h : Kin d) (hn : isTup d = false) : Kins d := ⟨h, (fun l e => by rw [e] at hn; cases hn), fun l e => by rw [e] at hn; cases hn⟩
theorem kins_tup {l : List Dt} (h : ∀ y ∈ l, Kin y) : Kins (.tup l) := ⟨rfl, (fun m e => by cases e; exact h), fun m e => by cases e⟩
theorem ratio_of (q : Rat) : ratioB (ratD q) = true := by
  show (decide ((1 : Int) ≤ q.den) && decide (Nat.gcd q.num.natAbs q.den = 1)) = true
  have := den_pos q
  rw [decide_eq_true (by omega), decide_eq_true q.reduced] <;> rfl
theorem eb_word {s : Str} (h : ED c ta es d) (e : d = .str s) (hs : PyData.strOk s = true) : EBd c (tTest (tOp (rNeD c.K) ta (tC (.str s)))) es false :=
  EBd.is (eb_test (ed_ne (x := .str s) (y := .str s) (h.is e) ed_str (fine_str hs) (fine_str hs))) (by rw [eqv_strS] <;> rfl)
end
theorem maps_inj : ∀ {l m : List Rat}, l.map ratD = m.map ratD → l = m
  | [], [], _ => rfl
  | [], _ :: _, h => by cases h
  | _ :: _, [], h => by cases h
  | p :: l, q :: m, h => by
    have h' := List.cons.inj h
    rw [ratD_inj h'.1, maps_inj h'.2]
theorem fine_rats (l : List Rat) : fine (.lst (l.map ratD)) = true := by
  have h1 : bareAll (l.map ratD) = true := by
    induction l with
    | nil => rfl
    | cons p l ih => exact ih
  have h2 : PyData.canLayAll0 (pyAll (l.map ratD)) = true := by
    induction l with
    | nil => rfl
    | cons p l ih =>
      show (PyData.canLay0 (py (ratD p)) && PyData.canLayAll0 (pyAll (l.map ratD))) = true
      rw [ih h1] <;> rfl
  have h3 : PyData.depthAll (pyAll (l.map ratD)) ≤ 1 := by
    clear h1 h2
    induction l with
    | nil => exact Nat.zero_le _
    | cons p l ih =>
      show max (PyData.depth (py (ratD p))) (PyData.depthAll (pyAll (l.map ratD))) ≤ 1
      exact Nat.max_le.mpr ⟨Nat.le_refl _, ih⟩
  show (bareAll (l.map ratD) && (PyData.canLayAll0 (pyAll (l.map ratD)) && decide (PyData.depthAll (pyAll (l.map ratD)) + 1 ≤ 64))) = true
  rw [h1, h2, decide_eq_true (by omega)] <;> rfl
theorem eqv_rats (l : List Rat) : eqv (.lst (l.map ratD)) (.lst (l.map ratD)) = true := by
  show PyData.eqvAll (pyAll (l.map ratD)) (pyAll (l.map ratD)) = true
  induction l with
  | nil => rfl
  | cons p l ih =>
    show (eqv (ratD p) (ratD p) && PyData.eqvAll (pyAll (l.map ratD)) (pyAll (l.map ratD))) = true
    rw [ih, eqv_ratD, decide_eq_true rfl] <;> rfl
end Lw
set_option Elab.async false
set_option linter.all false
set_option maxRecDepth 100000
set_option maxHeartbeats 4000000
/-! More of ratios.py: is_sequence, merged_ratios, ascending_ratios, middle_of_two. -/
namespace Lw
open PySem PySem.Spec PyProof.Rows L2 My
local macro_rules | `(tactic| walk_at "ed") => `(tactic| first
  | exact ed_int | exact ed_bl | exact ed_str | exact ed_non
  | exact ed_var rfl
  | (apply ed_I0; (focus walk_at "ed"); (focus walk_at "ed"))
  | (apply ed_B0; (focus walk_at "ed"); (focus walk_at "ed"))
  | (apply ed_neg; (focus walk_at "ed"))
  | (apply ed_ixT; (focus walk_at "ed"); (focus walk_at "ed"); (focus rfl))
  | (apply ed_ixL; (focus walk_at "ed"); (focus walk_at "ed"); (focus rfl))
  | (apply ed_ixO; (focus rfl); (focus walk_at "ed"); (focus rfl))
  | (apply ed_len; (focus walk_at "ed"); (focus rfl))
  | (apply ed_lenO; (focus rfl))
  | (apply ed_tup; (focus walk_at "ed"); (focus (simp only [List.length_cons, List.length_nil]; decide)))
  | (apply ed_eq; (focus walk_at "ed"); (focus walk_at "ed"); (focus rfl); (focus rfl))
  | (apply ed_ne; (focus walk_at "ed"); (focus walk_at "ed"); (focus rfl); (focus rfl))
  | (apply ed_isN; (focus walk_at "ed"))
  | (apply ed_notN; (focus walk_at "ed"))
  | (apply ed_isB; (focus walk_at "ed"); (focus walk_at "ed"))
  | (apply ed_notB; (focus walk_at "ed"); (focus walk_at "ed"))
  | (apply ed_isi; (focus walk_at "ed"); (focus first | rfl | assumption); (focus decide +kernel))
  | (apply ed_isi2; (focus walk_at "ed"); (focus first | rfl | assumption); (focus decide +kernel); (focus decide +kernel))
  | (apply ed_not; (focus walk_at "ed"))
  | (apply ed_int1; (focus walk_at "ed"))
  | (apply ed_abs; (focus walk_at "ed"))
  | (apply ed_gcd; (focus walk_at "ed"); (focus walk_at "ed"))
  | exact es_nil
  | (apply es_cons; (focus walk_at "ed"); (focus walk_at "ed"))
  | (apply eb_test; (focus walk_at "ed"))
  | (apply eb_B; (focus walk_at "ed"))
  | (apply eb_not; (focus walk_at "ed")))
/-! promises -/
def isSeqB : Dt → Bool
  | .lst _ => true
  | .tup _ => true
  | .tupN _ => true
  | _ => false
def seqB (x lo hi : Dt) : Bool := match itemsD x with
  | some l => wholeB (.int l.length) lo hi
  | none => false
def NN (x : Dt) : Prop := ∀ l, x ≠ .tupN l
def R_is_sequence (ds : List Dt) (d : Dt) : Prop := ∃ x lo hi, ds = [x, lo, hi] ∧ Kin x ∧ NN x ∧ Lim lo ∧ Lim hi ∧ d = .bl (seqB x lo hi)
def sp_is_sequence (K : PySem.W.Frag) : Sp := spD K R_is_sequence
def mergeR : List Rat → List Rat → List Rat
  | [], b => b
  | a :: as, [] => a :: as
  | a :: as, b :: bs => if lessR a b then a :: mergeR as (b :: bs) else if lessR b a then b :: mergeR (a :: as) bs else b :: mergeR as bs
termination_by a b => a.length + b.length
def R_merged (ds : List Dt) (d : Dt) : Prop := ∃ a b : List Rat, ds = [.tup (a.map ratD), .tup (b.map ratD)] ∧ a.length + b.length ≤ 50000 ∧ (∀ q ∈ a, SzR 2000 q) ∧ (∀ q ∈ b, SzR 2000 q) ∧ d = .tup ((mergeR a b).map ratD)
def sp_merged_ratios (K : PySem.W.Frag) : Sp := spD K R_merged
/-- by halves, n turns deep -/
def sortR : Nat → List Rat → List Rat
  | 0, l => l
  | n + 1, l => if l.length < 2 then l else mergeR (sortR n (l.take (l.length / 2))) (sortR n (l.drop (l.length / 2)))
def R_ascend (n : Nat) (ds : List Dt) (d : Dt) : Prop := ∃ l : List Rat, ds = [.lst (l.map ratD)] ∧ l.length ≤ 2 ^ n ∧ l.length ≤ 50000 ∧ (∀ q ∈ l, SzR 2000 q) ∧ d = .tup ((sortR n l).map ratD)
def sp_asc (n : Nat) (K : PySem.W.Frag) : Sp := spD K (R_ascend n)
def sp_ascending_ratios (K : PySem.W.Frag) : Sp := sp_asc 8 K
def R_pairs (ds : List Dt) (l : List Dt) : Prop := ∃ n : Nat, ds = [.int n] ∧ n ≤ 1000 ∧ l = (List.range n).flatMap fun a => ((List.range n).filter fun b => decide (a < b)).map fun b => Dt.tup [.int (a : Nat), .int (b : Nat)]
def sp_number_pairs (K : PySem.W.Frag) : Sp := spO K R_pairs
def t_is_sequence (K : PySem.W.Frag) : TS :=
  (tRet (tAndV (tCB (rIsiT K) (tCons (tVar 0) (tCons (tTup (tCons (tC (.ty "list")) (tCons (tC (.ty "tuple")) tNil))) tNil))) (tCall (sp_is_whole K) [] E0 (tCons (tCB (Evl.rLenS K) (tCons (tVar 0) tNil)) (tCons (tVar 1) (tCons (tVar 2) tNil))))))
def t_number_pairs (K : PySem.W.Frag) : TS :=
  (tRet (tLc2 (iRng1 (tCons (tVar 0) tNil)) (gName 1) tYes (iRng2 (tCons (tOp (rI0 fun i j => .int (i + j)) (tVar 1) (tC (.int 1))) (tCons (tVar 0) tNil))) (gName 2) tYes (tTup (tCons (tVar 1) (tCons (tVar 2) tNil))) [1, 2] [2]))
def t_merged_ratios (K : PySem.W.Frag) : TS :=
  (tSeq (tAsg (tLst tNil) (gName 2))
    (tSeq (tAsg (tC (.int 0)) (gName 3))
    (tSeq (tAsg (tC (.int 0)) (gName 4))
    (tSeq (tWhile (tAnd (tTest (tOp (rI0 fun i j => .bl (decide (i < j))) (tVar 3) (tCB (Evl.rLenS K) (tCons (tVar 0) tNil)))) (tTest (tOp (rI0 fun i j => .bl (decide (i < j))) (tVar 4) (tCB (Evl.rLenS K) (tCons (tVar 1) tNil))))) (tSeq (tAsg (tCall (sp_compare K) [] E0 (tCons (tOp (rIx K) (tVar 0) (tVar 3)) (tCons (tOp (rIx K) (tVar 1) (tVar 4)) tNil))) (gName 5))
    (tSeq (tDrop (tBM K "list" rAppend (tVar 2) (tCons (tIf (tTest (tOp (rI0 fun i j => .bl (decide (i < j))) (tVar 5) (tC (.int 0)))) (tOp (rIx K) (tVar 0) (tVar 3)) (tOp (rIx K) (tVar 1) (tVar 4))) tNil)))
    (tSeq (tIfS (tTest (tOp (rI0 fun i j => .bl (decide (i ≤ j))) (tVar 5) (tC (.int 0)))) (tAug 3 (tC (.int 1)) (ipI fun i j => i + j)) tNext)
    (tIfS (tTest (tOp (rI0 fun i j => .bl (decide (j ≤ i))) (tVar 5) (tC (.int 0)))) (tAug 4 (tC (.int 1)) (ipI fun i j => i + j)) tNext)))))
    (tRet (tCB (rTupleOf K) (tCons (tOp rCat (tOp rCat (tVar 2) (tCB (Evl.rListS K) (tCons (tSl (rSlA K) (tVar 0) (tPart (tVar 3)) tNoPart) tNil))) (tCB (Evl.rListS K) (tCons (tSl (rSlA K) (tVar 1) (tPart (tVar 4)) tNoPart) tNil))) tNil)))))))
def t_ascending_ratios (K : PySem.W.Frag) (spR : Sp) : TS :=
  (tSeq (tIfS (tTest (tOp (rI0 fun i j => .bl (decide (i < j))) (tCB (Evl.rLenS K) (tCons (tVar 0) tNil)) (tC (.int 2)))) (tRet (tCB (rTupleOf K) (tCons (tVar 0) tNil))) tNext)
    (tSeq (tAsg (tOp (rI CDivA fun i j => .int (i.fdiv j)) (tCB (Evl.rLenS K) (tCons (tVar 0) tNil)) (tC (.int 2))) (gName 1))
    (tRet (tCall (sp_merged_ratios K) [] E0 (tCons (tCall spR [] E0 (tCons (tSl (rSlL K) (tVar 0) tNoPart (tPart (tVar 1))) tNil)) (tCons (tCall spR [] E0 (tCons (tSl (rSlL K) (tVar 0) (tPart (tVar 1)) tNoPart) tNil)) tNil))))))
def t_middle_of_two (K : PySem.W.Frag) : TS :=
  (tRet (tCall (sp_times K) [] E0 (tCons (tCall (sp_plus K) [] E0 (tCons (tVar 0) (tCons (tVar 1) tNil))) (tCons (tC (.ref (He.ga K "HALF"))) tNil))))
section
variable {c : Fr} {D : Ends} {E : XK} {es : List Sv} {ta tb te tx : TE} {x y lo hi : Dt} {p q : Rat} {a b : List Rat} {n i j : Nat}
theorem isi2_seq (hx : Kin x) : (match tyD x with | some t => isB t "list" || isB t "tuple" | none => false) = isSeqB x := by
  cases x with
  | obj _ _ _ => rfl
  | non => exact (by decide +kernel : (isB "NoneType" "list" || isB "NoneType" "tuple") = false)
  | bl _ => exact (by decide +kernel : (isB "bool" "list" || isB "bool" "tuple") = false)
  | int _ => exact (by decide +kernel : (isB "int" "list" || isB "int" "tuple") = false)
  | str _ => exact (by decide +kernel : (isB "str" "list" || isB "str" "tuple") = false)
  | lst _ => exact (by decide +kernel : (isB "list" "list" || isB "list" "tuple") = true)
  | tup _ => exact (by decide +kernel : (isB "tuple" "list" || isB "tuple" "tuple") = true)
  | tupN _ => exact (by decide +kernel : (isB "tuple" "list" || isB "tuple" "tuple") = true)
theorem ed_isSeq (ha : ED c ta es x) (hx : Kin x) : ED c (tCB (rIsiT c.K) (tCons ta (tCons (tTup (tCons (tC (.ty "list")) (tCons (tC (.ty "tuple")) tNil))) tNil))) es (.bl (isSeqB x)) := by
  obtain ⟨t, e⟩ := kin_some hx
  have q := ed_isi2 (n := "list") (m := "tuple") ha e (kit_some (ty_mem e) (by decide)) (kit_some (ty_mem e) (by decide))
  have z := isi2_seq hx
  rw [e] at z
  rw [← z]
  exact q
theorem ed_wholeL {l u : Dt} {tl tu : TE} (h : ED c ta es x) (hl : ED c tl es l) (hu : ED c tu es u) (hx : Kin x) (hL : Lim l) (hU : Lim u) : ED c (tCall (sp_is_whole c.K) [] E (tCons ta (tCons tl (tCons tu tNil)))) es (.bl (wholeB x l u)) :=
  ed_call (es_cons h (es_cons hl (es_cons hu es_nil))) ⟨x, l, u, rfl, hx, hL, hU, rfl⟩ fun y ⟨a, b, d, e, _, _, _, ey⟩ => by
    cases e
    exact ey
theorem sem_is_sequence (hx : Kin x) (hN : NN x) (hL : Lim lo) (hU : Lim hi) (k : RetD c D.rt (fun d => d = .bl (seqB x lo hi))) : Cont c (t_is_sequence c.K D) [.dat x, .dat lo, .dat hi] := by
  cases e : itemsD x with
  | none =>
    have e1 : isSeqB x = false := by cases x <;> first | rfl | exact (hN _ rfl).elim | cases e
    have e2 : seqB x lo hi = false := by
      unfold seqB
      rw [e]
    rw [e2] at k
    refine c_ret (ED.is (ed_and (b := false) (b' := false) (e1 ▸ ed_isSeq (ed_var rfl) hx) fun z => by cases z) rfl) k
  | some l =>
    have e1 : isSeqB x = true := by cases x <;> first | rfl | cases e
    have e2 : seqB x lo hi = wholeB (.int l.length) lo hi := by
      unfold seqB
      rw [e]
    have el : lenD x = some l.length := by cases x <;> first | (cases e; rfl) | cases e
    rw [e2] at k
    refine c_ret (ED.is (ed_and (b := true) (b' := wholeB (.int l.length) lo hi) (e1 ▸ ed_isSeq (ed_var rfl) hx) fun _ => ed_wholeL (ed_len (ed_var rfl) el) (ed_var rfl) (ed_var rfl) rfl hL hU) rfl) k
theorem sem_middle (hz : ∀ H, SqT c.K H (He.ga c.K "HALF") [.int 1, .int 2]) (hp : SzR 500 p) (hq : SzR 500 q) (k : RetD c D.rt (fun d => d = ratD ((p + q) * Rat.divInt 1 2))) : Cont c (t_middle_of_two c.K D) [.dat (ratD p), .dat (ratD q)] := by
  have eh : ratD (Rat.divInt 1 2) = .tup [.int 1, .int 2] := by
    show Dt.tup [.int (Rat.divInt 1 2).num, .int (Rat.divInt 1 2).den] = _
    rw [show (Rat.divInt 1 2).num = 1 by decide +kernel, show (((Rat.divInt 1 2).den : Nat) : Int) = 2 by decide +kernel]
  refine c_ret (ed_two (f := fun p q => ratD (p * q)) (ed_two (f := fun p q => ratD (p + q)) (ed_var rfl) (ed_var rfl) (hp.mono (by decide)) (hq.mono (by decide))) (ED.is (ed_c fun P => .tup (hz P) (.cons (.int 1) (.cons (.int 2) .nil))) eh.symm) ((sz_add hp hq).mono (by decide)) ⟨?_, ?_⟩) k
  · show (Rat.divInt 1 2).num.natAbs < 2 ^ 2000
    exact Nat.lt_of_lt_of_le (show (Rat.divInt 1 2).num.natAbs < 2 ^ 2 by decide +kernel) (Nat.pow_le_pow_right (by decide) (by decide))
  · show (((Rat.divInt 1 2).den : Int)).natAbs < 2 ^ 2000
    exact Nat.lt_of_lt_of_le (show (((Rat.divInt 1 2).den : Int)).natAbs < 2 ^ 2 by decide +kernel) (Nat.pow_le_pow_right (by decide) (by decide))
theorem c_ifU {f : Int → Int → Int} {tt : TT} {te : TE} {n : Nat} {u v : Int} {b : Bool} (h : EBd c tt es b) (h0 : es[n]? = some (.dat (.int u))) (h1 : ED c te es (.int v)) (k1 : b = true → Cont c D.nx (es.set n (.dat (.int (f u v))))) (k2 : b = false → Cont c D.nx es) : Cont c (tIfS tt (tAug n te (ipI f)) tNext D) es :=
  c_if h (fun z => c_aug h0 h1 (k1 z)) k2
theorem s_ifU {f : Int → Int → Int} {tt : TT} {te : TE} {n : Nat} {u v : Int} {b : Bool} {w : TS} (h : EBd c tt es b) (h0 : es[n]? = some (.dat (.int u))) (h1 : ED c te es (.int v)) (k1 : b = true → Cont c (w D) (es.set n (.dat (.int (f u v))))) (k2 : b = false → Cont c (w D) es) : Cont c (tSeq (tIfS tt (tAug n te (ipI f)) tNext) w D) es :=
  c_seq (c_ifU h h0 h1 k1 k2)
theorem cmp_le : decide (cmpI p q ≤ 0) = !lessR q p := by
  have h := cmp_gt (p := p) (q := q)
  by_cases z : 0 < cmpI p q
  · rw [decide_eq_true z] at h
    rw [← h, decide_eq_false (by omega)] <;> rfl
  · rw [decide_eq_false z] at h
    rw [← h, decide_eq_true (by omega)] <;> rfl
theorem cmp_ge : decide (0 ≤ cmpI p q) = !lessR p q := by
  have h := cmp_lt (p := p) (q := q)
  by_cases z : cmpI p q < 0
  · rw [decide_eq_true z] at h
    rw [← h, decide_eq_false (by omega)] <;> rfl
  · rw [decide_eq_false z] at h
    rw [← h, decide_eq_true (by omega)] <;> rfl
theorem less_asym (h : lessR p q = true) : lessR q p = false := by
  unfold lessR at *
  have h := of_decide_eq_true h
  exact decide_eq_false (by omega)
theorem merge_nilR : ∀ a : List Rat, mergeR a [] = a
  | [] => by rw [mergeR]
  | _ :: _ => by rw [mergeR]
theorem cut_from (l : List Dt) (h : i ≤ l.length) : My.cutD l (some (i : Int)) none = l.drop i := by
  unfold My.cutD
  rw [HT.sIx_nat, HT.sIx_none, Nat.min_eq_left h]
  exact List.take_of_length_le (by rw [List.length_drop]; exact Nat.le_refl _)
theorem cut_to (l : List Dt) (h : i ≤ l.length) : My.cutD l none (some (i : Int)) = l.take i := by
  unfold My.cutD
  rw [HT.sIx_nat, HT.sIx_none, Nat.min_eq_left h, Nat.sub_zero, List.drop_zero]
theorem sem_merged (hm : c.mu = []) (hl : a.length + b.length ≤ 50000) (ha : ∀ q ∈ a, SzR 2000 q) (hb : ∀ q ∈ b, SzR 2000 q) (k : RetD c D.rt (fun d => d = .tup ((mergeR a b).map ratD))) : Cont c (t_merged_ratios c.K D) [.dat (.tup (a.map ratD)), .dat (.tup (b.map ratD)), .no, .no, .no, .no] := by
  refine s_asgO (eo_lst es_nil fun l e => by rw [e]; exact Nat.zero_le _) fun ad ds e => ?_
  subst e
  refine s_asg ed_int (s_asg ed_int ?_)
  refine s_while (I := fun m es => ∃ (f : List Rat) (i j : Nat) (s : Sv), es = [.dat (.tup (a.map ratD)), .dat (.tup (b.map ratD)), .own ad (f.map ratD), .dat (.int i), .dat (.int j), s] ∧ i ≤ a.length ∧ j ≤ b.length ∧ f.length ≤ i + j ∧ m + i + j = a.length + b.length ∧ f ++ mergeR (a.drop i) (b.drop j) = mergeR a b)
    (a.length + b.length) ⟨[], 0, 0, _, rfl, Nat.zero_le _, Nat.zero_le _, Nat.le_refl _, by omega, rfl⟩ fun m es ⟨f, i, j, s, e, hi, hj, hf, hmm, hM⟩ => ?_
  subst e
  have la : ∀ {es : List Sv}, es[0]? = some (.dat (.tup (a.map ratD))) → ED c (tCB (Evl.rLenS c.K) (tCons (tVar 0) tNil)) es (.int a.length) := fun h => ed_len (ed_var h) (by show some (a.map ratD).length = _; rw [List.length_map])
  have lb : ∀ {es : List Sv}, es[1]? = some (.dat (.tup (b.map ratD))) → ED c (tCB (Evl.rLenS c.K) (tCons (tVar 1) tNil)) es (.int b.length) := fun h => ed_len (ed_var h) (by show some (b.map ratD).length = _; rw [List.length_map])
  refine ⟨decide ((i : Int) < a.length) && decide ((j : Int) < b.length), eb_and (eb_test (ed_B0 (ed_var rfl) (la rfl))) fun _ => eb_test (ed_B0 (ed_var rfl) (lb rfl)), fun h => ?_, fun h => ?_⟩
  · obtain ⟨h1, h2⟩ := Bool.and_eq_true_iff.mp h
    have h1 : i < a.length := by have := of_decide_eq_true h1; omega
    have h2 : j < b.length := by have := of_decide_eq_true h2; omega
    have ea : a.drop i = a[i] :: a.drop (i + 1) := List.drop_eq_getElem_cons h1
    have eb : b.drop j = b[j] :: b.drop (j + 1) := List.drop_eq_getElem_cons h2
    have za := ha a[i] (List.getElem_mem h1)
    have zb := hb b[j] (List.getElem_mem h2)
    have ga : (a.map ratD)[i]? = some (ratD a[i]) := by rw [List.getElem?_map, List.getElem?_eq_getElem h1] <;> rfl
    have gb : (b.map ratD)[j]? = some (ratD b[j]) := by rw [List.getElem?_map, List.getElem?_eq_getElem h2] <;> rfl
    generalize a[i] = p at *
    generalize b[j] = q at *
    have xa : ∀ {es : List Sv}, es[0]? = some (.dat (.tup (a.map ratD))) → es[3]? = some (.dat (.int i)) → ED c (tOp (rIx c.K) (tVar 0) (tVar 3)) es (ratD p) := fun h g => ed_ixT (ed_var h) (ed_var g) (by unfold atI; rw [Evl.ixN_nat (List.getElem?_eq_some_iff.mp ga).1]; exact ga)
    have xb : ∀ {es : List Sv}, es[1]? = some (.dat (.tup (b.map ratD))) → es[4]? = some (.dat (.int j)) → ED c (tOp (rIx c.K) (tVar 1) (tVar 4)) es (ratD q) := fun h g => ed_ixT (ed_var h) (ed_var g) (by unfold atI; rw [Evl.ixN_nat (List.getElem?_eq_some_iff.mp gb).1]; exact gb)
    refine s_asg (ed_cmp (xa rfl rfl) (xb rfl rfl) za zb) ?_
    refine s_app (n := 2) (φ := fun d => d = ratD (if lessR p q then p else q)) rfl (ev_if (b := lessR p q) (EBd.is (eb_test (ed_B0 (ed_var rfl) ed_int)) cmp_lt) (fun z => ED.is (xa rfl rfl) (by rw [if_pos z])) fun z => ED.is (xb rfl rfl) (by rw [if_neg (by rw [z]; decide)])) (by rw [List.length_map]; omega) fun d e => ?_
    subst e
    have fm : f.map ratD ++ [ratD (if lessR p q then p else q)] = (f ++ [if lessR p q then p else q]).map ratD := by rw [List.map_append] <;> rfl
    rw [fm]
    rw [ea, eb] at hM
    have stop : ∀ (i' j' : Nat) (s : Sv) (k' : L2.St → Hp → Prop), k' = Less c (fun m es => ∃ (f : List Rat) (i j : Nat) (s : Sv), es = [.dat (.tup (a.map ratD)), .dat (.tup (b.map ratD)), .own ad (f.map ratD), .dat (.int i), .dat (.int j), s] ∧ i ≤ a.length ∧ j ≤ b.length ∧ f.length ≤ i + j ∧ m + i + j = a.length + b.length ∧ f ++ mergeR (a.drop i) (b.drop j) = mergeR a b) m →
        i' ≤ a.length → j' ≤ b.length → i + j < i' + j' → f ++ [if lessR p q then p else q] ++ mergeR (a.drop i') (b.drop j') = mergeR a b →
        Cont c k' [.dat (.tup (a.map ratD)), .dat (.tup (b.map ratD)), .own ad ((f ++ [if lessR p q then p else q]).map ratD), .dat (.int i'), .dat (.int j'), s] := fun i' j' s k' ek h1 h2 h3 h4 =>
      c_less ek (a.length + b.length - i' - j') (by omega) ⟨_, i', j', s, rfl, h1, h2, by rw [List.length_append, List.length_singleton]; omega, by omega, h4⟩
    have n1 : ((i : Int) + 1) = ((i + 1 : Nat) : Int) := rfl
    have n2 : ((j : Int) + 1) = ((j + 1 : Nat) : Int) := rfl
    refine s_ifU (u := i) (v := 1) (b := !lessR q p) (EBd.is (eb_test (ed_B0 (ed_var rfl) ed_int)) cmp_le) rfl ed_int (fun hqp => ?_) fun hqp => ?_
    · have hqp : lessR q p = false := by cases z : lessR q p with
        | false => rfl
        | true => rw [z] at hqp; cases hqp
      refine c_ifU (u := j) (v := 1) (b := !lessR p q) (EBd.is (eb_test (ed_B0 (ed_var rfl) ed_int)) cmp_ge) rfl ed_int (fun hpq => ?_) fun hpq => ?_
      · have hpq : lessR p q = false := by cases z : lessR p q with
          | false => rfl
          | true => rw [z] at hpq; cases hpq
        refine stop (i + 1) (j + 1) _ _ rfl (by omega) (by omega) (by omega) ?_
        rw [← hM, hpq, mergeR, hpq, hqp, if_neg (by decide), if_neg (by decide), if_neg (by decide), List.append_assoc] <;> rfl
      · have hpq : lessR p q = true := by cases z : lessR p q with
          | true => rfl
          | false => rw [z] at hpq; cases hpq
        refine stop (i + 1) j _ _ rfl (by omega) (by omega) (by omega) ?_
        rw [← hM, hpq, mergeR, hpq, if_pos rfl, if_pos rfl, List.append_assoc, eb] <;> rfl
    · have hqp : lessR q p = true := by cases z : lessR q p with
        | true => rfl
        | false => rw [z] at hqp; cases hqp
      have hpq := less_asym hqp
      refine c_ifU (u := j) (v := 1) (b := !lessR p q) (EBd.is (eb_test (ed_B0 (ed_var rfl) ed_int)) cmp_ge) rfl ed_int (fun _ => ?_) fun z => by rw [hpq] at z; cases z
      refine stop i (j + 1) _ _ rfl (by omega) (by omega) (by omega) ?_
      rw [← hM, hpq, mergeR, hpq, hqp, if_neg (by decide), if_neg (by decide), if_pos rfl, List.append_assoc, ea] <;> rfl
  · have hd : mergeR (a.drop i) (b.drop j) = a.drop i ++ b.drop j := by
      rcases Bool.and_eq_false_iff.mp h with h | h
      · have : a.drop i = [] := List.drop_of_length_le (by have := of_decide_eq_false h; omega)
        rw [this, mergeR, List.nil_append]
      · have : b.drop j = [] := List.drop_of_length_le (by have := of_decide_eq_false h; omega)
        rw [this, merge_nilR, List.append_nil]
    have el : ED c (tOp rCat (tOp rCat (tVar 2) (tCB (Evl.rListS c.K) (tCons (tSl (rSlA c.K) (tVar 0) (tPart (tVar 3)) tNoPart) tNil))) (tCB (Evl.rListS c.K) (tCons (tSl (rSlA c.K) (tVar 1) (tPart (tVar 4)) tNoPart) tNil)))
        [.dat (.tup (a.map ratD)), .dat (.tup (b.map ratD)), .own ad (f.map ratD), .dat (.int i), .dat (.int j), s] (.lst ((mergeR a b).map ratD)) := by
      refine EV.imp (ev_give hm (eo_cat (el_new (eo_cat (el_own (n := 2) rfl) (el_new (eo_list (ed_sliceT (ed_var rfl) (ep_some (ed_var rfl)) ep_none) rfl)) ?_)) (el_new (eo_list (ed_sliceT (ed_var rfl) (ep_some (ed_var rfl)) ep_none) rfl)) ?_)) ?_
      · rintro x y rfl rfl
        rw [cut_from _ (by rw [List.length_map]; exact hi), List.length_drop, List.length_map, List.length_map]
        omega
      · rintro x y ⟨x, z, rfl, rfl, rfl⟩ rfl
        rw [cut_from _ (by rw [List.length_map]; exact hi), cut_from _ (by rw [List.length_map]; exact hj), List.length_append, List.length_drop, List.length_drop, List.length_map, List.length_map, List.length_map]
        omega
      · rintro z ⟨l, rfl, _, _, ⟨_, _, rfl, rfl, rfl⟩, rfl, rfl⟩
        rw [cut_from _ (by rw [List.length_map]; exact hi), cut_from _ (by rw [List.length_map]; exact hj), ← hM, hd, List.map_append, List.map_append, List.map_drop, List.map_drop, List.append_assoc]
    exact c_ret (ed_tupleOf el rfl) k
end
theorem mem_merge : ∀ {a b : List Rat} {q : Rat}, q ∈ mergeR a b → q ∈ a ∨ q ∈ b
  | [], b, q, h => by rw [mergeR] at h; exact .inr h
  | a :: as, [], q, h => by rw [mergeR] at h; exact .inl h
  | a :: as, b :: bs, q, h => by
    rw [mergeR] at h
    split at h
    · rcases List.mem_cons.mp h with rfl | h
      · exact .inl List.mem_cons_self
      · exact (mem_merge h).imp (List.mem_cons_of_mem _) id
    · split at h
      · rcases List.mem_cons.mp h with rfl | h
        · exact .inr List.mem_cons_self
        · exact (mem_merge h).imp id (List.mem_cons_of_mem _)
      · rcases List.mem_cons.mp h with rfl | h
        · exact .inr List.mem_cons_self
        · exact (mem_merge h).imp (List.mem_cons_of_mem _) (List.mem_cons_of_mem _)
termination_by a b => a.length + b.length
theorem len_merge : ∀ {a b : List Rat}, (mergeR a b).length ≤ a.length + b.length
  | [], b => by rw [mergeR]; omega
  | a :: as, [] => by rw [mergeR]; omega
  | a :: as, b :: bs => by
    rw [mergeR]
    split
    · have := len_merge (a := as) (b := b :: bs)
      simp only [List.length_cons] at *
      omega
    · split
      · have := len_merge (a := a :: as) (b := bs)
        simp only [List.length_cons] at *
        omega
      · have := len_merge (a := as) (b := bs)
        simp only [List.length_cons] at *
        omega
termination_by a b => a.length + b.length
theorem mem_sort : ∀ {n : Nat} {l : List Rat} {q : Rat}, q ∈ sortR n l → q ∈ l
  | 0, _, _, h => h
  | n + 1, l, q, h => by
    rw [sortR] at h
    split at h
    · exact h
    · rcases mem_merge h with h | h
      · exact List.mem_of_mem_take (mem_sort h)
      · exact List.mem_of_mem_drop (mem_sort h)
theorem len_sort : ∀ {n : Nat} {l : List Rat}, (sortR n l).length ≤ l.length
  | 0, _ => Nat.le_refl _
  | n + 1, l => by
    rw [sortR]
    split
    · exact Nat.le_refl _
    · have h1 := len_merge (a := sortR n (l.take (l.length / 2))) (b := sortR n (l.drop (l.length / 2)))
      have h2 := len_sort (n := n) (l := l.take (l.length / 2))
      have h3 := len_sort (n := n) (l := l.drop (l.length / 2))
      rw [List.length_take] at h2
      rw [List.length_drop] at h3
      omega
section
variable {c : Fr} {D : Ends} {E : XK} {es : List Sv} {ta tb te tx : TE} {n : Nat} {l : List Rat} {spR : Sp}
theorem ed_merged {a b : List Rat} (h1 : ED c ta es (.tup (a.map ratD))) (h2 : ED c tb es (.tup (b.map ratD))) (hl : a.length + b.length ≤ 50000) (ha : ∀ q ∈ a, SzR 2000 q) (hb : ∀ q ∈ b, SzR 2000 q) : ED c (tCall (sp_merged_ratios c.K) [] E (tCons ta (tCons tb tNil))) es (.tup ((mergeR a b).map ratD)) :=
  ed_call (es_cons h1 (es_cons h2 es_nil)) ⟨a, b, rfl, hl, ha, hb, rfl⟩ fun y ⟨a', b', e, _, _, _, ey⟩ => by
    have e1 := maps_inj (Dt.tup.inj (List.cons.inj e).1)
    have e2 := maps_inj (Dt.tup.inj (List.cons.inj (List.cons.inj e).2).1)
    rw [ey, e1, e2]
theorem ed_asc (h : ED c ta es (.lst (l.map ratD))) (h1 : l.length ≤ 2 ^ n) (h2 : l.length ≤ 50000) (hs : ∀ q ∈ l, SzR 2000 q) : ED c (tCall (sp_asc n c.K) [] E (tCons ta tNil)) es (.tup ((sortR n l).map ratD)) :=
  ed_call (es_cons h es_nil) ⟨l, rfl, h1, h2, hs, rfl⟩ fun y ⟨l', e, _, _, _, ey⟩ => by
    have e1 := maps_inj (Dt.lst.inj (List.cons.inj e).1)
    rw [ey, e1]
theorem ed_cut {tl th : TO} {lo hi : Option Int} {m : List Dt} (hm : c.mu = []) (h : ED c te es (.lst m)) (h1 : EP1 c tl es lo) (h2 : EP1 c th es hi) : ED c (tSl (rSlL c.K) te tl th) es (.lst (My.cutD m lo hi)) :=
  EV.imp (ev_give hm (eo_slice h h1 h2)) fun z ⟨l, e1, e2⟩ => by rw [e1, e2]
theorem sem_asc (hm : c.mu = []) (hn : l.length ≤ 2 ^ n) (h5 : l.length ≤ 50000) (hs : ∀ q ∈ l, SzR 2000 q) (hR : ∀ m, n = m + 1 → spR = sp_asc m c.K) (k : RetD c D.rt (fun d => d = .tup ((sortR n l).map ratD))) : Cont c (t_ascending_ratios c.K spR D) [.dat (.lst (l.map ratD)), .no] := by
  have ln : ∀ {es : List Sv}, es[0]? = some (.dat (.lst (l.map ratD))) → ED c (tCB (Evl.rLenS c.K) (tCons (tVar 0) tNil)) es (.int l.length) := fun h => ed_len (ed_var h) (by show some (l.map ratD).length = _; rw [List.length_map])
  refine s_when (b := decide ((l.length : Int) < 2)) (eb_test (ed_B0 (ln rfl) ed_int)) (fun h => ?_) fun h => ?_
  · have h : l.length < 2 := by have := of_decide_eq_true h; omega
    have e : sortR n l = l := by
      cases n with
      | zero => rfl
      | succ n => rw [sortR, if_pos h]
    rw [e] at k
    exact c_ret (ed_tupleOf (ed_var rfl) rfl) k
  · have h : ¬ l.length < 2 := by have := of_decide_eq_false h; omega
    obtain ⟨m, rfl⟩ : ∃ m, n = m + 1 := by
      cases n with
      | zero => exact absurd hn (by show ¬ l.length ≤ 1; omega)
      | succ m => exact ⟨m, rfl⟩
    have hR := hR m rfl
    subst hR
    have p2 : 2 ^ (m + 1) = 2 ^ m * 2 := Nat.pow_succ 2 m
    have hd : ((l.length : Int)).fdiv 2 = ((l.length / 2 : Nat) : Int) := by
      rw [Int.fdiv_eq_ediv_of_nonneg _ (by decide)]
      omega
    refine s_asg (ED.is (ed_I (ln rfl) ed_int (divA (m := 2) (by decide) (by decide))) (congrArg Dt.int hd)) ?_
    generalize hh : l.length / 2 = h2 at *
    have c1 : My.cutD (l.map ratD) none (some (h2 : Int)) = (l.take h2).map ratD := by rw [cut_to _ (by rw [List.length_map]; omega), List.map_take]
    have c2 : My.cutD (l.map ratD) (some (h2 : Int)) none = (l.drop h2).map ratD := by rw [cut_from _ (by rw [List.length_map]; omega), List.map_drop]
    have e : sortR (m + 1) l = mergeR (sortR m (l.take h2)) (sortR m (l.drop h2)) := by rw [sortR, if_neg h, hh]
    rw [e] at k
    have l1 := len_sort (n := m) (l := l.take h2)
    have l2 := len_sort (n := m) (l := l.drop h2)
    rw [List.length_take] at l1
    rw [List.length_drop] at l2
    refine c_ret (ed_merged (ed_asc (ED.is (ed_cut hm (ed_var rfl) ep_none (ep_some (ed_var rfl))) (congrArg Dt.lst c1)) (by rw [List.length_take]; omega) (by rw [List.length_take]; omega) fun q hq => hs q (List.mem_of_mem_take hq))
      (ed_asc (ED.is (ed_cut hm (ed_var rfl) (ep_some (ed_var rfl)) ep_none) (congrArg Dt.lst c2)) (by rw [List.length_drop]; omega) (by rw [List.length_drop]; omega) fun q hq => hs q (List.mem_of_mem_drop hq)) (by omega)
      (fun q hq => hs q (List.mem_of_mem_take (mem_sort hq))) fun q hq => hs q (List.mem_of_mem_drop (mem_sort hq))) k
end
end Lw
set_option Elab.async false
set_option linter.all false
set_option maxRecDepth 100000
set_option maxHeartbeats 4000000
/-! stands.py: rows of slips. -/
namespace Lw
open PySem PySem.Spec PyProof.Rows L2 My StX
local macro_rules | `(tactic| walk_at "ed") => `(tactic| first
  | exact ed_int | exact ed_bl | exact ed_str | exact ed_non
  | exact ed_var rfl
  | (apply ed_I0; (focus walk_at "ed"); (focus walk_at "ed"))
  | (apply ed_B0; (focus walk_at "ed"); (focus walk_at "ed"))
  | (apply ed_neg; (focus walk_at "ed"))
  | (apply ed_ixT; (focus walk_at "ed"); (focus walk_at "ed"); (focus rfl))
  | (apply ed_ixL; (focus walk_at "ed"); (focus walk_at "ed"); (focus rfl))
  | (apply ed_ixO; (focus rfl); (focus walk_at "ed"); (focus rfl))
  | (apply ed_len; (focus walk_at "ed"); (focus rfl))
  | (apply ed_lenO; (focus rfl))
  | (apply ed_tup; (focus walk_at "ed"); (focus (simp only [List.length_cons, List.length_nil]; decide)))
  | (apply ed_eq; (focus walk_at "ed"); (focus walk_at "ed"); (focus rfl); (focus rfl))
  | (apply ed_ne; (focus walk_at "ed"); (focus walk_at "ed"); (focus rfl); (focus rfl))
  | (apply ed_isN; (focus walk_at "ed"))
  | (apply ed_notN; (focus walk_at "ed"))
  | (apply ed_isB; (focus walk_at "ed"); (focus walk_at "ed"))
  | (apply ed_notB; (focus walk_at "ed"); (focus walk_at "ed"))
  | (apply ed_isi; (focus walk_at "ed"); (focus first | rfl | assumption); (focus decide +kernel))
  | (apply ed_isi2; (focus walk_at "ed"); (focus first | rfl | assumption); (focus decide +kernel); (focus decide +kernel))
  | (apply ed_not; (focus walk_at "ed"))
  | (apply ed_int1; (focus walk_at "ed"))
  | (apply ed_abs; (focus walk_at "ed"))
  | (apply ed_gcd; (focus walk_at "ed"); (focus walk_at "ed"))
  | exact es_nil
  | (apply es_cons; (focus walk_at "ed"); (focus walk_at "ed"))
  | (apply eb_test; (focus walk_at "ed"))
  | (apply eb_B; (focus walk_at "ed"))
  | (apply eb_not; (focus walk_at "ed")))
/-! promises -/
def toR : Dt → Rat
  | .tup [.int a, .int b] => Rat.divInt a b
  | _ => 0
def m2 : Rat := Rat.divInt (-2) 1
def p2 : Rat := Rat.divInt 2 1
def rowWord (y : Dt) : Option Str := if ratioB y then (if lessR (toR y) m2 || lessR p2 (toR y) then some "far" else none) else some "ratio"
def scan : Nat → List Dt → Option (Nat × Str)
  | _, [] => none
  | k, y :: l => match rowWord y with
    | some w => some (k, w)
    | none => scan (k + 1) l
def slipEx (C : Addr) (k : Nat) (w : Str) : Out := .ex C ["what", "index"] [.str w, .int k]
def rowO (C : Addr) (x : Dt) : Out := match itemsD x with
  | some l => if 1 ≤ l.length ∧ l.length ≤ 3 then (match scan 0 l with
    | some (k, w) => slipEx C k w
    | none => .ok (.tup l)) else slipEx C 0 "many"
  | none => slipEx C 0 "many"
/-- a row that may be handed in -/
def RowIn (x : Dt) : Prop := Kin x ∧ NN x ∧ ∀ l, itemsD x = some l → ∀ y ∈ l, Kins y ∧ (ratioB y = true → SzR 2000 (toR y))
def R_check_slip_row (C : Addr) (ds : List Dt) (o : Out) : Prop := ∃ x, ds = [x] ∧ RowIn x ∧ o = rowO C x
def sp_check_slip_row (K : PySem.W.Frag) : Sp := spX K (R_check_slip_row (He.ga K "BadSlipRow"))
/-! what is broken off -/
theorem broken_red (p : Rat) : ((p.num % (p.den : Int)).natAbs).Coprime p.den := by
  have hg := p.reduced
  unfold Nat.Coprime at *
  generalize hk : Nat.gcd (p.num % (p.den : Int)).natAbs p.den = g
  have d1 : (g : Int) ∣ p.num % (p.den : Int) := Int.ofNat_dvd_left.mpr (by rw [← hk]; exact Nat.gcd_dvd_left _ _)
  have d2 : g ∣ p.den := by rw [← hk]; exact Nat.gcd_dvd_right _ _
  have d3 : (g : Int) ∣ p.num := by
    have e := Int.emod_add_mul_ediv p.num p.den
    rw [← e]
    exact Int.dvd_add d1 (Int.dvd_mul_of_dvd_left (Int.ofNat_dvd.mpr d2))
  have d4 := Nat.dvd_gcd (Int.ofNat_dvd_left.mp d3) d2
  rw [hg] at d4
  exact Nat.dvd_one.mp d4
def brokR (p : Rat) : Rat := ⟨p.num % (p.den : Int), p.den, p.den_nz, broken_red p⟩
theorem brok_D (p : Rat) : ratD (brokR p) = .tup [.int (p.num % p.den), .int p.den] := rfl
/-- the ratios broken off that are not 0, ascending -/
def brokenR (l : List Rat) : List Rat := sortR 8 ((l.map brokR).filter fun p => !decide (p = 0))
def R_broken_parts (ds : List Dt) (d : Dt) : Prop := ∃ l : List Rat, ds = [.tup (l.map ratD)] ∧ l.length ≤ 200 ∧ (∀ q ∈ l, SzR 1000 q) ∧ d = .tup ((brokenR l).map ratD)
def sp_broken_parts (K : PySem.W.Frag) : Sp := spD K R_broken_parts
/-- the place of q -/
def idxR (q : Rat) : List Rat → Nat
  | [] => 0
  | a :: l => if a = q then 0 else idxR q l + 1
def standL (rs : List Rat) : List Dt := rs.map fun p => Dt.tup [.int (p.num / p.den), .int (idxR (brokR p) (0 :: brokenR rs) : Nat)]
def standOf : Dt → Dt
  | .tup l => .tup (standL (l.map toR))
  | d => d
def standO (C : Addr) (x : Dt) : Out := match rowO C x with
  | .ok d => .ok (standOf d)
  | .ex C ns ds => .ex C ns ds
def RowSz (x : Dt) : Prop := ∀ l, itemsD x = some l → ∀ y ∈ l, ratioB y = true → SzR 1000 (toR y)
def R_stand_of (C : Addr) (ds : List Dt) (o : Out) : Prop := ∃ x, ds = [x] ∧ RowIn x ∧ RowSz x ∧ o = standO C x
def sp_stand_of (K : PySem.W.Frag) : Sp := spX K (R_stand_of (He.ga K "BadSlipRow"))
def t_check_slip_row (K : PySem.W.Frag) (E : XK) : TS :=
  (tSeq (tIfS (tNot (tB (tCall (sp_is_sequence K) [] E0 (tCons (tVar 0) (tCons (tC (.int 1)) (tCons (tC (.int 3)) tNil)))))) (fun (_ : Ends) σ H => tMkO (He.ga K "BadSlipRow") (spIni2 K (He.ga K "BadSlipRow") "index" "what") [] (tCons (tC (.int 0)) (tCons (tC (.str "many")) tNil)) σ H fun cls d H2 => E cls d H2) tNext)
    (tSeq (tFor (iEnumA K (tCons (tVar 0) tNil)) (gTup K 2 (gCons (gName 1) (gCons (gName 2) gNil))) (tSeq (tIfS (tNot (tB (tCall (sp_is_ratio K) [] E0 (tCons (tVar 2) tNil)))) (fun (_ : Ends) σ H => tMkO (He.ga K "BadSlipRow") (spIni2 K (He.ga K "BadSlipRow") "index" "what") [] (tCons (tVar 1) (tCons (tC (.str "ratio")) tNil)) σ H fun cls d H2 => E cls d H2) tNext)
    (tIfS (tOr (tTest (tOp (rI0 fun i j => .bl (decide (i < j))) (tCall (sp_compare K) [] E0 (tCons (tVar 2) (tCons (tTup (tCons (tUn (rU fun i => .int (-i)) (tC (.int 2))) (tCons (tC (.int 1)) tNil))) tNil))) (tC (.int 0)))) (tTest (tOp (rI0 fun i j => .bl (decide (j < i))) (tCall (sp_compare K) [] E0 (tCons (tVar 2) (tCons (tTup (tCons (tC (.int 2)) (tCons (tC (.int 1)) tNil))) tNil))) (tC (.int 0))))) (fun (_ : Ends) σ H => tMkO (He.ga K "BadSlipRow") (spIni2 K (He.ga K "BadSlipRow") "index" "what") [] (tCons (tVar 1) (tCons (tC (.str "far")) tNil)) σ H fun cls d H2 => E cls d H2) tNext)))
    (tRet (tCB (rTupleOf K) (tCons (tVar 0) tNil)))))
def t_broken_parts (K : PySem.W.Frag) : TS :=
  (tSeq (tAsg (tLc (iSeq K (tVar 0)) (gName 2) tYes (tCall (sp_broken_of K) [] E0 (tCons (tVar 2) tNil)) [2]) (gName 1))
    (tRet (tCall (sp_ascending_ratios K) [] E0 (tCons (tLc (iSeq K (tVar 1)) (gName 3) (tTest (tOp (rNeD K) (tVar 3) (tC (.ref (He.ga K "ZERO"))))) (tVar 3) [3]) tNil))))
def t_stand_of (K : PySem.W.Frag) (E : XK) : TS :=
  (tSeq (tAsg (tCall (sp_check_slip_row K) [] E (tCons (tVar 0) tNil)) (gName 1))
    (tSeq (tAsg (tCall (sp_broken_parts K) [] E0 (tCons (tVar 1) tNil)) (gName 2))
    (tSeq (tAsg (tTupN (tCons (tC (.ref (He.ga K "ZERO"))) (tStar K (tVar 2) tNil))) (gName 3))
    (tRet (tCB (rTupleOf K) (tCons (tLc (iSeq K (tVar 1)) (gName 4) tYes (tTup (tCons (tCall (sp_floor_of K) [] E0 (tCons (tVar 4) tNil)) (tCons (tBMN (rTIndexD K) (tVar 3) (tCons (tCall (sp_broken_of K) [] E0 (tCons (tVar 4) tNil)) tNil)) tNil))) [4]) tNil))))))
section
variable {c : Fr} {D : Ends} {E : XK} {es : List Sv} {ta tb te tx : TE} {x y lo hi : Dt} {p q : Rat} {a b : List Rat} {n i j : Nat}
theorem two_D : ratD m2 = .tup [.int (-2), .int 1] ∧ ratD p2 = .tup [.int 2, .int 1] := by
  constructor
  · show Dt.tup [.int m2.num, .int m2.den] = _
    rw [show m2.num = -2 by decide +kernel, show ((m2.den : Nat) : Int) = 1 by decide +kernel]
  · show Dt.tup [.int p2.num, .int p2.den] = _
    rw [show p2.num = 2 by decide +kernel, show ((p2.den : Nat) : Int) = 1 by decide +kernel]
theorem two_Sz : SzR 2000 m2 ∧ SzR 2000 p2 := by
  have up : ∀ {x : Nat}, x < 2 ^ 2 → x < 2 ^ 2000 := fun h => Nat.lt_of_lt_of_le h (Nat.pow_le_pow_right (by decide) (by decide))
  exact ⟨⟨up (show m2.num.natAbs < 2 ^ 2 by decide +kernel), up (show ((m2.den : Nat) : Int).natAbs < 2 ^ 2 by decide +kernel)⟩, up (show p2.num.natAbs < 2 ^ 2 by decide +kernel), up (show ((p2.den : Nat) : Int).natAbs < 2 ^ 2 by decide +kernel)⟩
theorem ratio_toR (h : ratioB y = true) : y = ratD (toR y) := by
  unfold ratioB at h
  split at h
  · rename_i a b
    obtain ⟨h1, h2⟩ := Bool.and_eq_true_iff.mp h
    have h1 := of_decide_eq_true h1
    have h2 := of_decide_eq_true h2
    have hb : b ≠ 0 := by omega
    have pa : partOf a b = 1 := by
      unfold partOf
      rw [if_neg (by omega), h2] <;> rfl
    have e1 := low_num (a := a) hb
    have e2 := low_den (a := a) hb
    rw [pa, Int.fdiv_one] at e1 e2
    show Dt.tup [.int a, .int b] = Dt.tup [.int (Rat.divInt a b).num, .int (Rat.divInt a b).den]
    rw [← e1, ← e2]
  · cases h
theorem ed_isSeqC (ha : ED c ta es x) (hl : ED c tb es lo) (hh : ED c tx es hi) (hx : Kin x) (hN : NN x) (hL : Lim lo) (hU : Lim hi) : ED c (tCall (sp_is_sequence c.K) [] E (tCons ta (tCons tb (tCons tx tNil)))) es (.bl (seqB x lo hi)) :=
  ed_call (es_cons ha (es_cons hl (es_cons hh es_nil))) ⟨x, lo, hi, rfl, hx, hN, hL, hU, rfl⟩ fun y ⟨a, b, d, e, _, _, _, _, ey⟩ => by
    cases e
    exact ey
theorem sem_check_slip_row (hx : RowIn x) (k : RetD c D.rt (fun d => rowO (He.ga c.K "BadSlipRow") x = .ok d)) (kx : XtD c E (fun o => o = rowO (He.ga c.K "BadSlipRow") x)) : Cont c (t_check_slip_row c.K E D) [.dat x, .no, .no] := by
  obtain ⟨h1, h2, h3⟩ := hx
  refine s_when (b := !seqB x (.int 1) (.int 3)) (eb_not (eb_B (ed_isSeqC (ed_var rfl) ed_int ed_int h1 h2 (.inr ⟨_, rfl⟩) (.inr ⟨_, rfl⟩)))) (fun h => ?_) fun h => ?_
  · refine c_raise2 (D := D) (es_cons ed_int (es_cons ed_str es_nil)) kx ?_
    unfold rowO
    unfold seqB at h
    cases e : itemsD x with
    | none => rfl
    | some l =>
      rw [e] at h
      have h : (!wholeB (.int l.length) (.int 1) (.int 3)) = true := h
      have : ¬ (1 ≤ l.length ∧ l.length ≤ 3) := fun z => by
        have w : wholeB (.int l.length) (.int 1) (.int 3) = true := by
          show (decide ((1 : Int) ≤ l.length) && decide ((l.length : Int) ≤ 3)) = true
          rw [decide_eq_true (by omega), decide_eq_true (by omega)] <;> rfl
        rw [show wholeB (.int l.length) (.int 1) (.int 3) = true from w] at h
        cases h
      show _ = (if 1 ≤ l.length ∧ l.length ≤ 3 then _ else _)
      rw [if_neg this] <;> rfl
  · unfold seqB at h
    cases e : itemsD x with
    | none => rw [e] at h; cases h
    | some l =>
      rw [e] at h
      have h : (!wholeB (.int l.length) (.int 1) (.int 3)) = false := h
      have hl : 1 ≤ l.length ∧ l.length ≤ 3 := by
        have w : (decide ((1 : Int) ≤ l.length) && decide ((l.length : Int) ≤ 3)) = true := by
          cases z : (decide ((1 : Int) ≤ l.length) && decide ((l.length : Int) ≤ 3)) with
          | true => rfl
          | false =>
            rw [show wholeB (.int l.length) (.int 1) (.int 3) = false from z] at h
            cases h
        obtain ⟨w1, w2⟩ := Bool.and_eq_true_iff.mp w
        have w1 := of_decide_eq_true w1
        have w2 := of_decide_eq_true w2
        omega
      have eo : rowO (He.ga c.K "BadSlipRow") x = match scan 0 l with
          | some (k, w) => slipEx (He.ga c.K "BadSlipRow") k w
          | none => .ok (.tup l) := by
        unfold rowO
        rw [e]
        exact if_pos hl
      refine s_for (I := fun k es => scan k (l.drop k) = scan 0 l ∧ ∃ s s', es = [.dat x, s, s']) (f := fun y es => match y with
        | .tup [a, b] => (es.set 1 (.dat a)).set 2 (.dat b)
        | _ => es) (vs := [1, 2]) (wi_enumA (ed_var rfl) e) ⟨rfl, _, _, rfl⟩ (fun P y hy => ?_) (fun P1 L k y es ey ⟨hsc, s, s', h4⟩ => ?_) fun es ⟨hsc, s, s', h4⟩ => ?_
      · obtain ⟨i, hi, rfl⟩ := List.mem_mapIdx.mp hy
        exact tg_two
      · subst h4
        obtain ⟨z, hz, rfl⟩ : ∃ z, l[k]? = some z ∧ Dt.tup [.int (k : Nat), z] = y := by
          rw [List.getElem?_mapIdx] at ey
          cases q : l[k]? with
          | none => rw [q] at ey; cases ey
          | some z => rw [q] at ey; exact ⟨z, rfl, Option.some.inj ey⟩
        have hk := (List.getElem?_eq_some_iff.mp hz).1
        have hd : l.drop k = z :: l.drop (k + 1) := by
          rw [List.drop_eq_getElem_cons hk]
          congr 1
          exact (List.getElem?_eq_some_iff.mp hz).2
        rw [hd] at hsc
        obtain ⟨zk, zs⟩ := h3 l e z (List.mem_of_getElem? hz)
        have bad : ∀ {w : Str}, rowWord z = some w → rowO (He.ga c.K "BadSlipRow") x = slipEx (He.ga c.K "BadSlipRow") k w := fun {w} hw => by
          rw [eo, ← hsc]
          show (match (match rowWord z with
            | some w => some (k, w)
            | none => scan (k + 1) (l.drop (k + 1))) with
            | some (k, w) => slipEx (He.ga c.K "BadSlipRow") k w
            | none => .ok (.tup l)) = _
          rw [hw]
        refine s_when (b := !ratioB z) (eb_not (eb_B (ed_isratio (ed_var rfl) zk))) (fun h => ?_) fun h => ?_
        · have hr : ratioB z = false := by cases q : ratioB z with
            | false => rfl
            | true => rw [q] at h; cases h
          refine c_raise2 (D := D) (es_cons (ed_var rfl) (es_cons ed_str es_nil)) (kx.low L) ?_
          rw [bad (w := "ratio") (by unfold rowWord; rw [hr] <;> rfl)] <;> rfl
        · have hr : ratioB z = true := by cases q : ratioB z with
            | true => rfl
            | false => rw [q] at h; cases h
          have ez := ratio_toR hr
          have sz := zs hr
          have hw : rowWord z = (if lessR (toR z) m2 || lessR p2 (toR z) then some ("far" : Str) else none) := by
            unfold rowWord
            rw [if_pos hr]
          generalize toR z = q at ez sz hw
          subst ez
          refine c_if (b := lessR q m2 || lessR p2 q) (eb_or (EBd.is (eb_test (ed_B0 (ed_cmp (ed_var rfl) (ED.is (ed_tup (es_cons (ed_neg ed_int) (es_cons ed_int es_nil)) (by show 2 ≤ 100000; decide)) two_D.1.symm) sz two_Sz.1) ed_int)) cmp_lt) fun _ => EBd.is (eb_test (ed_B0 (ed_cmp (ed_var rfl) (ED.is (ed_tup (es_cons ed_int (es_cons ed_int es_nil)) (by show 2 ≤ 100000; decide)) two_D.2.symm) sz two_Sz.2) ed_int)) cmp_gt) (fun h => ?_) fun h => c_next ?_
          · refine c_raise2 (D := D) (es_cons (ed_var rfl) (es_cons ed_str es_nil)) (kx.low L) ?_
            rw [bad (w := "far") (by rw [hw, h] <;> rfl)] <;> rfl
          · refine c_turn' rfl ⟨?_, .dat (.int (k : Nat)), .dat (ratD q), rfl⟩
            rw [← hsc]
            show _ = (match rowWord (ratD q) with
              | some w => some (k, w)
              | none => scan (k + 1) (l.drop (k + 1)))
            rw [hw, h] <;> rfl
      · subst h4
        rw [List.length_mapIdx, List.drop_length] at hsc
        have eo2 : rowO (He.ga c.K "BadSlipRow") x = .ok (.tup l) := by
          rw [eo, ← hsc] <;> rfl
        refine c_ret (ed_tupleOf (ed_var rfl) e) (RetD.imp k fun d ed => ?_)
        rw [ed, eo2]
end
section
variable {c : Fr} {D : Ends} {E : XK} {es : List Sv} {ta tb te tx : TE} {x y : Dt} {p q : Rat} {l : List Rat}
theorem ed_broken (h : ED c ta es (ratD p)) : ED c (tCall (sp_broken_of c.K) [] E (tCons ta tNil)) es (ratD (brokR p)) :=
  ed_call (es_cons h es_nil) ⟨p, rfl, brok_D p⟩ fun y ⟨p', e, ey⟩ => by rw [ey, ratD_inj (List.cons.inj e).1, brok_D]
def brokD : Dt → Dt
  | .tup [.int a, .int b] => .tup [.int (a % b), .int b]
  | d => d
theorem rats_brok (l : List Rat) : ((l.map ratD).filter fun _ => true).map brokD = (l.map brokR).map ratD := by
  rw [List.filter_eq_self.mpr (fun _ _ => rfl), List.map_map, List.map_map] <;> rfl
theorem rats_some (l : List Rat) : ((l.map ratD).filter fun y => !eqv y (ratD 0)).map id = (l.filter fun p => !decide (p = 0)).map ratD := by
  rw [List.map_id, List.filter_map]
  congr 1
  exact List.filter_congr fun q _ => by
    show (!eqv (ratD q) (ratD 0)) = _
    rw [eqv_ratD]
theorem brok_sz {n : Nat} (h : SzR n q) : SzR n (brokR q) := by
  refine ⟨?_, h.den⟩
  have h1 := Int.emod_nonneg q.num (den_ne q)
  have h2 := Int.emod_lt_of_pos q.num (den_pos q)
  have h3 := h.den
  show (q.num % (q.den : Int)).natAbs < 2 ^ n
  unfold Sz at h3
  omega
theorem sem_broken_parts (hm : c.mu = []) (hz : ∀ H, SqT c.K H (He.ga c.K "ZERO") [.int 0, .int 1]) (hl : l.length ≤ 200) (hs : ∀ q ∈ l, SzR 1000 q) (k : RetD c D.rt (fun d => d = .tup ((brokenR l).map ratD))) : Cont c (t_broken_parts c.K D) [.dat (.tup (l.map ratD)), .no, .no, .no] := by
  refine s_asgO (eo_lc (f := fun y es => es.set 2 (.dat y)) (p := fun _ => true) (fn := brokD) rfl (wi_seq (ed_var rfl) rfl) (by rw [List.length_map]; omega) (fun P y hy => tg_name) (fun y hy => rfl) (fun P _ y _ => eb_yes) fun P _ y hy _ => ?_) fun a ds e => ?_
  · obtain ⟨p, _, rfl⟩ := List.mem_map.mp hy
    exact ed_broken (ed_var rfl)
  rw [rats_brok] at e
  subst e
  refine c_give (n := 1) rfl hm ?_
  have el : ED c (tLc (iSeq c.K (tVar 1)) (gName 3) (tTest (tOp (rNeD c.K) (tVar 3) (tC (.ref (He.ga c.K "ZERO"))))) (tVar 3) [3]) [.dat (.tup (l.map ratD)), .dat (.lst ((l.map brokR).map ratD)), .no, .no] (.lst (((l.map brokR).filter fun p => !decide (p = 0)).map ratD)) := by
    refine EV.imp (ev_give hm (eo_lc (f := fun y es => es.set 3 (.dat y)) (p := fun y => !eqv y (ratD 0)) (fn := id) rfl (wi_seq (ed_var rfl) rfl) (by rw [List.length_map, List.length_map]; omega) (fun P y hy => tg_name) (fun y hy => rfl) (fun P _ y hy => ?_) fun P _ y hy _ => ed_var rfl)) fun z ⟨r, e1, e2⟩ => by rw [e1, e2, rats_some]
    obtain ⟨p, _, rfl⟩ := List.mem_map.mp hy
    exact eb_test (ed_ne (y := ratD 0) (ed_var rfl) (ed_c fun P => .tup (hz P) (.cons (.int 0) (.cons (.int 1) .nil))) rfl rfl)
  have ln : ((l.map brokR).filter fun p => !decide (p = 0)).length ≤ l.length := Nat.le_trans (List.length_filter_le _ _) (by rw [List.length_map]; exact Nat.le_refl _)
  refine c_ret (ed_asc (n := 8) el (Nat.le_trans ln (Nat.le_trans hl (by decide))) (by omega) fun q hq => ?_) k
  obtain ⟨p, hp, rfl⟩ := List.mem_map.mp (List.mem_filter.mp hq).1
  exact (brok_sz (hs p hp)).mono (by decide)
end
theorem idx_get {q : Rat} : ∀ {l : List Rat}, q ∈ l → l[idxR q l]? = some q
  | [], h => by cases h
  | a :: l, h => by
    unfold idxR
    by_cases e : a = q
    · rw [if_pos e, e] <;> rfl
    · rw [if_neg e, List.getElem?_cons_succ]
      exact idx_get ((List.mem_cons.mp h).resolve_left fun z => e z.symm)
theorem idx_no {q a : Rat} : ∀ {l : List Rat} {m : Nat}, m < idxR q l → l[m]? = some a → a ≠ q
  | [], _, h, _ => absurd h (Nat.not_lt_zero _)
  | b :: l, m, h, e => by
    unfold idxR at h
    by_cases z : b = q
    · rw [if_pos z] at h
      exact absurd h (Nat.not_lt_zero _)
    · rw [if_neg z] at h
      cases m with
      | zero =>
        cases Option.some.inj e
        exact z
      | succ m => exact idx_no (l := l) (m := m) (by omega) (by simpa using e)
theorem less_none {p q : Rat} (h1 : lessR p q = false) (h2 : lessR q p = false) : p = q := by
  unfold lessR at *
  have h1 := of_decide_eq_false h1
  have h2 := of_decide_eq_false h2
  have e : p.num * q.den = q.num * p.den := by omega
  have d := (Rat.divInt_eq_divInt_iff (z₁ := den_ne p) (z₂ := den_ne q)).mpr e
  rwa [divInt_of, divInt_of] at d
theorem mem_merge' : ∀ {a b : List Rat} {q : Rat}, q ∈ a ∨ q ∈ b → q ∈ mergeR a b
  | [], b, q, h => by
    rw [mergeR]
    exact h.resolve_left List.not_mem_nil
  | a :: as, [], q, h => by
    rw [mergeR]
    exact h.resolve_right List.not_mem_nil
  | a :: as, b :: bs, q, h => by
    rw [mergeR]
    cases h1 : lessR a b with
    | true =>
      rw [if_pos rfl]
      rcases h with h | h
      · rcases List.mem_cons.mp h with z | z
        · rw [z]; exact List.mem_cons_self
        · exact List.mem_cons_of_mem _ (mem_merge' (.inl z))
      · exact List.mem_cons_of_mem _ (mem_merge' (.inr h))
    | false =>
      rw [if_neg (by decide)]
      cases h2 : lessR b a with
      | true =>
        rw [if_pos rfl]
        rcases h with h | h
        · exact List.mem_cons_of_mem _ (mem_merge' (.inl h))
        · rcases List.mem_cons.mp h with z | z
          · rw [z]; exact List.mem_cons_self
          · exact List.mem_cons_of_mem _ (mem_merge' (.inr z))
      | false =>
        rw [if_neg (by decide)]
        have e := less_none h1 h2
        rcases h with h | h
        · rcases List.mem_cons.mp h with z | z
          · rw [z, e]; exact List.mem_cons_self
          · exact List.mem_cons_of_mem _ (mem_merge' (.inl z))
        · rcases List.mem_cons.mp h with z | z
          · rw [z]; exact List.mem_cons_self
          · exact List.mem_cons_of_mem _ (mem_merge' (.inr z))
termination_by a b => a.length + b.length
theorem mem_sort' : ∀ {n : Nat} {l : List Rat} {q : Rat}, q ∈ l → q ∈ sortR n l
  | 0, _, _, h => h
  | n + 1, l, q, h => by
    rw [sortR]
    split
    · exact h
    · rw [← List.take_append_drop (l.length / 2) l] at h
      exact mem_merge' ((List.mem_append.mp h).imp mem_sort' mem_sort')
theorem brok_in {l : List Rat} {p : Rat} (h : p ∈ l) : brokR p ∈ 0 :: brokenR l := by
  by_cases z : brokR p = 0
  · rw [z]; exact List.mem_cons_self
  · exact List.mem_cons_of_mem _ (mem_sort' (List.mem_filter.mpr ⟨List.mem_map.mpr ⟨p, h, rfl⟩, by rw [decide_eq_false z] <;> rfl⟩))
theorem toR_D (q : Rat) : toR (ratD q) = q := divInt_of q
theorem toR_map (l : List Rat) : (l.map ratD).map toR = l := by
  rw [List.map_map]
  conv => rhs; rw [← List.map_id l]
  exact List.map_congr_left fun q _ => toR_D q
theorem scan_none : ∀ {k : Nat} {l : List Dt}, scan k l = none → ∃ rs : List Rat, l = rs.map ratD
  | _, [], _ => ⟨[], rfl⟩
  | k, y :: l, h => by
    unfold scan at h
    cases w : rowWord y with
    | some w' => rw [w] at h; cases h
    | none =>
      rw [w] at h
      obtain ⟨rs, e⟩ := scan_none (k := k + 1) (l := l) h
      have hr : ratioB y = true := by
        cases z : ratioB y with
        | true => rfl
        | false =>
          unfold rowWord at w
          rw [z] at w
          cases w
      exact ⟨toR y :: rs, by rw [List.map_cons, ← ratio_toR hr, e]⟩
theorem rowO_ok {C : Addr} {x d : Dt} (h : rowO C x = .ok d) : ∃ rs : List Rat, d = .tup (rs.map ratD) ∧ itemsD x = some (rs.map ratD) ∧ 1 ≤ rs.length ∧ rs.length ≤ 3 := by
  unfold rowO at h
  cases e : itemsD x with
  | none => rw [e] at h; cases h
  | some l =>
    rw [e] at h
    have h : (if 1 ≤ l.length ∧ l.length ≤ 3 then (match scan 0 l with
      | some (k, w) => slipEx C k w
      | none => .ok (.tup l)) else slipEx C 0 "many") = Out.ok d := h
    by_cases hl : 1 ≤ l.length ∧ l.length ≤ 3
    · rw [if_pos hl] at h
      cases s : scan 0 l with
      | some kw => rw [s] at h; cases h
      | none =>
        rw [s] at h
        obtain ⟨rs, rfl⟩ := scan_none s
        cases h
        rw [List.length_map] at hl
        exact ⟨rs, rfl, rfl, hl.1, hl.2⟩
    · rw [if_neg hl] at h
      cases h
theorem fine_ratsN (l : List Rat) : fine (.tupN (l.map ratD)) = true := fine_rats l
section
variable {c : Fr} {D : Ends} {E : XK} {es : List Sv} {ta tb te tx : TE} {x y : Dt} {p q : Rat} {l : List Rat}
theorem sem_stand_of (hm : c.mu = []) (hz : ∀ H, SqT c.K H (He.ga c.K "ZERO") [.int 0, .int 1]) (hx : RowIn x) (hs : RowSz x) (k : RetD c D.rt (fun d => standO (He.ga c.K "BadSlipRow") x = .ok d)) (kx : XtD c E (fun o => o = standO (He.ga c.K "BadSlipRow") x)) : Cont c (t_stand_of c.K E D) [.dat x, .no, .no, .no, .no] := by
  refine s_asgV (ev_callE (Ro := fun o => o = standO (He.ga c.K "BadSlipRow") x) (dd := []) (es_cons (ed_var rfl) es_nil) (fun _ => .nil) ⟨_, x, rfl, hx, rfl⟩ (fun C' ns fd ⟨x', e, _, eo⟩ => ?_) kx) fun d ⟨x', e, _, eo⟩ => ?_
  · have e' : [x] = [x'] := e
    cases e'
    unfold standO
    rw [← eo] <;> rfl
  · have e' : [x] = [x'] := e
    cases e'
    obtain ⟨rs, rfl, hi, l1, l2⟩ := rowO_ok eo.symm
    have sz : ∀ q ∈ rs, SzR 1000 q := fun q hq => by
      have := hs _ hi (ratD q) (List.mem_map.mpr ⟨q, hq, rfl⟩) (ratio_of q)
      rwa [toR_D] at this
    have so : standO (He.ga c.K "BadSlipRow") x = .ok (.tup (standL rs)) := by
      unfold standO
      rw [← eo]
      show Out.ok (.tup (standL ((rs.map ratD).map toR))) = _
      rw [toR_map]
    refine s_asg (ed_call (d := .tup ((brokenR rs).map ratD)) (es_cons (ed_var rfl) es_nil) ⟨rs, rfl, by omega, sz, rfl⟩ fun y ⟨rs', e, _, _, ey⟩ => ?_) ?_
    · rw [ey, maps_inj (Dt.tup.inj (List.cons.inj e).1)]
    have lb : (brokenR rs).length ≤ rs.length := Nat.le_trans len_sort (Nat.le_trans (List.length_filter_le _ _) (by rw [List.length_map]; exact Nat.le_refl _))
    refine s_asg (ED.is (ed_tupN (es_cons (ed_c (d := ratD 0) fun P => .tup (hz P) (.cons (.int 0) (.cons (.int 1) .nil))) (es_star (ed_var rfl) rfl es_nil)) (by rw [List.append_nil, List.length_cons, List.length_map]; omega)) (congrArg Dt.tupN (show _ = (0 :: brokenR rs).map ratD by rw [List.append_nil] <;> rfl))) ?_
    have el : ED c (tLc (iSeq c.K (tVar 1)) (gName 4) tYes (tTup (tCons (tCall (sp_floor_of c.K) [] E0 (tCons (tVar 4) tNil)) (tCons (tBMN (rTIndexD c.K) (tVar 3) (tCons (tCall (sp_broken_of c.K) [] E0 (tCons (tVar 4) tNil)) tNil)) tNil))) [4])
        [.dat x, .dat (.tup (rs.map ratD)), .dat (.tup ((brokenR rs).map ratD)), .dat (.tupN ((0 :: brokenR rs).map ratD)), .no] (.lst (standL rs)) := by
      refine EV.imp (ev_give hm (eo_lc (f := fun y es => es.set 4 (.dat y)) (p := fun _ => true) (fn := fun y => .tup [.int ((toR y).num / (toR y).den), .int (idxR (brokR (toR y)) (0 :: brokenR rs) : Nat)]) rfl (wi_seq (ed_var rfl) rfl) (by rw [List.length_map]; omega) (fun P y hy => tg_name) (fun y hy => rfl) (fun P _ y _ => eb_yes) fun P _ y hy _ => ?_)) fun z ⟨r, e1, e2⟩ => ?_
      · obtain ⟨p, hp, rfl⟩ := List.mem_map.mp hy
        rw [toR_D]
        have g := idx_get (brok_in hp)
        refine ed_tup (es_cons (ed_floor (ed_var rfl) ((sz p hp).mono (by decide))) (es_cons (ed_tindex (l := (0 :: brokenR rs).map ratD) (y := ratD (brokR p)) (ed_var rfl) (ed_broken (ed_var rfl)) (fine_ratsN _) rfl (by rw [List.getElem?_map, g] <;> rfl) (by rw [eqv_ratD, decide_eq_true rfl]) fun m z lt e => ?_) es_nil)) (by show 2 ≤ 100000; decide)
        rw [List.getElem?_map] at e
        obtain ⟨a, e1, rfl⟩ := Option.map_eq_some_iff.mp e
        rw [eqv_ratD, decide_eq_false (idx_no lt e1)]
      · rw [e1, e2, List.filter_eq_self.mpr (fun _ _ => rfl), List.map_map]
        refine congrArg Dt.lst (List.map_congr_left fun q _ => ?_)
        show Dt.tup [.int ((toR (ratD q)).num / (toR (ratD q)).den), .int (idxR (brokR (toR (ratD q))) (0 :: brokenR rs) : Nat)] = _
        rw [toR_D]
    refine c_ret (ed_tupleOf el rfl) (RetD.imp k fun d ed => ?_)
    rw [ed, so]
end
end Lw
set_option Elab.async false
set_option linter.all false
set_option maxRecDepth 100000
set_option maxHeartbeats 2000000
/-! passing.py told by rationals. -/
namespace Lw
open PySem PySem.Spec PyProof.Rows L2 My
def iR (w : Int) : Rat := Rat.divInt w 1
def ovR (p q : Rat) : Rat := Rat.divInt (p.num * q.den) (p.den * q.num)
def flR (q : Rat) : Int := q.num / q.den
def pairsN (n : Nat) : List (Nat × Nat) := (List.range n).flatMap fun a => (List.range (n - (a + 1))).map fun b => (a, a + 1 + b)
def distR (rs : List Rat) : List Rat := rs ++ (pairsN rs.length).map fun x => rs.getD x.1 0 - rs.getD x.2 0
def loR (s e : Rat) : Int := -(flR (0 - leastR s [s, e]))
def hiR (s e : Rat) : Int := flR (greatR s [s, e])
def wholeT (s e : Rat) : List Rat := if e - s = 0 then [] else (List.range (hiR s e + 1 - loR s e).toNat).map fun k => ovR (iR (loR s e + (k : Nat)) - s) (e - s)
def rowAt (rs os : List Rat) (t : Rat) : List Rat := List.zipWith (fun a b => a + t * (b - a)) rs os
abbrev SN := List (Int × Nat)
def standN (rs : List Rat) : SN := rs.map fun p => (p.num / p.den, idxR (brokR p) (0 :: brokenR rs))
def cpD (x : Int × Nat) : Dt := .tup [.int x.1, .int x.2]
def stD (s : SN) : Dt := .tup (s.map cpD)
theorem standL_eq (rs : List Rat) : standL rs = (standN rs).map cpD := by
  unfold standL standN
  rw [List.map_map] <;> rfl
abbrev Tr := Rat × Rat × SN
def trD (x : Tr) : Dt := .tup [ratD x.1, ratD x.2.1, stD x.2.2]
def midR (p q : Rat) : Rat := (p + q) * Rat.divInt 1 2
def item (S : Rat → SN) (T : List Rat) (k : Nat) : List Tr := (if 0 < k then [(T.getD (k - 1) 0, T.getD k 0, S (midR (T.getD (k - 1) 0) (T.getD k 0)))] else []) ++ [(T.getD k 0, T.getD k 0, S (T.getD k 0))]
def spansN (S : Rat → SN) (T : List Rat) (n : Nat) : List Tr := (List.range n).flatMap (item S T)
def jstep (found : List Tr) (x : Tr) : List Tr := match found.getLast? with
  | some y => if y.2.2 = x.2.2 then found.dropLast ++ [(y.1, x.2.1, x.2.2)] else found ++ [x]
  | none => found ++ [x]
def joinL (l : List Tr) : List Tr := l.foldl jstep []
def cutsR (rs os : List Rat) : List Rat := [0, 1] ++ ((distR rs).zip (distR os)).flatMap fun x => wholeT x.1 x.2
def instR (rs os : List Rat) : List Rat := sortR 8 (cutsR rs os)
def btwR (rs os : List Rat) : List Tr := joinL (spansN (fun t => standN (rowAt rs os t)) (instR rs os) (instR rs os).length)
def btwO (C : Addr) (x y : Dt) : Out := match rowO C x with
  | .ex C ns ds => .ex C ns ds
  | .ok d => match rowO C y with
    | .ex C ns ds => .ex C ns ds
    | .ok e => match d, e with
      | .tup l, .tup m => if l.length = m.length then .ok (.tup ((btwR (l.map toR) (m.map toR)).map trD)) else slipEx C 0 "many"
      | _, _ => .ok .non
/-- the law's own -/
def quietB (s e : Rat) : Bool := decide (s = e) || !lessR (iR (flR (if lessR s e then s else e) + 1)) (if lessR s e then e else s)
def betR (p q t : Rat) : Rat := p + (q - p) * t
def atR (rs os : List Rat) (t : Rat) : List Rat := List.zipWith (fun a b => betR a b t) rs os
def Row22 (x : Dt) : Prop := ∀ l, itemsD x = some l → ∀ y ∈ l, ratioB y = true → SzR 22 (toR y)
end Lw
set_option Elab.async false
set_option linter.all false
set_option maxRecDepth 100000
set_option maxHeartbeats 2000000
/-! passing.py: the reckoning by the order of the rationals. -/
namespace Lw
open PySem PySem.Spec PyProof.Rows L2 My
theorem less_iff {p q : Rat} : lessR p q = true ↔ p < q := by
  unfold lessR
  rw [decide_eq_true_iff, Rat.lt_iff]
theorem less_not {p q : Rat} : lessR p q = false ↔ q ≤ p := by
  rw [← Bool.not_eq_true, less_iff, Rat.not_lt]
theorem less_dec (p q : Rat) : lessR p q = decide (p < q) := by
  by_cases h : p < q
  · rw [decide_eq_true h, less_iff.mpr h]
  · rw [decide_eq_false h, less_not.mpr (Rat.not_lt.mp h)]
theorem fl_eq (q : Rat) : flR q = q.floor := (Rat.floor_def q).symm
theorem iR_eq (w : Int) : iR w = (w : Rat) := by
  unfold iR
  rw [Rat.divInt_eq_div]
  grind
theorem ovR_eq {p q : Rat} (h : q ≠ 0) : ovR p q = p / q := by
  unfold ovR
  rw [Rat.div_def]
  conv => rhs; rw [← divInt_of p, ← divInt_of q, Rat.inv_divInt, Rat.divInt_mul_divInt]
theorem half_eq : Rat.divInt 1 2 = 1 / 2 := by rw [Rat.divInt_eq_div] <;> rfl
theorem mid_eq (p q : Rat) : midR p q = (p + q) / 2 := by
  unfold midR
  rw [half_eq]
  grind
theorem brok_eq (p : Rat) : brokR p = p - (p.floor : Rat) := by
  have e : brokR p = Rat.divInt (p.num % p.den) p.den := (divInt_of (brokR p)).symm
  have hd : ((p.den : Int) : Rat) ≠ 0 := by
    have := den_pos p
    intro z
    have := Rat.intCast_eq_zero_iff.mp z
    omega
  have e2 : p = (p.num : Rat) / ((p.den : Int) : Rat) := by
    conv => lhs; rw [← divInt_of p, Rat.divInt_eq_div]
  have e3 : ((p.num % p.den : Int) : Rat) = (p.num : Rat) - ((p.den : Int) : Rat) * (p.floor : Rat) := by
    rw [← fl_eq, ← Rat.intCast_mul, ← Rat.intCast_sub]
    congr 1
    have := Int.emod_add_mul_ediv p.num p.den
    unfold flR
    omega
  rw [e, Rat.divInt_eq_div, e3]
  conv => rhs; rw [e2]
  generalize (p.num : Rat) = a at *
  generalize ((p.den : Int) : Rat) = b at *
  have ef : ((a / b).floor : Rat) = (p.floor : Rat) := by rw [← e2]
  rw [ef]
  grind
theorem fl_le (q : Rat) : (q.floor : Rat) ≤ q := Rat.floor_le q
theorem fl_lt (q : Rat) : q < (q.floor : Rat) + 1 := by
  have h := Rat.lt_floor_add_one q
  have e : ((q.floor + 1 : Int) : Rat) = (q.floor : Rat) + 1 := by rw [Rat.intCast_add] <;> rfl
  first
  | exact h
  | (rw [e] at h; exact h)
theorem cast1 (n : Int) : ((n + 1 : Int) : Rat) = (n : Rat) + 1 := by rw [Rat.intCast_add] <;> rfl
theorem fl_unique {q : Rat} {n : Int} (h1 : (n : Rat) ≤ q) (h2 : q < (n : Rat) + 1) : q.floor = n := by
  have a : n ≤ q.floor := Rat.le_floor_iff.mpr h1
  have b : q.floor < n + 1 := Rat.floor_lt_iff.mpr (by rw [cast1]; exact h2)
  omega
theorem brok_range (p : Rat) : 0 ≤ brokR p ∧ brokR p < 1 := by
  rw [brok_eq]
  have := fl_le p
  have := fl_lt p
  constructor <;> grind
/-- what lies between both ends of [a, b] -/
theorem conv_in {a b t l h : Rat} (ha : l ≤ a ∧ a ≤ h) (hb : l ≤ b ∧ b ≤ h) (ht : 0 ≤ t ∧ t ≤ 1) : l ≤ a + t * (b - a) ∧ a + t * (b - a) ≤ h := by
  have h1 : 0 ≤ t * (b - l) := Rat.mul_nonneg ht.1 (by grind)
  have h2 : 0 ≤ (1 - t) * (a - l) := Rat.mul_nonneg (by grind) (by grind)
  have h3 : 0 ≤ t * (h - b) := Rat.mul_nonneg ht.1 (by grind)
  have h4 : 0 ≤ (1 - t) * (h - a) := Rat.mul_nonneg (by grind) (by grind)
  constructor <;> grind
theorem least_eq (s e : Rat) : leastR s [s, e] = if e < s then e else s := by
  unfold leastR
  simp only [List.foldl_cons, List.foldl_nil, less_dec]
  have : decide (s < s) = false := decide_eq_false (by grind)
  rw [this]
  by_cases h : e < s
  · rw [if_pos h]
    simp [h]
  · rw [if_neg h]
    simp [h]
theorem great_eq (s e : Rat) : greatR s [s, e] = if s < e then e else s := by
  unfold greatR
  simp only [List.foldl_cons, List.foldl_nil, less_dec]
  have : decide (s < s) = false := decide_eq_false (by grind)
  rw [this]
  by_cases h : s < e
  · rw [if_pos h]
    simp [h]
  · rw [if_neg h]
    simp [h]
theorem lo_le {s e : Rat} {w : Int} : loR s e ≤ w ↔ (s ≤ w ∨ e ≤ w) := by
  unfold loR
  rw [fl_eq, least_eq]
  have key : ∀ m : Rat, -(0 - m).floor ≤ w ↔ m ≤ w := fun m => by
    have h : -w ≤ (0 - m).floor ↔ ((-w : Int) : Rat) ≤ 0 - m := Rat.le_floor_iff
    rw [Rat.intCast_neg] at h
    constructor
    · intro z
      have := h.mp (by omega)
      grind
    · intro z
      have := h.mpr (by grind)
      omega
  by_cases h : e < s
  · rw [if_pos h, key]
    constructor
    · intro z; exact .inr z
    · rintro (z | z)
      · grind
      · exact z
  · rw [if_neg h, key]
    constructor
    · intro z; exact .inl z
    · rintro (z | z)
      · exact z
      · grind
theorem le_hi {s e : Rat} {w : Int} : w ≤ hiR s e ↔ ((w : Rat) ≤ s ∨ (w : Rat) ≤ e) := by
  unfold hiR
  rw [fl_eq, great_eq, Rat.le_floor_iff]
  by_cases h : s < e
  · rw [if_pos h]
    constructor
    · intro z; exact .inr z
    · rintro (z | z)
      · grind
      · exact z
  · rw [if_neg h]
    constructor
    · intro z; exact .inl z
    · rintro (z | z)
      · exact z
      · grind
/-- the times at which what goes from s to e gets whole -/
theorem times_iff {s e t : Rat} : t ∈ wholeT s e ↔ s ≠ e ∧ 0 ≤ t ∧ t ≤ 1 ∧ ∃ w : Int, s + t * (e - s) = w := by
  unfold wholeT
  by_cases h : e - s = 0
  · rw [if_pos h]
    constructor
    · intro z; cases z
    · rintro ⟨z, _⟩
      exact (z (by grind)).elim
  · rw [if_neg h]
    have hne : s ≠ e := fun z => h (by grind)
    constructor
    · intro z
      obtain ⟨k, hk, rfl⟩ := List.mem_map.mp z
      rw [List.mem_range] at hk
      have h1 : loR s e ≤ loR s e + (k : Nat) := by omega
      have h2 : loR s e + (k : Nat) ≤ hiR s e := by omega
      generalize loR s e + ((k : Nat) : Int) = w at *
      rw [lo_le] at h1
      rw [le_hi] at h2
      rw [ovR_eq h, iR_eq]
      have hx : s + ((w : Rat) - s) / (e - s) * (e - s) = w := by grind
      have hr : 0 ≤ ((w : Rat) - s) / (e - s) ∧ ((w : Rat) - s) / (e - s) ≤ 1 := by
        generalize ((w : Rat) - s) / (e - s) = t at *
        by_cases lt : s < e
        · have a : s ≤ w ∧ (w : Rat) ≤ e := by grind
          constructor
          · rcases Rat.le_total (a := 0) (b := t) with z | z
            · exact z
            · have := Rat.mul_nonneg (a := -t) (b := e - s) (by grind) (by grind)
              have e0 : t * (e - s) = 0 := by grind
              have : t = 0 := (Rat.mul_eq_zero.mp e0).resolve_right h
              grind
          · rcases Rat.le_total (a := t) (b := 1) with z | z
            · exact z
            · have := Rat.mul_nonneg (a := t - 1) (b := e - s) (by grind) (by grind)
              have e0 : (t - 1) * (e - s) = 0 := by grind
              have := (Rat.mul_eq_zero.mp e0).resolve_right h
              grind
        · have a : e ≤ w ∧ (w : Rat) ≤ s := by grind
          constructor
          · rcases Rat.le_total (a := 0) (b := t) with z | z
            · exact z
            · have := Rat.mul_nonneg (a := -t) (b := s - e) (by grind) (by grind)
              have e0 : t * (e - s) = 0 := by grind
              have : t = 0 := (Rat.mul_eq_zero.mp e0).resolve_right h
              grind
          · rcases Rat.le_total (a := t) (b := 1) with z | z
            · exact z
            · have := Rat.mul_nonneg (a := t - 1) (b := s - e) (by grind) (by grind)
              have e0 : (t - 1) * (e - s) = 0 := by grind
              have := (Rat.mul_eq_zero.mp e0).resolve_right h
              grind
      exact ⟨hne, hr.1, hr.2, w, hx⟩
    · rintro ⟨_, h0, h1, w, hw⟩
      have hb : (s ≤ w ∧ (w : Rat) ≤ e) ∨ (e ≤ w ∧ (w : Rat) ≤ s) := by
        rcases Rat.le_total (a := s) (b := e) with z | z
        · left
          have := conv_in (a := s) (b := e) (t := t) (l := s) (h := e) (by grind) (by grind) ⟨h0, h1⟩
          grind
        · right
          have := conv_in (a := s) (b := e) (t := t) (l := e) (h := s) (by grind) (by grind) ⟨h0, h1⟩
          grind
      have hl : loR s e ≤ w := lo_le.mpr (by grind)
      have hh : w ≤ hiR s e := le_hi.mpr (by grind)
      refine List.mem_map.mpr ⟨(w - loR s e).toNat, List.mem_range.mpr (by omega), ?_⟩
      have ew : loR s e + (((w - loR s e).toNat : Nat) : Int) = w := by omega
      rw [ew, ovR_eq h, iR_eq]
      grind
end Lw
set_option Elab.async false
set_option linter.all false
set_option maxRecDepth 100000
set_option maxHeartbeats 2000000
/-! Zip of tuples, comprehensions with two sources, own lists looked at, errors with two fields told. -/
namespace My
open PySem PySem.Spec PyProof.Rows L2 RZ
open Evl (Ex)
/-! zip of tuples -/
theorem walk_zipT {K : PySem.W.Frag} {a b : Addr} {xs ys : List V} {n : Nat} (hn : n = min xs.length ys.length) : Walk (ItzT K a b) n (fun H => SqT K H a xs ∧ SqT K H b ys) (YPair (fun i => xs[i]?) (fun i => ys[i]?)) := by
  subst hn
  constructor
  · intro i H lt gx
    have l1 : i < xs.length := Nat.lt_of_lt_of_le lt (Nat.min_le_left _ _)
    have l2 : i < ys.length := Nat.lt_of_lt_of_le lt (Nat.min_le_right _ _)
    exact ⟨xs, ys, _, _, gx.1, gx.2, List.getElem?_eq_getElem l1, List.getElem?_eq_getElem l2⟩
  · intro H gx
    refine ⟨xs, ys, gx.1, gx.2, ?_⟩
    rcases Nat.le_total xs.length ys.length with z | z
    · left; rw [Nat.min_eq_left z]; exact Nat.le_refl _
    · right; rw [Nat.min_eq_right z]; exact Nat.le_refl _
  · intro i H v H' _ gx ⟨T, x, z, e1, e2, e3, e4, e5⟩
    exact ⟨T, x, z, e1, e2, e3, e4 xs gx.1, e5 ys gx.2⟩
section
variable {c : Fr} {es : List Sv} {ta tb te : TE} {ts : TA} {x y d : Dt} {l m : List Dt} {tt tu : TT} {D : Ends} {t u : TS} {n : Nat} {i j : Int} {b : Bool}
theorem wi_zipT (h : EDs c ts es [.tup l, .tup m]) : WI c (iZipA c.K ts) es (List.zipWith (fun a b => Dt.tup [a, b]) l m) := fun σ P H r R q =>
  h σ P H r _ fun vs P1 H1 z hz r1 e1 h1 => by
    subst hz
    cases h1 with
    | cons a1 h1 =>
      cases h1 with
      | cons a2 h1 =>
        cases h1
        cases a1 with
        | @tup A xs _ s k =>
          cases a2 with
          | @tup B ys _ s2 k2 =>
            refine ⟨_, _, _, _, rfl, .inr ⟨Evl.ex_t r1.ex s, Evl.ex_t r1.ex s2, q (ItzT c.K A B) P1 H1 (fun H => SqT c.K H A xs ∧ SqT c.K H B ys) (YPair (fun i => xs[i]?) fun i => ys[i]?) r1 e1 (by rw [List.length_zipWith, ← k.len, ← k2.len]; exact walk_zipT rfl) (fun P' H' a b => ⟨Evl.ex_t (a.trans b) s, Evl.ex_t (a.trans b) s2⟩) fun i P' H' x H'' hi a b y => ?_⟩⟩
            obtain ⟨T, x1, x2, rfl, nT, rfl, e2, e3⟩ := y
            obtain ⟨d1, e4, hd1⟩ := k.get' e2
            obtain ⟨d2, e5, hd2⟩ := k2.get' e3
            have g := grow_new (o := .tup [x1, x2]) b nT
            refine ⟨_, .tup [d1, d2], g, by rw [List.getElem?_zipWith, e4, e5], ?_⟩
            exact .tup (Evl.st_of upd_same) (.cons (Has.mono (a.trans g.p) _ hd1) (.cons (Has.mono (a.trans g.p) _ hd2) .nil))
theorem wi_zipL (h : EDs c ts es [.lst l, .lst m]) : WI c (iZipA c.K ts) es (List.zipWith (fun a b => Dt.tup [a, b]) l m) := fun σ P H r R q =>
  h σ P H r _ fun vs P1 H1 z hz r1 e1 h1 => by
    subst hz
    cases h1 with
    | cons a1 h1 =>
      cases h1 with
      | cons a2 h1 =>
        cases h1
        cases a1 with
        | @lst A xs _ s k =>
          cases a2 with
          | @lst B ys _ s2 k2 =>
            refine ⟨_, _, _, _, rfl, .inl ⟨Evl.ex_l r1.ex s, Evl.ex_l r1.ex s2, q (Itz c.K A B) P1 H1 (fun H => SqL c.K H A xs ∧ SqL c.K H B ys) (YPair (fun i => xs[i]?) fun i => ys[i]?) r1 e1 (by rw [List.length_zipWith, ← k.len, ← k2.len]; exact walk_zip rfl) (fun P' H' a b => ⟨Evl.ex_l (a.trans b) s, Evl.ex_l (a.trans b) s2⟩) fun i P' H' x H'' hi a b y => ?_⟩⟩
            obtain ⟨T, x1, x2, rfl, nT, rfl, e2, e3⟩ := y
            obtain ⟨d1, e4, hd1⟩ := k.get' e2
            obtain ⟨d2, e5, hd2⟩ := k2.get' e3
            have g := grow_new (o := .tup [x1, x2]) b nT
            refine ⟨_, .tup [d1, d2], g, by rw [List.getElem?_zipWith, e4, e5], ?_⟩
            exact .tup (Evl.st_of upd_same) (.cons (Has.mono (a.trans g.p) _ hd1) (.cons (Has.mono (a.trans g.p) _ hd2) .nil))
/-! own lists: walked, looked into, put together -/
/-- as WI, where it may be read off the slots too -/
def WR (c : Fr) (wi : TI) (es : List Sv) (l : List Dt) : Prop :=
  ∀ σ P H, Rep c P H σ es → ∀ R : It → Hp → Prop, (∀ J P1 H1 G Y, Rep c P1 H1 σ es → Kp es P H P1 H1 → Walk J l.length G Y → (∀ P' H', Rep (c.at P1) P' H' σ es → G H') →
    (∀ i P' H' x H'', i < l.length → Rep (c.at P1) P' H' σ es → Y i H' x H'' → ∃ P'' d, Grow P' H' P'' H'' ∧ l[i]? = some d ∧ Has c.K P'' x d) → R J H1) → wi σ H R
theorem WI.r {wi : TI} (h : WI c wi es l) : WR c wi es l := fun σ P H r R q => h σ P H r R fun J P1 H1 G Y r1 e1 w hG hY => q J P1 H1 G Y r1 e1 w (fun P' H' r' => hG P' H' r'.b r'.ex) fun i P' H' x H'' hi r' y => hY i P' H' x H'' hi r'.b r'.ex y
theorem wr_own {a : Addr} (hn : es[n]? = some (.own a l)) : WR c (iSeq c.K (tVar n)) es l := fun σ P H r R q => by
  obtain ⟨e0, m1, m2, xs, hx, hd⟩ := r.sl.getO hn
  refine ⟨_, e0, a, rfl, .inl ⟨⟨xs, Evl.sq_of hx⟩, q (Itl c.K a) P H (fun H => ∃ ys, H a = some (.lst ys) ∧ ys.length = l.length) (fun i H x H' => H' = H ∧ ∃ ys, H a = some (.lst ys) ∧ ys[i]? = some x) r Kp.refl ?_ (fun P' H' r' => ?_) fun i P' H' x H'' hi r' y => ?_⟩⟩
  · constructor
    · intro i H lt ⟨ys, e, el⟩
      exact (walk_list (xs := ys)).goes i H (by rw [el]; exact lt) (Evl.sq_of e)
    · intro H ⟨ys, e, el⟩
      rw [← el]
      exact (walk_list (xs := ys)).stops H (Evl.sq_of e)
    · intro i H x H' lt ⟨ys, e, el⟩ y
      obtain ⟨e1, e2⟩ := (walk_list (xs := ys)).yields i H x H' (by rw [el]; exact lt) (Evl.sq_of e) y
      exact ⟨e1, ys, e, e2⟩
  · obtain ⟨_, _, _, ys, hy, hd'⟩ := r'.sl.getO hn
    exact ⟨ys, hy, hd'.len⟩
  · obtain ⟨_, _, _, ys, hy, hd'⟩ := r'.sl.getO hn
    obtain ⟨rfl, zs, hz, e⟩ := y
    rw [hy] at hz
    cases hz
    obtain ⟨d, e4, h4⟩ := hd'.get' e
    exact ⟨P', d, .refl r'.ex, e4, h4⟩
theorem Rep.turnO {P H : Hp} {σ : L2.St} {a : Addr} {ys : List V} (r : Rep c P H σ es) (h0 : c.H0 a = none) (hP : P a = none) (na : a ∉ owns es) : Rep c P (upd H a (.lst ys)) σ es :=
  ⟨r.b, fun b o m h => by
    by_cases z : b = a
    · subst z; rw [h0] at h; cases h
    · rw [upd_ne z]; exact r.old b o m h, fun b h => by
    by_cases z : b = a
    · subst z; rw [upd_same] at h; cases h
    · rw [upd_ne z] at h; exact r.dom b h, fun b o h => by
    by_cases z : b = a
    · subst z; rw [hP] at h; cases h
    · rw [upd_ne z]; exact r.ex b o h, r.fr, r.sl.turn hP na, r.nd⟩
theorem grow_none {P H P' H' : Hp} {a : Addr} {o : HO} (g : Grow P H P' H') (h : P a = none) (hH : H a = some o) : P' a = none := by
  cases z : P' a with
  | none => rfl
  | some u =>
    rcases g.f _ _ z with w | w
    · rw [h] at w; cases w
    · rw [hH] at w; cases w
theorem kp_none {P H P' H' : Hp} {a : Addr} {o : HO} (g : Kp es P H P' H') (h : P a = none) (hH : H a = some o) : P' a = none := by
  cases z : P' a with
  | none => rfl
  | some u =>
    rcases g.f _ _ z with w | w
    · rw [h] at w; cases w
    · rw [hH] at w; cases w
theorem eo_lcR {wi : TI} {g : TG} {f : Dt → List Sv → List Sv} {vs : List Nat} {p : Dt → Bool} {fn : Dt → Dt} (hh : handsOf es = []) (h : WR c wi es l) (hl : l.length ≤ 1000000) (hg : ∀ P y, y ∈ l → TgD (c.at P) g (f y) vs y)
    (hf : ∀ y ∈ l, handsOf (f y (wipeE es vs)) = []) (ht : ∀ P, Low c P → ∀ y ∈ l, EBd (c.at P) tt (f y (wipeE es vs)) (p y)) (he : ∀ P, Low c P → ∀ y ∈ l, p y = true → ED (c.at P) te (f y (wipeE es vs)) (fn y)) :
    EO c (tLc wi g tt te vs) es (fun r => r = (l.filter p).map fn) := fun σ P H r Q q =>
  h σ P H r _ fun J P1 H1 G Y r1 e1 w hG hY => fun a ha => by
    have L : Low c P1 := r1.low
    have na := r1.fresh ha
    let Pv : Nat → Hp → Prop := fun i H => ∃ P xs, Rep (c.at P1) P H σ es ∧ Kp es P1 H1 P H ∧ P a = none ∧ H a = some (.lst xs) ∧ HasAll c.K P xs (((l.take i).filter p).map fn)
    have g0 := grow_own (o := .lst []) r1.ex ha
    refine lc_it w Pv ⟨P1, [], r1.at.step g0, .of g0, none_back r1.ex ha, upd_same, .nil⟩ (fun i H _ ⟨P, xs, r, _⟩ => hG P H r) (fun i x H H' hi ⟨P, xs, r, eH, hPa, hHa, hd⟩ y => ?_) fun H ⟨P, xs, r, eH, hPa, hHa, hd⟩ => ?_
    · obtain ⟨P', d, g', e, hx⟩ := hY i P H x H' hi r y
      have hm : d ∈ l := List.mem_of_getElem? e
      have r2 := r.step g'
      have tk : l.take (i + 1) = l.take i ++ [d] := by rw [List.take_add_one, e] <;> rfl
      refine hg P1 d hm x P' H' _ _ _ (r2.wipe vs) hx fun σ' hw r3 => ⟨by rw [hw]; exact wipe_wipe, ?_⟩
      refine ht P1 L d hm σ' P' H' r3 _ fun b P3 H3 hb r4 k4 => ?_
      have hPa' := grow_none g' hPa hHa
      have hHa' := g'.h _ _ hHa
      subst hb
      have g4 := k4.grow (hf d hm) r4.ex
      cases hp : p d with
      | false =>
        refine iteF ?_
        refine ⟨P3, xs, r2.step g4, (eH.trans (.of g')).trans (.of g4), grow_none g4 hPa' hHa', g4.h _ _ hHa', ?_⟩
        rw [tk, List.filter_append, List.filter_cons, if_neg (by rw [hp]; decide), List.filter_nil, List.append_nil]
        exact HasAll.mono (g'.p.trans g4.p) _ hd
      | true =>
        refine iteT ?_
        refine he P1 L d hm hp σ' P3 H3 r4 _ fun v P4 H4 dv hv r6 k6 hx6 => ?_
        subst hv
        have g7 := g4.trans (k6.grow (hf d hm) r6.ex)
        have len : xs.length ≤ l.length := by
          rw [hd.len, List.length_map]
          exact Nat.le_trans (List.length_filter_le _ _) (by rw [List.length_take]; omega)
        refine ⟨xs, g7.h _ _ hHa', Nat.lt_of_le_of_lt (Nat.le_trans len hl) (by decide), P4, xs ++ [v], (r2.step g7).turnO (r1.dom a ha) (grow_none g7 hPa' hHa') na, ((eH.trans (.of g')).trans (.of g7)).put ha, grow_none g7 hPa' hHa', upd_same, ?_⟩
        rw [tk, List.filter_append, List.filter_cons, if_pos hp, List.filter_nil, List.map_append]
        exact (HasAll.mono (g'.p.trans g7.p) _ hd).append (.cons hx6 .nil)
    · have et : l.take l.length = l := List.take_length
      rw [et] at hd
      have r' := L r
      exact q a P H _ rfl r' (e1.trans eH) na (e1.n a ha) ⟨.inl (r1.dom a ha), hPa, xs, hHa, hd⟩
/-- the item draws from a hand -/
theorem eo_lcH {wi : TI} {g : TG} {f : Dt → List Sv → List Sv} {vs : List Nat} {φ : Dt → Prop} {ad : Addr} {k : Nat} (hk : es[k]? = some (.hand ad)) (h : WR c wi es l) (hl : l.length ≤ 100000) (hg : ∀ P y, y ∈ l → TgD (c.at P) g (f y) vs y)
    (hf : ∀ y ∈ l, handsOf (f y (wipeE es vs)) = [ad] ∧ (f y (wipeE es vs))[k]? = some (.hand ad)) (he : ∀ P, Low c P → ∀ y ∈ l, EV (c.at P) te (f y (wipeE es vs)) φ) :
    EO c (tLc wi g tYes te vs) es (fun r => r.length = l.length ∧ ∀ d ∈ r, φ d) := fun σ P H r Q q =>
  h σ P H r _ fun J P1 H1 G Y r1 e1 w hG hY => fun a ha => by
    have L : Low c P1 := r1.low
    have na := r1.fresh ha
    have nad : a ≠ ad := fun z => na (by rw [z]; exact owns_mem (ds := []) (.inr hk))
    let Pv : Nat → Hp → Prop := fun i H => ∃ P xs ds, Rep (c.at P1) P H σ es ∧ Kp es P1 H1 P H ∧ P a = none ∧ H a = some (.lst xs) ∧ HasAll c.K P xs ds ∧ ds.length = i ∧ ∀ d ∈ ds, φ d
    have g0 := grow_own (o := .lst []) r1.ex ha
    refine lc_it w Pv ⟨P1, [], [], r1.at.step g0, .of g0, none_back r1.ex ha, upd_same, .nil, rfl, fun d m => by cases m⟩ (fun i H _ ⟨P, xs, ds, r, _⟩ => hG P H r) (fun i x H H' hi ⟨P, xs, ds, r, eH, hPa, hHa, hd, hn, hφ⟩ y => ?_) fun H ⟨P, xs, ds, r, eH, hPa, hHa, hd, hn, hφ⟩ => ?_
    · obtain ⟨P', d, g', e, hx⟩ := hY i P H x H' hi r y
      have hm : d ∈ l := List.mem_of_getElem? e
      have r2 := r.step g'
      obtain ⟨hf1, hf2⟩ := hf d hm
      refine hg P1 d hm x P' H' _ _ _ (r2.wipe vs) hx fun σ' hw r3 => ⟨by rw [hw]; exact wipe_wipe, ?_⟩
      have hPa' := grow_none g' hPa hHa
      have hHa' := g'.h _ _ hHa
      refine iteT (B := Pv (i + 1) H') ?_
      refine he P1 L d hm σ' P' H' r3 _ fun v P4 H4 dv hv r6 k6 hx6 => ?_
      obtain ⟨_, hs, ok, n1, n2, us, hu, hud⟩ := r6.sl.getH hf2
      have kk : ∀ b o, b ≠ ad → H' b = some o → H4 b = some o := fun b o ne h => k6.k b o (by rw [hf1]; exact fun m => ne (List.mem_singleton.mp m)) h
      have r7 : Rep (c.at P1) P4 H4 σ es := r2.hands hk k6.p kk k6.n r6.ex k6.f n2 hu hud ok
      have hPa4 : P4 a = none := kp_none k6 hPa' hHa'
      have K4 : Kp es P' H' P4 H4 := ⟨k6.p, fun b o n h => kk b o (fun z => n (by rw [z]; exact hands_mem hk)) h, k6.n, k6.f⟩
      refine ⟨xs, kk a _ nad hHa', Nat.lt_of_le_of_lt (show xs.length ≤ 100000 by rw [hd.len, hn]; omega) (by decide), P4, xs ++ [v], ds ++ [dv], r7.turnO (r1.dom a ha) hPa4 na, ((eH.trans (.of g')).trans K4).put ha, hPa4, upd_same, (HasAll.mono (g'.p.trans k6.p) _ hd).append (.cons hx6 .nil), by rw [List.length_append, hn] <;> rfl, fun z m => ?_⟩
      rcases List.mem_append.mp m with m | m
      · exact hφ z m
      · cases List.mem_singleton.mp m; exact hv
    · exact q a P H ds ⟨hn, hφ⟩ (L r) (e1.trans eH) na (e1.n a ha) ⟨.inl (r1.dom a ha), hPa, xs, hHa, hd⟩
/-- a fresh list handed on as data where one draws from a hand -/
theorem ev_giveH {ρ : List Dt → Prop} {ad : Addr} {k : Nat} (hm : c.mu = [ad]) (hk : es[k]? = some (.hand ad)) (h : EO c te es ρ) : EV c te es (fun z => ∃ l, z = .lst l ∧ ρ l) := fun σ P H r Q q =>
  h σ P H r _ fun l P1 H1 ds hρ r1 e1 hn h0 ⟨m1, m2, xs, hx, hd⟩ => by
    have m0 : c.H0 l = none := m1.elim id fun z => by
      rw [hm] at z
      cases List.mem_singleton.mp z
      exact (hn (owns_mem (ds := []) (.inr hk))).elim
    exact q _ _ _ _ ⟨ds, rfl, hρ⟩ (r1.give hn m0 m2 hx) (e1.give h0 m2) (.lst (Evl.sq_of upd_same) (HasAll.mono (Ex.new m2) _ hd))
theorem own_gone {a : Addr} {ds : List Dt} : ∀ {es : List Sv} {n : Nat}, (owns es).Nodup → es[n]? = some (.own a ds) → a ∉ owns (es.set n .no)
  | [], _, _, e => by simp at e
  | s :: es, 0, nd, e => by
    cases Option.some.inj e
    exact (List.nodup_cons.mp nd).1
  | s :: es, n + 1, nd, e => by
    have e' : es[n]? = some (.own a ds) := by simpa using e
    cases s with
    | no => exact own_gone (es := es) nd e'
    | dat _ => exact own_gone (es := es) nd e'
    | own b _ =>
      have nd' := List.nodup_cons.mp (show (b :: owns es).Nodup from nd)
      intro m
      rcases List.mem_cons.mp (show a ∈ b :: owns (es.set n .no) from m) with z | z
      · exact nd'.1 (by rw [← z]; exact owns_mem (.inl e'))
      · exact own_gone nd'.2 e' z
    | hand b =>
      have nd' := List.nodup_cons.mp (show (b :: owns es).Nodup from nd)
      intro m
      rcases List.mem_cons.mp (show a ∈ b :: owns (es.set n .no) from m) with z | z
      · exact nd'.1 (by rw [← z]; exact owns_mem (ds := ds) (.inl e'))
      · exact own_gone nd'.2 e' z
    | gen b ins _ =>
      have nd' := List.nodup_append.mp (show ((b :: ins) ++ owns es).Nodup from nd)
      intro m
      rcases List.mem_append.mp (show a ∈ (b :: ins) ++ owns (es.set n .no) from m) with z | z
      · exact nd'.2.2 a z a (owns_mem (ds := ds) (.inl e')) rfl
      · exact own_gone nd'.2.1 e' z
theorem c_giveH {k : L2.St → Hp → Prop} {ad : Addr} {j : Nat} {a : Addr} {ds : List Dt} (hn : es[n]? = some (.own a ds)) (hk : es[j]? = some (.hand ad)) (hm : c.mu = [ad]) (h : Cont c k (es.set n (.dat (.lst ds)))) : Cont c k es := fun σ P H r => by
  obtain ⟨e0, m1, m2, xs, hx, hd⟩ := r.sl.getO hn
  have m0 : c.H0 a = none := m1.elim id fun z => by
    rw [hm] at z
    cases List.mem_singleton.mp z
    exact (own_hand hn r.nd (hands_mem hk)).elim
  have r2 := (r.drop (o := none) n).give (own_gone r.nd hn) m0 m2 hx
  have r3 := r2.put n (v := .ref a) (d := .lst ds) (.lst (Evl.sq_of upd_same) (HasAll.mono (Ex.new m2) _ hd))
  rw [List.set_set, List.set_set] at r3
  have e1 : σ.set n (some (.ref a)) = σ := by
    obtain ⟨hl, hv⟩ := List.getElem?_eq_some_iff.mp e0
    rw [← hv]
    exact List.set_getElem_self hl
  rw [e1] at r3
  exact h σ _ H r3
/-- own lists compared, looked into -/
theorem own_dp {P H : Hp} {σ : L2.St} {a : Addr} (r : Rep c P H σ es) (hn : es[n]? = some (.own a l)) (hb : bareAll l = true) : Dp c.K H (.ref a) (.list (pyAll l)) := by
  obtain ⟨_, _, _, xs, hx, hd⟩ := r.sl.getO hn
  exact .lst (Evl.sq_of hx) (HasAll.dp l (HasAll.mono r.ex _ hd) hb)
theorem ed_inO {a : Addr} (ha : ED c ta es x) (hn : es[n]? = some (.own a l)) (hx : fine x = true) (hy : fine (.lst l) = true) : ED c (tOp (rInD c.K) ta (tVar n)) es (.bl (l.any fun y => eqv y x)) := fun σ P H r Q q =>
  ha σ P H r _ fun v P1 H1 z hz r1 e1 h1 => by
    subst hz
    refine ⟨_, (r1.sl.getO hn).1, py z, pyAll l, Has.dp z (Has.mono r1.ex _ h1) (fine_bare hx), own_dp r1 hn (fine_bare hy), fine_shaped hx, fine_shaped hy, ?_⟩
    rw [any_eqv]
    exact q _ P1 H1 _ rfl r1 e1 (.bl _)
theorem ed_notInO {a : Addr} (ha : ED c ta es x) (hn : es[n]? = some (.own a l)) (hx : fine x = true) (hy : fine (.lst l) = true) : ED c (tOp (rNotInD c.K) ta (tVar n)) es (.bl (!l.any fun y => eqv y x)) := fun σ P H r Q q =>
  ha σ P H r _ fun v P1 H1 z hz r1 e1 h1 => by
    subst hz
    refine ⟨_, (r1.sl.getO hn).1, py z, pyAll l, Has.dp z (Has.mono r1.ex _ h1) (fine_bare hx), own_dp r1 hn (fine_bare hy), fine_shaped hx, fine_shaped hy, ?_⟩
    rw [any_eqv]
    exact q _ P1 H1 _ rfl r1 e1 (.bl _)
theorem ed_neO {a : Addr} (hn : es[n]? = some (.own a l)) (hb : EO c tb es (fun r => r = m)) (hx : fine (.lst l) = true) (hy : fine (.lst m) = true) : ED c (tOp (rNeD c.K) (tVar n) tb) es (.bl (!eqv (.lst l) (.lst m))) := fun σ P H r Q q => by
  refine ⟨_, (r.sl.getO hn).1, hb σ P H r _ fun b P1 H1 ds hd r1 e1 hb1 h0 ⟨m1, m2, ys, hy1, hy2⟩ => ?_⟩
  subst hd
  refine ⟨.list (pyAll l), .list (pyAll ds), own_dp r1 hn (fine_bare hx), .lst (Evl.sq_of hy1) (HasAll.dp ds (HasAll.mono r1.ex _ hy2) (fine_bare hy)), fine_shaped hx, fine_shaped hy, q _ P1 H1 _ rfl r1 e1 (.bl _)⟩
abbrev rInsert : V → List V → Hp → VK → Prop := fun x vs H Q => ∃ (l : Addr) (xs : List V) (i : Int) (y : V), x = .ref l ∧ vs = [.int i, y] ∧ H l = some (.lst xs) ∧ xs.length < sizeLine ∧ 0 ≤ i ∧ i < 2 ^ 63 ∧ Q .non (upd H l (.lst (xs.take i.toNat ++ [y] ++ xs.drop i.toNat)))
theorem s_ins {a : Addr} {ds : List Dt} {k : Nat} (h0 : es[n]? = some (.own a ds)) (h : EDs c ts es [.int k, d]) (hk : k ≤ ds.length) (hz : ds.length < 100000) (q : Cont c D.nx (es.set n (.own a (ds.take k ++ [d] ++ ds.drop k)))) :
    Cont c (tDrop (tBM c.K "list" rInsert (tVar n) ts) D) es := fun σ P H r0 => by
  obtain ⟨e0, _, _, xs, hx, hd⟩ := r0.sl.getO h0
  refine ⟨_, e0, .inl ⟨rfl, xs, Evl.sq_of hx⟩, h σ P H r0 _ fun vs P1 H1 l hl r1 e1 h1 => ?_⟩
  subst hl
  cases h1 with
  | cons a1 h1 =>
    cases h1 with
    | cons a2 h1 =>
      cases h1
      cases a1
      obtain ⟨_, _, _, ys, hy, hd⟩ := r1.sl.getO h0
      have hlt : ys.length < 100000 := by rw [hd.len]; exact hz
      refine ⟨a, ys, k, _, rfl, rfl, hy, Evl.sz_lt hlt, by omega, ?_, q _ P1 _ (r1.change h0 ?_)⟩
      · have : (2 : Int) ^ 63 = 9223372036854775808 := rfl
        omega
      · exact ((HasAll.take k hd).append (.cons a2 .nil)).append (HasAll.drop k hd)
theorem s_ext {a : Addr} {ds : List Dt} {ρ : List Dt → Prop} (h0 : es[n]? = some (.own a ds)) (h : EO c te es ρ) (hz : ∀ l, ρ l → ds.length + l.length ≤ 100000) (k : ∀ l, ρ l → Cont c (u D) (es.set n (.own a (ds ++ l)))) :
    Cont c (tSeq (tDrop (tBM c.K "list" rExtend (tVar n) (tCons te tNil))) u D) es := c_seq fun σ P H r => by
  obtain ⟨e0, _, _, xs, hx, hd⟩ := r.sl.getO h0
  refine ⟨_, e0, .inl ⟨rfl, xs, Evl.sq_of hx⟩, h σ P H r _ fun b P1 H1 l hl r1 e1 hb h00 ⟨m1, m2, zs, hz1, hz2⟩ => ?_⟩
  obtain ⟨_, _, _, ys, hy, hd⟩ := r1.sl.getO h0
  exact ⟨a, b, ys, zs, rfl, rfl, hy, hz1, Evl.sz_of (by rw [hd.len, hz2.len]; exact hz l hl), k l hl _ P1 _ (r1.change h0 (hd.append hz2))⟩
/-! two sources -/
theorem eo_lc2 {wi wi1 : TI} {g g1 : TG} {f f1 : Dt → List Sv → List Sv} {vs vs1 : List Nat} {lz : Dt → List Dt} {fn : Dt → Dt → Dt} (h : WI c wi es l) (hl : (l.flatMap fun y => (lz y).map (fn y)).length ≤ 100000)
    (hg : ∀ P y, y ∈ l → TgD (c.at P) g (f y) vs y) (hf : ∀ y ∈ l, handsOf (f y (wipeE es vs)) = [] ∧ ∀ x ∈ owns (f y (wipeE es vs)), x ∈ owns es)
    (h1 : ∀ P, Low c P → ∀ y ∈ l, WI (c.at P) wi1 (f y (wipeE es vs)) (lz y)) (hg1 : ∀ P y z, y ∈ l → z ∈ lz y → TgD (c.at P) g1 (f1 z) vs1 z)
    (hf1 : ∀ y ∈ l, ∀ z ∈ lz y, handsOf (f1 z (wipeE (f y (wipeE es vs)) vs1)) = [])
    (he : ∀ P, Low c P → ∀ y ∈ l, ∀ z ∈ lz y, ED (c.at P) te (f1 z (wipeE (f y (wipeE es vs)) vs1)) (fn y z)) :
    EO c (tLc2 wi g tYes wi1 g1 tYes te vs vs1) es (fun r => r = l.flatMap fun y => (lz y).map (fn y)) := fun σ P H r Q q =>
  h σ P H r _ fun J P1 H1 G Y r1 e1 w hG hY => fun a ha => by
    have L : Low c P1 := r1.low
    have na := r1.fresh ha
    let res : Nat → List Dt := fun i => (l.take i).flatMap fun y => (lz y).map (fn y)
    let Pv : Nat → Hp → Prop := fun i H => ∃ P xs, Rep (c.at P1) P H σ es ∧ Kp es P1 H1 P H ∧ P a = none ∧ H a = some (.lst xs) ∧ HasAll c.K P xs (res i)
    have g0 := grow_own (o := .lst []) r1.ex ha
    refine ⟨fun i m H => m = l.length - i ∧ i ≤ l.length ∧ Pv i H, ⟨_, rfl, Nat.zero_le _, P1, [], r1.at.step g0, .of g0, none_back r1.ex ha, upd_same, .nil⟩, ?_⟩
    rintro i m H ⟨rfl, hi, P, xs, r, eH, hPa, hHa, hd⟩
    have q0 := hG P H r.b r.ex
    by_cases lt : i < l.length
    · refine .inr ⟨w.goes i H lt q0, Pv (i + 1), fun H' p => ⟨l.length - (i + 1), by omega, rfl, lt, p⟩, fun x H' y => ?_⟩
      obtain ⟨P', d, g', e, hx⟩ := hY i P H x H' lt r.b r.ex (w.yields i H x H' lt q0 y)
      have hm : d ∈ l := List.mem_of_getElem? e
      have r2 := r.step g'
      obtain ⟨hf2, hf3⟩ := hf d hm
      refine hg P1 d hm x P' H' _ _ _ (r2.wipe vs) hx fun σ2 hw r3 => ⟨by rw [hw]; exact wipe_wipe, ?_⟩
      refine iteT (B := Pv (i + 1) H') ?_
      refine h1 P1 L d hm σ2 P' H' r3 _ fun J1 P2 H2 G1 Y1 r4 e4 w1 hG1 hY1 => ?_
      have gA : Grow P' H' P2 H2 := e4.grow hf2 r4.ex
      have hPa' := grow_none g' hPa hHa
      have hHa' := g'.h _ _ hHa
      have na2 : a ∉ owns (f d (wipeE es vs)) := fun z => na (hf3 a z)
      let Pw : Nat → Hp → Prop := fun j H => ∃ P xs, Rep (c.at P1) P H σ2 (f d (wipeE es vs)) ∧ Rep (c.at P1) P H σ es ∧ Kp es P1 H1 P H ∧ Ex P2 P ∧ P a = none ∧ H a = some (.lst xs) ∧ HasAll c.K P xs (res i ++ ((lz d).take j).map (fn d))
      refine ⟨fun j k H => k = (lz d).length - j ∧ j ≤ (lz d).length ∧ Pw j H, ⟨_, rfl, Nat.zero_le _, P2, xs, r4, r2.step gA, (eH.trans (.of g')).trans (.of gA), .refl P2, grow_none gA hPa' hHa', gA.h _ _ hHa', ?_⟩, ?_⟩
      · rw [List.take_zero, List.map_nil, List.append_nil]
        exact HasAll.mono (g'.p.trans gA.p) _ hd
      have rs : res (i + 1) = res i ++ (lz d).map (fn d) := by
        show (l.take (i + 1)).flatMap _ = _
        rw [List.take_add_one, e, Option.toList_some, List.flatMap_append, List.flatMap_cons, List.flatMap_nil, List.append_nil]
      have rl : ∀ k, (res k).length ≤ 100000 := fun k => by
        refine Nat.le_trans ?_ hl
        show ((l.take k).flatMap _).length ≤ _
        conv => rhs; rw [← List.take_append_drop k l]
        rw [List.flatMap_append, List.length_append]
        omega
      rintro j k H3 ⟨rfl, hj, P3, ys, s1, s2, eK, eP, hPa3, hHa3, hd3⟩
      have q1 := hG1 P3 H3 eP s1.ex
      by_cases lt1 : j < (lz d).length
      · refine .inr ⟨w1.goes j H3 lt1 q1, Pw (j + 1), fun H' p => ⟨(lz d).length - (j + 1), by omega, rfl, lt1, p⟩, fun x1 H4 y1 => ?_⟩
        obtain ⟨P4, z, g3, ez, hz⟩ := hY1 j P3 H3 x1 H4 lt1 eP s1.ex (w1.yields j H3 x1 H4 lt1 q1 y1)
        have hmz : z ∈ lz d := List.mem_of_getElem? ez
        refine hg1 P1 d z hm hmz x1 P4 H4 _ _ _ ((s1.step g3).wipe vs1) hz fun σ3 hw3 r5 => ⟨by rw [hw3]; exact wipe_wipe, ?_⟩
        refine iteT (B := Pw (j + 1) H4) ?_
        refine he P1 L d hm z hmz σ3 P4 H4 r5 _ fun v P5 H5 dv hv r6 k6 hx6 => ?_
        subst hv
        have gg := g3.trans (k6.grow (hf1 d hm z hmz) r6.ex)
        have hPa5 := grow_none gg hPa3 hHa3
        have len : ys.length < 100000 := by
          have h3 := rl (i + 1)
          rw [rs, List.length_append, List.length_map] at h3
          rw [hd3.len, List.length_append, List.length_map, List.length_take]
          omega
        refine ⟨ys, gg.h _ _ hHa3, Evl.sz_lt len, P5, ys ++ [v], (s1.step gg).turnO (r1.dom a ha) hPa5 na2, (s2.step gg).turnO (r1.dom a ha) hPa5 na, (eK.trans (.of gg)).put ha, eP.trans gg.p, hPa5, upd_same, ?_⟩
        have tk : ((lz d).take (j + 1)).map (fn d) = ((lz d).take j).map (fn d) ++ [fn d z] := by rw [List.take_add_one, ez, Option.toList_some, List.map_append] <;> rfl
        rw [tk, ← List.append_assoc]
        exact (HasAll.mono gg.p _ hd3).append (.cons hx6 .nil)
      · have ej : j = (lz d).length := by omega
        subst ej
        rw [List.take_length, ← rs] at hd3
        exact .inl ⟨w1.stops H3 q1, P3, ys, s2, eK, hPa3, hHa3, hd3⟩
    · have ei : i = l.length := by omega
      subst ei
      have hd' : HasAll c.K P xs (l.flatMap fun y => (lz y).map (fn y)) := by
        have e : res l.length = l.flatMap fun y => (lz y).map (fn y) := by
          show (l.take l.length).flatMap _ = _
          rw [List.take_length]
        rw [← e]
        exact hd
      exact .inl ⟨w.stops H q0, q a P H _ rfl (L r) (e1.trans eH) na (e1.n a ha) ⟨.inl (r1.dom a ha), hPa, xs, hHa, hd'⟩⟩
theorem tg_three {n1 n2 n3 : Nat} {x1 x2 x3 : Dt} : TgD c (gTup c.K 3 (gCons (gName n1) (gCons (gName n2) (gCons (gName n3) gNil)))) (fun es => ((es.set n1 (.dat x1)).set n2 (.dat x2)).set n3 (.dat x3)) [n1, n2, n3] (.tup [x1, x2, x3]) := fun v P H σ es Q r h q => by
  cases h with
  | tup s h1 =>
    cases h1 with
    | cons a h1 =>
      cases h1 with
      | cons b h1 =>
        cases h1 with
        | cons e h1 =>
          cases h1
          exact ⟨_, _, rfl, Evl.ex_t r.ex s, rfl, _, _, rfl, _, _, rfl, _, _, rfl, rfl, q _ (by rw [wipe_mem (by simp), wipe_mem (by simp), wipe_mem (by simp)]) (((r.put n1 a).put n2 b).put n3 e)⟩
theorem eo_if {b : Bool} {ρ : List Dt → Prop} (h : EBd c tt es b) (h1 : b = true → EO c ta es ρ) (h2 : b = false → EO c tb es ρ) : EO c (tIf tt ta tb) es ρ := fun σ P H r Q q =>
  h σ P H r _ fun a P1 H1 z r1 e1 => by
    subst z
    cases a with
    | true => exact iteT (h1 rfl σ P1 H1 r1 _ fun l P2 H2 ds hd r2 e2 n1 n2 m => q l P2 H2 ds hd r2 (e1.trans e2) n1 (e1.n l n2) m)
    | false => exact iteF (h2 rfl σ P1 H1 r1 _ fun l P2 H2 ds hd r2 e2 n1 n2 m => q l P2 H2 ds hd r2 (e1.trans e2) n1 (e1.n l n2) m)
/-! an error with two fields, told -/
theorem pairs_two {f g : Str} {fs : List (Str × V)} (h : fs.map (·.1) = [g, f]) : ∃ u v, fs = [(g, u), (f, v)] := by
  match fs, h with
  | [(_, u), (_, v)], h =>
    have e := List.cons.inj h
    exact ⟨u, v, by rw [← e.1, ← (List.cons.inj e.2).1]⟩
  | [], h => cases h
  | [_], h => cases (List.cons.inj h).2
  | _ :: _ :: _ :: _, h => cases (List.cons.inj (List.cons.inj h).2).2
theorem c_tryR2 {ds : List Dt} {R : List Dt → Out → Prop} {C : Addr} {f g : Str} {i : Nat} {Wout : WX} (hfg : (f == g) = false) (h : EDs c ts es ds) (hi : i < es.length) (hm : PySem.W.exmOne c.K (.ref C) (.ref C) = some true) (hR : ∃ o, R ds o) (hok : ∀ d, R ds (.ok d) → Cont c D.nx es)
    (hex : ∀ C' ns fd, R ds (.ex C' ns fd) → C' = C ∧ ns = [g, f] ∧ ∃ y x, fd = [y, x] ∧ RetD c D.rt (fun z => z = .tup [x, y])) :
    Cont c ((fun D σ H => (fun W => tDrop (tCallS (spX c.K R) (WE W) ts)) (wAs c.K (.ref C) i (fun a cls d => tRet (tTup (tCons (tXf a cls d C f (tVar i)) (tCons (tXf a cls d C g (tVar i)) tNil)))) Wout D) D σ H) D) es := fun σ P H r =>
  h σ P H r _ fun vs P1 H1 l hl r1 e1 h1 => by
    subst hl
    refine ⟨P1, l, r1.ex, h1, hR, fun v P2 H2 d hr g hv => hok d hr _ P2 H2 (r1.step g), fun dx P2 H2 C' fs fd hr gr h0 hP hx hf => ?_⟩
    obtain ⟨rfl, hn, y, x, rfl, k⟩ := hex _ _ _ hr
    obtain ⟨u, v, rfl⟩ := pairs_two hn
    cases hf with
    | cons hy hf =>
      cases hf with
      | cons hx1 _ =>
        refine ⟨true, hm, fun _ a ha => ?_, fun z => by cases z⟩
        have r3 := (r1.step gr).drop (o := some (.ref a)) i
        have sa : (σ.set i (some (V.ref a)))[i]? = some (some (.ref a)) := List.getElem?_set_self (by rw [r1.sl.len]; exact hi)
        refine ⟨.ref a, sa, rfl, rfl, dx, _, v, rfl, hx, ?_, .ref a, sa, rfl, rfl, dx, _, u, rfl, hx, ?_, ?_⟩
        · show ([(g, u), (f, v)] : List (Str × V)).lookup f = some v
          rw [List.lookup_cons, hfg, List.lookup_cons, beq_self_eq_true]
        · show ([(g, u), (f, v)] : List (Str × V)).lookup g = some u
          rw [List.lookup_cons, beq_self_eq_true]
        · refine ⟨(by show 2 ≤ sizeLine; decide), fun p hp => ?_⟩
          have g5 := grow_new (o := .tup [v, u]) r3.ex hp
          exact k _ _ _ _ _ _ rfl (r3.step g5) (.tup (Evl.st_of upd_same) (.cons (Has.mono g5.p _ hx1) (.cons (Has.mono g5.p _ hy) .nil)))
end
end My
set_option Elab.async false
set_option linter.all false
set_option maxRecDepth 100000
set_option maxHeartbeats 2000000
/-! Small words: hands handed back, tests that know both sides, items by drawn places. -/
namespace My
open PySem PySem.Spec PyProof.Rows L2 RZ
open Evl (Ex)
section
variable {c : Fr} {es : List Sv} {ta tb te : TE} {ts : TA} {x y d : Dt} {l m : List Dt} {tt tu : TT} {D : Ends} {t u w : TS} {n : Nat} {i j : Int} {b : Bool} {φ ψ χ : Dt → Prop}
theorem EO.imp {ρ τ : List Dt → Prop} (h : EO c te es ρ) (k : ∀ l, ρ l → τ l) : EO c te es τ := fun σ P H r Q q => h σ P H r Q fun a P' H' ds hd => q a P' H' ds (k ds hd)
theorem tg_in {vs : List Nat} (hn : n ∈ vs) : TgD c (gName n) (fun es => es.set n (.dat x)) vs x := fun v P H σ es Q r h q => q _ (wipe_mem hn) (r.put n h)
theorem c_retHh {a : Addr} (h : EV c te es φ) (k : RetH c a D.rt φ) (hm : c.mu = [a]) (e : es[n]? = some (.hand a)) : Cont c (tRet te D) es := fun σ P H r =>
  h σ P H r _ fun v P1 H1 d hd r1 e1 hv => k.ofH hm hd r1 e hv
theorem eb_andW {ρ : Bool → Prop} (ha : EBd c tt es b) (hb : b = true → EB c tu es ρ) : EB c (tAnd tt tu) es (fun r => r = true → b = true ∧ ρ true) := fun σ P H r Q q =>
  ha σ P H r _ fun a P1 H1 z r1 e1 => by
    subst z
    cases a with
    | false => exact q false P1 H1 (fun z => by cases z) r1 e1
    | true => exact hb rfl σ P1 H1 r1 _ fun b P2 H2 hb2 r2 e2 => q b P2 H2 (fun z => ⟨rfl, z ▸ hb2⟩) r2 (e1.trans e2)
theorem eb_any {ρ : Bool → Prop} (h : EB c tt es ρ) : EB c tt es (fun _ => True) := h.imp fun _ _ => trivial
/-- the item at a place that is drawn -/
theorem ev_ixD (ha : ED c ta es x) (hx : itemsD x = some l) {α : Int → Prop} (hb : EV c tb es (IsI α)) (hα : ∀ z, α z → 0 ≤ z ∧ z < l.length) : EV c (tOp (rIx c.K) ta tb) es (fun d => d ∈ l) :=
  ev_op ha hb fun v0 u0 hv0 hu0 => by
    obtain ⟨z, rfl, az⟩ := hu0
    obtain ⟨h0, h1⟩ := hα z az
    obtain ⟨d, hd, e⟩ := atI_ex (l := l) (i := z) (by omega) h1
    have hx' : itemsD v0 = some l := by rw [hv0]; exact hx
    intro v u P H ex hv hu Q q
    cases v0 with
    | lst m =>
      cases Option.some.inj hx'
      exact rd_ixL (c := c) e v u P H ex hv hu Q fun w P' H' z hz => q w P' H' z (by rw [hz]; exact hd)
    | tup m =>
      cases Option.some.inj hx'
      exact rd_ixT (c := c) e v u P H ex hv hu Q fun w P' H' z hz => q w P' H' z (by rw [hz]; exact hd)
    | _ => cases hx'
theorem c_ext {a : Addr} {ds : List Dt} {ρ : List Dt → Prop} (h0 : es[n]? = some (.own a ds)) (h : EO c te es ρ) (hz : ∀ l, ρ l → ds.length + l.length ≤ 100000) (k : ∀ l, ρ l → Cont c D.nx (es.set n (.own a (ds ++ l)))) :
    Cont c (tDrop (tBM c.K "list" rExtend (tVar n) (tCons te tNil)) D) es := fun σ P H r => by
  obtain ⟨e0, _, _, xs, hx, hd⟩ := r.sl.getO h0
  refine ⟨_, e0, .inl ⟨rfl, xs, Evl.sq_of hx⟩, h σ P H r _ fun b P1 H1 l hl r1 e1 hb h00 ⟨m1, m2, zs, hz1, hz2⟩ => ?_⟩
  obtain ⟨_, _, _, ys, hy, hd⟩ := r1.sl.getO h0
  exact ⟨a, b, ys, zs, rfl, rfl, hy, hz1, Evl.sz_of (by rw [hd.len, hz2.len]; exact hz l hl), k l hl _ P1 _ (r1.change h0 (hd.append hz2))⟩
theorem ixN_last (n : Nat) : ixN (n + 1) (-1) = some n := by
  unfold ixN
  rw [if_neg (by decide), if_pos (by omega)]
  congr 1
  omega
theorem atI_last {α : Type} (l : List α) (a : α) : atI (l ++ [a]) (-1) = some a := by
  unfold atI
  rw [List.length_append, List.length_singleton, ixN_last]
  show (l ++ [a])[l.length]? = some a
  rw [List.getElem?_append_right (Nat.le_refl _), Nat.sub_self] <;> rfl
theorem c_setN {a : Addr} (h0 : es[n]? = some (.own a (l ++ [y]))) (h : EV c te es φ) (hj : ED c tb es (.int (-1))) (k : ∀ d, φ d → Cont c D.nx (es.set n (.own a (l ++ [d])))) :
    Cont c (tAsg te (gSub (tVar n) tb rSetL) D) es := fun σ P H r =>
  h σ P H r _ fun v P1 H1 d hφ r1 e1 h1 => by
    refine ⟨_, (r1.sl.getO h0).1, ?_⟩
    refine hj σ P1 H1 r1 _ fun u P2 H2 z hz r2 e2 h2 => ?_
    subst hz
    cases h2
    obtain ⟨_, _, _, ys, hy, hd⟩ := r2.sl.getO h0
    have hl : ys.length = l.length + 1 := by rw [hd.len, List.length_append, List.length_singleton]
    refine ⟨a, ys, _, l.length, rfl, rfl, hy, by rw [hl]; exact ixN_last _, ?_⟩
    have e : (l ++ [y]).set l.length d = l ++ [d] := by rw [List.set_append_right _ _ (Nat.le_refl _), Nat.sub_self] <;> rfl
    exact k d hφ _ P2 _ (e ▸ r2.change h0 (hd.set l.length (Has.mono e2.p _ h1)))
end
end My
set_option Elab.async false
set_option linter.all false
set_option maxRecDepth 100000
set_option maxHeartbeats 2000000
/-! Comprehensions beside a hand. -/
namespace My
open PySem PySem.Spec PyProof.Rows L2 RZ
open Evl (Ex)
section
variable {c : Fr} {es : List Sv} {te : TE} {l : List Dt} {tt : TT}
/-- a comprehension that looks at things while a hand stands by -/
theorem eo_lcJ {wi : TI} {g : TG} {f : Dt → List Sv → List Sv} {vs : List Nat} {p : Dt → Bool} {fn : Dt → Dt} {ad : Addr} {k : Nat} (hk : es[k]? = some (.hand ad)) (h : WR c wi es l) (hl : l.length ≤ 100000) (hg : ∀ P y, y ∈ l → TgD (c.at P) g (f y) vs y)
    (hf : ∀ y ∈ l, handsOf (f y (wipeE es vs)) = [ad] ∧ (f y (wipeE es vs))[k]? = some (.hand ad)) (ht : ∀ P, Low c P → ∀ y ∈ l, EBd (c.at P) tt (f y (wipeE es vs)) (p y)) (he : ∀ P, Low c P → ∀ y ∈ l, p y = true → ED (c.at P) te (f y (wipeE es vs)) (fn y)) :
    EO c (tLc wi g tt te vs) es (fun r => r = (l.filter p).map fn) := fun σ P H r Q q =>
  h σ P H r _ fun J P1 H1 G Y r1 e1 w hG hY => fun a ha => by
    have L : Low c P1 := r1.low
    have na := r1.fresh ha
    have nad : a ≠ ad := fun z => na (by rw [z]; exact owns_mem (ds := []) (.inr hk))
    let Pv : Nat → Hp → Prop := fun i H => ∃ P xs, Rep (c.at P1) P H σ es ∧ Kp es P1 H1 P H ∧ P a = none ∧ H a = some (.lst xs) ∧ HasAll c.K P xs (((l.take i).filter p).map fn)
    have g0 := grow_own (o := .lst []) r1.ex ha
    have step : ∀ {P H P' H' : Hp} {σ' : L2.St} {y : Dt}, y ∈ l → Rep (c.at P1) P H σ es → Rep (c.at P1) P' H' σ' (f y (wipeE es vs)) → Kp (f y (wipeE es vs)) P H P' H' → Rep (c.at P1) P' H' σ es ∧ Kp es P H P' H' ∧ ∀ b o, b ≠ ad → H b = some o → H' b = some o := fun {P H P' H' σ' y} hm r2 r6 k6 => by
      obtain ⟨hf1, hf2⟩ := hf y hm
      obtain ⟨_, hs, ok, n1, n2, us, hu, hud⟩ := r6.sl.getH hf2
      have kk : ∀ b o, b ≠ ad → H b = some o → H' b = some o := fun b o ne h => k6.k b o (by rw [hf1]; exact fun m => ne (List.mem_singleton.mp m)) h
      exact ⟨r2.hands hk k6.p kk k6.n r6.ex k6.f n2 hu hud ok, ⟨k6.p, fun b o n h => kk b o (fun z => n (by rw [z]; exact hands_mem hk)) h, k6.n, k6.f⟩, kk⟩
    refine lc_it w Pv ⟨P1, [], r1.at.step g0, .of g0, none_back r1.ex ha, upd_same, .nil⟩ (fun i H _ ⟨P, xs, r, _⟩ => hG P H r) (fun i x H H' hi ⟨P, xs, r, eH, hPa, hHa, hd⟩ y => ?_) fun H ⟨P, xs, r, eH, hPa, hHa, hd⟩ => ?_
    · obtain ⟨P', d, g', e, hx⟩ := hY i P H x H' hi r y
      have hm : d ∈ l := List.mem_of_getElem? e
      have r2 := r.step g'
      have tk : l.take (i + 1) = l.take i ++ [d] := by rw [List.take_add_one, e] <;> rfl
      refine hg P1 d hm x P' H' _ _ _ (r2.wipe vs) hx fun σ' hw r3 => ⟨by rw [hw]; exact wipe_wipe, ?_⟩
      refine ht P1 L d hm σ' P' H' r3 _ fun b P3 H3 hb r4 k4 => ?_
      have hPa' := grow_none g' hPa hHa
      have hHa' := g'.h _ _ hHa
      subst hb
      obtain ⟨t3, K3, kk3⟩ := step hm r2 r4 k4
      have hPa3 := kp_none k4 hPa' hHa'
      have hHa3 := kk3 a _ nad hHa'
      cases hp : p d with
      | false =>
        refine iteF ?_
        refine ⟨P3, xs, t3, (eH.trans (.of g')).trans K3, hPa3, hHa3, ?_⟩
        rw [tk, List.filter_append, List.filter_cons, if_neg (by rw [hp]; decide), List.filter_nil, List.append_nil]
        exact HasAll.mono (g'.p.trans k4.p) _ hd
      | true =>
        refine iteT ?_
        refine he P1 L d hm hp σ' P3 H3 r4 _ fun v P4 H4 dv hv r6 k6 hx6 => ?_
        subst hv
        obtain ⟨t4, K4, kk4⟩ := step hm t3 r6 k6
        have hPa4 := kp_none k6 hPa3 hHa3
        have len : xs.length ≤ l.length := by
          rw [hd.len, List.length_map]
          exact Nat.le_trans (List.length_filter_le _ _) (by rw [List.length_take]; omega)
        refine ⟨xs, kk4 a _ nad hHa3, Nat.lt_of_le_of_lt (Nat.le_trans len hl) (by decide), P4, xs ++ [v], t4.turnO (r1.dom a ha) hPa4 na, (((eH.trans (.of g')).trans K3).trans K4).put ha, hPa4, upd_same, ?_⟩
        rw [tk, List.filter_append, List.filter_cons, if_pos hp, List.filter_nil, List.map_append]
        exact (HasAll.mono ((g'.p.trans k4.p).trans k6.p) _ hd).append (.cons hx6 .nil)
    · have et : l.take l.length = l := List.take_length
      rw [et] at hd
      exact q a P H _ rfl (L r) (e1.trans eH) na (e1.n a ha) ⟨.inl (r1.dom a ha), hPa, xs, hHa, hd⟩
end
end My
set_option Elab.async false
set_option linter.all false
set_option maxRecDepth 100000
set_option maxHeartbeats 4000000
/-! A comprehension with two sources whose second one has a test. -/
namespace My
open PySem PySem.Spec PyProof.Rows L2 RZ
open Evl (Ex)
section
variable {c : Fr} {es : List Sv} {te : TE} {l : List Dt}
theorem eo_lc2T {wi wi1 : TI} {tt1 : TT} {p : Dt → Dt → Bool} {g g1 : TG} {f f1 : Dt → List Sv → List Sv} {vs vs1 : List Nat} {lz : Dt → List Dt} {fn : Dt → Dt → Dt} (h : WI c wi es l) (hl : (l.flatMap fun y => ((lz y).filter (p y)).map (fn y)).length ≤ 100000)
    (hg : ∀ P y, y ∈ l → TgD (c.at P) g (f y) vs y) (hf : ∀ y ∈ l, handsOf (f y (wipeE es vs)) = [] ∧ ∀ x ∈ owns (f y (wipeE es vs)), x ∈ owns es)
    (h1 : ∀ P, Low c P → ∀ y ∈ l, WI (c.at P) wi1 (f y (wipeE es vs)) (lz y)) (hg1 : ∀ P y z, y ∈ l → z ∈ lz y → TgD (c.at P) g1 (f1 z) vs1 z)
    (hf1 : ∀ y ∈ l, ∀ z ∈ lz y, handsOf (f1 z (wipeE (f y (wipeE es vs)) vs1)) = [])
    (ht : ∀ P, Low c P → ∀ y ∈ l, ∀ z ∈ lz y, EBd (c.at P) tt1 (f1 z (wipeE (f y (wipeE es vs)) vs1)) (p y z))
    (he : ∀ P, Low c P → ∀ y ∈ l, ∀ z ∈ lz y, ED (c.at P) te (f1 z (wipeE (f y (wipeE es vs)) vs1)) (fn y z)) :
    EO c (tLc2 wi g tYes wi1 g1 tt1 te vs vs1) es (fun r => r = l.flatMap fun y => ((lz y).filter (p y)).map (fn y)) := fun σ P H r Q q =>
  h σ P H r _ fun J P1 H1 G Y r1 e1 w hG hY => fun a ha => by
    have L : Low c P1 := r1.low
    have na := r1.fresh ha
    let res : Nat → List Dt := fun i => (l.take i).flatMap fun y => ((lz y).filter (p y)).map (fn y)
    let Pv : Nat → Hp → Prop := fun i H => ∃ P xs, Rep (c.at P1) P H σ es ∧ Kp es P1 H1 P H ∧ P a = none ∧ H a = some (.lst xs) ∧ HasAll c.K P xs (res i)
    have g0 := grow_own (o := .lst []) r1.ex ha
    refine ⟨fun i m H => m = l.length - i ∧ i ≤ l.length ∧ Pv i H, ⟨_, rfl, Nat.zero_le _, P1, [], r1.at.step g0, .of g0, none_back r1.ex ha, upd_same, .nil⟩, ?_⟩
    rintro i m H ⟨rfl, hi, P, xs, r, eH, hPa, hHa, hd⟩
    have q0 := hG P H r.b r.ex
    by_cases lt : i < l.length
    · refine .inr ⟨w.goes i H lt q0, Pv (i + 1), fun H' p => ⟨l.length - (i + 1), by omega, rfl, lt, p⟩, fun x H' y => ?_⟩
      obtain ⟨P', d, g', e, hx⟩ := hY i P H x H' lt r.b r.ex (w.yields i H x H' lt q0 y)
      have hm : d ∈ l := List.mem_of_getElem? e
      have r2 := r.step g'
      obtain ⟨hf2, hf3⟩ := hf d hm
      refine hg P1 d hm x P' H' _ _ _ (r2.wipe vs) hx fun σ2 hw r3 => ⟨by rw [hw]; exact wipe_wipe, ?_⟩
      refine iteT (B := Pv (i + 1) H') ?_
      refine h1 P1 L d hm σ2 P' H' r3 _ fun J1 P2 H2 G1 Y1 r4 e4 w1 hG1 hY1 => ?_
      have gA : Grow P' H' P2 H2 := e4.grow hf2 r4.ex
      have hPa' := grow_none g' hPa hHa
      have hHa' := g'.h _ _ hHa
      have na2 : a ∉ owns (f d (wipeE es vs)) := fun z => na (hf3 a z)
      let Pw : Nat → Hp → Prop := fun j H => ∃ P xs, Rep (c.at P1) P H σ2 (f d (wipeE es vs)) ∧ Rep (c.at P1) P H σ es ∧ Kp es P1 H1 P H ∧ Ex P2 P ∧ P a = none ∧ H a = some (.lst xs) ∧ HasAll c.K P xs (res i ++ (((lz d).take j).filter (p d)).map (fn d))
      refine ⟨fun j k H => k = (lz d).length - j ∧ j ≤ (lz d).length ∧ Pw j H, ⟨_, rfl, Nat.zero_le _, P2, xs, r4, r2.step gA, (eH.trans (.of g')).trans (.of gA), .refl P2, grow_none gA hPa' hHa', gA.h _ _ hHa', ?_⟩, ?_⟩
      · rw [List.take_zero, List.filter_nil, List.map_nil, List.append_nil]
        exact HasAll.mono (g'.p.trans gA.p) _ hd
      have rs : res (i + 1) = res i ++ ((lz d).filter (p d)).map (fn d) := by
        show (l.take (i + 1)).flatMap _ = _
        rw [List.take_add_one, e, Option.toList_some, List.flatMap_append, List.flatMap_cons, List.flatMap_nil, List.append_nil]
      have rl : ∀ k, (res k).length ≤ 100000 := fun k => by
        refine Nat.le_trans ?_ hl
        show ((l.take k).flatMap _).length ≤ _
        conv => rhs; rw [← List.take_append_drop k l]
        rw [List.flatMap_append, List.length_append]
        omega
      rintro j k H3 ⟨rfl, hj, P3, ys, s1, s2, eK, eP, hPa3, hHa3, hd3⟩
      have q1 := hG1 P3 H3 eP s1.ex
      by_cases lt1 : j < (lz d).length
      · refine .inr ⟨w1.goes j H3 lt1 q1, Pw (j + 1), fun H' p => ⟨(lz d).length - (j + 1), by omega, rfl, lt1, p⟩, fun x1 H4 y1 => ?_⟩
        obtain ⟨P4, z, g3, ez, hz⟩ := hY1 j P3 H3 x1 H4 lt1 eP s1.ex (w1.yields j H3 x1 H4 lt1 q1 y1)
        have hmz : z ∈ lz d := List.mem_of_getElem? ez
        refine hg1 P1 d z hm hmz x1 P4 H4 _ _ _ ((s1.step g3).wipe vs1) hz fun σ3 hw3 r5 => ⟨by rw [hw3]; exact wipe_wipe, ?_⟩
        refine ht P1 L d hm z hmz σ3 P4 H4 r5 _ fun b P4' H4' hb r5' k5 => ?_
        subst hb
        have g4 := g3.trans (k5.grow (hf1 d hm z hmz) r5'.ex)
        have hsub : (((lz d).take (j + 1)).filter (p d)).length ≤ ((lz d).filter (p d)).length := ((List.take_sublist _ _).filter _).length_le
        have tk0 : ((lz d).take (j + 1)).filter (p d) = ((lz d).take j).filter (p d) ++ [z].filter (p d) := by rw [List.take_add_one, ez, Option.toList_some, List.filter_append]
        cases hpz : p d z with
        | false =>
          rw [if_neg (by decide)]
          refine ⟨P4', ys, s1.step g4, s2.step g4, eK.trans (.of g4), eP.trans g4.p, grow_none g4 hPa3 hHa3, g4.h _ _ hHa3, ?_⟩
          rw [tk0, List.filter_cons_of_neg (by rw [hpz]; decide), List.filter_nil, List.append_nil]
          exact HasAll.mono g4.p _ hd3
        | true =>
          rw [if_pos rfl]
          refine he P1 L d hm z hmz σ3 P4' H4' r5' _ fun v P5 H5 dv hv r6 k6 hx6 => ?_
          subst hv
          have gg := g4.trans (k6.grow (hf1 d hm z hmz) r6.ex)
          have hPa5 := grow_none gg hPa3 hHa3
          have tk1 : ((lz d).take (j + 1)).filter (p d) = ((lz d).take j).filter (p d) ++ [z] := by rw [tk0, List.filter_cons_of_pos hpz, List.filter_nil]
          have len : ys.length < 100000 := by
            have h3 := rl (i + 1)
            rw [rs, List.length_append, List.length_map] at h3
            rw [tk1, List.length_append] at hsub
            rw [hd3.len, List.length_append, List.length_map]
            have : [z].length = 1 := rfl
            omega
          refine ⟨ys, gg.h _ _ hHa3, Evl.sz_lt len, P5, ys ++ [v], (s1.step gg).turnO (r1.dom a ha) hPa5 na2, (s2.step gg).turnO (r1.dom a ha) hPa5 na, (eK.trans (.of gg)).put ha, eP.trans gg.p, hPa5, upd_same, ?_⟩
          rw [tk1, List.map_append, ← List.append_assoc]
          exact (HasAll.mono gg.p _ hd3).append (.cons hx6 .nil)
      · have ej : j = (lz d).length := by omega
        subst ej
        rw [List.take_length, ← rs] at hd3
        exact .inl ⟨w1.stops H3 q1, P3, ys, s2, eK, hPa3, hHa3, hd3⟩
    · have ei : i = l.length := by omega
      subst ei
      have hd' : HasAll c.K P xs (l.flatMap fun y => ((lz y).filter (p y)).map (fn y)) := by
        have e : res l.length = l.flatMap fun y => ((lz y).filter (p y)).map (fn y) := by
          show (l.take l.length).flatMap _ = _
          rw [List.take_length]
        rw [← e]
        exact hd
      exact .inl ⟨w.stops H q0, q a P H _ rfl (L r) (e1.trans eH) na (e1.n a ha) ⟨.inl (r1.dom a ha), hPa, xs, hHa, hd'⟩⟩
end
end My
set_option Elab.async false
set_option linter.all false
set_option maxRecDepth 100000
set_option maxHeartbeats 2000000
/-! k22: the text by places, what each def promises. -/
namespace K22
open PySem PySem.Spec PyProof.Rows L2 My
abbrev PW := PySem.Challenge.pw_neverbare_k22_whole_stands_passed_on_a_w
def top (i : Nat) : Stmt := PW.main.body.getD i (.Pass ⟨0, 0, 0, 0⟩)
abbrev sp_is_whole := Lw.sp_is_whole
abbrev sp_is_sequence := Lw.sp_is_sequence
abbrev sp_is_ratio := Lw.sp_is_ratio
abbrev sp_u_lowest := Lw.sp_u_lowest
abbrev sp_make_ratio := Lw.sp_make_ratio
abbrev sp_plus := Lw.sp_plus
abbrev sp_minus := Lw.sp_minus
abbrev sp_times := Lw.sp_times
abbrev sp_over := Lw.sp_over
abbrev sp_compare := Lw.sp_compare
abbrev sp_least_of := Lw.sp_least_of
abbrev sp_greatest_of := Lw.sp_greatest_of
abbrev sp_floor_of := Lw.sp_floor_of
abbrev sp_broken_of := Lw.sp_broken_of
abbrev sp_merged_ratios := Lw.sp_merged_ratios
abbrev sp_ascending_ratios := Lw.sp_ascending_ratios
abbrev sp_check_slip_row := Lw.sp_check_slip_row
abbrev sp_broken_parts := Lw.sp_broken_parts
abbrev sp_stand_of := Lw.sp_stand_of
abbrev sp_u_law_mix := Lw.sp_u_law_mix
abbrev sp_u_law_hand := Lw.sp_u_law_hand
abbrev sp_u_law_draw := Lw.sp_u_law_draw
open Lw
def R_mid (ds : List Dt) (d : Dt) : Prop := ∃ p q, ds = [ratD p, ratD q] ∧ SzR 500 p ∧ SzR 500 q ∧ d = ratD (midR p q)
def sp_middle_of_two (K : PySem.W.Frag) : Sp := spD K R_mid
def npD (x : Nat × Nat) : Dt := .tup [.int x.1, .int x.2]
def R_nchoices (ds : List Dt) (d : Dt) : Prop := ∃ n : Nat, ds = [.int n, .int 2] ∧ n ≤ 3 ∧ d = .lst ((pairsN n).map npD)
def sp_number_choices (K : PySem.W.Frag) : Sp := spD K R_nchoices
def R_npairs (ds : List Dt) (d : Dt) : Prop := ∃ n : Nat, ds = [.int n] ∧ n ≤ 3 ∧ d = .lst ((pairsN n).map npD)
def sp_number_pairs (K : PySem.W.Frag) : Sp := spD K R_npairs
def All22 (rs : List Rat) : Prop := rs.length ≤ 3 ∧ ∀ q ∈ rs, SzR 22 q
def R_dist (ds : List Dt) (l : List Dt) : Prop := ∃ rs : List Rat, ds = [.tup (rs.map ratD)] ∧ All22 rs ∧ l = (distR rs).map ratD
def sp_u_distances (K : PySem.W.Frag) : Sp := spO K R_dist
def In4 (q : Rat) : Prop := SzR 45 q ∧ -4 ≤ q ∧ q ≤ 4
def R_times (ds : List Dt) (l : List Dt) : Prop := ∃ s e : Rat, ds = [ratD s, ratD e] ∧ In4 s ∧ In4 e ∧ l = (wholeT s e).map ratD
def sp_u_whole_times (K : PySem.W.Frag) : Sp := spO K R_times
def R_rowat (ds : List Dt) (d : Dt) : Prop := ∃ (rs os : List Rat) (t : Rat), ds = [.tup (rs.map ratD), .tup (os.map ratD), ratD t] ∧ All22 rs ∧ All22 os ∧ SzR 300 t ∧ d = .tup ((rowAt rs os t).map ratD)
def sp_u_row_at (K : PySem.W.Frag) : Sp := spD K R_rowat
def SnOk (s : SN) : Prop := s.length ≤ 3
def R_joined (ds : List Dt) (d : Dt) : Prop := ∃ l : List Tr, ds = [.lst (l.map trD)] ∧ l.length ≤ 1000 ∧ d = .tup ((joinL l).map trD)
def sp_u_joined (K : PySem.W.Frag) : Sp := spD K R_joined
def R_btw (C : Addr) (ds : List Dt) (o : Out) : Prop := ∃ x y, ds = [x, y] ∧ RowIn x ∧ RowIn y ∧ Row22 x ∧ Row22 y ∧ o = btwO C x y
def sp_stands_between (K : PySem.W.Frag) : Sp := spX K (R_btw (He.ga K "BadSlipRow"))
/-! the law's own -/
def R_lpick (ds : List Dt) (d : Dt) : Prop := ∃ x l, ds = [x] ∧ itemsD x = some l ∧ 0 < l.length ∧ l.length ≤ 1000 ∧ d ∈ l
def sp_u_law_pick (K : PySem.W.Frag) : Sp := spH K R_lpick
def R_lgcd (ds : List Dt) (d : Dt) : Prop := ∃ a b : Int, ds = [.int a, .int b] ∧ Sz 1900 a ∧ Sz 1900 b ∧ d = .int ((Nat.gcd a.natAbs b.natAbs : Nat) : Int)
def sp_u_law_gcd (K : PySem.W.Frag) : Sp := spD K R_lgcd
def R_lratio (ds : List Dt) (d : Dt) : Prop := ∃ a b : Int, ds = [.int a, .int b] ∧ 0 < b ∧ Sz 1900 a ∧ Sz 1900 b ∧ d = ratD (Rat.divInt a b)
def sp_u_law_ratio (K : PySem.W.Frag) : Sp := spD K R_lratio
def R_l2 (f : Rat → Rat → Dt) (ds : List Dt) (d : Dt) : Prop := ∃ p q, ds = [ratD p, ratD q] ∧ SzR 900 p ∧ SzR 900 q ∧ d = f p q
def sp_u_law_plus (K : PySem.W.Frag) : Sp := spD K (R_l2 fun p q => ratD (p + q))
def sp_u_law_minus (K : PySem.W.Frag) : Sp := spD K (R_l2 fun p q => ratD (p - q))
def sp_u_law_times (K : PySem.W.Frag) : Sp := spD K (R_l2 fun p q => ratD (p * q))
def sp_u_law_is_less (K : PySem.W.Frag) : Sp := spD K (R_l2 fun p q => .bl (lessR p q))
def R_l1 (f : Rat → Dt) (ds : List Dt) (d : Dt) : Prop := ∃ q, ds = [ratD q] ∧ SzR 900 q ∧ d = f q
def sp_u_law_floor (K : PySem.W.Frag) : Sp := spD K (R_l1 fun q => .int (flR q))
def sp_u_law_broken (K : PySem.W.Frag) : Sp := spD K (R_l1 fun q => ratD (brokR q))
def R_lwhole (ds : List Dt) (d : Dt) : Prop := ∃ x, ds = [x] ∧ Kin x ∧ d = .bl (isIntB x)
def sp_u_law_is_whole (K : PySem.W.Frag) : Sp := spD K R_lwhole
def sp_u_law_is_ratio (K : PySem.W.Frag) : Sp := spD K (R_l1 fun _ => .bl true)
/-- a slip of at most b, with a bottom of at most 20 bits -/
def InB (b : Int) (q : Rat) : Prop := Sz 20 q.den ∧ -(b : Rat) ≤ q ∧ q ≤ (b : Rat)
def R_lslip (ds : List Dt) (d : Dt) : Prop := ∃ b : Int, ds = [.int b] ∧ 0 ≤ b ∧ b ≤ 2 ∧ ∃ q, InB b q ∧ d = ratD q
def sp_u_law_slip (K : PySem.W.Frag) : Sp := spH K R_lslip
def Bnds (bs : List Int) : Prop := 1 ≤ bs.length ∧ bs.length ≤ 3 ∧ ∀ b ∈ bs, 0 ≤ b ∧ b ≤ 2
def RowOk (rs : List Rat) : Prop := 1 ≤ rs.length ∧ rs.length ≤ 3 ∧ ∀ q ∈ rs, InB 2 q
def R_lrow (ds : List Dt) (d : Dt) : Prop := ∃ bs : List Int, ds = [.lst (bs.map Dt.int)] ∧ Bnds bs ∧ ∃ rs : List Rat, rs.length = bs.length ∧ RowOk rs ∧ d = .tup (rs.map ratD)
def sp_u_law_row (K : PySem.W.Frag) : Sp := spH K R_lrow
def R_lbounds (ds : List Dt) (d : Dt) : Prop := ds = [.int 3] ∧ ∃ bs : List Int, Bnds bs ∧ d = .lst (bs.map Dt.int)
def sp_u_law_bounds (K : PySem.W.Frag) : Sp := spH K R_lbounds
def Few9 (rs : List Rat) : Prop := rs.length ≤ 3 ∧ ∀ q ∈ rs, SzR 890 q
def insR (l : List Rat) (p : Rat) : List Rat := if decide (0 < p.num) && !l.any fun q => decide (q = p) then l.take (l.filter fun q => lessR q p).length ++ [p] ++ l.drop (l.filter fun q => lessR q p).length else l
def partsR (rs : List Rat) : List Rat := (rs.map brokR).foldl insR []
def R_lparts (ds : List Dt) (l : List Dt) : Prop := ∃ rs : List Rat, ds = [.tup (rs.map ratD)] ∧ Few9 rs ∧ l = (partsR rs).map ratD
def sp_u_law_parts (K : PySem.W.Frag) : Sp := spO K R_lparts
def standP (rs : List Rat) : SN := rs.map fun p => (flR p, ((partsR rs).filter fun h => !lessR (brokR p) h).length)
def R_lstand (ds : List Dt) (d : Dt) : Prop := ∃ rs : List Rat, ds = [.tup (rs.map ratD)] ∧ Few9 rs ∧ d = stD (standP rs)
def sp_u_law_stand (K : PySem.W.Frag) : Sp := spD K R_lstand
def R_lbetween (ds : List Dt) (d : Dt) : Prop := ∃ p q t, ds = [ratD p, ratD q, ratD t] ∧ SzR 150 p ∧ SzR 150 q ∧ SzR 500 t ∧ d = ratD (betR p q t)
def sp_u_law_between (K : PySem.W.Frag) : Sp := spD K R_lbetween
def R_lat (ds : List Dt) (d : Dt) : Prop := ∃ (rs os : List Rat) (t : Rat), ds = [.tup (rs.map ratD), .tup (os.map ratD), ratD t] ∧ All22 rs ∧ All22 os ∧ SzR 500 t ∧ d = .tup ((atR rs os t).map ratD)
def sp_u_law_at (K : PySem.W.Frag) : Sp := spD K R_lat
def R_lquiet (ds : List Dt) (d : Dt) : Prop := ∃ p q, ds = [ratD p, ratD q] ∧ SzR 800 p ∧ SzR 800 q ∧ d = .bl (quietB p q)
def sp_u_law_is_quiet (K : PySem.W.Frag) : Sp := spD K R_lquiet
def part3 : List Rat := [Rat.divInt 1 2, Rat.divInt 1 9, Rat.divInt 999999999 1000000000]
def StretchOk (rs os : List Rat) (s e : Rat) (st : SN) : Prop :=
  (∀ k < rs.length, quietB ((atR rs os s).getD k 0) ((atR rs os e).getD k 0) = true) ∧
  (∀ k m, k < m → m < rs.length → quietB ((atR rs os s).getD k 0 - (atR rs os s).getD m 0) ((atR rs os e).getD k 0 - (atR rs os e).getD m 0) = true) ∧
  ∀ p ∈ part3, standP (atR rs os (betR s e p)) = st
def R_lstretch (ds : List Dt) (d : Dt) : Prop := ∃ (rs os : List Rat) (s e : Rat) (st : SN), ds = [.tup (rs.map ratD), .tup (os.map ratD), ratD s, ratD e, stD st] ∧ rs.length = os.length ∧ All22 rs ∧ All22 os ∧ SzR 150 s ∧ SzR 150 e ∧ SnOk st ∧ StretchOk rs os s e st ∧ d = .bl true
def sp_u_law_stretch_right (K : PySem.W.Frag) : Sp := spD K R_lstretch
def shapeB : Rat → Option Bool → List SN → List Tr → Bool
  | last, _, _, [] => decide (last = 1)
  | last, was, sts, x :: l => decide (x.1 = last) && (!lessR x.2.1 x.1 && (!decide (some (decide (x.1 = x.2.1)) = was) && (!decide (x.2.2 ∈ sts) && shapeB x.2.1 (some (decide (x.1 = x.2.1))) (sts ++ [x.2.2]) l)))
def TrOk (J : List Tr) : Prop := J ≠ [] ∧ J.length ≤ 1000 ∧ ∀ x ∈ J, SzR 150 x.1 ∧ SzR 150 x.2.1 ∧ SnOk x.2.2
def R_lshape (ds : List Dt) (d : Dt) : Prop := ∃ J : List Tr, ds = [.tup (J.map trD)] ∧ TrOk J ∧ shapeB 0 none [] J = true ∧ d = .bl true
def sp_u_law_shape_right (K : PySem.W.Frag) : Sp := spD K R_lshape
def R_lway (ds : List Dt) (d : Dt) : Prop := ∃ rs os : List Rat, ds = [.tup (rs.map ratD), .tup (os.map ratD)] ∧ RowOk rs ∧ RowOk os ∧ rs.length = os.length ∧ d = .bl true
def sp_u_law_way_right (K : PySem.W.Frag) : Sp := spH K R_lway
def refD : Out → Dt
  | .ex _ _ [w, k] => .tup [k, w]
  | _ => .non
def R_lrefused (C : Addr) (ds : List Dt) (d : Dt) : Prop := ∃ x y, ds = [x, y] ∧ RowIn x ∧ RowIn y ∧ Row22 x ∧ Row22 y ∧ d = refD (btwO C x y)
def sp_u_law_refused (K : PySem.W.Frag) : Sp := spD K (R_lrefused (He.ga K "BadSlipRow"))
def R_lrefusals (ds : List Dt) (d : Dt) : Prop := ∃ rs : List Rat, ds = [.tup (rs.map ratD)] ∧ RowOk rs ∧ d = .bl true
def sp_u_law_refusals (K : PySem.W.Frag) : Sp := spH K R_lrefusals
def R_law (ds : List Dt) (d : Dt) : Prop := ∃ ns : List Int, ds = [.lst (ns.map Dt.int)] ∧ ns.length ≤ 63 ∧ d = .bl true
def sp_law (K : PySem.W.Frag) : Sp := spD K R_law

abbrev l_is_whole := 1
abbrev m_is_whole := 0
abbrev l_is_sequence := 2
abbrev m_is_sequence := 1
abbrev l_number_choices := 1
abbrev m_number_choices := 0
abbrev l_number_pairs := 2
abbrev m_number_pairs := 1
abbrev l_is_ratio := 2
abbrev m_is_ratio := 1
abbrev l_u_lowest := 1
abbrev m_u_lowest := 0
abbrev l_make_ratio := 3
abbrev m_make_ratio := 2
abbrev l_plus := 2
abbrev m_plus := 1
abbrev l_minus := 2
abbrev m_minus := 1
abbrev l_times := 2
abbrev m_times := 1
abbrev l_over := 3
abbrev m_over := 2
abbrev l_compare := 1
abbrev m_compare := 0
abbrev l_least_of := 2
abbrev m_least_of := 1
abbrev l_greatest_of := 2
abbrev m_greatest_of := 1
abbrev l_floor_of := 1
abbrev m_floor_of := 0
abbrev l_broken_of := 1
abbrev m_broken_of := 0
abbrev l_merged_ratios := 2
abbrev m_merged_ratios := 1
abbrev l_ascending_ratios := 11
abbrev m_ascending_ratios := 10
abbrev l_middle_of_two := 3
abbrev m_middle_of_two := 2
abbrev l_check_slip_row := 3
abbrev m_check_slip_row := 2
abbrev l_broken_parts := 12
abbrev m_broken_parts := 11
abbrev l_stand_of := 13
abbrev m_stand_of := 12
abbrev l_u_distances := 3
abbrev m_u_distances := 2
abbrev l_u_whole_times := 4
abbrev m_u_whole_times := 3
abbrev l_u_row_at := 3
abbrev m_u_row_at := 2
abbrev l_u_joined := 1
abbrev m_u_joined := 0
abbrev l_stands_between := 14
abbrev m_stands_between := 13
abbrev l_u_law_mix := 1
abbrev m_u_law_mix := 0
abbrev l_u_law_hand := 1
abbrev m_u_law_hand := 0
abbrev l_u_law_draw := 2
abbrev m_u_law_draw := 1
abbrev l_u_law_pick := 3
abbrev m_u_law_pick := 2
abbrev l_u_law_gcd := 1
abbrev m_u_law_gcd := 0
abbrev l_u_law_ratio := 2
abbrev m_u_law_ratio := 1
abbrev l_u_law_plus := 3
abbrev m_u_law_plus := 2
abbrev l_u_law_minus := 3
abbrev m_u_law_minus := 2
abbrev l_u_law_times := 3
abbrev m_u_law_times := 2
abbrev l_u_law_is_less := 1
abbrev m_u_law_is_less := 0
abbrev l_u_law_floor := 1
abbrev m_u_law_floor := 0
abbrev l_u_law_broken := 1
abbrev m_u_law_broken := 0
abbrev l_u_law_is_whole := 1
abbrev m_u_law_is_whole := 0
abbrev l_u_law_is_ratio := 2
abbrev m_u_law_is_ratio := 1
abbrev l_u_law_slip := 3
abbrev m_u_law_slip := 2
abbrev l_u_law_row := 4
abbrev m_u_law_row := 3
abbrev l_u_law_bounds := 4
abbrev m_u_law_bounds := 3
abbrev l_u_law_parts := 2
abbrev m_u_law_parts := 1
abbrev l_u_law_stand := 3
abbrev m_u_law_stand := 2
abbrev l_u_law_between := 4
abbrev m_u_law_between := 3
abbrev l_u_law_at := 5
abbrev m_u_law_at := 4
abbrev l_u_law_is_quiet := 2
abbrev m_u_law_is_quiet := 1
abbrev l_u_law_stretch_right := 6
abbrev m_u_law_stretch_right := 5
abbrev l_u_law_shape_right := 3
abbrev m_u_law_shape_right := 2
abbrev l_u_law_way_right := 15
abbrev m_u_law_way_right := 14
abbrev l_u_law_refused := 15
abbrev m_u_law_refused := 14
abbrev l_u_law_refusals := 16
abbrev m_u_law_refusals := 15
abbrev l_law := 17
abbrev m_law := 16
structure Txt (P : Program) (w : World) (K : PySem.W.Frag) (mg : Str → Option Value) (base : Heap) : Prop where
  b_abs : mg "abs" = none
  b_bool : mg "bool" = none
  b_enumerate : mg "enumerate" = none
  b_int : mg "int" = none
  b_isinstance : mg "isinstance" = none
  b_len : mg "len" = none
  b_list : mg "list" = none
  b_min : mg "min" = none
  b_range : mg "range" = none
  b_tuple : mg "tuple" = none
  b_zip : mg "zip" = none
  g_gcd : mg "gcd" = some (.builtin "math.gcd")
  g_BadRatio : mg "BadRatio" = some (.ref (He.ga K "BadRatio"))
  g_BadSlipRow : mg "BadSlipRow" = some (.ref (He.ga K "BadSlipRow"))
  g_ZERO : mg "ZERO" = some (.ref (He.ga K "ZERO"))
  g_ONE : mg "ONE" = some (.ref (He.ga K "ONE"))
  g_HALF : mg "HALF" = some (.ref (He.ga K "HALF"))
  z_ZERO : ∀ H, SqT K H (He.ga K "ZERO") [.int 0, .int 1]
  z_ONE : ∀ H, SqT K H (He.ga K "ONE") [.int 1, .int 1]
  z_HALF : ∀ H, SqT K H (He.ga K "HALF") [.int 1, .int 2]
  oex1 : OexC K (He.ga K "BadRatio")
  ini1 : ∃ fI fd, PySem.W.findIn K (.ref (He.ga K "BadRatio")) "__init__" = some (some (.ref fI)) ∧ PySem.W.typeIn K (.ref fI) = some (.type "function") ∧
    FnOk P w K mg base (L2.CX P w) 1 fI fd ["self", "what"] (spIni1 K (He.ga K "BadRatio") "what") ∧ Binds K fd ["self", "what"] []
  oex2 : OexC K (He.ga K "BadSlipRow")
  ini2 : ∃ fI fd, PySem.W.findIn K (.ref (He.ga K "BadSlipRow")) "__init__" = some (some (.ref fI)) ∧ PySem.W.typeIn K (.ref fI) = some (.type "function") ∧
    FnOk P w K mg base (L2.CX P w) 1 fI fd ["self", "index", "what"] (spIni2 K (He.ga K "BadSlipRow") "index" "what") ∧ Binds K fd ["self", "index", "what"] []
  xf_BadSlipRow : XfC K (He.ga K "BadSlipRow")
  no_BadSlipRow_what : PySem.W.findIn K (.ref (He.ga K "BadSlipRow")) "what" = some none
  no_BadSlipRow_index : PySem.W.findIn K (.ref (He.ga K "BadSlipRow")) "index" = some none
  exm : PySem.W.exmOne K (.ref (He.ga K "BadSlipRow")) (.ref (He.ga K "BadSlipRow")) = some true
theorem Txt.mk_BadRatio {X : Cx} (T : Txt X.prog X.w X.K X.mg X.base) (hr : Room 2 X.A) {p pos : Pos} {e : Expr} {ta : TA} (ha : PA X [e] ta) (hg : Gl X "BadRatio" := by rfl)
    (he : starEach [e] X.env = (false, eval e X.env) :: starEach [] X.env := by rfl) (hpl : (backTo pos (starEach [] X.env)).any (·.1) = false := by rfl) :
    PMk X (.Call (.Name "BadRatio" p) [e] [] pos) (tMkO (He.ga X.K "BadRatio") (spIni1 X.K (He.ga X.K "BadRatio") "what") [] ta) := by
  obtain ⟨fI, fd, h1, h2, F, hb⟩ := T.ini1
  exact pmk_oex T.oex1 h1 h2 F hr hb .nil passL hg T.g_BadRatio ha (by decide) he hpl
theorem Txt.mk_BadSlipRow {X : Cx} (T : Txt X.prog X.w X.K X.mg X.base) (hr : Room 2 X.A) {p pos : Pos} {e e2 : Expr} {ta : TA} (ha : PA X [e, e2] ta) (hg : Gl X "BadSlipRow" := by rfl)
    (he : starEach [e, e2] X.env = (false, eval e X.env) :: starEach [e2] X.env := by rfl) (hpl : (backTo pos (starEach [e2] X.env)).any (·.1) = false := by rfl) :
    PMk X (.Call (.Name "BadSlipRow" p) [e, e2] [] pos) (tMkO (He.ga X.K "BadSlipRow") (spIni2 X.K (He.ga X.K "BadSlipRow") "index" "what") [] ta) := by
  obtain ⟨fI, fd, h1, h2, F, hb⟩ := T.ini2
  exact pmk_oex T.oex2 h1 h2 F hr hb .nil passL hg T.g_BadSlipRow ha (by decide) he hpl
end K22
set_option Elab.async false
set_option linter.all false
set_option maxRecDepth 100000
set_option maxHeartbeats 4000000
namespace K22
open PySem PySem.Spec PyProof.Rows L2 My StX RZ
abbrev s_is_whole : Stmt := top 9
abbrev N_is_whole : List Str := ["thing", "low", "high"]
theorem sc_is_whole : FnScope N_is_whole ["thing", "low", "high"] (defScope s_is_whole) := ⟨rfl, rfl, rfl, by decide +kernel, rfl, by decide +kernel, by decide +kernel⟩
def t_is_whole (K : PySem.W.Frag) : TS :=
  (tSeq (tIfS (tOr (tNot (tB (tCB (rIsi K) (tCons (tVar 0) (tCons (tC (.ty "int")) tNil))))) (tB (tCB (rIsi K) (tCons (tVar 0) (tCons (tC (.ty "bool")) tNil))))) (tRet (tC (.bl false))) tNext)
    (tSeq (tIfS (tAnd (tTest (tOp (fun x y H Q => y = .non ∧ Q (.bl (!decide (x = .non))) H) (tVar 1) (tC .non))) (tTest (tOp (rI0 fun i j => .bl (decide (i < j))) (tVar 0) (tVar 1)))) (tRet (tC (.bl false))) tNext)
    (tRet (tOrV (tOp (fun x y H Q => y = .non ∧ Q (.bl (decide (x = .non))) H) (tVar 2) (tC .non)) (tOp (rI0 fun i j => .bl (decide (i ≤ j))) (tVar 0) (tVar 2))))))
theorem d_is_whole {P : Program} {w : World} {K : PySem.W.Frag} {mg : Str → Option Value} {base : Heap} {f : Addr} {cdv : Value} {A : Around} {outer : List Env} {s : Shared} {H : Hp} {E : XK} (T : Txt P w K mg base)
    (hr : Room m_is_whole (A.deeper (envOfC "is_whole" (defScope s_is_whole) s.heap.objs.size f cdv))) :
    PSs (cxOf (L2.CX P w) P w K mg base N_is_whole "is_whole" (defScope s_is_whole) f cdv A outer s H E) (defBody s_is_whole) (t_is_whole K) :=
  (pss_cons (ps_if (PW.pt (pw_or (pt_not (pt_val (pe_callB call_isi (by rfl) T.b_isinstance (by decide +kernel) (pa_cons (pv 0) (pa_cons (pe_bltn (u := .type "int") (by rfl) T.b_int (by decide +kernel) (by rfl)) pa_nil))))) (pw_or1 (pt_val (pe_callB call_isi (by rfl) T.b_isinstance (by decide +kernel) (pa_cons (pv 0) (pa_cons (pe_bltn (u := .type "bool") (by rfl) T.b_bool (by decide +kernel) (by rfl)) pa_nil))))))) (pss_one (ps_ret pe_bl)) pss_nil)
    (pss_cons (ps_if (PW.pt (pw_and (pt_cmpR op_notN (pv 1) pe_non (nomark _)) (pw_and1 (pt_cmpR op_lt (pv 0) (pv 1) (nomark _))))) (pss_one (ps_ret pe_bl)) pss_nil)
    (pss_one (ps_ret (pe_or (pe_cmpR op_isN (pv 2) pe_non (nomark _)) (pe_one (pe_cmpR op_le (pv 0) (pv 2) (nomark _))))))))

abbrev s_is_sequence : Stmt := top 10
abbrev N_is_sequence : List Str := ["thing", "low", "high"]
theorem sc_is_sequence : FnScope N_is_sequence ["thing", "low", "high"] (defScope s_is_sequence) := ⟨rfl, rfl, rfl, by decide +kernel, rfl, by decide +kernel, by decide +kernel⟩
def t_is_sequence (K : PySem.W.Frag) : TS :=
  (tRet (tAndV (tCB (rIsiT K) (tCons (tVar 0) (tCons (tTup (tCons (tC (.ty "list")) (tCons (tC (.ty "tuple")) tNil))) tNil))) (tCall (sp_is_whole K) [] E0 (tCons (tCB (Evl.rLenS K) (tCons (tVar 0) tNil)) (tCons (tVar 1) (tCons (tVar 2) tNil))))))
theorem d_is_sequence {P : Program} {w : World} {K : PySem.W.Frag} {mg : Str → Option Value} {base : Heap} {f : Addr} {cdv : Value} {A : Around} {outer : List Env} {s : Shared} {H : Hp} {E : XK} (T : Txt P w K mg base) (C_is_whole : Fd P w K mg base l_is_whole "is_whole" ["thing", "low", "high"] [] (sp_is_whole K))
    (hr : Room m_is_sequence (A.deeper (envOfC "is_sequence" (defScope s_is_sequence) s.heap.objs.size f cdv))) :
    PSs (cxOf (L2.CX P w) P w K mg base N_is_sequence "is_sequence" (defScope s_is_sequence) f cdv A outer s H E) (defBody s_is_sequence) (t_is_sequence K) :=
  (pss_one (ps_ret (pe_and (pe_callB call_isiT (by rfl) T.b_isinstance (by decide +kernel) (pa_cons (pv 0) (pa_cons (pe_tup (pa_cons (pe_bltn (u := .type "list") (by rfl) T.b_list (by decide +kernel) (by rfl)) (pa_cons (pe_bltn (u := .type "tuple") (by rfl) T.b_tuple (by decide +kernel) (by rfl)) pa_nil))) pa_nil))) (pe_one (pe_fd C_is_whole (hr.mono (by decide)) (pa_cons (pe_callB call_len_seq (by rfl) T.b_len (by decide +kernel) (pa_cons (pv 0) pa_nil)) (pa_cons (pv 1) (pa_cons (pv 2) pa_nil))))))))

abbrev s_number_choices : Stmt := top 11
abbrev N_number_choices : List Str := ["many", "size", "rows", "_", "row", "number"]
theorem sc_number_choices : FnScope N_number_choices ["many", "size"] (defScope s_number_choices) := ⟨rfl, rfl, rfl, by decide +kernel, rfl, by decide +kernel, by decide +kernel⟩
def t_number_choices (K : PySem.W.Frag) : TS :=
  (tSeq (tAsg (tLst (tCons (tTup tNil) tNil)) (gName 2))
    (tSeq (tFor (iRng1 (tCons (tVar 1) tNil)) (gName 3) (tAsg (tLc2 (iSeq K (tVar 2)) (gName 4) tYes (iRng1 (tCons (tVar 0) tNil)) (gName 5) (tOr (tTest (tOp (rEqD K) (tCB (Evl.rLenS K) (tCons (tVar 4) tNil)) (tC (.int 0)))) (tTest (tOp (rI0 fun i j => .bl (decide (j < i))) (tVar 5) (tOp (rIx K) (tVar 4) (tUn (rU fun i => .int (-i)) (tC (.int 1))))))) (tTup (tStar K (tVar 4) (tCons (tVar 5) tNil))) [4, 5] [5]) (gName 2)))
    (tRet (tVar 2))))
theorem d_number_choices {P : Program} {w : World} {K : PySem.W.Frag} {mg : Str → Option Value} {base : Heap} {f : Addr} {cdv : Value} {A : Around} {outer : List Env} {s : Shared} {H : Hp} {E : XK} (T : Txt P w K mg base)
    (hr : Room m_number_choices (A.deeper (envOfC "number_choices" (defScope s_number_choices) s.heap.objs.size f cdv))) :
    PSs (cxOf (L2.CX P w) P w K mg base N_number_choices "number_choices" (defScope s_number_choices) f cdv A outer s H E) (defBody s_number_choices) (t_number_choices K) :=
  (pss_cons (ps_set (i := 2) sc_number_choices.nd (by rfl) (Or.inl rfl) (pe_lst (pa_cons (pe_tup pa_nil) pa_nil)))
    (pss_cons (ps_for (passes_of rfl) rfl (pi_range1 (by rfl) T.b_range (pa_cons (pv 1) pa_nil)) (pg_name (i := 3) sc_number_choices.nd (by rfl) (Or.inl rfl)) (pss_one (ps_setLc2 (i := 2) (own := [("row", 4), ("number", 5)]) (vs1 := [5]) (g := (gName 4)) (g1 := (gName 5)) (by rfl) sc_number_choices.nd (by rfl) (by rfl) (sw_true rfl rfl rfl (by decide +kernel)) (pi_seq (pv 2)) (blkOk_by (own := [("row", 4), ("number", 5)]) (N := N_number_choices) (sc := defScope s_number_choices) (by decide +kernel)) (by decide) (fun _ _ _ _ _ => (pg_name (i := 4) sc_number_choices.nd (by rfl) (Or.inl rfl))) (fun _ _ _ _ _ => pts_nil) (fun _ _ _ _ _ => (pi_range1 (by rfl) T.b_range (pa_cons (pv 0) pa_nil))) (fun _ _ _ _ _ => (pg_name (i := 5) sc_number_choices.nd (by rfl) (Or.inl rfl))) (fun _ _ _ _ _ => (pts_one (PW.pt (pw_or (pt_cmpR (op_eqD hr.units) (pe_callB call_len_seq (by rfl) T.b_len (by decide +kernel) (pa_cons (pv 4) pa_nil)) pe_int (nomark _)) (pw_or1 (pt_cmpR op_gt (pv 5) (pe_ix ix_seq (pv 4) (pe_un un_neg pe_int) (fun _ _ => rfl)) (nomark _))))))) (fun _ _ _ _ _ => (pe_tup (pa_star (pv 4) (pa_cons (pv 5) pa_nil)))))))
    (pss_one (ps_ret (pv 2)))))

abbrev s_number_pairs : Stmt := top 12
abbrev N_number_pairs : List Str := ["many"]
theorem sc_number_pairs : FnScope N_number_pairs ["many"] (defScope s_number_pairs) := ⟨rfl, rfl, rfl, by decide +kernel, rfl, by decide +kernel, by decide +kernel⟩
def t_number_pairs (K : PySem.W.Frag) : TS :=
  (tRet (tCall (sp_number_choices K) [] E0 (tCons (tVar 0) (tCons (tC (.int 2)) tNil))))
theorem d_number_pairs {P : Program} {w : World} {K : PySem.W.Frag} {mg : Str → Option Value} {base : Heap} {f : Addr} {cdv : Value} {A : Around} {outer : List Env} {s : Shared} {H : Hp} {E : XK} (T : Txt P w K mg base) (C_number_choices : Fd P w K mg base l_number_choices "number_choices" ["many", "size"] [] (sp_number_choices K))
    (hr : Room m_number_pairs (A.deeper (envOfC "number_pairs" (defScope s_number_pairs) s.heap.objs.size f cdv))) :
    PSs (cxOf (L2.CX P w) P w K mg base N_number_pairs "number_pairs" (defScope s_number_pairs) f cdv A outer s H E) (defBody s_number_pairs) (t_number_pairs K) :=
  (pss_one (ps_ret (pe_fd C_number_choices (hr.mono (by decide)) (pa_cons (pv 0) (pa_cons pe_int pa_nil)))))

abbrev s_is_ratio : Stmt := top 13
abbrev N_is_ratio : List Str := ["thing", "top", "bottom"]
theorem sc_is_ratio : FnScope N_is_ratio ["thing"] (defScope s_is_ratio) := ⟨rfl, rfl, rfl, by decide +kernel, rfl, by decide +kernel, by decide +kernel⟩
def t_is_ratio (K : PySem.W.Frag) : TS :=
  (tSeq (tIfS (tOr (tNot (tB (tCB (rIsi K) (tCons (tVar 0) (tCons (tC (.ty "tuple")) tNil))))) (tTest (tOp (rNeD K) (tCB (Evl.rLenS K) (tCons (tVar 0) tNil)) (tC (.int 2))))) (tRet (tC (.bl false))) tNext)
    (tSeq (tAsg (tVar 0) (gTup K 2 (gCons (gName 1) (gCons (gName 2) gNil))))
    (tRet (tAndV (tCall (sp_is_whole K) [.non, .non] E0 (tCons (tVar 1) tNil)) (tAndV (tCall (sp_is_whole K) [.non] E0 (tCons (tVar 2) (tCons (tC (.int 1)) tNil))) (tOp (rEqD K) (tCB rGcd (tCons (tVar 1) (tCons (tVar 2) tNil))) (tC (.int 1))))))))
theorem d_is_ratio {P : Program} {w : World} {K : PySem.W.Frag} {mg : Str → Option Value} {base : Heap} {f : Addr} {cdv : Value} {A : Around} {outer : List Env} {s : Shared} {H : Hp} {E : XK} (T : Txt P w K mg base) (C_is_whole_1 : Fd P w K mg base l_is_whole "is_whole" ["thing", "low", "high"] [.non, .non] (sp_is_whole K)) (C_is_whole_2 : Fd P w K mg base l_is_whole "is_whole" ["thing", "low", "high"] [.non] (sp_is_whole K))
    (hr : Room m_is_ratio (A.deeper (envOfC "is_ratio" (defScope s_is_ratio) s.heap.objs.size f cdv))) :
    PSs (cxOf (L2.CX P w) P w K mg base N_is_ratio "is_ratio" (defScope s_is_ratio) f cdv A outer s H E) (defBody s_is_ratio) (t_is_ratio K) :=
  (pss_cons (ps_if (PW.pt (pw_or (pt_not (pt_val (pe_callB call_isi (by rfl) T.b_isinstance (by decide +kernel) (pa_cons (pv 0) (pa_cons (pe_bltn (u := .type "tuple") (by rfl) T.b_tuple (by decide +kernel) (by rfl)) pa_nil))))) (pw_or1 (pt_cmpR (op_neD hr.units) (pe_callB call_len_seq (by rfl) T.b_len (by decide +kernel) (pa_cons (pv 0) pa_nil)) pe_int (nomark _))))) (pss_one (ps_ret pe_bl)) pss_nil)
    (pss_cons (ps_asg (pv 0) (pg_tup (by rfl) (pgs_cons (pg_name (i := 1) sc_is_ratio.nd (by rfl) (Or.inl rfl)) (pgs_cons (pg_name (i := 2) sc_is_ratio.nd (by rfl) (Or.inl rfl)) pgs_nil))))
    (pss_one (ps_ret (pe_and (pe_fd C_is_whole_1 (hr.mono (by decide)) (pa_cons (pv 1) pa_nil)) (pe_and (pe_fd C_is_whole_2 (hr.mono (by decide)) (pa_cons (pv 2) (pa_cons pe_int pa_nil))) (pe_one (pe_cmpR (op_eqD hr.units) (pe_callBfun cr_gcd (by rfl) T.g_gcd (pa_cons (pv 1) (pa_cons (pv 2) pa_nil))) pe_int (nomark _)))))))))

abbrev s_u_lowest : Stmt := top 14
abbrev N_u_lowest : List Str := ["top", "bottom", "part"]
theorem sc_u_lowest : FnScope N_u_lowest ["top", "bottom"] (defScope s_u_lowest) := ⟨rfl, rfl, rfl, by decide +kernel, rfl, by decide +kernel, by decide +kernel⟩
def t_u_lowest (K : PySem.W.Frag) : TS :=
  (tSeq (tAsg (tCB rGcd (tCons (tVar 0) (tCons (tVar 1) tNil))) (gName 2))
    (tSeq (tIfS (tTest (tOp (rI0 fun i j => .bl (decide (i < j))) (tVar 1) (tC (.int 0)))) (tAsg (tUn (rU fun i => .int (-i)) (tVar 2)) (gName 2)) tNext)
    (tRet (tTup (tCons (tOp (rI CDivA fun i j => .int (i.fdiv j)) (tVar 0) (tVar 2)) (tCons (tOp (rI CDivA fun i j => .int (i.fdiv j)) (tVar 1) (tVar 2)) tNil))))))
theorem d_u_lowest {P : Program} {w : World} {K : PySem.W.Frag} {mg : Str → Option Value} {base : Heap} {f : Addr} {cdv : Value} {A : Around} {outer : List Env} {s : Shared} {H : Hp} {E : XK} (T : Txt P w K mg base)
    (hr : Room m_u_lowest (A.deeper (envOfC "_lowest" (defScope s_u_lowest) s.heap.objs.size f cdv))) :
    PSs (cxOf (L2.CX P w) P w K mg base N_u_lowest "_lowest" (defScope s_u_lowest) f cdv A outer s H E) (defBody s_u_lowest) (t_u_lowest K) :=
  (pss_cons (ps_set (i := 2) sc_u_lowest.nd (by rfl) (Or.inl rfl) (pe_callBfun cr_gcd (by rfl) T.g_gcd (pa_cons (pv 0) (pa_cons (pv 1) pa_nil))))
    (pss_cons (ps_if (pt_cmpR op_lt (pv 1) pe_int (nomark _)) (pss_one (ps_set (i := 2) sc_u_lowest.nd (by rfl) (Or.inl rfl) (pe_un un_neg (pv 2)))) pss_nil)
    (pss_one (ps_ret (pe_tup (pa_cons (pe_op op_fdivA (pv 0) (pv 2)) (pa_cons (pe_op op_fdivA (pv 1) (pv 2)) pa_nil)))))))

abbrev s_make_ratio : Stmt := top 15
abbrev N_make_ratio : List Str := ["top", "bottom"]
theorem sc_make_ratio : FnScope N_make_ratio ["top", "bottom"] (defScope s_make_ratio) := ⟨rfl, rfl, rfl, by decide +kernel, rfl, by decide +kernel, by decide +kernel⟩
def t_make_ratio (K : PySem.W.Frag) (E : XK) : TS :=
  (tSeq (tIfS (tNot (tB (tCall (sp_is_whole K) [.non, .non] E0 (tCons (tVar 0) tNil)))) (fun (_ : Ends) σ H => tMkO (He.ga K "BadRatio") (spIni1 K (He.ga K "BadRatio") "what") [] (tCons (tC (.str "top")) tNil) σ H fun cls d H2 => E cls d H2) tNext)
    (tSeq (tIfS (tOr (tNot (tB (tCall (sp_is_whole K) [.non, .non] E0 (tCons (tVar 1) tNil)))) (tTest (tOp (rEqD K) (tVar 1) (tC (.int 0))))) (fun (_ : Ends) σ H => tMkO (He.ga K "BadRatio") (spIni1 K (He.ga K "BadRatio") "what") [] (tCons (tC (.str "bottom")) tNil) σ H fun cls d H2 => E cls d H2) tNext)
    (tRet (tCall (sp_u_lowest K) [] E0 (tCons (tVar 0) (tCons (tVar 1) tNil))))))
theorem d_make_ratio {P : Program} {w : World} {K : PySem.W.Frag} {mg : Str → Option Value} {base : Heap} {f : Addr} {cdv : Value} {A : Around} {outer : List Env} {s : Shared} {H : Hp} {E : XK} (T : Txt P w K mg base) (C_is_whole_1 : Fd P w K mg base l_is_whole "is_whole" ["thing", "low", "high"] [.non, .non] (sp_is_whole K)) (C_u_lowest : Fd P w K mg base l_u_lowest "_lowest" ["top", "bottom"] [] (sp_u_lowest K))
    (hr : Room m_make_ratio (A.deeper (envOfC "make_ratio" (defScope s_make_ratio) s.heap.objs.size f cdv))) :
    PSs (cxOf (L2.CX P w) P w K mg base N_make_ratio "make_ratio" (defScope s_make_ratio) f cdv A outer s H E) (defBody s_make_ratio) (t_make_ratio K E) :=
  (pss_cons (ps_if (pt_not (pt_val (pe_fd C_is_whole_1 (hr.mono (by decide)) (pa_cons (pv 0) pa_nil)))) (pss_one (ps_raise rfl (takes_of rfl rfl rfl rfl) (T.mk_BadRatio (hr.mono (by decide)) (pa_cons pe_str pa_nil)))) pss_nil)
    (pss_cons (ps_if (PW.pt (pw_or (pt_not (pt_val (pe_fd C_is_whole_1 (hr.mono (by decide)) (pa_cons (pv 1) pa_nil)))) (pw_or1 (pt_cmpR (op_eqD hr.units) (pv 1) pe_int (nomark _))))) (pss_one (ps_raise rfl (takes_of rfl rfl rfl rfl) (T.mk_BadRatio (hr.mono (by decide)) (pa_cons pe_str pa_nil)))) pss_nil)
    (pss_one (ps_ret (pe_fd C_u_lowest (hr.mono (by decide)) (pa_cons (pv 0) (pa_cons (pv 1) pa_nil)))))))

abbrev s_plus : Stmt := top 16
abbrev N_plus : List Str := ["one", "other"]
theorem sc_plus : FnScope N_plus ["one", "other"] (defScope s_plus) := ⟨rfl, rfl, rfl, by decide +kernel, rfl, by decide +kernel, by decide +kernel⟩
def t_plus (K : PySem.W.Frag) : TS :=
  (tRet (tCall (sp_u_lowest K) [] E0 (tCons (tOp (rI0 fun i j => .int (i + j)) (tOp (rI CMulW fun i j => .int (i * j)) (tOp (rIx K) (tVar 0) (tC (.int 0))) (tOp (rIx K) (tVar 1) (tC (.int 1)))) (tOp (rI CMulW fun i j => .int (i * j)) (tOp (rIx K) (tVar 1) (tC (.int 0))) (tOp (rIx K) (tVar 0) (tC (.int 1))))) (tCons (tOp (rI CMulW fun i j => .int (i * j)) (tOp (rIx K) (tVar 0) (tC (.int 1))) (tOp (rIx K) (tVar 1) (tC (.int 1)))) tNil))))
theorem d_plus {P : Program} {w : World} {K : PySem.W.Frag} {mg : Str → Option Value} {base : Heap} {f : Addr} {cdv : Value} {A : Around} {outer : List Env} {s : Shared} {H : Hp} {E : XK} (T : Txt P w K mg base) (C_u_lowest : Fd P w K mg base l_u_lowest "_lowest" ["top", "bottom"] [] (sp_u_lowest K))
    (hr : Room m_plus (A.deeper (envOfC "plus" (defScope s_plus) s.heap.objs.size f cdv))) :
    PSs (cxOf (L2.CX P w) P w K mg base N_plus "plus" (defScope s_plus) f cdv A outer s H E) (defBody s_plus) (t_plus K) :=
  (pss_one (ps_ret (pe_fd C_u_lowest (hr.mono (by decide)) (pa_cons (pe_op op_add (pe_op op_mulW (pe_ix ix_seq (pv 0) pe_int (fun _ _ => rfl)) (pe_ix ix_seq (pv 1) pe_int (fun _ _ => rfl))) (pe_op op_mulW (pe_ix ix_seq (pv 1) pe_int (fun _ _ => rfl)) (pe_ix ix_seq (pv 0) pe_int (fun _ _ => rfl)))) (pa_cons (pe_op op_mulW (pe_ix ix_seq (pv 0) pe_int (fun _ _ => rfl)) (pe_ix ix_seq (pv 1) pe_int (fun _ _ => rfl))) pa_nil)))))

abbrev s_minus : Stmt := top 17
abbrev N_minus : List Str := ["one", "other"]
theorem sc_minus : FnScope N_minus ["one", "other"] (defScope s_minus) := ⟨rfl, rfl, rfl, by decide +kernel, rfl, by decide +kernel, by decide +kernel⟩
def t_minus (K : PySem.W.Frag) : TS :=
  (tRet (tCall (sp_u_lowest K) [] E0 (tCons (tOp (rI0 fun i j => .int (i - j)) (tOp (rI CMulW fun i j => .int (i * j)) (tOp (rIx K) (tVar 0) (tC (.int 0))) (tOp (rIx K) (tVar 1) (tC (.int 1)))) (tOp (rI CMulW fun i j => .int (i * j)) (tOp (rIx K) (tVar 1) (tC (.int 0))) (tOp (rIx K) (tVar 0) (tC (.int 1))))) (tCons (tOp (rI CMulW fun i j => .int (i * j)) (tOp (rIx K) (tVar 0) (tC (.int 1))) (tOp (rIx K) (tVar 1) (tC (.int 1)))) tNil))))
theorem d_minus {P : Program} {w : World} {K : PySem.W.Frag} {mg : Str → Option Value} {base : Heap} {f : Addr} {cdv : Value} {A : Around} {outer : List Env} {s : Shared} {H : Hp} {E : XK} (T : Txt P w K mg base) (C_u_lowest : Fd P w K mg base l_u_lowest "_lowest" ["top", "bottom"] [] (sp_u_lowest K))
    (hr : Room m_minus (A.deeper (envOfC "minus" (defScope s_minus) s.heap.objs.size f cdv))) :
    PSs (cxOf (L2.CX P w) P w K mg base N_minus "minus" (defScope s_minus) f cdv A outer s H E) (defBody s_minus) (t_minus K) :=
  (pss_one (ps_ret (pe_fd C_u_lowest (hr.mono (by decide)) (pa_cons (pe_op op_sub (pe_op op_mulW (pe_ix ix_seq (pv 0) pe_int (fun _ _ => rfl)) (pe_ix ix_seq (pv 1) pe_int (fun _ _ => rfl))) (pe_op op_mulW (pe_ix ix_seq (pv 1) pe_int (fun _ _ => rfl)) (pe_ix ix_seq (pv 0) pe_int (fun _ _ => rfl)))) (pa_cons (pe_op op_mulW (pe_ix ix_seq (pv 0) pe_int (fun _ _ => rfl)) (pe_ix ix_seq (pv 1) pe_int (fun _ _ => rfl))) pa_nil)))))

abbrev s_times : Stmt := top 18
abbrev N_times : List Str := ["one", "other"]
theorem sc_times : FnScope N_times ["one", "other"] (defScope s_times) := ⟨rfl, rfl, rfl, by decide +kernel, rfl, by decide +kernel, by decide +kernel⟩
def t_times (K : PySem.W.Frag) : TS :=
  (tRet (tCall (sp_u_lowest K) [] E0 (tCons (tOp (rI CMulW fun i j => .int (i * j)) (tOp (rIx K) (tVar 0) (tC (.int 0))) (tOp (rIx K) (tVar 1) (tC (.int 0)))) (tCons (tOp (rI CMulW fun i j => .int (i * j)) (tOp (rIx K) (tVar 0) (tC (.int 1))) (tOp (rIx K) (tVar 1) (tC (.int 1)))) tNil))))
theorem d_times {P : Program} {w : World} {K : PySem.W.Frag} {mg : Str → Option Value} {base : Heap} {f : Addr} {cdv : Value} {A : Around} {outer : List Env} {s : Shared} {H : Hp} {E : XK} (T : Txt P w K mg base) (C_u_lowest : Fd P w K mg base l_u_lowest "_lowest" ["top", "bottom"] [] (sp_u_lowest K))
    (hr : Room m_times (A.deeper (envOfC "times" (defScope s_times) s.heap.objs.size f cdv))) :
    PSs (cxOf (L2.CX P w) P w K mg base N_times "times" (defScope s_times) f cdv A outer s H E) (defBody s_times) (t_times K) :=
  (pss_one (ps_ret (pe_fd C_u_lowest (hr.mono (by decide)) (pa_cons (pe_op op_mulW (pe_ix ix_seq (pv 0) pe_int (fun _ _ => rfl)) (pe_ix ix_seq (pv 1) pe_int (fun _ _ => rfl))) (pa_cons (pe_op op_mulW (pe_ix ix_seq (pv 0) pe_int (fun _ _ => rfl)) (pe_ix ix_seq (pv 1) pe_int (fun _ _ => rfl))) pa_nil)))))

abbrev s_over : Stmt := top 19
abbrev N_over : List Str := ["one", "other"]
theorem sc_over : FnScope N_over ["one", "other"] (defScope s_over) := ⟨rfl, rfl, rfl, by decide +kernel, rfl, by decide +kernel, by decide +kernel⟩
def t_over (K : PySem.W.Frag) (E : XK) : TS :=
  (tSeq (tIfS (tTest (tOp (rEqD K) (tOp (rIx K) (tVar 1) (tC (.int 0))) (tC (.int 0)))) (fun (_ : Ends) σ H => tMkO (He.ga K "BadRatio") (spIni1 K (He.ga K "BadRatio") "what") [] (tCons (tC (.str "zero")) tNil) σ H fun cls d H2 => E cls d H2) tNext)
    (tRet (tCall (sp_u_lowest K) [] E0 (tCons (tOp (rI CMulW fun i j => .int (i * j)) (tOp (rIx K) (tVar 0) (tC (.int 0))) (tOp (rIx K) (tVar 1) (tC (.int 1)))) (tCons (tOp (rI CMulW fun i j => .int (i * j)) (tOp (rIx K) (tVar 0) (tC (.int 1))) (tOp (rIx K) (tVar 1) (tC (.int 0)))) tNil)))))
theorem d_over {P : Program} {w : World} {K : PySem.W.Frag} {mg : Str → Option Value} {base : Heap} {f : Addr} {cdv : Value} {A : Around} {outer : List Env} {s : Shared} {H : Hp} {E : XK} (T : Txt P w K mg base) (C_u_lowest : Fd P w K mg base l_u_lowest "_lowest" ["top", "bottom"] [] (sp_u_lowest K))
    (hr : Room m_over (A.deeper (envOfC "over" (defScope s_over) s.heap.objs.size f cdv))) :
    PSs (cxOf (L2.CX P w) P w K mg base N_over "over" (defScope s_over) f cdv A outer s H E) (defBody s_over) (t_over K E) :=
  (pss_cons (ps_if (pt_cmpR (op_eqD hr.units) (pe_ix ix_seq (pv 1) pe_int (fun _ _ => rfl)) pe_int (nomark _)) (pss_one (ps_raise rfl (takes_of rfl rfl rfl rfl) (T.mk_BadRatio (hr.mono (by decide)) (pa_cons pe_str pa_nil)))) pss_nil)
    (pss_one (ps_ret (pe_fd C_u_lowest (hr.mono (by decide)) (pa_cons (pe_op op_mulW (pe_ix ix_seq (pv 0) pe_int (fun _ _ => rfl)) (pe_ix ix_seq (pv 1) pe_int (fun _ _ => rfl))) (pa_cons (pe_op op_mulW (pe_ix ix_seq (pv 0) pe_int (fun _ _ => rfl)) (pe_ix ix_seq (pv 1) pe_int (fun _ _ => rfl))) pa_nil))))))

abbrev s_compare : Stmt := top 20
abbrev N_compare : List Str := ["one", "other", "left", "right"]
theorem sc_compare : FnScope N_compare ["one", "other"] (defScope s_compare) := ⟨rfl, rfl, rfl, by decide +kernel, rfl, by decide +kernel, by decide +kernel⟩
def t_compare (K : PySem.W.Frag) : TS :=
  (tSeq (tAsg (tOp (rI CMulW fun i j => .int (i * j)) (tOp (rIx K) (tVar 0) (tC (.int 0))) (tOp (rIx K) (tVar 1) (tC (.int 1)))) (gName 2))
    (tSeq (tAsg (tOp (rI CMulW fun i j => .int (i * j)) (tOp (rIx K) (tVar 1) (tC (.int 0))) (tOp (rIx K) (tVar 0) (tC (.int 1)))) (gName 3))
    (tSeq (tIfS (tTest (tOp (rI0 fun i j => .bl (decide (i < j))) (tVar 2) (tVar 3))) (tRet (tUn (rU fun i => .int (-i)) (tC (.int 1)))) tNext)
    (tSeq (tIfS (tTest (tOp (rI0 fun i j => .bl (decide (j < i))) (tVar 2) (tVar 3))) (tRet (tC (.int 1))) tNext)
    (tRet (tC (.int 0)))))))
theorem d_compare {P : Program} {w : World} {K : PySem.W.Frag} {mg : Str → Option Value} {base : Heap} {f : Addr} {cdv : Value} {A : Around} {outer : List Env} {s : Shared} {H : Hp} {E : XK} (T : Txt P w K mg base)
    (hr : Room m_compare (A.deeper (envOfC "compare" (defScope s_compare) s.heap.objs.size f cdv))) :
    PSs (cxOf (L2.CX P w) P w K mg base N_compare "compare" (defScope s_compare) f cdv A outer s H E) (defBody s_compare) (t_compare K) :=
  (pss_cons (ps_set (i := 2) sc_compare.nd (by rfl) (Or.inl rfl) (pe_op op_mulW (pe_ix ix_seq (pv 0) pe_int (fun _ _ => rfl)) (pe_ix ix_seq (pv 1) pe_int (fun _ _ => rfl))))
    (pss_cons (ps_set (i := 3) sc_compare.nd (by rfl) (Or.inl rfl) (pe_op op_mulW (pe_ix ix_seq (pv 1) pe_int (fun _ _ => rfl)) (pe_ix ix_seq (pv 0) pe_int (fun _ _ => rfl))))
    (pss_cons (ps_if (pt_cmpR op_lt (pv 2) (pv 3) (nomark _)) (pss_one (ps_ret (pe_un un_neg pe_int))) pss_nil)
    (pss_cons (ps_if (pt_cmpR op_gt (pv 2) (pv 3) (nomark _)) (pss_one (ps_ret pe_int)) pss_nil)
    (pss_one (ps_ret pe_int))))))

abbrev s_least_of : Stmt := top 21
abbrev N_least_of : List Str := ["ratios", "best", "ratio"]
theorem sc_least_of : FnScope N_least_of ["ratios"] (defScope s_least_of) := ⟨rfl, rfl, rfl, by decide +kernel, rfl, by decide +kernel, by decide +kernel⟩
def t_least_of (K : PySem.W.Frag) : TS :=
  (tSeq (tAsg (tOp (rIx K) (tVar 0) (tC (.int 0))) (gName 1))
    (tSeq (tFor (iSeq K (tVar 0)) (gName 2) (tIfS (tTest (tOp (rI0 fun i j => .bl (decide (i < j))) (tCall (sp_compare K) [] E0 (tCons (tVar 2) (tCons (tVar 1) tNil))) (tC (.int 0)))) (tAsg (tVar 2) (gName 1)) tNext))
    (tRet (tVar 1))))
theorem d_least_of {P : Program} {w : World} {K : PySem.W.Frag} {mg : Str → Option Value} {base : Heap} {f : Addr} {cdv : Value} {A : Around} {outer : List Env} {s : Shared} {H : Hp} {E : XK} (T : Txt P w K mg base) (C_compare : Fd P w K mg base l_compare "compare" ["one", "other"] [] (sp_compare K))
    (hr : Room m_least_of (A.deeper (envOfC "least_of" (defScope s_least_of) s.heap.objs.size f cdv))) :
    PSs (cxOf (L2.CX P w) P w K mg base N_least_of "least_of" (defScope s_least_of) f cdv A outer s H E) (defBody s_least_of) (t_least_of K) :=
  (pss_cons (ps_set (i := 1) sc_least_of.nd (by rfl) (Or.inl rfl) (pe_ix ix_seq (pv 0) pe_int (fun _ _ => rfl)))
    (pss_cons (ps_for (passes_of rfl) rfl (pi_seq (pv 0)) (pg_name (i := 2) sc_least_of.nd (by rfl) (Or.inl rfl)) (pss_one (ps_if (pt_cmpR op_lt (pe_fd C_compare (hr.mono (by decide)) (pa_cons (pv 2) (pa_cons (pv 1) pa_nil))) pe_int (nomark _)) (pss_one (ps_set (i := 1) sc_least_of.nd (by rfl) (Or.inl rfl) (pv 2))) pss_nil)))
    (pss_one (ps_ret (pv 1)))))

abbrev s_greatest_of : Stmt := top 22
abbrev N_greatest_of : List Str := ["ratios", "best", "ratio"]
theorem sc_greatest_of : FnScope N_greatest_of ["ratios"] (defScope s_greatest_of) := ⟨rfl, rfl, rfl, by decide +kernel, rfl, by decide +kernel, by decide +kernel⟩
def t_greatest_of (K : PySem.W.Frag) : TS :=
  (tSeq (tAsg (tOp (rIx K) (tVar 0) (tC (.int 0))) (gName 1))
    (tSeq (tFor (iSeq K (tVar 0)) (gName 2) (tIfS (tTest (tOp (rI0 fun i j => .bl (decide (j < i))) (tCall (sp_compare K) [] E0 (tCons (tVar 2) (tCons (tVar 1) tNil))) (tC (.int 0)))) (tAsg (tVar 2) (gName 1)) tNext))
    (tRet (tVar 1))))
theorem d_greatest_of {P : Program} {w : World} {K : PySem.W.Frag} {mg : Str → Option Value} {base : Heap} {f : Addr} {cdv : Value} {A : Around} {outer : List Env} {s : Shared} {H : Hp} {E : XK} (T : Txt P w K mg base) (C_compare : Fd P w K mg base l_compare "compare" ["one", "other"] [] (sp_compare K))
    (hr : Room m_greatest_of (A.deeper (envOfC "greatest_of" (defScope s_greatest_of) s.heap.objs.size f cdv))) :
    PSs (cxOf (L2.CX P w) P w K mg base N_greatest_of "greatest_of" (defScope s_greatest_of) f cdv A outer s H E) (defBody s_greatest_of) (t_greatest_of K) :=
  (pss_cons (ps_set (i := 1) sc_greatest_of.nd (by rfl) (Or.inl rfl) (pe_ix ix_seq (pv 0) pe_int (fun _ _ => rfl)))
    (pss_cons (ps_for (passes_of rfl) rfl (pi_seq (pv 0)) (pg_name (i := 2) sc_greatest_of.nd (by rfl) (Or.inl rfl)) (pss_one (ps_if (pt_cmpR op_gt (pe_fd C_compare (hr.mono (by decide)) (pa_cons (pv 2) (pa_cons (pv 1) pa_nil))) pe_int (nomark _)) (pss_one (ps_set (i := 1) sc_greatest_of.nd (by rfl) (Or.inl rfl) (pv 2))) pss_nil)))
    (pss_one (ps_ret (pv 1)))))

abbrev s_floor_of : Stmt := top 23
abbrev N_floor_of : List Str := ["one"]
theorem sc_floor_of : FnScope N_floor_of ["one"] (defScope s_floor_of) := ⟨rfl, rfl, rfl, by decide +kernel, rfl, by decide +kernel, by decide +kernel⟩
def t_floor_of (K : PySem.W.Frag) : TS :=
  (tRet (tOp (rI CDivA fun i j => .int (i.fdiv j)) (tOp (rIx K) (tVar 0) (tC (.int 0))) (tOp (rIx K) (tVar 0) (tC (.int 1)))))
theorem d_floor_of {P : Program} {w : World} {K : PySem.W.Frag} {mg : Str → Option Value} {base : Heap} {f : Addr} {cdv : Value} {A : Around} {outer : List Env} {s : Shared} {H : Hp} {E : XK} (T : Txt P w K mg base)
    (hr : Room m_floor_of (A.deeper (envOfC "floor_of" (defScope s_floor_of) s.heap.objs.size f cdv))) :
    PSs (cxOf (L2.CX P w) P w K mg base N_floor_of "floor_of" (defScope s_floor_of) f cdv A outer s H E) (defBody s_floor_of) (t_floor_of K) :=
  (pss_one (ps_ret (pe_op op_fdivA (pe_ix ix_seq (pv 0) pe_int (fun _ _ => rfl)) (pe_ix ix_seq (pv 0) pe_int (fun _ _ => rfl)))))

abbrev s_broken_of : Stmt := top 24
abbrev N_broken_of : List Str := ["one"]
theorem sc_broken_of : FnScope N_broken_of ["one"] (defScope s_broken_of) := ⟨rfl, rfl, rfl, by decide +kernel, rfl, by decide +kernel, by decide +kernel⟩
def t_broken_of (K : PySem.W.Frag) : TS :=
  (tRet (tTup (tCons (tOp (rI (fun _ j => 0 < j) fun i j => .int (i % j)) (tOp (rIx K) (tVar 0) (tC (.int 0))) (tOp (rIx K) (tVar 0) (tC (.int 1)))) (tCons (tOp (rIx K) (tVar 0) (tC (.int 1))) tNil))))
theorem d_broken_of {P : Program} {w : World} {K : PySem.W.Frag} {mg : Str → Option Value} {base : Heap} {f : Addr} {cdv : Value} {A : Around} {outer : List Env} {s : Shared} {H : Hp} {E : XK} (T : Txt P w K mg base)
    (hr : Room m_broken_of (A.deeper (envOfC "broken_of" (defScope s_broken_of) s.heap.objs.size f cdv))) :
    PSs (cxOf (L2.CX P w) P w K mg base N_broken_of "broken_of" (defScope s_broken_of) f cdv A outer s H E) (defBody s_broken_of) (t_broken_of K) :=
  (pss_one (ps_ret (pe_tup (pa_cons (pe_op op_mod (pe_ix ix_seq (pv 0) pe_int (fun _ _ => rfl)) (pe_ix ix_seq (pv 0) pe_int (fun _ _ => rfl))) (pa_cons (pe_ix ix_seq (pv 0) pe_int (fun _ _ => rfl)) pa_nil)))))

abbrev s_merged_ratios : Stmt := top 25
abbrev N_merged_ratios : List Str := ["one", "other", "found", "i", "j", "side"]
theorem sc_merged_ratios : FnScope N_merged_ratios ["one", "other"] (defScope s_merged_ratios) := ⟨rfl, rfl, rfl, by decide +kernel, rfl, by decide +kernel, by decide +kernel⟩
def t_merged_ratios (K : PySem.W.Frag) : TS :=
  (tSeq (tAsg (tLst tNil) (gName 2))
    (tSeq (tAsg (tC (.int 0)) (gName 3))
    (tSeq (tAsg (tC (.int 0)) (gName 4))
    (tSeq (tWhile (tAnd (tTest (tOp (rI0 fun i j => .bl (decide (i < j))) (tVar 3) (tCB (Evl.rLenS K) (tCons (tVar 0) tNil)))) (tTest (tOp (rI0 fun i j => .bl (decide (i < j))) (tVar 4) (tCB (Evl.rLenS K) (tCons (tVar 1) tNil))))) (tSeq (tAsg (tCall (sp_compare K) [] E0 (tCons (tOp (rIx K) (tVar 0) (tVar 3)) (tCons (tOp (rIx K) (tVar 1) (tVar 4)) tNil))) (gName 5))
    (tSeq (tDrop (tBM K "list" rAppend (tVar 2) (tCons (tIf (tTest (tOp (rI0 fun i j => .bl (decide (i < j))) (tVar 5) (tC (.int 0)))) (tOp (rIx K) (tVar 0) (tVar 3)) (tOp (rIx K) (tVar 1) (tVar 4))) tNil)))
    (tSeq (tIfS (tTest (tOp (rI0 fun i j => .bl (decide (i ≤ j))) (tVar 5) (tC (.int 0)))) (tAug 3 (tC (.int 1)) (ipI fun i j => i + j)) tNext)
    (tIfS (tTest (tOp (rI0 fun i j => .bl (decide (j ≤ i))) (tVar 5) (tC (.int 0)))) (tAug 4 (tC (.int 1)) (ipI fun i j => i + j)) tNext)))))
    (tRet (tCB (rTupleOf K) (tCons (tOp rCat (tOp rCat (tVar 2) (tCB (Evl.rListS K) (tCons (tSl (rSlA K) (tVar 0) (tPart (tVar 3)) tNoPart) tNil))) (tCB (Evl.rListS K) (tCons (tSl (rSlA K) (tVar 1) (tPart (tVar 4)) tNoPart) tNil))) tNil)))))))
theorem d_merged_ratios {P : Program} {w : World} {K : PySem.W.Frag} {mg : Str → Option Value} {base : Heap} {f : Addr} {cdv : Value} {A : Around} {outer : List Env} {s : Shared} {H : Hp} {E : XK} (T : Txt P w K mg base) (C_compare : Fd P w K mg base l_compare "compare" ["one", "other"] [] (sp_compare K))
    (hr : Room m_merged_ratios (A.deeper (envOfC "merged_ratios" (defScope s_merged_ratios) s.heap.objs.size f cdv))) :
    PSs (cxOf (L2.CX P w) P w K mg base N_merged_ratios "merged_ratios" (defScope s_merged_ratios) f cdv A outer s H E) (defBody s_merged_ratios) (t_merged_ratios K) :=
  (pss_cons (ps_set (i := 2) sc_merged_ratios.nd (by rfl) (Or.inl rfl) (pe_lst pa_nil))
    (pss_cons (ps_set (i := 3) sc_merged_ratios.nd (by rfl) (Or.inl rfl) pe_int)
    (pss_cons (ps_set (i := 4) sc_merged_ratios.nd (by rfl) (Or.inl rfl) pe_int)
    (pss_cons (ps_while (passes_of rfl) (PW.pt (pw_and (pt_cmpR op_lt (pv 3) (pe_callB call_len_seq (by rfl) T.b_len (by decide +kernel) (pa_cons (pv 0) pa_nil)) (nomark _)) (pw_and1 (pt_cmpR op_lt (pv 4) (pe_callB call_len_seq (by rfl) T.b_len (by decide +kernel) (pa_cons (pv 1) pa_nil)) (nomark _))))) (pss_cons (ps_set (i := 5) sc_merged_ratios.nd (by rfl) (Or.inl rfl) (pe_fd C_compare (hr.mono (by decide)) (pa_cons (pe_ix ix_seq (pv 0) (pv 3) (fun _ _ => rfl)) (pa_cons (pe_ix ix_seq (pv 1) (pv 4) (fun _ _ => rfl)) pa_nil))))
    (pss_cons (ps_expr (pe_bm PySem.F.plainAttrs_list PySem.F.slot_list_append PySem.F.type_list_append mt_append (pv 2) (pa_cons (pe_ifExp (pt_cmpR op_lt (pv 5) pe_int (nomark _)) (pe_ix ix_seq (pv 0) (pv 3) (fun _ _ => rfl)) (pe_ix ix_seq (pv 1) (pv 4) (fun _ _ => rfl))) pa_nil)))
    (pss_cons (ps_if (pt_cmpR op_le (pv 5) pe_int (nomark _)) (pss_one (ps_aug (i := 3) sc_merged_ratios.nd (by rfl) (.inl rfl) pe_int ip_add)) pss_nil)
    (pss_one (ps_if (pt_cmpR op_ge (pv 5) pe_int (nomark _)) (pss_one (ps_aug (i := 4) sc_merged_ratios.nd (by rfl) (.inl rfl) pe_int ip_add)) pss_nil))))))
    (pss_one (ps_ret (pe_callTy call_tuple_of (by rfl) T.b_tuple (by decide +kernel) (pa_cons (pe_op op_cat (pe_op op_cat (pv 2) (pe_callTy call_list_of (by rfl) T.b_list (by decide +kernel) (pa_cons (pe_slice sl_tupA (pv 0) (po_some (pv 3)) po_none) pa_nil))) (pe_callTy call_list_of (by rfl) T.b_list (by decide +kernel) (pa_cons (pe_slice sl_tupA (pv 1) (po_some (pv 4)) po_none) pa_nil))) pa_nil))))))))

abbrev s_ascending_ratios : Stmt := top 26
abbrev N_ascending_ratios : List Str := ["ratios", "half"]
theorem sc_ascending_ratios : FnScope N_ascending_ratios ["ratios"] (defScope s_ascending_ratios) := ⟨rfl, rfl, rfl, by decide +kernel, rfl, by decide +kernel, by decide +kernel⟩
def t_ascending_ratios (K : PySem.W.Frag) (spR : Sp) : TS :=
  (tSeq (tIfS (tTest (tOp (rI0 fun i j => .bl (decide (i < j))) (tCB (Evl.rLenS K) (tCons (tVar 0) tNil)) (tC (.int 2)))) (tRet (tCB (rTupleOf K) (tCons (tVar 0) tNil))) tNext)
    (tSeq (tAsg (tOp (rI CDivA fun i j => .int (i.fdiv j)) (tCB (Evl.rLenS K) (tCons (tVar 0) tNil)) (tC (.int 2))) (gName 1))
    (tRet (tCall (sp_merged_ratios K) [] E0 (tCons (tCall spR [] E0 (tCons (tSl (rSlL K) (tVar 0) tNoPart (tPart (tVar 1))) tNil)) (tCons (tCall spR [] E0 (tCons (tSl (rSlL K) (tVar 0) (tPart (tVar 1)) tNoPart) tNil)) tNil))))))
theorem d_ascending_ratios {P : Program} {w : World} {K : PySem.W.Frag} {mg : Str → Option Value} {base : Heap} {f : Addr} {cdv : Value} {A : Around} {outer : List Env} {s : Shared} {H : Hp} {E : XK} (T : Txt P w K mg base) (C_merged_ratios : Fd P w K mg base l_merged_ratios "merged_ratios" ["one", "other"] [] (sp_merged_ratios K)) {spR : Sp} {lR m : Nat} (hl : lR ≤ m) (h2 : 2 ≤ m) (C_ascending_ratios : Fd P w K mg base lR "ascending_ratios" ["ratios"] [] spR)
    (hr : Room m (A.deeper (envOfC "ascending_ratios" (defScope s_ascending_ratios) s.heap.objs.size f cdv))) :
    PSs (cxOf (L2.CX P w) P w K mg base N_ascending_ratios "ascending_ratios" (defScope s_ascending_ratios) f cdv A outer s H E) (defBody s_ascending_ratios) (t_ascending_ratios K spR) :=
  (pss_cons (ps_if (pt_cmpR op_lt (pe_callB call_len_seq (by rfl) T.b_len (by decide +kernel) (pa_cons (pv 0) pa_nil)) pe_int (nomark _)) (pss_one (ps_ret (pe_callTy call_tuple_of (by rfl) T.b_tuple (by decide +kernel) (pa_cons (pv 0) pa_nil)))) pss_nil)
    (pss_cons (ps_set (i := 1) sc_ascending_ratios.nd (by rfl) (Or.inl rfl) (pe_op op_fdivA (pe_callB call_len_seq (by rfl) T.b_len (by decide +kernel) (pa_cons (pv 0) pa_nil)) pe_int))
    (pss_one (ps_ret (pe_fd C_merged_ratios (hr.mono (Nat.le_trans (by decide) h2)) (pa_cons (pe_fd C_ascending_ratios (hr.mono hl) (pa_cons (pe_slice sl_list (pv 0) po_none (po_some (pv 1))) pa_nil)) (pa_cons (pe_fd C_ascending_ratios (hr.mono hl) (pa_cons (pe_slice sl_list (pv 0) (po_some (pv 1)) po_none) pa_nil)) pa_nil)))))))

abbrev s_middle_of_two : Stmt := top 27
abbrev N_middle_of_two : List Str := ["one", "other"]
theorem sc_middle_of_two : FnScope N_middle_of_two ["one", "other"] (defScope s_middle_of_two) := ⟨rfl, rfl, rfl, by decide +kernel, rfl, by decide +kernel, by decide +kernel⟩
def t_middle_of_two (K : PySem.W.Frag) : TS :=
  (tRet (tCall (sp_times K) [] E0 (tCons (tCall (sp_plus K) [] E0 (tCons (tVar 0) (tCons (tVar 1) tNil))) (tCons (tC (.ref (He.ga K "HALF"))) tNil))))
theorem d_middle_of_two {P : Program} {w : World} {K : PySem.W.Frag} {mg : Str → Option Value} {base : Heap} {f : Addr} {cdv : Value} {A : Around} {outer : List Env} {s : Shared} {H : Hp} {E : XK} (T : Txt P w K mg base) (C_times : Fd P w K mg base l_times "times" ["one", "other"] [] (sp_times K)) (C_plus : Fd P w K mg base l_plus "plus" ["one", "other"] [] (sp_plus K))
    (hr : Room m_middle_of_two (A.deeper (envOfC "middle_of_two" (defScope s_middle_of_two) s.heap.objs.size f cdv))) :
    PSs (cxOf (L2.CX P w) P w K mg base N_middle_of_two "middle_of_two" (defScope s_middle_of_two) f cdv A outer s H E) (defBody s_middle_of_two) (t_middle_of_two K) :=
  (pss_one (ps_ret (pe_fd C_times (hr.mono (by decide)) (pa_cons (pe_fd C_plus (hr.mono (by decide)) (pa_cons (pv 0) (pa_cons (pv 1) pa_nil))) (pa_cons (pe_glob (by rfl) T.g_HALF (by rfl)) pa_nil)))))

abbrev s_check_slip_row : Stmt := top 29
abbrev N_check_slip_row : List Str := ["row", "index", "ratio"]
theorem sc_check_slip_row : FnScope N_check_slip_row ["row"] (defScope s_check_slip_row) := ⟨rfl, rfl, rfl, by decide +kernel, rfl, by decide +kernel, by decide +kernel⟩
def t_check_slip_row (K : PySem.W.Frag) (E : XK) : TS :=
  (tSeq (tIfS (tNot (tB (tCall (sp_is_sequence K) [] E0 (tCons (tVar 0) (tCons (tC (.int 1)) (tCons (tC (.int 3)) tNil)))))) (fun (_ : Ends) σ H => tMkO (He.ga K "BadSlipRow") (spIni2 K (He.ga K "BadSlipRow") "index" "what") [] (tCons (tC (.int 0)) (tCons (tC (.str "many")) tNil)) σ H fun cls d H2 => E cls d H2) tNext)
    (tSeq (tFor (iEnumA K (tCons (tVar 0) tNil)) (gTup K 2 (gCons (gName 1) (gCons (gName 2) gNil))) (tSeq (tIfS (tNot (tB (tCall (sp_is_ratio K) [] E0 (tCons (tVar 2) tNil)))) (fun (_ : Ends) σ H => tMkO (He.ga K "BadSlipRow") (spIni2 K (He.ga K "BadSlipRow") "index" "what") [] (tCons (tVar 1) (tCons (tC (.str "ratio")) tNil)) σ H fun cls d H2 => E cls d H2) tNext)
    (tIfS (tOr (tTest (tOp (rI0 fun i j => .bl (decide (i < j))) (tCall (sp_compare K) [] E0 (tCons (tVar 2) (tCons (tTup (tCons (tUn (rU fun i => .int (-i)) (tC (.int 2))) (tCons (tC (.int 1)) tNil))) tNil))) (tC (.int 0)))) (tTest (tOp (rI0 fun i j => .bl (decide (j < i))) (tCall (sp_compare K) [] E0 (tCons (tVar 2) (tCons (tTup (tCons (tC (.int 2)) (tCons (tC (.int 1)) tNil))) tNil))) (tC (.int 0))))) (fun (_ : Ends) σ H => tMkO (He.ga K "BadSlipRow") (spIni2 K (He.ga K "BadSlipRow") "index" "what") [] (tCons (tVar 1) (tCons (tC (.str "far")) tNil)) σ H fun cls d H2 => E cls d H2) tNext)))
    (tRet (tCB (rTupleOf K) (tCons (tVar 0) tNil)))))
theorem d_check_slip_row {P : Program} {w : World} {K : PySem.W.Frag} {mg : Str → Option Value} {base : Heap} {f : Addr} {cdv : Value} {A : Around} {outer : List Env} {s : Shared} {H : Hp} {E : XK} (T : Txt P w K mg base) (C_is_sequence : Fd P w K mg base l_is_sequence "is_sequence" ["thing", "low", "high"] [] (sp_is_sequence K)) (C_is_ratio : Fd P w K mg base l_is_ratio "is_ratio" ["thing"] [] (sp_is_ratio K)) (C_compare : Fd P w K mg base l_compare "compare" ["one", "other"] [] (sp_compare K))
    (hr : Room m_check_slip_row (A.deeper (envOfC "check_slip_row" (defScope s_check_slip_row) s.heap.objs.size f cdv))) :
    PSs (cxOf (L2.CX P w) P w K mg base N_check_slip_row "check_slip_row" (defScope s_check_slip_row) f cdv A outer s H E) (defBody s_check_slip_row) (t_check_slip_row K E) :=
  (pss_cons (ps_if (pt_not (pt_val (pe_fd C_is_sequence (hr.mono (by decide)) (pa_cons (pv 0) (pa_cons pe_int (pa_cons pe_int pa_nil)))))) (pss_one (ps_raise rfl (takes_of rfl rfl rfl rfl) (T.mk_BadSlipRow (hr.mono (by decide)) (pa_cons pe_int (pa_cons pe_str pa_nil))))) pss_nil)
    (pss_cons (ps_for (passes_of rfl) rfl (pi_enumA (by rfl) T.b_enumerate (pa_cons (pv 0) pa_nil)) (pg_tup (by rfl) (pgs_cons (pg_name (i := 1) sc_check_slip_row.nd (by rfl) (Or.inl rfl)) (pgs_cons (pg_name (i := 2) sc_check_slip_row.nd (by rfl) (Or.inl rfl)) pgs_nil))) (pss_cons (ps_if (pt_not (pt_val (pe_fd C_is_ratio (hr.mono (by decide)) (pa_cons (pv 2) pa_nil)))) (pss_one (ps_raise rfl (takes_of rfl rfl rfl rfl) (T.mk_BadSlipRow (hr.mono (by decide)) (pa_cons (pv 1) (pa_cons pe_str pa_nil))))) pss_nil)
    (pss_one (ps_if (PW.pt (pw_or (pt_cmpR op_lt (pe_fd C_compare (hr.mono (by decide)) (pa_cons (pv 2) (pa_cons (pe_tup (pa_cons (pe_un un_neg pe_int) (pa_cons pe_int pa_nil))) pa_nil))) pe_int (nomark _)) (pw_or1 (pt_cmpR op_gt (pe_fd C_compare (hr.mono (by decide)) (pa_cons (pv 2) (pa_cons (pe_tup (pa_cons pe_int (pa_cons pe_int pa_nil))) pa_nil))) pe_int (nomark _))))) (pss_one (ps_raise rfl (takes_of rfl rfl rfl rfl) (T.mk_BadSlipRow (hr.mono (by decide)) (pa_cons (pv 1) (pa_cons pe_str pa_nil))))) pss_nil))))
    (pss_one (ps_ret (pe_callTy call_tuple_of (by rfl) T.b_tuple (by decide +kernel) (pa_cons (pv 0) pa_nil))))))

abbrev s_broken_parts : Stmt := top 30
abbrev N_broken_parts : List Str := ["row", "parts", "ratio", "part"]
theorem sc_broken_parts : FnScope N_broken_parts ["row"] (defScope s_broken_parts) := ⟨rfl, rfl, rfl, by decide +kernel, rfl, by decide +kernel, by decide +kernel⟩
def t_broken_parts (K : PySem.W.Frag) : TS :=
  (tSeq (tAsg (tLc (iSeq K (tVar 0)) (gName 2) tYes (tCall (sp_broken_of K) [] E0 (tCons (tVar 2) tNil)) [2]) (gName 1))
    (tRet (tCall (sp_ascending_ratios K) [] E0 (tCons (tLc (iSeq K (tVar 1)) (gName 3) (tTest (tOp (rNeD K) (tVar 3) (tC (.ref (He.ga K "ZERO"))))) (tVar 3) [3]) tNil))))
theorem d_broken_parts {P : Program} {w : World} {K : PySem.W.Frag} {mg : Str → Option Value} {base : Heap} {f : Addr} {cdv : Value} {A : Around} {outer : List Env} {s : Shared} {H : Hp} {E : XK} (T : Txt P w K mg base) (C_broken_of : Fd P w K mg base l_broken_of "broken_of" ["one"] [] (sp_broken_of K)) (C_ascending_ratios : Fd P w K mg base l_ascending_ratios "ascending_ratios" ["ratios"] [] (sp_ascending_ratios K))
    (hr : Room m_broken_parts (A.deeper (envOfC "broken_parts" (defScope s_broken_parts) s.heap.objs.size f cdv))) :
    PSs (cxOf (L2.CX P w) P w K mg base N_broken_parts "broken_parts" (defScope s_broken_parts) f cdv A outer s H E) (defBody s_broken_parts) (t_broken_parts K) :=
  (pss_cons (ps_setLc (i := 1) (own := [("ratio", 2)]) (g := (gName 2)) (by rfl) sc_broken_parts.nd (by rfl) (by rfl) (sw_true rfl rfl rfl (by decide +kernel)) (pi_seq (pv 0)) (blkOk_by (own := [("ratio", 2)]) (N := N_broken_parts) (sc := defScope s_broken_parts) (by decide +kernel)) (fun _ _ _ _ _ => (pg_name (i := 2) sc_broken_parts.nd (by rfl) (Or.inl rfl))) (fun _ _ _ _ _ => pts_nil) (fun _ _ _ _ _ => (pe_fd C_broken_of (hr.mono (by decide)) (pa_cons (pv 2) pa_nil))))
    (pss_one (ps_ret (pe_fd C_ascending_ratios (hr.mono (by decide)) (pa_cons (pe_lc (own := [("part", 3)]) (g := (gName 3)) (by rfl) sc_broken_parts.nd (pi_seq (pv 1)) (blkOk_by (own := [("part", 3)]) (N := N_broken_parts) (sc := defScope s_broken_parts) (by decide +kernel)) (fun _ _ _ _ _ => (pg_name (i := 3) sc_broken_parts.nd (by rfl) (Or.inl rfl))) (fun _ _ _ _ _ => (pts_one (pt_cmpR (op_neD hr.units) (pv 3) (pe_glob (by rfl) T.g_ZERO (by rfl)) (nomark _)))) (fun _ _ _ _ _ => (pv 3))) pa_nil)))))

abbrev s_stand_of : Stmt := top 31
abbrev N_stand_of : List Str := ["row", "told", "parts", "ranks", "ratio"]
theorem sc_stand_of : FnScope N_stand_of ["row"] (defScope s_stand_of) := ⟨rfl, rfl, rfl, by decide +kernel, rfl, by decide +kernel, by decide +kernel⟩
def t_stand_of (K : PySem.W.Frag) (E : XK) : TS :=
  (tSeq (tAsg (tCall (sp_check_slip_row K) [] E (tCons (tVar 0) tNil)) (gName 1))
    (tSeq (tAsg (tCall (sp_broken_parts K) [] E0 (tCons (tVar 1) tNil)) (gName 2))
    (tSeq (tAsg (tTupN (tCons (tC (.ref (He.ga K "ZERO"))) (tStar K (tVar 2) tNil))) (gName 3))
    (tRet (tCB (rTupleOf K) (tCons (tLc (iSeq K (tVar 1)) (gName 4) tYes (tTup (tCons (tCall (sp_floor_of K) [] E0 (tCons (tVar 4) tNil)) (tCons (tBMN (rTIndexD K) (tVar 3) (tCons (tCall (sp_broken_of K) [] E0 (tCons (tVar 4) tNil)) tNil)) tNil))) [4]) tNil))))))
theorem d_stand_of {P : Program} {w : World} {K : PySem.W.Frag} {mg : Str → Option Value} {base : Heap} {f : Addr} {cdv : Value} {A : Around} {outer : List Env} {s : Shared} {H : Hp} {E : XK} (T : Txt P w K mg base) (C_check_slip_row : Fd P w K mg base l_check_slip_row "check_slip_row" ["row"] [] (sp_check_slip_row K)) (C_broken_parts : Fd P w K mg base l_broken_parts "broken_parts" ["row"] [] (sp_broken_parts K)) (C_broken_of : Fd P w K mg base l_broken_of "broken_of" ["one"] [] (sp_broken_of K)) (C_floor_of : Fd P w K mg base l_floor_of "floor_of" ["one"] [] (sp_floor_of K))
    (hr : Room m_stand_of (A.deeper (envOfC "stand_of" (defScope s_stand_of) s.heap.objs.size f cdv))) :
    PSs (cxOf (L2.CX P w) P w K mg base N_stand_of "stand_of" (defScope s_stand_of) f cdv A outer s H E) (defBody s_stand_of) (t_stand_of K E) :=
  (pss_cons (ps_set (i := 1) sc_stand_of.nd (by rfl) (Or.inl rfl) (pe_fdE C_check_slip_row (hr.mono (by decide)) (takes_of rfl rfl rfl rfl) (fun _ _ _ _ h => h) (pa_cons (pv 0) pa_nil)))
    (pss_cons (ps_set (i := 2) sc_stand_of.nd (by rfl) (Or.inl rfl) (pe_fd C_broken_parts (hr.mono (by decide)) (pa_cons (pv 1) pa_nil)))
    (pss_cons (ps_set (i := 3) sc_stand_of.nd (by rfl) (Or.inr rfl) (pe_tupN (pa_cons (pe_glob (by rfl) T.g_ZERO (by rfl)) (pa_star (pv 2) pa_nil))))
    (pss_one (ps_ret (pe_callTy call_tuple_of (by rfl) T.b_tuple (by decide +kernel) (pa_cons (pe_lc (own := [("ratio", 4)]) (g := (gName 4)) (by rfl) sc_stand_of.nd (pi_seq (pv 1)) (blkOk_by (own := [("ratio", 4)]) (N := N_stand_of) (sc := defScope s_stand_of) (by decide +kernel)) (fun _ _ _ _ _ => (pg_name (i := 4) sc_stand_of.nd (by rfl) (Or.inl rfl))) (fun _ _ _ _ _ => pts_nil) (fun _ _ _ _ _ => (pe_tup (pa_cons (pe_fd C_floor_of (hr.mono (by decide)) (pa_cons (pv 4) pa_nil)) (pa_cons (pe_bmN PySem.F.slot_tuple_index PySem.F.type_tuple_index (mt_tindexD (units65 hr)) (pv 3) (pa_cons (pe_fd C_broken_of (hr.mono (by decide)) (pa_cons (pv 4) pa_nil)) pa_nil)) pa_nil))))) pa_nil)))))))

abbrev s_u_distances : Stmt := top 33
abbrev N_u_distances : List Str := ["row", "low", "high"]
theorem sc_u_distances : FnScope N_u_distances ["row"] (defScope s_u_distances) := ⟨rfl, rfl, rfl, by decide +kernel, rfl, by decide +kernel, by decide +kernel⟩
def t_u_distances (K : PySem.W.Frag) : TS :=
  (tRet (tOp rCat (tCB (Evl.rListS K) (tCons (tVar 0) tNil)) (tLc (iSeq K (tCall (sp_number_pairs K) [] E0 (tCons (tCB (Evl.rLenS K) (tCons (tVar 0) tNil)) tNil))) (gTup K 2 (gCons (gName 1) (gCons (gName 2) gNil))) tYes (tCall (sp_minus K) [] E0 (tCons (tOp (rIx K) (tVar 0) (tVar 1)) (tCons (tOp (rIx K) (tVar 0) (tVar 2)) tNil))) [1, 2])))
theorem d_u_distances {P : Program} {w : World} {K : PySem.W.Frag} {mg : Str → Option Value} {base : Heap} {f : Addr} {cdv : Value} {A : Around} {outer : List Env} {s : Shared} {H : Hp} {E : XK} (T : Txt P w K mg base) (C_number_pairs : Fd P w K mg base l_number_pairs "number_pairs" ["many"] [] (sp_number_pairs K)) (C_minus : Fd P w K mg base l_minus "minus" ["one", "other"] [] (sp_minus K))
    (hr : Room m_u_distances (A.deeper (envOfC "_distances" (defScope s_u_distances) s.heap.objs.size f cdv))) :
    PSs (cxOf (L2.CX P w) P w K mg base N_u_distances "_distances" (defScope s_u_distances) f cdv A outer s H E) (defBody s_u_distances) (t_u_distances K) :=
  (pss_one (ps_ret (pe_op op_cat (pe_callTy call_list_of (by rfl) T.b_list (by decide +kernel) (pa_cons (pv 0) pa_nil)) (pe_lc (own := [("low", 1), ("high", 2)]) (g := (gTup K 2 (gCons (gName 1) (gCons (gName 2) gNil)))) (by rfl) sc_u_distances.nd (pi_seq (pe_fd C_number_pairs (hr.mono (by decide)) (pa_cons (pe_callB call_len_seq (by rfl) T.b_len (by decide +kernel) (pa_cons (pv 0) pa_nil)) pa_nil))) (blkOk_by (own := [("low", 1), ("high", 2)]) (N := N_u_distances) (sc := defScope s_u_distances) (by decide +kernel)) (fun _ _ _ _ _ => (pg_tup (by rfl) (pgs_cons (pg_name (i := 1) sc_u_distances.nd (by rfl) (Or.inl rfl)) (pgs_cons (pg_name (i := 2) sc_u_distances.nd (by rfl) (Or.inl rfl)) pgs_nil)))) (fun _ _ _ _ _ => pts_nil) (fun _ _ _ _ _ => (pe_fd C_minus (hr.mono (by decide)) (pa_cons (pe_ix ix_seq (pv 0) (pv 1) (fun _ _ => rfl)) (pa_cons (pe_ix ix_seq (pv 0) (pv 2) (fun _ _ => rfl)) pa_nil))))))))

abbrev s_u_whole_times : Stmt := top 34
abbrev N_u_whole_times : List Str := ["start", "end", "way", "low", "high", "whole"]
theorem sc_u_whole_times : FnScope N_u_whole_times ["start", "end"] (defScope s_u_whole_times) := ⟨rfl, rfl, rfl, by decide +kernel, rfl, by decide +kernel, by decide +kernel⟩
def t_u_whole_times (K : PySem.W.Frag) : TS :=
  (tSeq (tAsg (tCall (sp_minus K) [] E0 (tCons (tVar 1) (tCons (tVar 0) tNil))) (gName 2))
    (tSeq (tIfS (tTest (tOp (rEqD K) (tVar 2) (tC (.ref (He.ga K "ZERO"))))) (tRet (tLst tNil)) tNext)
    (tSeq (tAsg (tUn (rU fun i => .int (-i)) (tCall (sp_floor_of K) [] E0 (tCons (tCall (sp_minus K) [] E0 (tCons (tC (.ref (He.ga K "ZERO"))) (tCons (tCall (sp_least_of K) [] E0 (tCons (tTup (tCons (tVar 0) (tCons (tVar 1) tNil))) tNil)) tNil))) tNil))) (gName 3))
    (tSeq (tAsg (tCall (sp_floor_of K) [] E0 (tCons (tCall (sp_greatest_of K) [] E0 (tCons (tTup (tCons (tVar 0) (tCons (tVar 1) tNil))) tNil)) tNil)) (gName 4))
    (tRet (tLc (iRng2 (tCons (tVar 3) (tCons (tOp (rI0 fun i j => .int (i + j)) (tVar 4) (tC (.int 1))) tNil))) (gName 5) tYes (tCall (sp_over K) [] E0 (tCons (tCall (sp_minus K) [] E0 (tCons (tCall (sp_make_ratio K) [.int 1] E0 (tCons (tVar 5) tNil)) (tCons (tVar 0) tNil))) (tCons (tVar 2) tNil))) [5]))))))
theorem d_u_whole_times {P : Program} {w : World} {K : PySem.W.Frag} {mg : Str → Option Value} {base : Heap} {f : Addr} {cdv : Value} {A : Around} {outer : List Env} {s : Shared} {H : Hp} {E : XK} (T : Txt P w K mg base) (C_minus : Fd P w K mg base l_minus "minus" ["one", "other"] [] (sp_minus K)) (C_floor_of : Fd P w K mg base l_floor_of "floor_of" ["one"] [] (sp_floor_of K)) (C_least_of : Fd P w K mg base l_least_of "least_of" ["ratios"] [] (sp_least_of K)) (C_greatest_of : Fd P w K mg base l_greatest_of "greatest_of" ["ratios"] [] (sp_greatest_of K)) (C_over : Fd P w K mg base l_over "over" ["one", "other"] [] (sp_over K)) (C_make_ratio_1 : Fd P w K mg base l_make_ratio "make_ratio" ["top", "bottom"] [.int 1] (sp_make_ratio K))
    (hr : Room m_u_whole_times (A.deeper (envOfC "_whole_times" (defScope s_u_whole_times) s.heap.objs.size f cdv))) :
    PSs (cxOf (L2.CX P w) P w K mg base N_u_whole_times "_whole_times" (defScope s_u_whole_times) f cdv A outer s H E) (defBody s_u_whole_times) (t_u_whole_times K) :=
  (pss_cons (ps_set (i := 2) sc_u_whole_times.nd (by rfl) (Or.inr rfl) (pe_fd C_minus (hr.mono (by decide)) (pa_cons (pv 1) (pa_cons (pv 0) pa_nil))))
    (pss_cons (ps_if (pt_cmpR (op_eqD hr.units) (pv 2) (pe_glob (by rfl) T.g_ZERO (by rfl)) (nomark _)) (pss_one (ps_ret (pe_lst pa_nil))) pss_nil)
    (pss_cons (ps_set (i := 3) sc_u_whole_times.nd (by rfl) (Or.inl rfl) (pe_un un_neg (pe_fd C_floor_of (hr.mono (by decide)) (pa_cons (pe_fd C_minus (hr.mono (by decide)) (pa_cons (pe_glob (by rfl) T.g_ZERO (by rfl)) (pa_cons (pe_fd C_least_of (hr.mono (by decide)) (pa_cons (pe_tup (pa_cons (pv 0) (pa_cons (pv 1) pa_nil))) pa_nil)) pa_nil))) pa_nil))))
    (pss_cons (ps_set (i := 4) sc_u_whole_times.nd (by rfl) (Or.inl rfl) (pe_fd C_floor_of (hr.mono (by decide)) (pa_cons (pe_fd C_greatest_of (hr.mono (by decide)) (pa_cons (pe_tup (pa_cons (pv 0) (pa_cons (pv 1) pa_nil))) pa_nil)) pa_nil)))
    (pss_one (ps_ret (pe_lc (own := [("whole", 5)]) (g := (gName 5)) (by rfl) sc_u_whole_times.nd (pi_range2 (by rfl) T.b_range (pa_cons (pv 3) (pa_cons (pe_op op_add (pv 4) pe_int) pa_nil))) (blkOk_by (own := [("whole", 5)]) (N := N_u_whole_times) (sc := defScope s_u_whole_times) (by decide +kernel)) (fun _ _ _ _ _ => (pg_name (i := 5) sc_u_whole_times.nd (by rfl) (Or.inl rfl))) (fun _ _ _ _ _ => pts_nil) (fun _ _ _ _ _ => (pe_fd C_over (hr.mono (by decide)) (pa_cons (pe_fd C_minus (hr.mono (by decide)) (pa_cons (pe_fd C_make_ratio_1 (hr.mono (by decide)) (pa_cons (pv 5) pa_nil)) (pa_cons (pv 0) pa_nil))) (pa_cons (pv 2) pa_nil)))))))))))

abbrev s_u_row_at : Stmt := top 35
abbrev N_u_row_at : List Str := ["row", "other", "when", "a", "b"]
theorem sc_u_row_at : FnScope N_u_row_at ["row", "other", "when"] (defScope s_u_row_at) := ⟨rfl, rfl, rfl, by decide +kernel, rfl, by decide +kernel, by decide +kernel⟩
def t_u_row_at (K : PySem.W.Frag) : TS :=
  (tRet (tCB (rTupleOf K) (tCons (tLc (iZipA K (tCons (tVar 0) (tCons (tVar 1) tNil))) (gTup K 2 (gCons (gName 3) (gCons (gName 4) gNil))) tYes (tCall (sp_plus K) [] E0 (tCons (tVar 3) (tCons (tCall (sp_times K) [] E0 (tCons (tVar 2) (tCons (tCall (sp_minus K) [] E0 (tCons (tVar 4) (tCons (tVar 3) tNil))) tNil))) tNil))) [3, 4]) tNil)))
theorem d_u_row_at {P : Program} {w : World} {K : PySem.W.Frag} {mg : Str → Option Value} {base : Heap} {f : Addr} {cdv : Value} {A : Around} {outer : List Env} {s : Shared} {H : Hp} {E : XK} (T : Txt P w K mg base) (C_plus : Fd P w K mg base l_plus "plus" ["one", "other"] [] (sp_plus K)) (C_times : Fd P w K mg base l_times "times" ["one", "other"] [] (sp_times K)) (C_minus : Fd P w K mg base l_minus "minus" ["one", "other"] [] (sp_minus K))
    (hr : Room m_u_row_at (A.deeper (envOfC "_row_at" (defScope s_u_row_at) s.heap.objs.size f cdv))) :
    PSs (cxOf (L2.CX P w) P w K mg base N_u_row_at "_row_at" (defScope s_u_row_at) f cdv A outer s H E) (defBody s_u_row_at) (t_u_row_at K) :=
  (pss_one (ps_ret (pe_callTy call_tuple_of (by rfl) T.b_tuple (by decide +kernel) (pa_cons (pe_lc (own := [("a", 3), ("b", 4)]) (g := (gTup K 2 (gCons (gName 3) (gCons (gName 4) gNil)))) (by rfl) sc_u_row_at.nd (pi_zipA (by rfl) T.b_zip (pa_cons (pv 0) (pa_cons (pv 1) pa_nil))) (blkOk_by (own := [("a", 3), ("b", 4)]) (N := N_u_row_at) (sc := defScope s_u_row_at) (by decide +kernel)) (fun _ _ _ _ _ => (pg_tup (by rfl) (pgs_cons (pg_name (i := 3) sc_u_row_at.nd (by rfl) (Or.inl rfl)) (pgs_cons (pg_name (i := 4) sc_u_row_at.nd (by rfl) (Or.inl rfl)) pgs_nil)))) (fun _ _ _ _ _ => pts_nil) (fun _ _ _ _ _ => (pe_fd C_plus (hr.mono (by decide)) (pa_cons (pv 3) (pa_cons (pe_fd C_times (hr.mono (by decide)) (pa_cons (pv 2) (pa_cons (pe_fd C_minus (hr.mono (by decide)) (pa_cons (pv 4) (pa_cons (pv 3) pa_nil))) pa_nil))) pa_nil))))) pa_nil))))

abbrev s_u_joined : Stmt := top 36
abbrev N_u_joined : List Str := ["spans", "found", "start", "end", "stand"]
theorem sc_u_joined : FnScope N_u_joined ["spans"] (defScope s_u_joined) := ⟨rfl, rfl, rfl, by decide +kernel, rfl, by decide +kernel, by decide +kernel⟩
def t_u_joined (K : PySem.W.Frag) : TS :=
  (tSeq (tAsg (tLst tNil) (gName 1))
    (tSeq (tFor (iSeq K (tVar 0)) (gTup K 3 (gCons (gName 2) (gCons (gName 3) (gCons (gName 4) gNil)))) (tIfS (tAnd (tTest (tOp (rI0 fun i j => .bl (decide (j < i))) (tCB (Evl.rLenS K) (tCons (tVar 1) tNil)) (tC (.int 0)))) (tTest (tOp (rEqD K) (tOp (rIx K) (tOp (rIx K) (tVar 1) (tUn (rU fun i => .int (-i)) (tC (.int 1)))) (tC (.int 2))) (tVar 4)))) (tAsg (tTup (tCons (tOp (rIx K) (tOp (rIx K) (tVar 1) (tUn (rU fun i => .int (-i)) (tC (.int 1)))) (tC (.int 0))) (tCons (tVar 3) (tCons (tVar 4) tNil)))) (gSub (tVar 1) (tUn (rU fun i => .int (-i)) (tC (.int 1))) rSetL)) (tDrop (tBM K "list" rAppend (tVar 1) (tCons (tTup (tCons (tVar 2) (tCons (tVar 3) (tCons (tVar 4) tNil)))) tNil)))))
    (tRet (tCB (rTupleOf K) (tCons (tVar 1) tNil)))))
theorem d_u_joined {P : Program} {w : World} {K : PySem.W.Frag} {mg : Str → Option Value} {base : Heap} {f : Addr} {cdv : Value} {A : Around} {outer : List Env} {s : Shared} {H : Hp} {E : XK} (T : Txt P w K mg base)
    (hr : Room m_u_joined (A.deeper (envOfC "_joined" (defScope s_u_joined) s.heap.objs.size f cdv))) :
    PSs (cxOf (L2.CX P w) P w K mg base N_u_joined "_joined" (defScope s_u_joined) f cdv A outer s H E) (defBody s_u_joined) (t_u_joined K) :=
  (pss_cons (ps_set (i := 1) sc_u_joined.nd (by rfl) (Or.inl rfl) (pe_lst pa_nil))
    (pss_cons (ps_for (passes_of rfl) rfl (pi_seq (pv 0)) (pg_tup (by rfl) (pgs_cons (pg_name (i := 2) sc_u_joined.nd (by rfl) (Or.inl rfl)) (pgs_cons (pg_name (i := 3) sc_u_joined.nd (by rfl) (Or.inl rfl)) (pgs_cons (pg_name (i := 4) sc_u_joined.nd (by rfl) (Or.inl rfl)) pgs_nil)))) (pss_one (ps_if (PW.pt (pw_and (pt_cmpR op_gt (pe_callB call_len_seq (by rfl) T.b_len (by decide +kernel) (pa_cons (pv 1) pa_nil)) pe_int (nomark _)) (pw_and1 (pt_cmpR (op_eqD hr.units) (pe_ix ix_seq (pe_ix ix_seq (pv 1) (pe_un un_neg pe_int) (fun _ _ => rfl)) pe_int (fun _ _ => rfl)) (pv 4) (nomark _))))) (pss_one (ps_asg (pe_tup (pa_cons (pe_ix ix_seq (pe_ix ix_seq (pv 1) (pe_un un_neg pe_int) (fun _ _ => rfl)) pe_int (fun _ _ => rfl)) (pa_cons (pv 3) (pa_cons (pv 4) pa_nil)))) (pg_sub (pv 1) (pe_un un_neg pe_int) set_list))) (pss_one (ps_expr (pe_bm PySem.F.plainAttrs_list PySem.F.slot_list_append PySem.F.type_list_append mt_append (pv 1) (pa_cons (pe_tup (pa_cons (pv 2) (pa_cons (pv 3) (pa_cons (pv 4) pa_nil)))) pa_nil)))))))
    (pss_one (ps_ret (pe_callTy call_tuple_of (by rfl) T.b_tuple (by decide +kernel) (pa_cons (pv 1) pa_nil))))))

abbrev s_stands_between : Stmt := top 37
abbrev N_stands_between : List Str := ["row", "other", "first", "last", "cuts", "start", "end", "instants", "spans", "k", "when", "before", "between"]
theorem sc_stands_between : FnScope N_stands_between ["row", "other"] (defScope s_stands_between) := ⟨rfl, rfl, rfl, by decide +kernel, rfl, by decide +kernel, by decide +kernel⟩
def t_stands_between (K : PySem.W.Frag) (E : XK) : TS :=
  (tSeq (tAsg (tCall (sp_check_slip_row K) [] E (tCons (tVar 0) tNil)) (gName 2))
    (tSeq (tAsg (tCall (sp_check_slip_row K) [] E (tCons (tVar 1) tNil)) (gName 3))
    (tSeq (tIfS (tTest (tOp (rNeD K) (tCB (Evl.rLenS K) (tCons (tVar 2) tNil)) (tCB (Evl.rLenS K) (tCons (tVar 3) tNil)))) (fun (_ : Ends) σ H => tMkO (He.ga K "BadSlipRow") (spIni2 K (He.ga K "BadSlipRow") "index" "what") [] (tCons (tC (.int 0)) (tCons (tC (.str "many")) tNil)) σ H fun cls d H2 => E cls d H2) tNext)
    (tSeq (tAsg (tLst (tCons (tC (.ref (He.ga K "ZERO"))) (tCons (tC (.ref (He.ga K "ONE"))) tNil))) (gName 4))
    (tSeq (tFor (iZipA K (tCons (tCall (sp_u_distances K) [] E0 (tCons (tVar 2) tNil)) (tCons (tCall (sp_u_distances K) [] E0 (tCons (tVar 3) tNil)) tNil))) (gTup K 2 (gCons (gName 5) (gCons (gName 6) gNil))) (tDrop (tBM K "list" rExtend (tVar 4) (tCons (tCall (sp_u_whole_times K) [] E0 (tCons (tVar 5) (tCons (tVar 6) tNil))) tNil))))
    (tSeq (tAsg (tCall (sp_ascending_ratios K) [] E0 (tCons (tVar 4) tNil)) (gName 7))
    (tSeq (tAsg (tLst tNil) (gName 8))
    (tSeq (tFor (iEnumA K (tCons (tVar 7) tNil)) (gTup K 2 (gCons (gName 9) (gCons (gName 10) gNil))) (tSeq (tIfS (tTest (tOp (rI0 fun i j => .bl (decide (j < i))) (tVar 9) (tC (.int 0)))) (tSeq (tAsg (tOp (rIx K) (tVar 7) (tOp (rI0 fun i j => .int (i - j)) (tVar 9) (tC (.int 1)))) (gName 11))
    (tSeq (tAsg (tCall (sp_middle_of_two K) [] E0 (tCons (tVar 11) (tCons (tVar 10) tNil))) (gName 12))
    (tDrop (tBM K "list" rAppend (tVar 8) (tCons (tTup (tCons (tVar 11) (tCons (tVar 10) (tCons (tCall (sp_stand_of K) [] E0 (tCons (tCall (sp_u_row_at K) [] E0 (tCons (tVar 2) (tCons (tVar 3) (tCons (tVar 12) tNil)))) tNil)) tNil)))) tNil))))) tNext)
    (tDrop (tBM K "list" rAppend (tVar 8) (tCons (tTup (tCons (tVar 10) (tCons (tVar 10) (tCons (tCall (sp_stand_of K) [] E0 (tCons (tCall (sp_u_row_at K) [] E0 (tCons (tVar 2) (tCons (tVar 3) (tCons (tVar 10) tNil)))) tNil)) tNil)))) tNil)))))
    (tRet (tCall (sp_u_joined K) [] E0 (tCons (tVar 8) tNil)))))))))))
theorem d_stands_between {P : Program} {w : World} {K : PySem.W.Frag} {mg : Str → Option Value} {base : Heap} {f : Addr} {cdv : Value} {A : Around} {outer : List Env} {s : Shared} {H : Hp} {E : XK} (T : Txt P w K mg base) (C_check_slip_row : Fd P w K mg base l_check_slip_row "check_slip_row" ["row"] [] (sp_check_slip_row K)) (C_u_distances : Fd P w K mg base l_u_distances "_distances" ["row"] [] (sp_u_distances K)) (C_u_whole_times : Fd P w K mg base l_u_whole_times "_whole_times" ["start", "end"] [] (sp_u_whole_times K)) (C_ascending_ratios : Fd P w K mg base l_ascending_ratios "ascending_ratios" ["ratios"] [] (sp_ascending_ratios K)) (C_middle_of_two : Fd P w K mg base l_middle_of_two "middle_of_two" ["one", "other"] [] (sp_middle_of_two K)) (C_stand_of : Fd P w K mg base l_stand_of "stand_of" ["row"] [] (sp_stand_of K)) (C_u_row_at : Fd P w K mg base l_u_row_at "_row_at" ["row", "other", "when"] [] (sp_u_row_at K)) (C_u_joined : Fd P w K mg base l_u_joined "_joined" ["spans"] [] (sp_u_joined K))
    (hr : Room m_stands_between (A.deeper (envOfC "stands_between" (defScope s_stands_between) s.heap.objs.size f cdv))) :
    PSs (cxOf (L2.CX P w) P w K mg base N_stands_between "stands_between" (defScope s_stands_between) f cdv A outer s H E) (defBody s_stands_between) (t_stands_between K E) :=
  (pss_cons (ps_set (i := 2) sc_stands_between.nd (by rfl) (Or.inl rfl) (pe_fdE C_check_slip_row (hr.mono (by decide)) (takes_of rfl rfl rfl rfl) (fun _ _ _ _ h => h) (pa_cons (pv 0) pa_nil)))
    (pss_cons (ps_set (i := 3) sc_stands_between.nd (by rfl) (Or.inl rfl) (pe_fdE C_check_slip_row (hr.mono (by decide)) (takes_of rfl rfl rfl rfl) (fun _ _ _ _ h => h) (pa_cons (pv 1) pa_nil)))
    (pss_cons (ps_if (pt_cmpR (op_neD hr.units) (pe_callB call_len_seq (by rfl) T.b_len (by decide +kernel) (pa_cons (pv 2) pa_nil)) (pe_callB call_len_seq (by rfl) T.b_len (by decide +kernel) (pa_cons (pv 3) pa_nil)) (nomark _)) (pss_one (ps_raise rfl (takes_of rfl rfl rfl rfl) (T.mk_BadSlipRow (hr.mono (by decide)) (pa_cons pe_int (pa_cons pe_str pa_nil))))) pss_nil)
    (pss_cons (ps_set (i := 4) sc_stands_between.nd (by rfl) (Or.inl rfl) (pe_lst (pa_cons (pe_glob (by rfl) T.g_ZERO (by rfl)) (pa_cons (pe_glob (by rfl) T.g_ONE (by rfl)) pa_nil))))
    (pss_cons (ps_for (passes_of rfl) rfl (pi_zipA (by rfl) T.b_zip (pa_cons (pe_fd C_u_distances (hr.mono (by decide)) (pa_cons (pv 2) pa_nil)) (pa_cons (pe_fd C_u_distances (hr.mono (by decide)) (pa_cons (pv 3) pa_nil)) pa_nil))) (pg_tup (by rfl) (pgs_cons (pg_name (i := 5) sc_stands_between.nd (by rfl) (Or.inl rfl)) (pgs_cons (pg_name (i := 6) sc_stands_between.nd (by rfl) (Or.inl rfl)) pgs_nil))) (pss_one (ps_expr (pe_bm PySem.F.plainAttrs_list PySem.F.slot_list_extend PySem.F.type_list_extend mt_extend (pv 4) (pa_cons (pe_fd C_u_whole_times (hr.mono (by decide)) (pa_cons (pv 5) (pa_cons (pv 6) pa_nil))) pa_nil)))))
    (pss_cons (ps_set (i := 7) sc_stands_between.nd (by rfl) (Or.inl rfl) (pe_fd C_ascending_ratios (hr.mono (by decide)) (pa_cons (pv 4) pa_nil)))
    (pss_cons (ps_set (i := 8) sc_stands_between.nd (by rfl) (Or.inl rfl) (pe_lst pa_nil))
    (pss_cons (ps_for (passes_of rfl) rfl (pi_enumA (by rfl) T.b_enumerate (pa_cons (pv 7) pa_nil)) (pg_tup (by rfl) (pgs_cons (pg_name (i := 9) sc_stands_between.nd (by rfl) (Or.inl rfl)) (pgs_cons (pg_name (i := 10) sc_stands_between.nd (by rfl) (Or.inl rfl)) pgs_nil))) (pss_cons (ps_if (pt_cmpR op_gt (pv 9) pe_int (nomark _)) (pss_cons (ps_set (i := 11) sc_stands_between.nd (by rfl) (Or.inl rfl) (pe_ix ix_seq (pv 7) (pe_op op_sub (pv 9) pe_int) (fun _ _ => rfl)))
    (pss_cons (ps_set (i := 12) sc_stands_between.nd (by rfl) (Or.inl rfl) (pe_fd C_middle_of_two (hr.mono (by decide)) (pa_cons (pv 11) (pa_cons (pv 10) pa_nil))))
    (pss_one (ps_expr (pe_bm PySem.F.plainAttrs_list PySem.F.slot_list_append PySem.F.type_list_append mt_append (pv 8) (pa_cons (pe_tup (pa_cons (pv 11) (pa_cons (pv 10) (pa_cons (pe_fd C_stand_of (hr.mono (by decide)) (pa_cons (pe_fd C_u_row_at (hr.mono (by decide)) (pa_cons (pv 2) (pa_cons (pv 3) (pa_cons (pv 12) pa_nil)))) pa_nil)) pa_nil)))) pa_nil)))))) pss_nil)
    (pss_one (ps_expr (pe_bm PySem.F.plainAttrs_list PySem.F.slot_list_append PySem.F.type_list_append mt_append (pv 8) (pa_cons (pe_tup (pa_cons (pv 10) (pa_cons (pv 10) (pa_cons (pe_fd C_stand_of (hr.mono (by decide)) (pa_cons (pe_fd C_u_row_at (hr.mono (by decide)) (pa_cons (pv 2) (pa_cons (pv 3) (pa_cons (pv 10) pa_nil)))) pa_nil)) pa_nil)))) pa_nil))))))
    (pss_one (ps_ret (pe_fd C_u_joined (hr.mono (by decide)) (pa_cons (pv 8) pa_nil))))))))))))

abbrev s_u_law_mix : Stmt := top 39
abbrev N_u_law_mix : List Str := ["_law_number", "_law_turn", "_law_once", "_law_twice"]
theorem sc_u_law_mix : FnScope N_u_law_mix ["_law_number", "_law_turn"] (defScope s_u_law_mix) := ⟨rfl, rfl, rfl, by decide +kernel, rfl, by decide +kernel, by decide +kernel⟩
def t_u_law_mix (K : PySem.W.Frag) : TS :=
  (tSeq (tAsg (tOp (rI (fun _ j => 0 < j) fun i j => .int (i % j)) (tCB (fun xs H Q => (∃ i, xs = [.int i] ∧ Q (.int i) H) ∨ ∃ k, xs = [.bl k] ∧ Q (.int (if k then 1 else 0)) H) (tCons (tOp (rI0 fun i j => .int (i + j)) (tOp (rI0 fun i j => .int (i + j)) (tOp (rI CMulW fun i j => .int (i * j)) (tVar 0) (tC (.int 48271))) (tOp (rI CMulW fun i j => .int (i * j)) (tVar 1) (tC (.int 16807)))) (tC (.int 11))) tNil)) (tC (.int 2147483647))) (gName 2))
    (tSeq (tAsg (tOp (rI (fun _ j => 0 < j) fun i j => .int (i % j)) (tCB (fun xs H Q => (∃ i, xs = [.int i] ∧ Q (.int i) H) ∨ ∃ k, xs = [.bl k] ∧ Q (.int (if k then 1 else 0)) H) (tCons (tOp (rI0 fun i j => .int (i + j)) (tOp (rI0 fun i j => .int (i + j)) (tOp (rI CMulW fun i j => .int (i * j)) (tVar 2) (tVar 2)) (tOp (rI CMulW fun i j => .int (i * j)) (tOp (rI CDivA fun i j => .int (i.fdiv j)) (tVar 2) (tC (.int 127))) (tC (.int 40692)))) (tOp (rI CMulW fun i j => .int (i * j)) (tVar 1) (tC (.int 69621)))) tNil)) (tC (.int 2147483399))) (gName 3))
    (tRet (tOp (rI CDivA fun i j => .int (i.fdiv j)) (tOp (rI (fun _ j => 0 < j) fun i j => .int (i % j)) (tCB (fun xs H Q => (∃ i, xs = [.int i] ∧ Q (.int i) H) ∨ ∃ k, xs = [.bl k] ∧ Q (.int (if k then 1 else 0)) H) (tCons (tOp (rI0 fun i j => .int (i + j)) (tOp (rI CDivA fun i j => .int (i.fdiv j)) (tOp (rI CMulW fun i j => .int (i * j)) (tVar 3) (tVar 3)) (tC (.int 1009))) (tVar 2)) tNil)) (tC (.int 2147483563))) (tC (.int 16))))))
theorem d_u_law_mix {P : Program} {w : World} {K : PySem.W.Frag} {mg : Str → Option Value} {base : Heap} {f : Addr} {cdv : Value} {A : Around} {outer : List Env} {s : Shared} {H : Hp} {E : XK} (T : Txt P w K mg base)
    (hr : Room m_u_law_mix (A.deeper (envOfC "_law_mix" (defScope s_u_law_mix) s.heap.objs.size f cdv))) :
    PSs (cxOf (L2.CX P w) P w K mg base N_u_law_mix "_law_mix" (defScope s_u_law_mix) f cdv A outer s H E) (defBody s_u_law_mix) (t_u_law_mix K) :=
  (pss_cons (ps_set (i := 2) sc_u_law_mix.nd (by rfl) (Or.inl rfl) (pe_op op_mod (pe_callTy call_int1 (by rfl) T.b_int (by decide +kernel) (pa_cons (pe_op op_add (pe_op op_add (pe_op op_mulW (pv 0) pe_int) (pe_op op_mulW (pv 1) pe_int)) pe_int) pa_nil)) pe_int))
    (pss_cons (ps_set (i := 3) sc_u_law_mix.nd (by rfl) (Or.inl rfl) (pe_op op_mod (pe_callTy call_int1 (by rfl) T.b_int (by decide +kernel) (pa_cons (pe_op op_add (pe_op op_add (pe_op op_mulW (pv 2) (pv 2)) (pe_op op_mulW (pe_op op_fdivA (pv 2) pe_int) pe_int)) (pe_op op_mulW (pv 1) pe_int)) pa_nil)) pe_int))
    (pss_one (ps_ret (pe_op op_fdivA (pe_op op_mod (pe_callTy call_int1 (by rfl) T.b_int (by decide +kernel) (pa_cons (pe_op op_add (pe_op op_fdivA (pe_op op_mulW (pv 3) (pv 3)) pe_int) (pv 2)) pa_nil)) pe_int) pe_int)))))

abbrev s_u_law_hand : Stmt := top 40
abbrev N_u_law_hand : List Str := ["_law_script", "_law_total", "_law_k", "_law_cell"]
theorem sc_u_law_hand : FnScope N_u_law_hand ["_law_script"] (defScope s_u_law_hand) := ⟨rfl, rfl, rfl, by decide +kernel, rfl, by decide +kernel, by decide +kernel⟩
def t_u_law_hand (K : PySem.W.Frag) : TS :=
  (tSeq (tAsg (tC (.int 0)) (gName 1))
    (tSeq (tFor (iEnum K (tCons (tVar 0) tNil)) (gTup K 2 (gCons (gName 2) (gCons (gName 3) gNil))) (tAsg (tOp (rI (fun _ j => 0 < j) fun i j => .int (i % j)) (tCB (fun xs H Q => (∃ i, xs = [.int i] ∧ Q (.int i) H) ∨ ∃ k, xs = [.bl k] ∧ Q (.int (if k then 1 else 0)) H) (tCons (tOp (rI0 fun i j => .int (i + j)) (tOp (rI CMul fun i j => .int (i * j)) (tVar 1) (tC (.int 31))) (tOp (rI CMul fun i j => .int (i * j)) (tCB (fun xs H Q => (∃ i, xs = [.int i] ∧ Q (.int i) H) ∨ ∃ k, xs = [.bl k] ∧ Q (.int (if k then 1 else 0)) H) (tCons (tVar 3) tNil)) (tOp (rI0 fun i j => .int (i + j)) (tVar 2) (tC (.int 7))))) tNil)) (tC (.int 2147483629))) (gName 1)))
    (tRet (tLst (tCons (tLc (iSeq K (tVar 0)) (gName 3) tYes (tCB (fun xs H Q => ∃ i, xs = [.int i] ∧ Q (.int (if i < 0 then -i else i)) H) (tCons (tCB (fun xs H Q => (∃ i, xs = [.int i] ∧ Q (.int i) H) ∨ ∃ k, xs = [.bl k] ∧ Q (.int (if k then 1 else 0)) H) (tCons (tVar 3) tNil)) tNil)) [3]) (tCons (tC (.int 0)) (tCons (tC (.int 0)) (tCons (tVar 1) tNil))))))))
theorem d_u_law_hand {P : Program} {w : World} {K : PySem.W.Frag} {mg : Str → Option Value} {base : Heap} {f : Addr} {cdv : Value} {A : Around} {outer : List Env} {s : Shared} {H : Hp} {E : XK} (T : Txt P w K mg base)
    (hr : Room m_u_law_hand (A.deeper (envOfC "_law_hand" (defScope s_u_law_hand) s.heap.objs.size f cdv))) :
    PSs (cxOf (L2.CX P w) P w K mg base N_u_law_hand "_law_hand" (defScope s_u_law_hand) f cdv A outer s H E) (defBody s_u_law_hand) (t_u_law_hand K) :=
  (pss_cons (ps_set (i := 1) sc_u_law_hand.nd (by rfl) (Or.inl rfl) pe_int)
    (pss_cons (ps_for (passes_of rfl) rfl (pi_enum (by rfl) T.b_enumerate (pa_cons (pv 0) pa_nil)) (pg_tup (by rfl) (pgs_cons (pg_name (i := 2) sc_u_law_hand.nd (by rfl) (Or.inl rfl)) (pgs_cons (pg_name (i := 3) sc_u_law_hand.nd (by rfl) (Or.inl rfl)) pgs_nil))) (pss_one (ps_set (i := 1) sc_u_law_hand.nd (by rfl) (Or.inl rfl) (pe_op op_mod (pe_callTy call_int1 (by rfl) T.b_int (by decide +kernel) (pa_cons (pe_op op_add (pe_op op_mul (pv 1) pe_int) (pe_op op_mul (pe_callTy call_int1 (by rfl) T.b_int (by decide +kernel) (pa_cons (pv 3) pa_nil)) (pe_op op_add (pv 2) pe_int))) pa_nil)) pe_int))))
    (pss_one (ps_ret (pe_lst (pa_cons (pe_lc (own := [("_law_cell", 3)]) (g := (gName 3)) (by rfl) sc_u_law_hand.nd (pi_seq (pv 0)) (blkOk_by (own := [("_law_cell", 3)]) (N := N_u_law_hand) (sc := defScope s_u_law_hand) (by decide +kernel)) (fun _ _ _ _ _ => (pg_name (i := 3) sc_u_law_hand.nd (by rfl) (Or.inl rfl))) (fun _ _ _ _ _ => pts_nil) (fun _ _ _ _ _ => (pe_callB call_abs (by rfl) T.b_abs (by decide +kernel) (pa_cons (pe_callTy call_int1 (by rfl) T.b_int (by decide +kernel) (pa_cons (pv 3) pa_nil)) pa_nil)))) (pa_cons pe_int (pa_cons pe_int (pa_cons (pv 1) pa_nil)))))))))

abbrev s_u_law_draw : Stmt := top 41
abbrev N_u_law_draw : List Str := ["_law_hand_here", "_law_many", "_law_cell", "_law_rest"]
theorem sc_u_law_draw : FnScope N_u_law_draw ["_law_hand_here", "_law_many"] (defScope s_u_law_draw) := ⟨rfl, rfl, rfl, by decide +kernel, rfl, by decide +kernel, by decide +kernel⟩
def t_u_law_draw (K : PySem.W.Frag) : TS :=
  (tSeq (tIfS (tAnd (tTest (tOp (rEqD K) (tOp (rIx K) (tVar 0) (tC (.int 2))) (tC (.int 0)))) (tTest (tOp (rI0 fun i j => .bl (decide (i < j))) (tOp (rIx K) (tVar 0) (tC (.int 1))) (tCB (Evl.rLenS K) (tCons (tOp (rIx K) (tVar 0) (tC (.int 0))) tNil))))) (tSeq (tAsg (tOp (rIx K) (tOp (rIx K) (tVar 0) (tC (.int 0))) (tOp (rIx K) (tVar 0) (tC (.int 1)))) (gName 2))
    (tSeq (tAsg (tOp (rI0 fun i j => .int (i + j)) (tOp (rIx K) (tVar 0) (tC (.int 1))) (tC (.int 1))) (gSub (tVar 0) (tC (.int 1)) rSetL))
    (tSeq (tIfS (tTest (tOp (rI0 fun i j => .bl (decide (i < j))) (tVar 2) (tOp (rI CPow fun i j => .int (i ^ j.toNat)) (tC (.int 10)) (tC (.int 18))))) (tRet (tOp (rI (fun _ j => 0 < j) fun i j => .int (i % j)) (tCB (fun xs H Q => (∃ i, xs = [.int i] ∧ Q (.int i) H) ∨ ∃ k, xs = [.bl k] ∧ Q (.int (if k then 1 else 0)) H) (tCons (tCall (sp_u_law_mix K) [] E0 (tCons (tOp (rI (fun _ j => 0 < j) fun i j => .int (i % j)) (tCB (fun xs H Q => (∃ i, xs = [.int i] ∧ Q (.int i) H) ∨ ∃ k, xs = [.bl k] ∧ Q (.int (if k then 1 else 0)) H) (tCons (tVar 2) tNil)) (tC (.int 2147483647))) (tCons (tOp (rIx K) (tVar 0) (tC (.int 1))) tNil))) tNil)) (tVar 1))) tNext)
    (tAsg (tVar 2) (gSub (tVar 0) (tC (.int 2)) rSetL))))) tNext)
    (tSeq (tIfS (tTest (tOp (rI0 fun i j => .bl (decide (j < i))) (tOp (rIx K) (tVar 0) (tC (.int 2))) (tC (.int 0)))) (tSeq (tAsg (tOp (rIx K) (tVar 0) (tC (.int 2))) (gName 3))
    (tSeq (tAsg (tOp (rI CDivA fun i j => .int (i.fdiv j)) (tVar 3) (tVar 1)) (gSub (tVar 0) (tC (.int 2)) rSetL))
    (tRet (tOp (rI (fun _ j => 0 < j) fun i j => .int (i % j)) (tCB (fun xs H Q => (∃ i, xs = [.int i] ∧ Q (.int i) H) ∨ ∃ k, xs = [.bl k] ∧ Q (.int (if k then 1 else 0)) H) (tCons (tVar 3) tNil)) (tVar 1))))) tNext)
    (tSeq (tAsg (tOp (rI (fun _ j => 0 < j) fun i j => .int (i % j)) (tCB (fun xs H Q => (∃ i, xs = [.int i] ∧ Q (.int i) H) ∨ ∃ k, xs = [.bl k] ∧ Q (.int (if k then 1 else 0)) H) (tCons (tOp (rI0 fun i j => .int (i + j)) (tOp (rIx K) (tVar 0) (tC (.int 3))) (tC (.int 1))) tNil)) (tC (.int 2147483629))) (gSub (tVar 0) (tC (.int 3)) rSetL))
    (tRet (tOp (rI (fun _ j => 0 < j) fun i j => .int (i % j)) (tCB (fun xs H Q => (∃ i, xs = [.int i] ∧ Q (.int i) H) ∨ ∃ k, xs = [.bl k] ∧ Q (.int (if k then 1 else 0)) H) (tCons (tCall (sp_u_law_mix K) [] E0 (tCons (tOp (rIx K) (tVar 0) (tC (.int 3))) (tCons (tOp (rIx K) (tVar 0) (tC (.int 1))) tNil))) tNil)) (tVar 1))))))
theorem d_u_law_draw {P : Program} {w : World} {K : PySem.W.Frag} {mg : Str → Option Value} {base : Heap} {f : Addr} {cdv : Value} {A : Around} {outer : List Env} {s : Shared} {H : Hp} {E : XK} (T : Txt P w K mg base) (C_u_law_mix : Fd P w K mg base l_u_law_mix "_law_mix" ["_law_number", "_law_turn"] [] (sp_u_law_mix K))
    (hr : Room m_u_law_draw (A.deeper (envOfC "_law_draw" (defScope s_u_law_draw) s.heap.objs.size f cdv))) :
    PSs (cxOf (L2.CX P w) P w K mg base N_u_law_draw "_law_draw" (defScope s_u_law_draw) f cdv A outer s H E) (defBody s_u_law_draw) (t_u_law_draw K) :=
  (pss_cons (ps_if (PW.pt (pw_and (pt_cmpR (op_eqD hr.units) (pe_ix ix_seq (pv 0) pe_int (fun _ _ => rfl)) pe_int (nomark _)) (pw_and1 (pt_cmpR op_lt (pe_ix ix_seq (pv 0) pe_int (fun _ _ => rfl)) (pe_callB call_len_seq (by rfl) T.b_len (by decide +kernel) (pa_cons (pe_ix ix_seq (pv 0) pe_int (fun _ _ => rfl)) pa_nil)) (nomark _))))) (pss_cons (ps_set (i := 2) sc_u_law_draw.nd (by rfl) (Or.inl rfl) (pe_ix ix_seq (pe_ix ix_seq (pv 0) pe_int (fun _ _ => rfl)) (pe_ix ix_seq (pv 0) pe_int (fun _ _ => rfl)) (fun _ _ => rfl)))
    (pss_cons (ps_asg (pe_op op_add (pe_ix ix_seq (pv 0) pe_int (fun _ _ => rfl)) pe_int) (pg_sub (pv 0) pe_int set_list))
    (pss_cons (ps_if (pt_cmpR op_lt (pv 2) (pe_op op_pow pe_int pe_int) (nomark _)) (pss_one (ps_ret (pe_op op_mod (pe_callTy call_int1 (by rfl) T.b_int (by decide +kernel) (pa_cons (pe_fd C_u_law_mix (hr.mono (by decide)) (pa_cons (pe_op op_mod (pe_callTy call_int1 (by rfl) T.b_int (by decide +kernel) (pa_cons (pv 2) pa_nil)) pe_int) (pa_cons (pe_ix ix_seq (pv 0) pe_int (fun _ _ => rfl)) pa_nil))) pa_nil)) (pv 1)))) pss_nil)
    (pss_one (ps_asg (pv 2) (pg_sub (pv 0) pe_int set_list)))))) pss_nil)
    (pss_cons (ps_if (pt_cmpR op_gt (pe_ix ix_seq (pv 0) pe_int (fun _ _ => rfl)) pe_int (nomark _)) (pss_cons (ps_set (i := 3) sc_u_law_draw.nd (by rfl) (Or.inl rfl) (pe_ix ix_seq (pv 0) pe_int (fun _ _ => rfl)))
    (pss_cons (ps_asg (pe_op op_fdivA (pv 3) (pv 1)) (pg_sub (pv 0) pe_int set_list))
    (pss_one (ps_ret (pe_op op_mod (pe_callTy call_int1 (by rfl) T.b_int (by decide +kernel) (pa_cons (pv 3) pa_nil)) (pv 1)))))) pss_nil)
    (pss_cons (ps_asg (pe_op op_mod (pe_callTy call_int1 (by rfl) T.b_int (by decide +kernel) (pa_cons (pe_op op_add (pe_ix ix_seq (pv 0) pe_int (fun _ _ => rfl)) pe_int) pa_nil)) pe_int) (pg_sub (pv 0) pe_int set_list))
    (pss_one (ps_ret (pe_op op_mod (pe_callTy call_int1 (by rfl) T.b_int (by decide +kernel) (pa_cons (pe_fd C_u_law_mix (hr.mono (by decide)) (pa_cons (pe_ix ix_seq (pv 0) pe_int (fun _ _ => rfl)) (pa_cons (pe_ix ix_seq (pv 0) pe_int (fun _ _ => rfl)) pa_nil))) pa_nil)) (pv 1)))))))

abbrev s_u_law_pick : Stmt := top 42
abbrev N_u_law_pick : List Str := ["_law_hand_here", "_law_things"]
theorem sc_u_law_pick : FnScope N_u_law_pick ["_law_hand_here", "_law_things"] (defScope s_u_law_pick) := ⟨rfl, rfl, rfl, by decide +kernel, rfl, by decide +kernel, by decide +kernel⟩
def t_u_law_pick (K : PySem.W.Frag) : TS :=
  (tRet (tOp (rIx K) (tVar 1) (tCall (sp_u_law_draw K) [] E0 (tCons (tVar 0) (tCons (tCB (Evl.rLenS K) (tCons (tVar 1) tNil)) tNil)))))
theorem d_u_law_pick {P : Program} {w : World} {K : PySem.W.Frag} {mg : Str → Option Value} {base : Heap} {f : Addr} {cdv : Value} {A : Around} {outer : List Env} {s : Shared} {H : Hp} {E : XK} (T : Txt P w K mg base) (C_u_law_draw : Fd P w K mg base l_u_law_draw "_law_draw" ["_law_hand_here", "_law_many"] [] (sp_u_law_draw K))
    (hr : Room m_u_law_pick (A.deeper (envOfC "_law_pick" (defScope s_u_law_pick) s.heap.objs.size f cdv))) :
    PSs (cxOf (L2.CX P w) P w K mg base N_u_law_pick "_law_pick" (defScope s_u_law_pick) f cdv A outer s H E) (defBody s_u_law_pick) (t_u_law_pick K) :=
  (pss_one (ps_ret (pe_ix ix_seq (pv 1) (pe_fd C_u_law_draw (hr.mono (by decide)) (pa_cons (pv 0) (pa_cons (pe_callB call_len_seq (by rfl) T.b_len (by decide +kernel) (pa_cons (pv 1) pa_nil)) pa_nil))) (fun _ _ => rfl))))

abbrev s_u_law_gcd : Stmt := top 43
abbrev N_u_law_gcd : List Str := ["_law_one", "_law_other", "_law_turn", "_law_rest"]
theorem sc_u_law_gcd : FnScope N_u_law_gcd ["_law_one", "_law_other"] (defScope s_u_law_gcd) := ⟨rfl, rfl, rfl, by decide +kernel, rfl, by decide +kernel, by decide +kernel⟩
def t_u_law_gcd (K : PySem.W.Frag) : TS :=
  (tSeq (tAsg (tCB (fun xs H Q => ∃ i, xs = [.int i] ∧ Q (.int (if i < 0 then -i else i)) H) (tCons (tVar 0) tNil)) (gName 0))
    (tSeq (tAsg (tCB (fun xs H Q => ∃ i, xs = [.int i] ∧ Q (.int (if i < 0 then -i else i)) H) (tCons (tVar 1) tNil)) (gName 1))
    (tSeq (tFor (iRng1 (tCons (tC (.int 4000)) tNil)) (gName 2) (tSeq (tIfS (tTest (tOp (rEqD K) (tVar 1) (tC (.int 0)))) tBreak tNext)
    (tSeq (tAsg (tOp (rI (fun _ j => 0 < j) fun i j => .int (i % j)) (tCB (fun xs H Q => (∃ i, xs = [.int i] ∧ Q (.int i) H) ∨ ∃ k, xs = [.bl k] ∧ Q (.int (if k then 1 else 0)) H) (tCons (tVar 0) tNil)) (tVar 1)) (gName 3))
    (tSeq (tAsg (tVar 1) (gName 0))
    (tAsg (tVar 3) (gName 1))))))
    (tRet (tVar 0)))))
theorem d_u_law_gcd {P : Program} {w : World} {K : PySem.W.Frag} {mg : Str → Option Value} {base : Heap} {f : Addr} {cdv : Value} {A : Around} {outer : List Env} {s : Shared} {H : Hp} {E : XK} (T : Txt P w K mg base)
    (hr : Room m_u_law_gcd (A.deeper (envOfC "_law_gcd" (defScope s_u_law_gcd) s.heap.objs.size f cdv))) :
    PSs (cxOf (L2.CX P w) P w K mg base N_u_law_gcd "_law_gcd" (defScope s_u_law_gcd) f cdv A outer s H E) (defBody s_u_law_gcd) (t_u_law_gcd K) :=
  (pss_cons (ps_set (i := 0) sc_u_law_gcd.nd (by rfl) (Or.inl rfl) (pe_callB call_abs (by rfl) T.b_abs (by decide +kernel) (pa_cons (pv 0) pa_nil)))
    (pss_cons (ps_set (i := 1) sc_u_law_gcd.nd (by rfl) (Or.inl rfl) (pe_callB call_abs (by rfl) T.b_abs (by decide +kernel) (pa_cons (pv 1) pa_nil)))
    (pss_cons (ps_for (passes_of rfl) rfl (pi_range1 (by rfl) T.b_range (pa_cons pe_int pa_nil)) (pg_name (i := 2) sc_u_law_gcd.nd (by rfl) (Or.inl rfl)) (pss_cons (ps_if (pt_cmpR (op_eqD hr.units) (pv 1) pe_int (nomark _)) (pss_one ps_break) pss_nil)
    (pss_cons (ps_set (i := 3) sc_u_law_gcd.nd (by rfl) (Or.inl rfl) (pe_op op_mod (pe_callTy call_int1 (by rfl) T.b_int (by decide +kernel) (pa_cons (pv 0) pa_nil)) (pv 1)))
    (pss_cons (ps_set (i := 0) sc_u_law_gcd.nd (by rfl) (Or.inl rfl) (pv 1))
    (pss_one (ps_set (i := 1) sc_u_law_gcd.nd (by rfl) (Or.inl rfl) (pv 3)))))))
    (pss_one (ps_ret (pv 0))))))

abbrev s_u_law_ratio : Stmt := top 44
abbrev N_u_law_ratio : List Str := ["_law_top", "_law_bottom", "_law_share"]
theorem sc_u_law_ratio : FnScope N_u_law_ratio ["_law_top", "_law_bottom"] (defScope s_u_law_ratio) := ⟨rfl, rfl, rfl, by decide +kernel, rfl, by decide +kernel, by decide +kernel⟩
def t_u_law_ratio (K : PySem.W.Frag) : TS :=
  (tSeq (tAsg (tCall (sp_u_law_gcd K) [] E0 (tCons (tVar 0) (tCons (tVar 1) tNil))) (gName 2))
    (tRet (tTup (tCons (tOp (rI CDivA fun i j => .int (i.fdiv j)) (tVar 0) (tVar 2)) (tCons (tOp (rI CDivA fun i j => .int (i.fdiv j)) (tVar 1) (tVar 2)) tNil)))))
theorem d_u_law_ratio {P : Program} {w : World} {K : PySem.W.Frag} {mg : Str → Option Value} {base : Heap} {f : Addr} {cdv : Value} {A : Around} {outer : List Env} {s : Shared} {H : Hp} {E : XK} (T : Txt P w K mg base) (C_u_law_gcd : Fd P w K mg base l_u_law_gcd "_law_gcd" ["_law_one", "_law_other"] [] (sp_u_law_gcd K))
    (hr : Room m_u_law_ratio (A.deeper (envOfC "_law_ratio" (defScope s_u_law_ratio) s.heap.objs.size f cdv))) :
    PSs (cxOf (L2.CX P w) P w K mg base N_u_law_ratio "_law_ratio" (defScope s_u_law_ratio) f cdv A outer s H E) (defBody s_u_law_ratio) (t_u_law_ratio K) :=
  (pss_cons (ps_set (i := 2) sc_u_law_ratio.nd (by rfl) (Or.inl rfl) (pe_fd C_u_law_gcd (hr.mono (by decide)) (pa_cons (pv 0) (pa_cons (pv 1) pa_nil))))
    (pss_one (ps_ret (pe_tup (pa_cons (pe_op op_fdivA (pv 0) (pv 2)) (pa_cons (pe_op op_fdivA (pv 1) (pv 2)) pa_nil))))))

abbrev s_u_law_plus : Stmt := top 45
abbrev N_u_law_plus : List Str := ["_law_one", "_law_other"]
theorem sc_u_law_plus : FnScope N_u_law_plus ["_law_one", "_law_other"] (defScope s_u_law_plus) := ⟨rfl, rfl, rfl, by decide +kernel, rfl, by decide +kernel, by decide +kernel⟩
def t_u_law_plus (K : PySem.W.Frag) : TS :=
  (tRet (tCall (sp_u_law_ratio K) [] E0 (tCons (tOp (rI0 fun i j => .int (i + j)) (tOp (rI CMulW fun i j => .int (i * j)) (tOp (rIx K) (tVar 0) (tC (.int 0))) (tOp (rIx K) (tVar 1) (tC (.int 1)))) (tOp (rI CMulW fun i j => .int (i * j)) (tOp (rIx K) (tVar 1) (tC (.int 0))) (tOp (rIx K) (tVar 0) (tC (.int 1))))) (tCons (tOp (rI CMulW fun i j => .int (i * j)) (tOp (rIx K) (tVar 0) (tC (.int 1))) (tOp (rIx K) (tVar 1) (tC (.int 1)))) tNil))))
theorem d_u_law_plus {P : Program} {w : World} {K : PySem.W.Frag} {mg : Str → Option Value} {base : Heap} {f : Addr} {cdv : Value} {A : Around} {outer : List Env} {s : Shared} {H : Hp} {E : XK} (T : Txt P w K mg base) (C_u_law_ratio : Fd P w K mg base l_u_law_ratio "_law_ratio" ["_law_top", "_law_bottom"] [] (sp_u_law_ratio K))
    (hr : Room m_u_law_plus (A.deeper (envOfC "_law_plus" (defScope s_u_law_plus) s.heap.objs.size f cdv))) :
    PSs (cxOf (L2.CX P w) P w K mg base N_u_law_plus "_law_plus" (defScope s_u_law_plus) f cdv A outer s H E) (defBody s_u_law_plus) (t_u_law_plus K) :=
  (pss_one (ps_ret (pe_fd C_u_law_ratio (hr.mono (by decide)) (pa_cons (pe_op op_add (pe_op op_mulW (pe_ix ix_seq (pv 0) pe_int (fun _ _ => rfl)) (pe_ix ix_seq (pv 1) pe_int (fun _ _ => rfl))) (pe_op op_mulW (pe_ix ix_seq (pv 1) pe_int (fun _ _ => rfl)) (pe_ix ix_seq (pv 0) pe_int (fun _ _ => rfl)))) (pa_cons (pe_op op_mulW (pe_ix ix_seq (pv 0) pe_int (fun _ _ => rfl)) (pe_ix ix_seq (pv 1) pe_int (fun _ _ => rfl))) pa_nil)))))

abbrev s_u_law_minus : Stmt := top 46
abbrev N_u_law_minus : List Str := ["_law_one", "_law_other"]
theorem sc_u_law_minus : FnScope N_u_law_minus ["_law_one", "_law_other"] (defScope s_u_law_minus) := ⟨rfl, rfl, rfl, by decide +kernel, rfl, by decide +kernel, by decide +kernel⟩
def t_u_law_minus (K : PySem.W.Frag) : TS :=
  (tRet (tCall (sp_u_law_ratio K) [] E0 (tCons (tOp (rI0 fun i j => .int (i - j)) (tOp (rI CMulW fun i j => .int (i * j)) (tOp (rIx K) (tVar 0) (tC (.int 0))) (tOp (rIx K) (tVar 1) (tC (.int 1)))) (tOp (rI CMulW fun i j => .int (i * j)) (tOp (rIx K) (tVar 1) (tC (.int 0))) (tOp (rIx K) (tVar 0) (tC (.int 1))))) (tCons (tOp (rI CMulW fun i j => .int (i * j)) (tOp (rIx K) (tVar 0) (tC (.int 1))) (tOp (rIx K) (tVar 1) (tC (.int 1)))) tNil))))
theorem d_u_law_minus {P : Program} {w : World} {K : PySem.W.Frag} {mg : Str → Option Value} {base : Heap} {f : Addr} {cdv : Value} {A : Around} {outer : List Env} {s : Shared} {H : Hp} {E : XK} (T : Txt P w K mg base) (C_u_law_ratio : Fd P w K mg base l_u_law_ratio "_law_ratio" ["_law_top", "_law_bottom"] [] (sp_u_law_ratio K))
    (hr : Room m_u_law_minus (A.deeper (envOfC "_law_minus" (defScope s_u_law_minus) s.heap.objs.size f cdv))) :
    PSs (cxOf (L2.CX P w) P w K mg base N_u_law_minus "_law_minus" (defScope s_u_law_minus) f cdv A outer s H E) (defBody s_u_law_minus) (t_u_law_minus K) :=
  (pss_one (ps_ret (pe_fd C_u_law_ratio (hr.mono (by decide)) (pa_cons (pe_op op_sub (pe_op op_mulW (pe_ix ix_seq (pv 0) pe_int (fun _ _ => rfl)) (pe_ix ix_seq (pv 1) pe_int (fun _ _ => rfl))) (pe_op op_mulW (pe_ix ix_seq (pv 1) pe_int (fun _ _ => rfl)) (pe_ix ix_seq (pv 0) pe_int (fun _ _ => rfl)))) (pa_cons (pe_op op_mulW (pe_ix ix_seq (pv 0) pe_int (fun _ _ => rfl)) (pe_ix ix_seq (pv 1) pe_int (fun _ _ => rfl))) pa_nil)))))

abbrev s_u_law_times : Stmt := top 47
abbrev N_u_law_times : List Str := ["_law_one", "_law_other"]
theorem sc_u_law_times : FnScope N_u_law_times ["_law_one", "_law_other"] (defScope s_u_law_times) := ⟨rfl, rfl, rfl, by decide +kernel, rfl, by decide +kernel, by decide +kernel⟩
def t_u_law_times (K : PySem.W.Frag) : TS :=
  (tRet (tCall (sp_u_law_ratio K) [] E0 (tCons (tOp (rI CMulW fun i j => .int (i * j)) (tOp (rIx K) (tVar 0) (tC (.int 0))) (tOp (rIx K) (tVar 1) (tC (.int 0)))) (tCons (tOp (rI CMulW fun i j => .int (i * j)) (tOp (rIx K) (tVar 0) (tC (.int 1))) (tOp (rIx K) (tVar 1) (tC (.int 1)))) tNil))))
theorem d_u_law_times {P : Program} {w : World} {K : PySem.W.Frag} {mg : Str → Option Value} {base : Heap} {f : Addr} {cdv : Value} {A : Around} {outer : List Env} {s : Shared} {H : Hp} {E : XK} (T : Txt P w K mg base) (C_u_law_ratio : Fd P w K mg base l_u_law_ratio "_law_ratio" ["_law_top", "_law_bottom"] [] (sp_u_law_ratio K))
    (hr : Room m_u_law_times (A.deeper (envOfC "_law_times" (defScope s_u_law_times) s.heap.objs.size f cdv))) :
    PSs (cxOf (L2.CX P w) P w K mg base N_u_law_times "_law_times" (defScope s_u_law_times) f cdv A outer s H E) (defBody s_u_law_times) (t_u_law_times K) :=
  (pss_one (ps_ret (pe_fd C_u_law_ratio (hr.mono (by decide)) (pa_cons (pe_op op_mulW (pe_ix ix_seq (pv 0) pe_int (fun _ _ => rfl)) (pe_ix ix_seq (pv 1) pe_int (fun _ _ => rfl))) (pa_cons (pe_op op_mulW (pe_ix ix_seq (pv 0) pe_int (fun _ _ => rfl)) (pe_ix ix_seq (pv 1) pe_int (fun _ _ => rfl))) pa_nil)))))

abbrev s_u_law_is_less : Stmt := top 48
abbrev N_u_law_is_less : List Str := ["_law_one", "_law_other"]
theorem sc_u_law_is_less : FnScope N_u_law_is_less ["_law_one", "_law_other"] (defScope s_u_law_is_less) := ⟨rfl, rfl, rfl, by decide +kernel, rfl, by decide +kernel, by decide +kernel⟩
def t_u_law_is_less (K : PySem.W.Frag) : TS :=
  (tRet (tOp (rI0 fun i j => .bl (decide (i < j))) (tOp (rI CMulW fun i j => .int (i * j)) (tOp (rIx K) (tVar 0) (tC (.int 0))) (tOp (rIx K) (tVar 1) (tC (.int 1)))) (tOp (rI CMulW fun i j => .int (i * j)) (tOp (rIx K) (tVar 1) (tC (.int 0))) (tOp (rIx K) (tVar 0) (tC (.int 1))))))
theorem d_u_law_is_less {P : Program} {w : World} {K : PySem.W.Frag} {mg : Str → Option Value} {base : Heap} {f : Addr} {cdv : Value} {A : Around} {outer : List Env} {s : Shared} {H : Hp} {E : XK} (T : Txt P w K mg base)
    (hr : Room m_u_law_is_less (A.deeper (envOfC "_law_is_less" (defScope s_u_law_is_less) s.heap.objs.size f cdv))) :
    PSs (cxOf (L2.CX P w) P w K mg base N_u_law_is_less "_law_is_less" (defScope s_u_law_is_less) f cdv A outer s H E) (defBody s_u_law_is_less) (t_u_law_is_less K) :=
  (pss_one (ps_ret (pe_cmpR op_lt (pe_op op_mulW (pe_ix ix_seq (pv 0) pe_int (fun _ _ => rfl)) (pe_ix ix_seq (pv 1) pe_int (fun _ _ => rfl))) (pe_op op_mulW (pe_ix ix_seq (pv 1) pe_int (fun _ _ => rfl)) (pe_ix ix_seq (pv 0) pe_int (fun _ _ => rfl))) (nomark _))))

abbrev s_u_law_floor : Stmt := top 49
abbrev N_u_law_floor : List Str := ["_law_one"]
theorem sc_u_law_floor : FnScope N_u_law_floor ["_law_one"] (defScope s_u_law_floor) := ⟨rfl, rfl, rfl, by decide +kernel, rfl, by decide +kernel, by decide +kernel⟩
def t_u_law_floor (K : PySem.W.Frag) : TS :=
  (tRet (tOp (rI CDivA fun i j => .int (i.fdiv j)) (tOp (rIx K) (tVar 0) (tC (.int 0))) (tOp (rIx K) (tVar 0) (tC (.int 1)))))
theorem d_u_law_floor {P : Program} {w : World} {K : PySem.W.Frag} {mg : Str → Option Value} {base : Heap} {f : Addr} {cdv : Value} {A : Around} {outer : List Env} {s : Shared} {H : Hp} {E : XK} (T : Txt P w K mg base)
    (hr : Room m_u_law_floor (A.deeper (envOfC "_law_floor" (defScope s_u_law_floor) s.heap.objs.size f cdv))) :
    PSs (cxOf (L2.CX P w) P w K mg base N_u_law_floor "_law_floor" (defScope s_u_law_floor) f cdv A outer s H E) (defBody s_u_law_floor) (t_u_law_floor K) :=
  (pss_one (ps_ret (pe_op op_fdivA (pe_ix ix_seq (pv 0) pe_int (fun _ _ => rfl)) (pe_ix ix_seq (pv 0) pe_int (fun _ _ => rfl)))))

abbrev s_u_law_broken : Stmt := top 50
abbrev N_u_law_broken : List Str := ["_law_one"]
theorem sc_u_law_broken : FnScope N_u_law_broken ["_law_one"] (defScope s_u_law_broken) := ⟨rfl, rfl, rfl, by decide +kernel, rfl, by decide +kernel, by decide +kernel⟩
def t_u_law_broken (K : PySem.W.Frag) : TS :=
  (tRet (tTup (tCons (tOp (rI0 fun i j => .int (i - j)) (tOp (rIx K) (tVar 0) (tC (.int 0))) (tOp (rI CMulW fun i j => .int (i * j)) (tOp (rI CDivA fun i j => .int (i.fdiv j)) (tOp (rIx K) (tVar 0) (tC (.int 0))) (tOp (rIx K) (tVar 0) (tC (.int 1)))) (tOp (rIx K) (tVar 0) (tC (.int 1))))) (tCons (tOp (rIx K) (tVar 0) (tC (.int 1))) tNil))))
theorem d_u_law_broken {P : Program} {w : World} {K : PySem.W.Frag} {mg : Str → Option Value} {base : Heap} {f : Addr} {cdv : Value} {A : Around} {outer : List Env} {s : Shared} {H : Hp} {E : XK} (T : Txt P w K mg base)
    (hr : Room m_u_law_broken (A.deeper (envOfC "_law_broken" (defScope s_u_law_broken) s.heap.objs.size f cdv))) :
    PSs (cxOf (L2.CX P w) P w K mg base N_u_law_broken "_law_broken" (defScope s_u_law_broken) f cdv A outer s H E) (defBody s_u_law_broken) (t_u_law_broken K) :=
  (pss_one (ps_ret (pe_tup (pa_cons (pe_op op_sub (pe_ix ix_seq (pv 0) pe_int (fun _ _ => rfl)) (pe_op op_mulW (pe_op op_fdivA (pe_ix ix_seq (pv 0) pe_int (fun _ _ => rfl)) (pe_ix ix_seq (pv 0) pe_int (fun _ _ => rfl))) (pe_ix ix_seq (pv 0) pe_int (fun _ _ => rfl)))) (pa_cons (pe_ix ix_seq (pv 0) pe_int (fun _ _ => rfl)) pa_nil)))))

abbrev s_u_law_is_whole : Stmt := top 51
abbrev N_u_law_is_whole : List Str := ["_law_thing"]
theorem sc_u_law_is_whole : FnScope N_u_law_is_whole ["_law_thing"] (defScope s_u_law_is_whole) := ⟨rfl, rfl, rfl, by decide +kernel, rfl, by decide +kernel, by decide +kernel⟩
def t_u_law_is_whole (K : PySem.W.Frag) : TS :=
  (tRet (tAndV (tCB (rIsi K) (tCons (tVar 0) (tCons (tC (.ty "int")) tNil))) (tNotV (tCB (rIsi K) (tCons (tVar 0) (tCons (tC (.ty "bool")) tNil))))))
theorem d_u_law_is_whole {P : Program} {w : World} {K : PySem.W.Frag} {mg : Str → Option Value} {base : Heap} {f : Addr} {cdv : Value} {A : Around} {outer : List Env} {s : Shared} {H : Hp} {E : XK} (T : Txt P w K mg base)
    (hr : Room m_u_law_is_whole (A.deeper (envOfC "_law_is_whole" (defScope s_u_law_is_whole) s.heap.objs.size f cdv))) :
    PSs (cxOf (L2.CX P w) P w K mg base N_u_law_is_whole "_law_is_whole" (defScope s_u_law_is_whole) f cdv A outer s H E) (defBody s_u_law_is_whole) (t_u_law_is_whole K) :=
  (pss_one (ps_ret (pe_and (pe_callB call_isi (by rfl) T.b_isinstance (by decide +kernel) (pa_cons (pv 0) (pa_cons (pe_bltn (u := .type "int") (by rfl) T.b_int (by decide +kernel) (by rfl)) pa_nil))) (pe_one (pe_not (pe_callB call_isi (by rfl) T.b_isinstance (by decide +kernel) (pa_cons (pv 0) (pa_cons (pe_bltn (u := .type "bool") (by rfl) T.b_bool (by decide +kernel) (by rfl)) pa_nil))))))))

abbrev s_u_law_is_ratio : Stmt := top 52
abbrev N_u_law_is_ratio : List Str := ["_law_thing"]
theorem sc_u_law_is_ratio : FnScope N_u_law_is_ratio ["_law_thing"] (defScope s_u_law_is_ratio) := ⟨rfl, rfl, rfl, by decide +kernel, rfl, by decide +kernel, by decide +kernel⟩
def t_u_law_is_ratio (K : PySem.W.Frag) : TS :=
  (tSeq (tIfS (tOr (tNot (tB (tCB (rIsi K) (tCons (tVar 0) (tCons (tC (.ty "tuple")) tNil))))) (tTest (tOp (rNeD K) (tCB (Evl.rLenS K) (tCons (tVar 0) tNil)) (tC (.int 2))))) (tRet (tC (.bl false))) tNext)
    (tSeq (tIfS (tOr (tNot (tB (tCall (sp_u_law_is_whole K) [] E0 (tCons (tOp (rIx K) (tVar 0) (tC (.int 0))) tNil)))) (tOr (tNot (tB (tCall (sp_u_law_is_whole K) [] E0 (tCons (tOp (rIx K) (tVar 0) (tC (.int 1))) tNil)))) (tTest (tOp (rI0 fun i j => .bl (decide (i < j))) (tOp (rIx K) (tVar 0) (tC (.int 1))) (tC (.int 1)))))) (tRet (tC (.bl false))) tNext)
    (tRet (tOp (rEqD K) (tCall (sp_u_law_gcd K) [] E0 (tCons (tOp (rIx K) (tVar 0) (tC (.int 0))) (tCons (tOp (rIx K) (tVar 0) (tC (.int 1))) tNil))) (tC (.int 1))))))
theorem d_u_law_is_ratio {P : Program} {w : World} {K : PySem.W.Frag} {mg : Str → Option Value} {base : Heap} {f : Addr} {cdv : Value} {A : Around} {outer : List Env} {s : Shared} {H : Hp} {E : XK} (T : Txt P w K mg base) (C_u_law_is_whole : Fd P w K mg base l_u_law_is_whole "_law_is_whole" ["_law_thing"] [] (sp_u_law_is_whole K)) (C_u_law_gcd : Fd P w K mg base l_u_law_gcd "_law_gcd" ["_law_one", "_law_other"] [] (sp_u_law_gcd K))
    (hr : Room m_u_law_is_ratio (A.deeper (envOfC "_law_is_ratio" (defScope s_u_law_is_ratio) s.heap.objs.size f cdv))) :
    PSs (cxOf (L2.CX P w) P w K mg base N_u_law_is_ratio "_law_is_ratio" (defScope s_u_law_is_ratio) f cdv A outer s H E) (defBody s_u_law_is_ratio) (t_u_law_is_ratio K) :=
  (pss_cons (ps_if (PW.pt (pw_or (pt_not (pt_val (pe_callB call_isi (by rfl) T.b_isinstance (by decide +kernel) (pa_cons (pv 0) (pa_cons (pe_bltn (u := .type "tuple") (by rfl) T.b_tuple (by decide +kernel) (by rfl)) pa_nil))))) (pw_or1 (pt_cmpR (op_neD hr.units) (pe_callB call_len_seq (by rfl) T.b_len (by decide +kernel) (pa_cons (pv 0) pa_nil)) pe_int (nomark _))))) (pss_one (ps_ret pe_bl)) pss_nil)
    (pss_cons (ps_if (PW.pt (pw_or (pt_not (pt_val (pe_fd C_u_law_is_whole (hr.mono (by decide)) (pa_cons (pe_ix ix_seq (pv 0) pe_int (fun _ _ => rfl)) pa_nil)))) (pw_or (pt_not (pt_val (pe_fd C_u_law_is_whole (hr.mono (by decide)) (pa_cons (pe_ix ix_seq (pv 0) pe_int (fun _ _ => rfl)) pa_nil)))) (pw_or1 (pt_cmpR op_lt (pe_ix ix_seq (pv 0) pe_int (fun _ _ => rfl)) pe_int (nomark _)))))) (pss_one (ps_ret pe_bl)) pss_nil)
    (pss_one (ps_ret (pe_cmpR (op_eqD hr.units) (pe_fd C_u_law_gcd (hr.mono (by decide)) (pa_cons (pe_ix ix_seq (pv 0) pe_int (fun _ _ => rfl)) (pa_cons (pe_ix ix_seq (pv 0) pe_int (fun _ _ => rfl)) pa_nil))) pe_int (nomark _))))))

abbrev s_u_law_slip : Stmt := top 53
abbrev N_u_law_slip : List Str := ["_law_hand_here", "_law_bound", "_law_turn", "_law_bottom"]
theorem sc_u_law_slip : FnScope N_u_law_slip ["_law_hand_here", "_law_bound"] (defScope s_u_law_slip) := ⟨rfl, rfl, rfl, by decide +kernel, rfl, by decide +kernel, by decide +kernel⟩
def t_u_law_slip (K : PySem.W.Frag) : TS :=
  (tSeq (tAsg (tCall (sp_u_law_draw K) [] E0 (tCons (tVar 0) (tCons (tC (.int 8)) tNil))) (gName 2))
    (tSeq (tIfS (tTest (tOp (rEqD K) (tVar 2) (tC (.int 0)))) (tRet (tTup (tCons (tOp (rI0 fun i j => .int (i - j)) (tCall (sp_u_law_draw K) [] E0 (tCons (tVar 0) (tCons (tOp (rI0 fun i j => .int (i + j)) (tOp (rI CMulW fun i j => .int (i * j)) (tC (.int 2)) (tVar 1)) (tC (.int 1))) tNil))) (tVar 1)) (tCons (tC (.int 1)) tNil)))) tNext)
    (tSeq (tAsg (tOp (rIx K) (tLst (tCons (tC (.int 2)) (tCons (tC (.int 3)) (tCons (tC (.int 4)) (tCons (tC (.int 5)) (tCons (tC (.int 7)) (tCons (tC (.int 12)) tNil))))))) (tCall (sp_u_law_draw K) [] E0 (tCons (tVar 0) (tCons (tC (.int 6)) tNil)))) (gName 3))
    (tSeq (tIfS (tTest (tOp (rEqD K) (tVar 2) (tC (.int 1)))) (tAsg (tOp (rI0 fun i j => .int (i + j)) (tC (.int 2)) (tCall (sp_u_law_draw K) [] E0 (tCons (tVar 0) (tCons (tOp (rI CPow fun i j => .int (i ^ j.toNat)) (tC (.int 10)) (tC (.int 6))) tNil)))) (gName 3)) tNext)
    (tRet (tCall (sp_u_law_ratio K) [] E0 (tCons (tOp (rI0 fun i j => .int (i - j)) (tCall (sp_u_law_draw K) [] E0 (tCons (tVar 0) (tCons (tOp (rI0 fun i j => .int (i + j)) (tOp (rI CMulW fun i j => .int (i * j)) (tOp (rI CMulW fun i j => .int (i * j)) (tC (.int 2)) (tVar 1)) (tVar 3)) (tC (.int 1))) tNil))) (tOp (rI CMulW fun i j => .int (i * j)) (tVar 1) (tVar 3))) (tCons (tVar 3) tNil))))))))
theorem d_u_law_slip {P : Program} {w : World} {K : PySem.W.Frag} {mg : Str → Option Value} {base : Heap} {f : Addr} {cdv : Value} {A : Around} {outer : List Env} {s : Shared} {H : Hp} {E : XK} (T : Txt P w K mg base) (C_u_law_draw : Fd P w K mg base l_u_law_draw "_law_draw" ["_law_hand_here", "_law_many"] [] (sp_u_law_draw K)) (C_u_law_ratio : Fd P w K mg base l_u_law_ratio "_law_ratio" ["_law_top", "_law_bottom"] [] (sp_u_law_ratio K))
    (hr : Room m_u_law_slip (A.deeper (envOfC "_law_slip" (defScope s_u_law_slip) s.heap.objs.size f cdv))) :
    PSs (cxOf (L2.CX P w) P w K mg base N_u_law_slip "_law_slip" (defScope s_u_law_slip) f cdv A outer s H E) (defBody s_u_law_slip) (t_u_law_slip K) :=
  (pss_cons (ps_set (i := 2) sc_u_law_slip.nd (by rfl) (Or.inl rfl) (pe_fd C_u_law_draw (hr.mono (by decide)) (pa_cons (pv 0) (pa_cons pe_int pa_nil))))
    (pss_cons (ps_if (pt_cmpR (op_eqD hr.units) (pv 2) pe_int (nomark _)) (pss_one (ps_ret (pe_tup (pa_cons (pe_op op_sub (pe_fd C_u_law_draw (hr.mono (by decide)) (pa_cons (pv 0) (pa_cons (pe_op op_add (pe_op op_mulW pe_int (pv 1)) pe_int) pa_nil))) (pv 1)) (pa_cons pe_int pa_nil))))) pss_nil)
    (pss_cons (ps_set (i := 3) sc_u_law_slip.nd (by rfl) (Or.inl rfl) (pe_ix ix_seq (pe_lst (pa_cons pe_int (pa_cons pe_int (pa_cons pe_int (pa_cons pe_int (pa_cons pe_int (pa_cons pe_int pa_nil))))))) (pe_fd C_u_law_draw (hr.mono (by decide)) (pa_cons (pv 0) (pa_cons pe_int pa_nil))) (fun _ _ => rfl)))
    (pss_cons (ps_if (pt_cmpR (op_eqD hr.units) (pv 2) pe_int (nomark _)) (pss_one (ps_set (i := 3) sc_u_law_slip.nd (by rfl) (Or.inl rfl) (pe_op op_add pe_int (pe_fd C_u_law_draw (hr.mono (by decide)) (pa_cons (pv 0) (pa_cons (pe_op op_pow pe_int pe_int) pa_nil)))))) pss_nil)
    (pss_one (ps_ret (pe_fd C_u_law_ratio (hr.mono (by decide)) (pa_cons (pe_op op_sub (pe_fd C_u_law_draw (hr.mono (by decide)) (pa_cons (pv 0) (pa_cons (pe_op op_add (pe_op op_mulW (pe_op op_mulW pe_int (pv 1)) (pv 3)) pe_int) pa_nil))) (pe_op op_mulW (pv 1) (pv 3))) (pa_cons (pv 3) pa_nil)))))))))

abbrev s_u_law_row : Stmt := top 54
abbrev N_u_law_row : List Str := ["_law_hand_here", "_law_bounds_here", "_law_row_here", "_law_bound", "_law_slip_here"]
theorem sc_u_law_row : FnScope N_u_law_row ["_law_hand_here", "_law_bounds_here"] (defScope s_u_law_row) := ⟨rfl, rfl, rfl, by decide +kernel, rfl, by decide +kernel, by decide +kernel⟩
def t_u_law_row (K : PySem.W.Frag) : TS :=
  (tSeq (tAsg (tLst tNil) (gName 2))
    (tSeq (tFor (iSeq K (tVar 1)) (gName 3) (tSeq (tAsg (tCall (sp_u_law_slip K) [] E0 (tCons (tVar 0) (tCons (tVar 3) tNil))) (gName 4))
    (tSeq (tIfS (tAnd (tTest (tOp (rNeD K) (tVar 2) (tLst tNil))) (tAnd (tTest (tOp (rI0 fun i j => .bl (decide (j < i))) (tVar 3) (tC (.int 0)))) (tTest (tOp (rEqD K) (tCall (sp_u_law_draw K) [] E0 (tCons (tVar 0) (tCons (tC (.int 4)) tNil))) (tC (.int 0)))))) (tAsg (tCall (sp_u_law_plus K) [] E0 (tCons (tCall (sp_u_law_broken K) [] E0 (tCons (tOp (rIx K) (tVar 2) (tUn (rU fun i => .int (-i)) (tC (.int 1)))) tNil)) (tCons (tTup (tCons (tOp (rI0 fun i j => .int (i - j)) (tCall (sp_u_law_draw K) [] E0 (tCons (tVar 0) (tCons (tOp (rI CMulW fun i j => .int (i * j)) (tC (.int 2)) (tVar 3)) tNil))) (tVar 3)) (tCons (tC (.int 1)) tNil))) tNil))) (gName 4)) tNext)
    (tDrop (tBM K "list" rAppend (tVar 2) (tCons (tVar 4) tNil))))))
    (tRet (tCB (rTupleOf K) (tCons (tVar 2) tNil)))))
theorem d_u_law_row {P : Program} {w : World} {K : PySem.W.Frag} {mg : Str → Option Value} {base : Heap} {f : Addr} {cdv : Value} {A : Around} {outer : List Env} {s : Shared} {H : Hp} {E : XK} (T : Txt P w K mg base) (C_u_law_slip : Fd P w K mg base l_u_law_slip "_law_slip" ["_law_hand_here", "_law_bound"] [] (sp_u_law_slip K)) (C_u_law_draw : Fd P w K mg base l_u_law_draw "_law_draw" ["_law_hand_here", "_law_many"] [] (sp_u_law_draw K)) (C_u_law_plus : Fd P w K mg base l_u_law_plus "_law_plus" ["_law_one", "_law_other"] [] (sp_u_law_plus K)) (C_u_law_broken : Fd P w K mg base l_u_law_broken "_law_broken" ["_law_one"] [] (sp_u_law_broken K))
    (hr : Room m_u_law_row (A.deeper (envOfC "_law_row" (defScope s_u_law_row) s.heap.objs.size f cdv))) :
    PSs (cxOf (L2.CX P w) P w K mg base N_u_law_row "_law_row" (defScope s_u_law_row) f cdv A outer s H E) (defBody s_u_law_row) (t_u_law_row K) :=
  (pss_cons (ps_set (i := 2) sc_u_law_row.nd (by rfl) (Or.inl rfl) (pe_lst pa_nil))
    (pss_cons (ps_for (passes_of rfl) rfl (pi_seq (pv 1)) (pg_name (i := 3) sc_u_law_row.nd (by rfl) (Or.inl rfl)) (pss_cons (ps_set (i := 4) sc_u_law_row.nd (by rfl) (Or.inl rfl) (pe_fd C_u_law_slip (hr.mono (by decide)) (pa_cons (pv 0) (pa_cons (pv 3) pa_nil))))
    (pss_cons (ps_if (PW.pt (pw_and (pt_cmpR (op_neD hr.units) (pv 2) (pe_lst pa_nil) (nomark _)) (pw_and (pt_cmpR op_gt (pv 3) pe_int (nomark _)) (pw_and1 (pt_cmpR (op_eqD hr.units) (pe_fd C_u_law_draw (hr.mono (by decide)) (pa_cons (pv 0) (pa_cons pe_int pa_nil))) pe_int (nomark _)))))) (pss_one (ps_set (i := 4) sc_u_law_row.nd (by rfl) (Or.inl rfl) (pe_fd C_u_law_plus (hr.mono (by decide)) (pa_cons (pe_fd C_u_law_broken (hr.mono (by decide)) (pa_cons (pe_ix ix_seq (pv 2) (pe_un un_neg pe_int) (fun _ _ => rfl)) pa_nil)) (pa_cons (pe_tup (pa_cons (pe_op op_sub (pe_fd C_u_law_draw (hr.mono (by decide)) (pa_cons (pv 0) (pa_cons (pe_op op_mulW pe_int (pv 3)) pa_nil))) (pv 3)) (pa_cons pe_int pa_nil))) pa_nil))))) pss_nil)
    (pss_one (ps_expr (pe_bm PySem.F.plainAttrs_list PySem.F.slot_list_append PySem.F.type_list_append mt_append (pv 2) (pa_cons (pv 4) pa_nil)))))))
    (pss_one (ps_ret (pe_callTy call_tuple_of (by rfl) T.b_tuple (by decide +kernel) (pa_cons (pv 2) pa_nil))))))

abbrev s_u_law_bounds : Stmt := top 55
abbrev N_u_law_bounds : List Str := ["_law_hand_here", "_law_most", "_law_many", "_law_k"]
theorem sc_u_law_bounds : FnScope N_u_law_bounds ["_law_hand_here", "_law_most"] (defScope s_u_law_bounds) := ⟨rfl, rfl, rfl, by decide +kernel, rfl, by decide +kernel, by decide +kernel⟩
def t_u_law_bounds (K : PySem.W.Frag) : TS :=
  (tSeq (tAsg (tOp (rI0 fun i j => .int (i + j)) (tC (.int 1)) (tCall (sp_u_law_pick K) [] E0 (tCons (tVar 0) (tCons (tLst (tCons (tC (.int 0)) (tCons (tC (.int 1)) (tCons (tC (.int 1)) (tCons (tC (.int 1)) (tCons (tC (.int 2)) (tCons (tC (.int 2)) tNil))))))) tNil)))) (gName 2))
    (tRet (tLc (iRng1 (tCons (tCB (fun xs H Q => ∃ i j, xs = [.int i, .int j] ∧ Q (.int (if j < i then j else i)) H) (tCons (tVar 2) (tCons (tVar 1) tNil))) tNil)) (gName 3) tYes (tCall (sp_u_law_pick K) [] E0 (tCons (tVar 0) (tCons (tLst (tCons (tC (.int 0)) (tCons (tC (.int 1)) (tCons (tC (.int 1)) (tCons (tC (.int 1)) (tCons (tC (.int 2)) (tCons (tC (.int 2)) tNil))))))) tNil))) [3])))
theorem d_u_law_bounds {P : Program} {w : World} {K : PySem.W.Frag} {mg : Str → Option Value} {base : Heap} {f : Addr} {cdv : Value} {A : Around} {outer : List Env} {s : Shared} {H : Hp} {E : XK} (T : Txt P w K mg base) (C_u_law_pick : Fd P w K mg base l_u_law_pick "_law_pick" ["_law_hand_here", "_law_things"] [] (sp_u_law_pick K))
    (hr : Room m_u_law_bounds (A.deeper (envOfC "_law_bounds" (defScope s_u_law_bounds) s.heap.objs.size f cdv))) :
    PSs (cxOf (L2.CX P w) P w K mg base N_u_law_bounds "_law_bounds" (defScope s_u_law_bounds) f cdv A outer s H E) (defBody s_u_law_bounds) (t_u_law_bounds K) :=
  (pss_cons (ps_set (i := 2) sc_u_law_bounds.nd (by rfl) (Or.inl rfl) (pe_op op_add pe_int (pe_fd C_u_law_pick (hr.mono (by decide)) (pa_cons (pv 0) (pa_cons (pe_lst (pa_cons pe_int (pa_cons pe_int (pa_cons pe_int (pa_cons pe_int (pa_cons pe_int (pa_cons pe_int pa_nil))))))) pa_nil)))))
    (pss_one (ps_ret (pe_lc (own := [("_law_k", 3)]) (g := (gName 3)) (by rfl) sc_u_law_bounds.nd (pi_range1 (by rfl) T.b_range (pa_cons (pe_callB (call_min2 rfl) (by rfl) T.b_min (by decide +kernel) (pa_cons (pv 2) (pa_cons (pv 1) pa_nil))) pa_nil)) (blkOk_by (own := [("_law_k", 3)]) (N := N_u_law_bounds) (sc := defScope s_u_law_bounds) (by decide +kernel)) (fun _ _ _ _ _ => (pg_name (i := 3) sc_u_law_bounds.nd (by rfl) (Or.inl rfl))) (fun _ _ _ _ _ => pts_nil) (fun _ _ _ _ _ => (pe_fd C_u_law_pick (hr.mono (by decide)) (pa_cons (pv 0) (pa_cons (pe_lst (pa_cons pe_int (pa_cons pe_int (pa_cons pe_int (pa_cons pe_int (pa_cons pe_int (pa_cons pe_int pa_nil))))))) pa_nil))))))))

abbrev s_u_law_parts : Stmt := top 56
abbrev N_u_law_parts : List Str := ["_law_row_here", "_law_parts_here", "_law_one", "_law_part", "_law_here"]
theorem sc_u_law_parts : FnScope N_u_law_parts ["_law_row_here"] (defScope s_u_law_parts) := ⟨rfl, rfl, rfl, by decide +kernel, rfl, by decide +kernel, by decide +kernel⟩
def t_u_law_parts (K : PySem.W.Frag) : TS :=
  (tSeq (tAsg (tLst tNil) (gName 1))
    (tSeq (tFor (iSeq K (tVar 0)) (gName 2) (tSeq (tAsg (tCall (sp_u_law_broken K) [] E0 (tCons (tVar 2) tNil)) (gName 3))
    (tIfS (tAnd (tTest (tOp (rI0 fun i j => .bl (decide (j < i))) (tOp (rIx K) (tVar 3) (tC (.int 0))) (tC (.int 0)))) (tTest (tOp (rNotInD K) (tVar 3) (tVar 1)))) (tDrop (tBM K "list" rInsert (tVar 1) (tCons (tCB (Evl.rLenS K) (tCons (tLc (iSeq K (tVar 1)) (gName 4) (tB (tCall (sp_u_law_is_less K) [] E0 (tCons (tVar 4) (tCons (tVar 3) tNil)))) (tVar 4) [4]) tNil)) (tCons (tVar 3) tNil)))) tNext)))
    (tRet (tVar 1))))
theorem d_u_law_parts {P : Program} {w : World} {K : PySem.W.Frag} {mg : Str → Option Value} {base : Heap} {f : Addr} {cdv : Value} {A : Around} {outer : List Env} {s : Shared} {H : Hp} {E : XK} (T : Txt P w K mg base) (C_u_law_broken : Fd P w K mg base l_u_law_broken "_law_broken" ["_law_one"] [] (sp_u_law_broken K)) (C_u_law_is_less : Fd P w K mg base l_u_law_is_less "_law_is_less" ["_law_one", "_law_other"] [] (sp_u_law_is_less K))
    (hr : Room m_u_law_parts (A.deeper (envOfC "_law_parts" (defScope s_u_law_parts) s.heap.objs.size f cdv))) :
    PSs (cxOf (L2.CX P w) P w K mg base N_u_law_parts "_law_parts" (defScope s_u_law_parts) f cdv A outer s H E) (defBody s_u_law_parts) (t_u_law_parts K) :=
  (pss_cons (ps_set (i := 1) sc_u_law_parts.nd (by rfl) (Or.inl rfl) (pe_lst pa_nil))
    (pss_cons (ps_for (passes_of rfl) rfl (pi_seq (pv 0)) (pg_name (i := 2) sc_u_law_parts.nd (by rfl) (Or.inl rfl)) (pss_cons (ps_set (i := 3) sc_u_law_parts.nd (by rfl) (Or.inr rfl) (pe_fd C_u_law_broken (hr.mono (by decide)) (pa_cons (pv 2) pa_nil)))
    (pss_one (ps_if (PW.pt (pw_and (pt_cmpR op_gt (pe_ix ix_seq (pv 3) pe_int (fun _ _ => rfl)) pe_int (nomark _)) (pw_and1 (pt_cmpR (op_notInD (units65 hr)) (pv 3) (pv 1) (by rfl))))) (pss_one (ps_expr (pe_bm PySem.F.plainAttrs_list PySem.F.slot_list_insert PySem.F.type_list_insert mt_insert (pv 1) (pa_cons (pe_callB call_len_seq (by rfl) T.b_len (by decide +kernel) (pa_cons (pe_lc (own := [("_law_here", 4)]) (g := (gName 4)) (by rfl) sc_u_law_parts.nd (pi_seq (pv 1)) (blkOk_by (own := [("_law_here", 4)]) (N := N_u_law_parts) (sc := defScope s_u_law_parts) (by decide +kernel)) (fun _ _ _ _ _ => (pg_name (i := 4) sc_u_law_parts.nd (by rfl) (Or.inl rfl))) (fun _ _ _ _ _ => (pts_one (pt_val (pe_fd C_u_law_is_less (hr.mono (by decide)) (pa_cons (pv 4) (pa_cons (pv 3) pa_nil)))))) (fun _ _ _ _ _ => (pv 4))) pa_nil)) (pa_cons (pv 3) pa_nil))))) pss_nil))))
    (pss_one (ps_ret (pv 1)))))

abbrev s_u_law_stand : Stmt := top 57
abbrev N_u_law_stand : List Str := ["_law_row_here", "_law_parts_here", "_law_found", "_law_one", "_law_part", "_law_rank", "_law_here"]
theorem sc_u_law_stand : FnScope N_u_law_stand ["_law_row_here"] (defScope s_u_law_stand) := ⟨rfl, rfl, rfl, by decide +kernel, rfl, by decide +kernel, by decide +kernel⟩
def t_u_law_stand (K : PySem.W.Frag) : TS :=
  (tSeq (tAsg (tCall (sp_u_law_parts K) [] E0 (tCons (tVar 0) tNil)) (gName 1))
    (tSeq (tAsg (tLst tNil) (gName 2))
    (tSeq (tFor (iSeq K (tVar 0)) (gName 3) (tSeq (tAsg (tCall (sp_u_law_broken K) [] E0 (tCons (tVar 3) tNil)) (gName 4))
    (tSeq (tAsg (tCB (Evl.rLenS K) (tCons (tLc (iSeq K (tVar 1)) (gName 6) (tNot (tB (tCall (sp_u_law_is_less K) [] E0 (tCons (tVar 4) (tCons (tVar 6) tNil))))) (tVar 6) [6]) tNil)) (gName 5))
    (tDrop (tBM K "list" rAppend (tVar 2) (tCons (tTup (tCons (tCall (sp_u_law_floor K) [] E0 (tCons (tVar 3) tNil)) (tCons (tVar 5) tNil))) tNil))))))
    (tRet (tCB (rTupleOf K) (tCons (tVar 2) tNil))))))
theorem d_u_law_stand {P : Program} {w : World} {K : PySem.W.Frag} {mg : Str → Option Value} {base : Heap} {f : Addr} {cdv : Value} {A : Around} {outer : List Env} {s : Shared} {H : Hp} {E : XK} (T : Txt P w K mg base) (C_u_law_parts : Fd P w K mg base l_u_law_parts "_law_parts" ["_law_row_here"] [] (sp_u_law_parts K)) (C_u_law_broken : Fd P w K mg base l_u_law_broken "_law_broken" ["_law_one"] [] (sp_u_law_broken K)) (C_u_law_is_less : Fd P w K mg base l_u_law_is_less "_law_is_less" ["_law_one", "_law_other"] [] (sp_u_law_is_less K)) (C_u_law_floor : Fd P w K mg base l_u_law_floor "_law_floor" ["_law_one"] [] (sp_u_law_floor K))
    (hr : Room m_u_law_stand (A.deeper (envOfC "_law_stand" (defScope s_u_law_stand) s.heap.objs.size f cdv))) :
    PSs (cxOf (L2.CX P w) P w K mg base N_u_law_stand "_law_stand" (defScope s_u_law_stand) f cdv A outer s H E) (defBody s_u_law_stand) (t_u_law_stand K) :=
  (pss_cons (ps_set (i := 1) sc_u_law_stand.nd (by rfl) (Or.inl rfl) (pe_fd C_u_law_parts (hr.mono (by decide)) (pa_cons (pv 0) pa_nil)))
    (pss_cons (ps_set (i := 2) sc_u_law_stand.nd (by rfl) (Or.inl rfl) (pe_lst pa_nil))
    (pss_cons (ps_for (passes_of rfl) rfl (pi_seq (pv 0)) (pg_name (i := 3) sc_u_law_stand.nd (by rfl) (Or.inl rfl)) (pss_cons (ps_set (i := 4) sc_u_law_stand.nd (by rfl) (Or.inr rfl) (pe_fd C_u_law_broken (hr.mono (by decide)) (pa_cons (pv 3) pa_nil)))
    (pss_cons (ps_set (i := 5) sc_u_law_stand.nd (by rfl) (Or.inl rfl) (pe_callB call_len_seq (by rfl) T.b_len (by decide +kernel) (pa_cons (pe_lc (own := [("_law_here", 6)]) (g := (gName 6)) (by rfl) sc_u_law_stand.nd (pi_seq (pv 1)) (blkOk_by (own := [("_law_here", 6)]) (N := N_u_law_stand) (sc := defScope s_u_law_stand) (by decide +kernel)) (fun _ _ _ _ _ => (pg_name (i := 6) sc_u_law_stand.nd (by rfl) (Or.inl rfl))) (fun _ _ _ _ _ => (pts_one (pt_not (pt_val (pe_fd C_u_law_is_less (hr.mono (by decide)) (pa_cons (pv 4) (pa_cons (pv 6) pa_nil))))))) (fun _ _ _ _ _ => (pv 6))) pa_nil)))
    (pss_one (ps_expr (pe_bm PySem.F.plainAttrs_list PySem.F.slot_list_append PySem.F.type_list_append mt_append (pv 2) (pa_cons (pe_tup (pa_cons (pe_fd C_u_law_floor (hr.mono (by decide)) (pa_cons (pv 3) pa_nil)) (pa_cons (pv 5) pa_nil))) pa_nil)))))))
    (pss_one (ps_ret (pe_callTy call_tuple_of (by rfl) T.b_tuple (by decide +kernel) (pa_cons (pv 2) pa_nil)))))))

abbrev s_u_law_between : Stmt := top 58
abbrev N_u_law_between : List Str := ["_law_low", "_law_high", "_law_part"]
theorem sc_u_law_between : FnScope N_u_law_between ["_law_low", "_law_high", "_law_part"] (defScope s_u_law_between) := ⟨rfl, rfl, rfl, by decide +kernel, rfl, by decide +kernel, by decide +kernel⟩
def t_u_law_between (K : PySem.W.Frag) : TS :=
  (tRet (tCall (sp_u_law_plus K) [] E0 (tCons (tVar 0) (tCons (tCall (sp_u_law_times K) [] E0 (tCons (tCall (sp_u_law_minus K) [] E0 (tCons (tVar 1) (tCons (tVar 0) tNil))) (tCons (tVar 2) tNil))) tNil))))
theorem d_u_law_between {P : Program} {w : World} {K : PySem.W.Frag} {mg : Str → Option Value} {base : Heap} {f : Addr} {cdv : Value} {A : Around} {outer : List Env} {s : Shared} {H : Hp} {E : XK} (T : Txt P w K mg base) (C_u_law_plus : Fd P w K mg base l_u_law_plus "_law_plus" ["_law_one", "_law_other"] [] (sp_u_law_plus K)) (C_u_law_times : Fd P w K mg base l_u_law_times "_law_times" ["_law_one", "_law_other"] [] (sp_u_law_times K)) (C_u_law_minus : Fd P w K mg base l_u_law_minus "_law_minus" ["_law_one", "_law_other"] [] (sp_u_law_minus K))
    (hr : Room m_u_law_between (A.deeper (envOfC "_law_between" (defScope s_u_law_between) s.heap.objs.size f cdv))) :
    PSs (cxOf (L2.CX P w) P w K mg base N_u_law_between "_law_between" (defScope s_u_law_between) f cdv A outer s H E) (defBody s_u_law_between) (t_u_law_between K) :=
  (pss_one (ps_ret (pe_fd C_u_law_plus (hr.mono (by decide)) (pa_cons (pv 0) (pa_cons (pe_fd C_u_law_times (hr.mono (by decide)) (pa_cons (pe_fd C_u_law_minus (hr.mono (by decide)) (pa_cons (pv 1) (pa_cons (pv 0) pa_nil))) (pa_cons (pv 2) pa_nil))) pa_nil)))))

abbrev s_u_law_at : Stmt := top 59
abbrev N_u_law_at : List Str := ["_law_row_here", "_law_other", "_law_time", "_law_one", "_law_goal"]
theorem sc_u_law_at : FnScope N_u_law_at ["_law_row_here", "_law_other", "_law_time"] (defScope s_u_law_at) := ⟨rfl, rfl, rfl, by decide +kernel, rfl, by decide +kernel, by decide +kernel⟩
def t_u_law_at (K : PySem.W.Frag) : TS :=
  (tRet (tCB (rTupleOf K) (tCons (tLc (iZipA K (tCons (tVar 0) (tCons (tVar 1) tNil))) (gTup K 2 (gCons (gName 3) (gCons (gName 4) gNil))) tYes (tCall (sp_u_law_between K) [] E0 (tCons (tVar 3) (tCons (tVar 4) (tCons (tVar 2) tNil)))) [3, 4]) tNil)))
theorem d_u_law_at {P : Program} {w : World} {K : PySem.W.Frag} {mg : Str → Option Value} {base : Heap} {f : Addr} {cdv : Value} {A : Around} {outer : List Env} {s : Shared} {H : Hp} {E : XK} (T : Txt P w K mg base) (C_u_law_between : Fd P w K mg base l_u_law_between "_law_between" ["_law_low", "_law_high", "_law_part"] [] (sp_u_law_between K))
    (hr : Room m_u_law_at (A.deeper (envOfC "_law_at" (defScope s_u_law_at) s.heap.objs.size f cdv))) :
    PSs (cxOf (L2.CX P w) P w K mg base N_u_law_at "_law_at" (defScope s_u_law_at) f cdv A outer s H E) (defBody s_u_law_at) (t_u_law_at K) :=
  (pss_one (ps_ret (pe_callTy call_tuple_of (by rfl) T.b_tuple (by decide +kernel) (pa_cons (pe_lc (own := [("_law_one", 3), ("_law_goal", 4)]) (g := (gTup K 2 (gCons (gName 3) (gCons (gName 4) gNil)))) (by rfl) sc_u_law_at.nd (pi_zipA (by rfl) T.b_zip (pa_cons (pv 0) (pa_cons (pv 1) pa_nil))) (blkOk_by (own := [("_law_one", 3), ("_law_goal", 4)]) (N := N_u_law_at) (sc := defScope s_u_law_at) (by decide +kernel)) (fun _ _ _ _ _ => (pg_tup (by rfl) (pgs_cons (pg_name (i := 3) sc_u_law_at.nd (by rfl) (Or.inl rfl)) (pgs_cons (pg_name (i := 4) sc_u_law_at.nd (by rfl) (Or.inl rfl)) pgs_nil)))) (fun _ _ _ _ _ => pts_nil) (fun _ _ _ _ _ => (pe_fd C_u_law_between (hr.mono (by decide)) (pa_cons (pv 3) (pa_cons (pv 4) (pa_cons (pv 2) pa_nil)))))) pa_nil))))

abbrev s_u_law_is_quiet : Stmt := top 60
abbrev N_u_law_is_quiet : List Str := ["_law_start", "_law_end", "_law_low", "_law_high"]
theorem sc_u_law_is_quiet : FnScope N_u_law_is_quiet ["_law_start", "_law_end"] (defScope s_u_law_is_quiet) := ⟨rfl, rfl, rfl, by decide +kernel, rfl, by decide +kernel, by decide +kernel⟩
def t_u_law_is_quiet (K : PySem.W.Frag) : TS :=
  (tSeq (tIfS (tTest (tOp (rEqD K) (tVar 0) (tVar 1))) (tRet (tC (.bl true))) tNext)
    (tSeq (tAsg (tIf (tB (tCall (sp_u_law_is_less K) [] E0 (tCons (tVar 0) (tCons (tVar 1) tNil)))) (tVar 0) (tVar 1)) (gName 2))
    (tSeq (tAsg (tIf (tB (tCall (sp_u_law_is_less K) [] E0 (tCons (tVar 0) (tCons (tVar 1) tNil)))) (tVar 1) (tVar 0)) (gName 3))
    (tRet (tNotV (tCall (sp_u_law_is_less K) [] E0 (tCons (tTup (tCons (tOp (rI0 fun i j => .int (i + j)) (tCall (sp_u_law_floor K) [] E0 (tCons (tVar 2) tNil)) (tC (.int 1))) (tCons (tC (.int 1)) tNil))) (tCons (tVar 3) tNil))))))))
theorem d_u_law_is_quiet {P : Program} {w : World} {K : PySem.W.Frag} {mg : Str → Option Value} {base : Heap} {f : Addr} {cdv : Value} {A : Around} {outer : List Env} {s : Shared} {H : Hp} {E : XK} (T : Txt P w K mg base) (C_u_law_is_less : Fd P w K mg base l_u_law_is_less "_law_is_less" ["_law_one", "_law_other"] [] (sp_u_law_is_less K)) (C_u_law_floor : Fd P w K mg base l_u_law_floor "_law_floor" ["_law_one"] [] (sp_u_law_floor K))
    (hr : Room m_u_law_is_quiet (A.deeper (envOfC "_law_is_quiet" (defScope s_u_law_is_quiet) s.heap.objs.size f cdv))) :
    PSs (cxOf (L2.CX P w) P w K mg base N_u_law_is_quiet "_law_is_quiet" (defScope s_u_law_is_quiet) f cdv A outer s H E) (defBody s_u_law_is_quiet) (t_u_law_is_quiet K) :=
  (pss_cons (ps_if (pt_cmpR (op_eqD hr.units) (pv 0) (pv 1) (nomark _)) (pss_one (ps_ret pe_bl)) pss_nil)
    (pss_cons (ps_set (i := 2) sc_u_law_is_quiet.nd (by rfl) (Or.inl rfl) (pe_ifExp (pt_val (pe_fd C_u_law_is_less (hr.mono (by decide)) (pa_cons (pv 0) (pa_cons (pv 1) pa_nil)))) (pv 0) (pv 1)))
    (pss_cons (ps_set (i := 3) sc_u_law_is_quiet.nd (by rfl) (Or.inl rfl) (pe_ifExp (pt_val (pe_fd C_u_law_is_less (hr.mono (by decide)) (pa_cons (pv 0) (pa_cons (pv 1) pa_nil)))) (pv 1) (pv 0)))
    (pss_one (ps_ret (pe_not (pe_fd C_u_law_is_less (hr.mono (by decide)) (pa_cons (pe_tup (pa_cons (pe_op op_add (pe_fd C_u_law_floor (hr.mono (by decide)) (pa_cons (pv 2) pa_nil)) pe_int) (pa_cons pe_int pa_nil))) (pa_cons (pv 3) pa_nil)))))))))

abbrev s_u_law_stretch_right : Stmt := top 61
abbrev N_u_law_stretch_right : List Str := ["_law_row_here", "_law_other", "_law_start", "_law_end", "_law_stand_here", "_law_one", "_law_two", "_law_k", "_law_m", "_law_part"]
theorem sc_u_law_stretch_right : FnScope N_u_law_stretch_right ["_law_row_here", "_law_other", "_law_start", "_law_end", "_law_stand_here"] (defScope s_u_law_stretch_right) := ⟨rfl, rfl, rfl, by decide +kernel, rfl, by decide +kernel, by decide +kernel⟩
def t_u_law_stretch_right (K : PySem.W.Frag) : TS :=
  (tSeq (tAsg (tCall (sp_u_law_at K) [] E0 (tCons (tVar 0) (tCons (tVar 1) (tCons (tVar 2) tNil)))) (gName 5))
    (tSeq (tAsg (tCall (sp_u_law_at K) [] E0 (tCons (tVar 0) (tCons (tVar 1) (tCons (tVar 3) tNil)))) (gName 6))
    (tSeq (tFor (iRng1 (tCons (tCB (Evl.rLenS K) (tCons (tVar 0) tNil)) tNil)) (gName 7) (tSeq (tIfS (tNot (tB (tCall (sp_u_law_is_quiet K) [] E0 (tCons (tOp (rIx K) (tVar 5) (tVar 7)) (tCons (tOp (rIx K) (tVar 6) (tVar 7)) tNil))))) (tRet (tC (.bl false))) tNext)
    (tFor (iRng2 (tCons (tOp (rI0 fun i j => .int (i + j)) (tVar 7) (tC (.int 1))) (tCons (tCB (Evl.rLenS K) (tCons (tVar 0) tNil)) tNil))) (gName 8) (tIfS (tNot (tB (tCall (sp_u_law_is_quiet K) [] E0 (tCons (tCall (sp_u_law_minus K) [] E0 (tCons (tOp (rIx K) (tVar 5) (tVar 7)) (tCons (tOp (rIx K) (tVar 5) (tVar 8)) tNil))) (tCons (tCall (sp_u_law_minus K) [] E0 (tCons (tOp (rIx K) (tVar 6) (tVar 7)) (tCons (tOp (rIx K) (tVar 6) (tVar 8)) tNil))) tNil))))) (tRet (tC (.bl false))) tNext))))
    (tSeq (tFor (iSeq K (tTup (tCons (tTup (tCons (tC (.int 1)) (tCons (tC (.int 2)) tNil))) (tCons (tTup (tCons (tC (.int 1)) (tCons (tC (.int 9)) tNil))) (tCons (tTup (tCons (tOp (rI0 fun i j => .int (i - j)) (tOp (rI CPow fun i j => .int (i ^ j.toNat)) (tC (.int 10)) (tC (.int 9))) (tC (.int 1))) (tCons (tOp (rI CPow fun i j => .int (i ^ j.toNat)) (tC (.int 10)) (tC (.int 9))) tNil))) tNil))))) (gName 9) (tIfS (tTest (tOp (rNeD K) (tCall (sp_u_law_stand K) [] E0 (tCons (tCall (sp_u_law_at K) [] E0 (tCons (tVar 0) (tCons (tVar 1) (tCons (tCall (sp_u_law_between K) [] E0 (tCons (tVar 2) (tCons (tVar 3) (tCons (tVar 9) tNil)))) tNil)))) tNil)) (tVar 4))) (tRet (tC (.bl false))) tNext))
    (tRet (tC (.bl true)))))))
theorem d_u_law_stretch_right {P : Program} {w : World} {K : PySem.W.Frag} {mg : Str → Option Value} {base : Heap} {f : Addr} {cdv : Value} {A : Around} {outer : List Env} {s : Shared} {H : Hp} {E : XK} (T : Txt P w K mg base) (C_u_law_at : Fd P w K mg base l_u_law_at "_law_at" ["_law_row_here", "_law_other", "_law_time"] [] (sp_u_law_at K)) (C_u_law_is_quiet : Fd P w K mg base l_u_law_is_quiet "_law_is_quiet" ["_law_start", "_law_end"] [] (sp_u_law_is_quiet K)) (C_u_law_minus : Fd P w K mg base l_u_law_minus "_law_minus" ["_law_one", "_law_other"] [] (sp_u_law_minus K)) (C_u_law_stand : Fd P w K mg base l_u_law_stand "_law_stand" ["_law_row_here"] [] (sp_u_law_stand K)) (C_u_law_between : Fd P w K mg base l_u_law_between "_law_between" ["_law_low", "_law_high", "_law_part"] [] (sp_u_law_between K))
    (hr : Room m_u_law_stretch_right (A.deeper (envOfC "_law_stretch_right" (defScope s_u_law_stretch_right) s.heap.objs.size f cdv))) :
    PSs (cxOf (L2.CX P w) P w K mg base N_u_law_stretch_right "_law_stretch_right" (defScope s_u_law_stretch_right) f cdv A outer s H E) (defBody s_u_law_stretch_right) (t_u_law_stretch_right K) :=
  (pss_cons (ps_set (i := 5) sc_u_law_stretch_right.nd (by rfl) (Or.inl rfl) (pe_fd C_u_law_at (hr.mono (by decide)) (pa_cons (pv 0) (pa_cons (pv 1) (pa_cons (pv 2) pa_nil)))))
    (pss_cons (ps_set (i := 6) sc_u_law_stretch_right.nd (by rfl) (Or.inl rfl) (pe_fd C_u_law_at (hr.mono (by decide)) (pa_cons (pv 0) (pa_cons (pv 1) (pa_cons (pv 3) pa_nil)))))
    (pss_cons (ps_for (passes_of rfl) rfl (pi_range1 (by rfl) T.b_range (pa_cons (pe_callB call_len_seq (by rfl) T.b_len (by decide +kernel) (pa_cons (pv 0) pa_nil)) pa_nil)) (pg_name (i := 7) sc_u_law_stretch_right.nd (by rfl) (Or.inl rfl)) (pss_cons (ps_if (pt_not (pt_val (pe_fd C_u_law_is_quiet (hr.mono (by decide)) (pa_cons (pe_ix ix_seq (pv 5) (pv 7) (fun _ _ => rfl)) (pa_cons (pe_ix ix_seq (pv 6) (pv 7) (fun _ _ => rfl)) pa_nil))))) (pss_one (ps_ret pe_bl)) pss_nil)
    (pss_one (ps_for (passes_of rfl) rfl (pi_range2 (by rfl) T.b_range (pa_cons (pe_op op_add (pv 7) pe_int) (pa_cons (pe_callB call_len_seq (by rfl) T.b_len (by decide +kernel) (pa_cons (pv 0) pa_nil)) pa_nil))) (pg_name (i := 8) sc_u_law_stretch_right.nd (by rfl) (Or.inl rfl)) (pss_one (ps_if (pt_not (pt_val (pe_fd C_u_law_is_quiet (hr.mono (by decide)) (pa_cons (pe_fd C_u_law_minus (hr.mono (by decide)) (pa_cons (pe_ix ix_seq (pv 5) (pv 7) (fun _ _ => rfl)) (pa_cons (pe_ix ix_seq (pv 5) (pv 8) (fun _ _ => rfl)) pa_nil))) (pa_cons (pe_fd C_u_law_minus (hr.mono (by decide)) (pa_cons (pe_ix ix_seq (pv 6) (pv 7) (fun _ _ => rfl)) (pa_cons (pe_ix ix_seq (pv 6) (pv 8) (fun _ _ => rfl)) pa_nil))) pa_nil))))) (pss_one (ps_ret pe_bl)) pss_nil))))))
    (pss_cons (ps_for (passes_of rfl) rfl (pi_seq (pe_tup (pa_cons (pe_tup (pa_cons pe_int (pa_cons pe_int pa_nil))) (pa_cons (pe_tup (pa_cons pe_int (pa_cons pe_int pa_nil))) (pa_cons (pe_tup (pa_cons (pe_op op_sub (pe_op op_pow pe_int pe_int) pe_int) (pa_cons (pe_op op_pow pe_int pe_int) pa_nil))) pa_nil))))) (pg_name (i := 9) sc_u_law_stretch_right.nd (by rfl) (Or.inl rfl)) (pss_one (ps_if (pt_cmpR (op_neD hr.units) (pe_fd C_u_law_stand (hr.mono (by decide)) (pa_cons (pe_fd C_u_law_at (hr.mono (by decide)) (pa_cons (pv 0) (pa_cons (pv 1) (pa_cons (pe_fd C_u_law_between (hr.mono (by decide)) (pa_cons (pv 2) (pa_cons (pv 3) (pa_cons (pv 9) pa_nil)))) pa_nil)))) pa_nil)) (pv 4) (nomark _)) (pss_one (ps_ret pe_bl)) pss_nil)))
    (pss_one (ps_ret pe_bl))))))

abbrev s_u_law_shape_right : Stmt := top 62
abbrev N_u_law_shape_right : List Str := ["_law_told", "_law_stands", "_law_last", "_law_was", "_law_part", "_law_instant"]
theorem sc_u_law_shape_right : FnScope N_u_law_shape_right ["_law_told"] (defScope s_u_law_shape_right) := ⟨rfl, rfl, rfl, by decide +kernel, rfl, by decide +kernel, by decide +kernel⟩
def t_u_law_shape_right (K : PySem.W.Frag) : TS :=
  (tSeq (tIfS (tOr (tNot (tB (tCB (rIsi K) (tCons (tVar 0) (tCons (tC (.ty "tuple")) tNil))))) (tTest (tOp (rEqD K) (tVar 0) (tTup tNil)))) (tRet (tC (.bl false))) tNext)
    (tSeq (tAsg (tLst tNil) (gName 1))
    (tSeq (tAsg (tTup (tCons (tC (.int 0)) (tCons (tC (.int 1)) tNil))) (gName 2))
    (tSeq (tAsg (tC .non) (gName 3))
    (tSeq (tFor (iSeq K (tVar 0)) (gName 4) (tSeq (tIfS (tOr (tNot (tB (tCB (rIsi K) (tCons (tVar 4) (tCons (tC (.ty "tuple")) tNil))))) (tOr (tTest (tOp (rNeD K) (tCB (Evl.rLenS K) (tCons (tVar 4) tNil)) (tC (.int 3)))) (tOr (tNot (tB (tCall (sp_u_law_is_ratio K) [] E0 (tCons (tOp (rIx K) (tVar 4) (tC (.int 0))) tNil)))) (tNot (tB (tCall (sp_u_law_is_ratio K) [] E0 (tCons (tOp (rIx K) (tVar 4) (tC (.int 1))) tNil))))))) (tRet (tC (.bl false))) tNext)
    (tSeq (tAsg (tOp (rEqD K) (tOp (rIx K) (tVar 4) (tC (.int 0))) (tOp (rIx K) (tVar 4) (tC (.int 1)))) (gName 5))
    (tSeq (tIfS (tOr (tTest (tOp (rNeD K) (tOp (rIx K) (tVar 4) (tC (.int 0))) (tVar 2))) (tOr (tB (tCall (sp_u_law_is_less K) [] E0 (tCons (tOp (rIx K) (tVar 4) (tC (.int 1))) (tCons (tOp (rIx K) (tVar 4) (tC (.int 0))) tNil)))) (tOr (tTest (tOp (rEqD K) (tVar 5) (tVar 3))) (tTest (tOp (rInD K) (tOp (rIx K) (tVar 4) (tC (.int 2))) (tVar 1)))))) (tRet (tC (.bl false))) tNext)
    (tSeq (tAsg (tVar 5) (gName 3))
    (tSeq (tAsg (tOp (rIx K) (tVar 4) (tC (.int 1))) (gName 2))
    (tDrop (tBM K "list" rAppend (tVar 1) (tCons (tOp (rIx K) (tVar 4) (tC (.int 2))) tNil)))))))))
    (tRet (tOp (rEqD K) (tVar 2) (tTup (tCons (tC (.int 1)) (tCons (tC (.int 1)) tNil))))))))))
theorem d_u_law_shape_right {P : Program} {w : World} {K : PySem.W.Frag} {mg : Str → Option Value} {base : Heap} {f : Addr} {cdv : Value} {A : Around} {outer : List Env} {s : Shared} {H : Hp} {E : XK} (T : Txt P w K mg base) (C_u_law_is_ratio : Fd P w K mg base l_u_law_is_ratio "_law_is_ratio" ["_law_thing"] [] (sp_u_law_is_ratio K)) (C_u_law_is_less : Fd P w K mg base l_u_law_is_less "_law_is_less" ["_law_one", "_law_other"] [] (sp_u_law_is_less K))
    (hr : Room m_u_law_shape_right (A.deeper (envOfC "_law_shape_right" (defScope s_u_law_shape_right) s.heap.objs.size f cdv))) :
    PSs (cxOf (L2.CX P w) P w K mg base N_u_law_shape_right "_law_shape_right" (defScope s_u_law_shape_right) f cdv A outer s H E) (defBody s_u_law_shape_right) (t_u_law_shape_right K) :=
  (pss_cons (ps_if (PW.pt (pw_or (pt_not (pt_val (pe_callB call_isi (by rfl) T.b_isinstance (by decide +kernel) (pa_cons (pv 0) (pa_cons (pe_bltn (u := .type "tuple") (by rfl) T.b_tuple (by decide +kernel) (by rfl)) pa_nil))))) (pw_or1 (pt_cmpR (op_eqD hr.units) (pv 0) (pe_tup pa_nil) (nomark _))))) (pss_one (ps_ret pe_bl)) pss_nil)
    (pss_cons (ps_set (i := 1) sc_u_law_shape_right.nd (by rfl) (Or.inl rfl) (pe_lst pa_nil))
    (pss_cons (ps_set (i := 2) sc_u_law_shape_right.nd (by rfl) (Or.inl rfl) (pe_tup (pa_cons pe_int (pa_cons pe_int pa_nil))))
    (pss_cons (ps_set (i := 3) sc_u_law_shape_right.nd (by rfl) (Or.inl rfl) pe_non)
    (pss_cons (ps_for (passes_of rfl) rfl (pi_seq (pv 0)) (pg_name (i := 4) sc_u_law_shape_right.nd (by rfl) (Or.inl rfl)) (pss_cons (ps_if (PW.pt (pw_or (pt_not (pt_val (pe_callB call_isi (by rfl) T.b_isinstance (by decide +kernel) (pa_cons (pv 4) (pa_cons (pe_bltn (u := .type "tuple") (by rfl) T.b_tuple (by decide +kernel) (by rfl)) pa_nil))))) (pw_or (pt_cmpR (op_neD hr.units) (pe_callB call_len_seq (by rfl) T.b_len (by decide +kernel) (pa_cons (pv 4) pa_nil)) pe_int (nomark _)) (pw_or (pt_not (pt_val (pe_fd C_u_law_is_ratio (hr.mono (by decide)) (pa_cons (pe_ix ix_seq (pv 4) pe_int (fun _ _ => rfl)) pa_nil)))) (pw_or1 (pt_not (pt_val (pe_fd C_u_law_is_ratio (hr.mono (by decide)) (pa_cons (pe_ix ix_seq (pv 4) pe_int (fun _ _ => rfl)) pa_nil))))))))) (pss_one (ps_ret pe_bl)) pss_nil)
    (pss_cons (ps_set (i := 5) sc_u_law_shape_right.nd (by rfl) (Or.inl rfl) (pe_cmpR (op_eqD hr.units) (pe_ix ix_seq (pv 4) pe_int (fun _ _ => rfl)) (pe_ix ix_seq (pv 4) pe_int (fun _ _ => rfl)) (nomark _)))
    (pss_cons (ps_if (PW.pt (pw_or (pt_cmpR (op_neD hr.units) (pe_ix ix_seq (pv 4) pe_int (fun _ _ => rfl)) (pv 2) (nomark _)) (pw_or (pt_val (pe_fd C_u_law_is_less (hr.mono (by decide)) (pa_cons (pe_ix ix_seq (pv 4) pe_int (fun _ _ => rfl)) (pa_cons (pe_ix ix_seq (pv 4) pe_int (fun _ _ => rfl)) pa_nil)))) (pw_or (pt_cmpR (op_eqD hr.units) (pv 5) (pv 3) (nomark _)) (pw_or1 (pt_cmpR (op_inD (units65 hr)) (pe_ix ix_seq (pv 4) pe_int (fun _ _ => rfl)) (pv 1) (by rfl))))))) (pss_one (ps_ret pe_bl)) pss_nil)
    (pss_cons (ps_set (i := 3) sc_u_law_shape_right.nd (by rfl) (Or.inl rfl) (pv 5))
    (pss_cons (ps_set (i := 2) sc_u_law_shape_right.nd (by rfl) (Or.inl rfl) (pe_ix ix_seq (pv 4) pe_int (fun _ _ => rfl)))
    (pss_one (ps_expr (pe_bm PySem.F.plainAttrs_list PySem.F.slot_list_append PySem.F.type_list_append mt_append (pv 1) (pa_cons (pe_ix ix_seq (pv 4) pe_int (fun _ _ => rfl)) pa_nil))))))))))
    (pss_one (ps_ret (pe_cmpR (op_eqD hr.units) (pv 2) (pe_tup (pa_cons pe_int (pa_cons pe_int pa_nil))) (nomark _)))))))))

abbrev s_u_law_way_right : Stmt := top 63
abbrev N_u_law_way_right : List Str := ["_law_hand_here", "_law_row_here", "_law_other", "_law_told", "_law_start", "_law_end", "_law_stand_here", "_law_k", "_law_bottom", "_law_time", "_law_here", "_law_met", "_law_part"]
theorem sc_u_law_way_right : FnScope N_u_law_way_right ["_law_hand_here", "_law_row_here", "_law_other"] (defScope s_u_law_way_right) := ⟨rfl, rfl, rfl, by decide +kernel, rfl, by decide +kernel, by decide +kernel⟩
def t_u_law_way_right (K : PySem.W.Frag) : TS :=
  (tSeq (tAsg (tCall (sp_stands_between K) [] E0 (tCons (tCB (Evl.rListS K) (tCons (tVar 1) tNil)) (tCons (tVar 2) tNil))) (gName 3))
    (tSeq (tIfS (tNot (tB (tCall (sp_u_law_shape_right K) [] E0 (tCons (tVar 3) tNil)))) (tRet (tC (.bl false))) tNext)
    (tSeq (tIfS (tOr (tTest (tOp (rNeD K) (tOp (rIx K) (tOp (rIx K) (tVar 3) (tC (.int 0))) (tC (.int 2))) (tCall (sp_u_law_stand K) [] E0 (tCons (tVar 1) tNil)))) (tTest (tOp (rNeD K) (tOp (rIx K) (tOp (rIx K) (tVar 3) (tUn (rU fun i => .int (-i)) (tC (.int 1)))) (tC (.int 2))) (tCall (sp_u_law_stand K) [] E0 (tCons (tVar 2) tNil))))) (tRet (tC (.bl false))) tNext)
    (tSeq (tFor (iSeq K (tVar 3)) (gTup K 3 (gCons (gName 4) (gCons (gName 5) (gCons (gName 6) gNil)))) (tIfS (tTest (tOp (rEqD K) (tVar 4) (tVar 5))) (tIfS (tTest (tOp (rNeD K) (tCall (sp_u_law_stand K) [] E0 (tCons (tCall (sp_u_law_at K) [] E0 (tCons (tVar 1) (tCons (tVar 2) (tCons (tVar 4) tNil)))) tNil)) (tVar 6))) (tRet (tC (.bl false))) tNext) (tIfS (tNot (tB (tCall (sp_u_law_stretch_right K) [] E0 (tCons (tVar 1) (tCons (tVar 2) (tCons (tVar 4) (tCons (tVar 5) (tCons (tVar 6) tNil)))))))) (tRet (tC (.bl false))) tNext)))
    (tSeq (tFor (iRng1 (tCons (tC (.int 3)) tNil)) (gName 7) (tSeq (tAsg (tOp (rI0 fun i j => .int (i + j)) (tC (.int 1)) (tCall (sp_u_law_draw K) [] E0 (tCons (tVar 0) (tCons (tC (.int 30)) tNil)))) (gName 8))
    (tSeq (tAsg (tCall (sp_u_law_ratio K) [] E0 (tCons (tCall (sp_u_law_draw K) [] E0 (tCons (tVar 0) (tCons (tOp (rI0 fun i j => .int (i + j)) (tVar 8) (tC (.int 1))) tNil))) (tCons (tVar 8) tNil))) (gName 9))
    (tSeq (tAsg (tCall (sp_u_law_stand K) [] E0 (tCons (tCall (sp_u_law_at K) [] E0 (tCons (tVar 1) (tCons (tVar 2) (tCons (tVar 9) tNil)))) tNil)) (gName 10))
    (tSeq (tAsg (tLc (iSeq K (tVar 3)) (gName 12) (tAnd (tNot (tB (tCall (sp_u_law_is_less K) [] E0 (tCons (tVar 9) (tCons (tOp (rIx K) (tVar 12) (tC (.int 0))) tNil))))) (tAnd (tNot (tB (tCall (sp_u_law_is_less K) [] E0 (tCons (tOp (rIx K) (tVar 12) (tC (.int 1))) (tCons (tVar 9) tNil))))) (tTest (tOp (rEqD K) (tOp (rIx K) (tVar 12) (tC (.int 2))) (tVar 10))))) (tVar 12) [12]) (gName 11))
    (tIfS (tTest (tOp (rNeD K) (tCB (Evl.rLenS K) (tCons (tVar 11) tNil)) (tC (.int 1)))) (tRet (tC (.bl false))) tNext))))))
    (tRet (tC (.bl true))))))))
theorem d_u_law_way_right {P : Program} {w : World} {K : PySem.W.Frag} {mg : Str → Option Value} {base : Heap} {f : Addr} {cdv : Value} {A : Around} {outer : List Env} {s : Shared} {H : Hp} {E : XK} (T : Txt P w K mg base) (C_stands_between : Fd P w K mg base l_stands_between "stands_between" ["row", "other"] [] (sp_stands_between K)) (C_u_law_shape_right : Fd P w K mg base l_u_law_shape_right "_law_shape_right" ["_law_told"] [] (sp_u_law_shape_right K)) (C_u_law_stand : Fd P w K mg base l_u_law_stand "_law_stand" ["_law_row_here"] [] (sp_u_law_stand K)) (C_u_law_at : Fd P w K mg base l_u_law_at "_law_at" ["_law_row_here", "_law_other", "_law_time"] [] (sp_u_law_at K)) (C_u_law_stretch_right : Fd P w K mg base l_u_law_stretch_right "_law_stretch_right" ["_law_row_here", "_law_other", "_law_start", "_law_end", "_law_stand_here"] [] (sp_u_law_stretch_right K)) (C_u_law_draw : Fd P w K mg base l_u_law_draw "_law_draw" ["_law_hand_here", "_law_many"] [] (sp_u_law_draw K)) (C_u_law_ratio : Fd P w K mg base l_u_law_ratio "_law_ratio" ["_law_top", "_law_bottom"] [] (sp_u_law_ratio K)) (C_u_law_is_less : Fd P w K mg base l_u_law_is_less "_law_is_less" ["_law_one", "_law_other"] [] (sp_u_law_is_less K))
    (hr : Room m_u_law_way_right (A.deeper (envOfC "_law_way_right" (defScope s_u_law_way_right) s.heap.objs.size f cdv))) :
    PSs (cxOf (L2.CX P w) P w K mg base N_u_law_way_right "_law_way_right" (defScope s_u_law_way_right) f cdv A outer s H E) (defBody s_u_law_way_right) (t_u_law_way_right K) :=
  (pss_cons (ps_set (i := 3) sc_u_law_way_right.nd (by rfl) (Or.inl rfl) (pe_fd C_stands_between (hr.mono (by decide)) (pa_cons (pe_callTy call_list_of (by rfl) T.b_list (by decide +kernel) (pa_cons (pv 1) pa_nil)) (pa_cons (pv 2) pa_nil))))
    (pss_cons (ps_if (pt_not (pt_val (pe_fd C_u_law_shape_right (hr.mono (by decide)) (pa_cons (pv 3) pa_nil)))) (pss_one (ps_ret pe_bl)) pss_nil)
    (pss_cons (ps_if (PW.pt (pw_or (pt_cmpR (op_neD hr.units) (pe_ix ix_seq (pe_ix ix_seq (pv 3) pe_int (fun _ _ => rfl)) pe_int (fun _ _ => rfl)) (pe_fd C_u_law_stand (hr.mono (by decide)) (pa_cons (pv 1) pa_nil)) (nomark _)) (pw_or1 (pt_cmpR (op_neD hr.units) (pe_ix ix_seq (pe_ix ix_seq (pv 3) (pe_un un_neg pe_int) (fun _ _ => rfl)) pe_int (fun _ _ => rfl)) (pe_fd C_u_law_stand (hr.mono (by decide)) (pa_cons (pv 2) pa_nil)) (nomark _))))) (pss_one (ps_ret pe_bl)) pss_nil)
    (pss_cons (ps_for (passes_of rfl) rfl (pi_seq (pv 3)) (pg_tup (by rfl) (pgs_cons (pg_name (i := 4) sc_u_law_way_right.nd (by rfl) (Or.inl rfl)) (pgs_cons (pg_name (i := 5) sc_u_law_way_right.nd (by rfl) (Or.inl rfl)) (pgs_cons (pg_name (i := 6) sc_u_law_way_right.nd (by rfl) (Or.inl rfl)) pgs_nil)))) (pss_one (ps_if (pt_cmpR (op_eqD hr.units) (pv 4) (pv 5) (nomark _)) (pss_one (ps_if (pt_cmpR (op_neD hr.units) (pe_fd C_u_law_stand (hr.mono (by decide)) (pa_cons (pe_fd C_u_law_at (hr.mono (by decide)) (pa_cons (pv 1) (pa_cons (pv 2) (pa_cons (pv 4) pa_nil)))) pa_nil)) (pv 6) (nomark _)) (pss_one (ps_ret pe_bl)) pss_nil)) (pss_one (ps_if (pt_not (pt_val (pe_fd C_u_law_stretch_right (hr.mono (by decide)) (pa_cons (pv 1) (pa_cons (pv 2) (pa_cons (pv 4) (pa_cons (pv 5) (pa_cons (pv 6) pa_nil)))))))) (pss_one (ps_ret pe_bl)) pss_nil)))))
    (pss_cons (ps_for (passes_of rfl) rfl (pi_range1 (by rfl) T.b_range (pa_cons pe_int pa_nil)) (pg_name (i := 7) sc_u_law_way_right.nd (by rfl) (Or.inl rfl)) (pss_cons (ps_set (i := 8) sc_u_law_way_right.nd (by rfl) (Or.inl rfl) (pe_op op_add pe_int (pe_fd C_u_law_draw (hr.mono (by decide)) (pa_cons (pv 0) (pa_cons pe_int pa_nil)))))
    (pss_cons (ps_set (i := 9) sc_u_law_way_right.nd (by rfl) (Or.inr rfl) (pe_fd C_u_law_ratio (hr.mono (by decide)) (pa_cons (pe_fd C_u_law_draw (hr.mono (by decide)) (pa_cons (pv 0) (pa_cons (pe_op op_add (pv 8) pe_int) pa_nil))) (pa_cons (pv 8) pa_nil))))
    (pss_cons (ps_set (i := 10) sc_u_law_way_right.nd (by rfl) (Or.inr rfl) (pe_fd C_u_law_stand (hr.mono (by decide)) (pa_cons (pe_fd C_u_law_at (hr.mono (by decide)) (pa_cons (pv 1) (pa_cons (pv 2) (pa_cons (pv 9) pa_nil)))) pa_nil)))
    (pss_cons (ps_setLc (i := 11) (own := [("_law_part", 12)]) (g := (gName 12)) (by rfl) sc_u_law_way_right.nd (by rfl) (by rfl) (sw_true rfl rfl rfl (by decide +kernel)) (pi_seq (pv 3)) (blkOk_by (own := [("_law_part", 12)]) (N := N_u_law_way_right) (sc := defScope s_u_law_way_right) (by decide +kernel)) (fun _ _ _ _ _ => (pg_name (i := 12) sc_u_law_way_right.nd (by rfl) (Or.inl rfl))) (fun _ _ _ _ _ => (pts_one (PW.pt (pw_and (pt_not (pt_val (pe_fd C_u_law_is_less (hr.mono (by decide)) (pa_cons (pv 9) (pa_cons (pe_ix ix_seq (pv 12) pe_int (fun _ _ => rfl)) pa_nil))))) (pw_and (pt_not (pt_val (pe_fd C_u_law_is_less (hr.mono (by decide)) (pa_cons (pe_ix ix_seq (pv 12) pe_int (fun _ _ => rfl)) (pa_cons (pv 9) pa_nil))))) (pw_and1 (pt_cmpR (op_eqD hr.units) (pe_ix ix_seq (pv 12) pe_int (fun _ _ => rfl)) (pv 10) (nomark _)))))))) (fun _ _ _ _ _ => (pv 12)))
    (pss_one (ps_if (pt_cmpR (op_neD hr.units) (pe_callB call_len_seq (by rfl) T.b_len (by decide +kernel) (pa_cons (pv 11) pa_nil)) pe_int (nomark _)) (pss_one (ps_ret pe_bl)) pss_nil)))))))
    (pss_one (ps_ret pe_bl)))))))

abbrev s_u_law_refused : Stmt := top 64
abbrev N_u_law_refused : List Str := ["_law_row_here", "_law_other", "e"]
theorem sc_u_law_refused : FnScope N_u_law_refused ["_law_row_here", "_law_other"] (defScope s_u_law_refused) := ⟨rfl, rfl, rfl, by decide +kernel, rfl, by decide +kernel, by decide +kernel⟩
def t_u_law_refused (K : PySem.W.Frag) : TS :=
  (tSeq (fun D σ H => (fun W => (tDrop (tCallS (sp_stands_between K) (WE W) (tCons (tVar 0) (tCons (tVar 1) tNil))))) (wAs K (.ref (He.ga K "BadSlipRow")) 2 (fun a cls d => (tRet (tTup (tCons (tXf a cls d (He.ga K "BadSlipRow") "index" (tVar 2)) (tCons (tXf a cls d (He.ga K "BadSlipRow") "what" (tVar 2)) tNil))))) (fun _ _ _ _ => False) D) D σ H)
    (tRet (tC .non)))
theorem d_u_law_refused {P : Program} {w : World} {K : PySem.W.Frag} {mg : Str → Option Value} {base : Heap} {f : Addr} {cdv : Value} {A : Around} {outer : List Env} {s : Shared} {H : Hp} {E : XK} (T : Txt P w K mg base) (C_stands_between : Fd P w K mg base l_stands_between "stands_between" ["row", "other"] [] (sp_stands_between K))
    (hr : Room m_u_law_refused (A.deeper (envOfC "_law_refused" (defScope s_u_law_refused) s.heap.objs.size f cdv))) :
    PSs (cxOf (L2.CX P w) P w K mg base N_u_law_refused "_law_refused" (defScope s_u_law_refused) f cdv A outer s H E) (defBody s_u_law_refused) (t_u_law_refused K) :=
  (pss_cons (ps_try_as (i := 2) rfl rfl sc_u_law_refused.nd (by rfl) (by rfl) ⟨by rfl, by decide, .inl T.g_BadSlipRow⟩ takes0 (fun W pn xe tk hp => (pss_one (ps_expr (pe_fdS C_stands_between (hr.mono (by decide)) tk (pa_cons (pv 0) (pa_cons (pv 1) pa_nil)))))) (fun a oe cls d pn hz hf => (pss_one (ps_ret (pe_tup (pa_cons (pe_xf T.xf_BadSlipRow T.no_BadSlipRow_index hz hf (pv 2)) (pa_cons (pe_xf T.xf_BadSlipRow T.no_BadSlipRow_what hz hf (pv 2)) pa_nil)))))))
    (pss_one (ps_ret pe_non)))

abbrev s_u_law_refusals : Stmt := top 65
abbrev N_u_law_refusals : List Str := ["_law_hand_here", "_law_row_here", "_law_bad", "_law_first", "_law_second", "_law_longer"]
theorem sc_u_law_refusals : FnScope N_u_law_refusals ["_law_hand_here", "_law_row_here"] (defScope s_u_law_refusals) := ⟨rfl, rfl, rfl, by decide +kernel, rfl, by decide +kernel, by decide +kernel⟩
def t_u_law_refusals (K : PySem.W.Frag) : TS :=
  (tSeq (tAsg (tLst (tCons (tTup (tCons (tC .non) (tCons (tTup (tCons (tC (.int 0)) (tCons (tC (.str "many")) tNil))) tNil))) (tCons (tTup (tCons (tLst (tCons (tTup (tCons (tC (.int 1)) (tCons (tC (.int 2)) tNil))) (tCons (tC (.int 1)) tNil))) (tCons (tTup (tCons (tC (.int 1)) (tCons (tC (.str "ratio")) tNil))) tNil))) (tCons (tTup (tCons (tLst (tCons (tTup (tCons (tC (.int 0)) (tCons (tC (.int 1)) tNil))) (tCons (tTup (tCons (tC (.int 5)) (tCons (tC (.int 2)) tNil))) tNil))) (tCons (tTup (tCons (tC (.int 1)) (tCons (tC (.str "far")) tNil))) tNil))) (tCons (tTup (tCons (tTup tNil) (tCons (tTup (tCons (tC (.int 0)) (tCons (tC (.str "many")) tNil))) tNil))) tNil))))) (gName 2))
    (tSeq (tAsg (tCall (sp_u_law_pick K) [] E0 (tCons (tVar 0) (tCons (tVar 2) tNil))) (gName 3))
    (tSeq (tAsg (tCall (sp_u_law_pick K) [] E0 (tCons (tVar 0) (tCons (tVar 2) tNil))) (gName 4))
    (tSeq (tIfS (tOr (tTest (tOp (rNeD K) (tCall (sp_u_law_refused K) [] E0 (tCons (tOp (rIx K) (tVar 3) (tC (.int 0))) (tCons (tOp (rIx K) (tVar 4) (tC (.int 0))) tNil))) (tOp (rIx K) (tVar 3) (tC (.int 1))))) (tTest (tOp (rNeD K) (tCall (sp_u_law_refused K) [] E0 (tCons (tVar 1) (tCons (tOp (rIx K) (tVar 4) (tC (.int 0))) tNil))) (tOp (rIx K) (tVar 4) (tC (.int 1)))))) (tRet (tC (.bl false))) tNext)
    (tSeq (tAsg (tIf (tTest (tOp (rI0 fun i j => .bl (decide (i < j))) (tCB (Evl.rLenS K) (tCons (tVar 1) tNil)) (tC (.int 3)))) (tOp rCat (tCB (Evl.rListS K) (tCons (tVar 1) tNil)) (tLst (tCons (tTup (tCons (tC (.int 0)) (tCons (tC (.int 1)) tNil))) tNil))) (tSl (rSlL K) (tCB (Evl.rListS K) (tCons (tVar 1) tNil)) tNoPart (tPart (tC (.int 2))))) (gName 5))
    (tRet (tAndV (tOp (rEqD K) (tCall (sp_u_law_refused K) [] E0 (tCons (tVar 1) (tCons (tVar 5) tNil))) (tTup (tCons (tC (.int 0)) (tCons (tC (.str "many")) tNil)))) (tOp (rEqD K) (tCall (sp_u_law_refused K) [] E0 (tCons (tVar 5) (tCons (tVar 1) tNil))) (tTup (tCons (tC (.int 0)) (tCons (tC (.str "many")) tNil)))))))))))
theorem d_u_law_refusals {P : Program} {w : World} {K : PySem.W.Frag} {mg : Str → Option Value} {base : Heap} {f : Addr} {cdv : Value} {A : Around} {outer : List Env} {s : Shared} {H : Hp} {E : XK} (T : Txt P w K mg base) (C_u_law_pick : Fd P w K mg base l_u_law_pick "_law_pick" ["_law_hand_here", "_law_things"] [] (sp_u_law_pick K)) (C_u_law_refused : Fd P w K mg base l_u_law_refused "_law_refused" ["_law_row_here", "_law_other"] [] (sp_u_law_refused K))
    (hr : Room m_u_law_refusals (A.deeper (envOfC "_law_refusals" (defScope s_u_law_refusals) s.heap.objs.size f cdv))) :
    PSs (cxOf (L2.CX P w) P w K mg base N_u_law_refusals "_law_refusals" (defScope s_u_law_refusals) f cdv A outer s H E) (defBody s_u_law_refusals) (t_u_law_refusals K) :=
  (pss_cons (ps_set (i := 2) sc_u_law_refusals.nd (by rfl) (Or.inl rfl) (pe_lst (pa_cons (pe_tup (pa_cons pe_non (pa_cons (pe_tup (pa_cons pe_int (pa_cons pe_str pa_nil))) pa_nil))) (pa_cons (pe_tup (pa_cons (pe_lst (pa_cons (pe_tup (pa_cons pe_int (pa_cons pe_int pa_nil))) (pa_cons pe_int pa_nil))) (pa_cons (pe_tup (pa_cons pe_int (pa_cons pe_str pa_nil))) pa_nil))) (pa_cons (pe_tup (pa_cons (pe_lst (pa_cons (pe_tup (pa_cons pe_int (pa_cons pe_int pa_nil))) (pa_cons (pe_tup (pa_cons pe_int (pa_cons pe_int pa_nil))) pa_nil))) (pa_cons (pe_tup (pa_cons pe_int (pa_cons pe_str pa_nil))) pa_nil))) (pa_cons (pe_tup (pa_cons (pe_tup pa_nil) (pa_cons (pe_tup (pa_cons pe_int (pa_cons pe_str pa_nil))) pa_nil))) pa_nil))))))
    (pss_cons (ps_set (i := 3) sc_u_law_refusals.nd (by rfl) (Or.inl rfl) (pe_fd C_u_law_pick (hr.mono (by decide)) (pa_cons (pv 0) (pa_cons (pv 2) pa_nil))))
    (pss_cons (ps_set (i := 4) sc_u_law_refusals.nd (by rfl) (Or.inl rfl) (pe_fd C_u_law_pick (hr.mono (by decide)) (pa_cons (pv 0) (pa_cons (pv 2) pa_nil))))
    (pss_cons (ps_if (PW.pt (pw_or (pt_cmpR (op_neD hr.units) (pe_fd C_u_law_refused (hr.mono (by decide)) (pa_cons (pe_ix ix_seq (pv 3) pe_int (fun _ _ => rfl)) (pa_cons (pe_ix ix_seq (pv 4) pe_int (fun _ _ => rfl)) pa_nil))) (pe_ix ix_seq (pv 3) pe_int (fun _ _ => rfl)) (nomark _)) (pw_or1 (pt_cmpR (op_neD hr.units) (pe_fd C_u_law_refused (hr.mono (by decide)) (pa_cons (pv 1) (pa_cons (pe_ix ix_seq (pv 4) pe_int (fun _ _ => rfl)) pa_nil))) (pe_ix ix_seq (pv 4) pe_int (fun _ _ => rfl)) (nomark _))))) (pss_one (ps_ret pe_bl)) pss_nil)
    (pss_cons (ps_set (i := 5) sc_u_law_refusals.nd (by rfl) (Or.inl rfl) (pe_ifExp (pt_cmpR op_lt (pe_callB call_len_seq (by rfl) T.b_len (by decide +kernel) (pa_cons (pv 1) pa_nil)) pe_int (nomark _)) (pe_op op_cat (pe_callTy call_list_of (by rfl) T.b_list (by decide +kernel) (pa_cons (pv 1) pa_nil)) (pe_lst (pa_cons (pe_tup (pa_cons pe_int (pa_cons pe_int pa_nil))) pa_nil))) (pe_slice sl_list (pe_callTy call_list_of (by rfl) T.b_list (by decide +kernel) (pa_cons (pv 1) pa_nil)) po_none (po_some pe_int))))
    (pss_one (ps_ret (pe_and (pe_cmpR (op_eqD hr.units) (pe_fd C_u_law_refused (hr.mono (by decide)) (pa_cons (pv 1) (pa_cons (pv 5) pa_nil))) (pe_tup (pa_cons pe_int (pa_cons pe_str pa_nil))) (nomark _)) (pe_one (pe_cmpR (op_eqD hr.units) (pe_fd C_u_law_refused (hr.mono (by decide)) (pa_cons (pv 5) (pa_cons (pv 1) pa_nil))) (pe_tup (pa_cons pe_int (pa_cons pe_str pa_nil))) (nomark _)))))))))))

abbrev s_law : Stmt := top 66
abbrev N_law : List Str := ["_law_script", "_law_hand_here", "_law_turn", "_law_bounds_here", "_law_row_here", "_law_other", "_law_kept", "_law_k"]
theorem sc_law : FnScope N_law ["_law_script"] (defScope s_law) := ⟨rfl, rfl, rfl, by decide +kernel, rfl, by decide +kernel, by decide +kernel⟩
def t_law (K : PySem.W.Frag) : TS :=
  (tSeq (tAsg (tCall (sp_u_law_hand K) [] E0 (tCons (tVar 0) tNil)) (gName 1))
    (tSeq (tFor (iRng1 (tCons (tC (.int 2)) tNil)) (gName 2) (tSeq (tAsg (tCall (sp_u_law_bounds K) [] E0 (tCons (tVar 1) (tCons (tC (.int 3)) tNil))) (gName 3))
    (tSeq (tAsg (tCall (sp_u_law_row K) [] E0 (tCons (tVar 1) (tCons (tVar 3) tNil))) (gName 4))
    (tSeq (tAsg (tCall (sp_u_law_row K) [] E0 (tCons (tVar 1) (tCons (tVar 3) tNil))) (gName 5))
    (tSeq (tIfS (tTest (tOp (rEqD K) (tCall (sp_u_law_draw K) [] E0 (tCons (tVar 1) (tCons (tC (.int 4)) tNil))) (tC (.int 0)))) (tSeq (tAsg (tCall (sp_u_law_draw K) [] E0 (tCons (tVar 1) (tCons (tCB (Evl.rLenS K) (tCons (tVar 4) tNil)) tNil))) (gName 6))
    (tAsg (tCB (rTupleOf K) (tCons (tLc (iRng1 (tCons (tCB (Evl.rLenS K) (tCons (tVar 4) tNil)) tNil)) (gName 7) tYes (tIf (tTest (tOp (rI0 fun i j => .bl (decide (i ≤ j))) (tVar 7) (tVar 6))) (tOp (rIx K) (tVar 4) (tVar 7)) (tOp (rIx K) (tVar 5) (tVar 7))) [7]) tNil)) (gName 5))) tNext)
    (tSeq (tIfS (tOr (tNot (tB (tCall (sp_u_law_way_right K) [] E0 (tCons (tVar 1) (tCons (tVar 4) (tCons (tVar 5) tNil)))))) (tNot (tB (tCall (sp_u_law_refusals K) [] E0 (tCons (tVar 1) (tCons (tVar 4) tNil)))))) (tRet (tC (.bl false))) tNext)
    (tIfS (tTest (tOp (rNeD K) (tCall (sp_stands_between K) [] E0 (tCons (tVar 4) (tCons (tVar 4) tNil))) (tTup (tCons (tTup (tCons (tTup (tCons (tC (.int 0)) (tCons (tC (.int 1)) tNil))) (tCons (tTup (tCons (tC (.int 1)) (tCons (tC (.int 1)) tNil))) (tCons (tCall (sp_u_law_stand K) [] E0 (tCons (tVar 4) tNil)) tNil)))) tNil)))) (tRet (tC (.bl false))) tNext)))))))
    (tRet (tC (.bl true)))))
theorem d_law {P : Program} {w : World} {K : PySem.W.Frag} {mg : Str → Option Value} {base : Heap} {f : Addr} {cdv : Value} {A : Around} {outer : List Env} {s : Shared} {H : Hp} {E : XK} (T : Txt P w K mg base) (C_u_law_hand : Fd P w K mg base l_u_law_hand "_law_hand" ["_law_script"] [] (sp_u_law_hand K)) (C_u_law_bounds : Fd P w K mg base l_u_law_bounds "_law_bounds" ["_law_hand_here", "_law_most"] [] (sp_u_law_bounds K)) (C_u_law_row : Fd P w K mg base l_u_law_row "_law_row" ["_law_hand_here", "_law_bounds_here"] [] (sp_u_law_row K)) (C_u_law_draw : Fd P w K mg base l_u_law_draw "_law_draw" ["_law_hand_here", "_law_many"] [] (sp_u_law_draw K)) (C_u_law_way_right : Fd P w K mg base l_u_law_way_right "_law_way_right" ["_law_hand_here", "_law_row_here", "_law_other"] [] (sp_u_law_way_right K)) (C_u_law_refusals : Fd P w K mg base l_u_law_refusals "_law_refusals" ["_law_hand_here", "_law_row_here"] [] (sp_u_law_refusals K)) (C_stands_between : Fd P w K mg base l_stands_between "stands_between" ["row", "other"] [] (sp_stands_between K)) (C_u_law_stand : Fd P w K mg base l_u_law_stand "_law_stand" ["_law_row_here"] [] (sp_u_law_stand K))
    (hr : Room m_law (A.deeper (envOfC "law" (defScope s_law) s.heap.objs.size f cdv))) :
    PSs (cxOf (L2.CX P w) P w K mg base N_law "law" (defScope s_law) f cdv A outer s H E) (defBody s_law) (t_law K) :=
  (pss_cons (ps_set (i := 1) sc_law.nd (by rfl) (Or.inl rfl) (pe_fd C_u_law_hand (hr.mono (by decide)) (pa_cons (pv 0) pa_nil)))
    (pss_cons (ps_for (passes_of rfl) rfl (pi_range1 (by rfl) T.b_range (pa_cons pe_int pa_nil)) (pg_name (i := 2) sc_law.nd (by rfl) (Or.inl rfl)) (pss_cons (ps_set (i := 3) sc_law.nd (by rfl) (Or.inl rfl) (pe_fd C_u_law_bounds (hr.mono (by decide)) (pa_cons (pv 1) (pa_cons pe_int pa_nil))))
    (pss_cons (ps_set (i := 4) sc_law.nd (by rfl) (Or.inr rfl) (pe_fd C_u_law_row (hr.mono (by decide)) (pa_cons (pv 1) (pa_cons (pv 3) pa_nil))))
    (pss_cons (ps_set (i := 5) sc_law.nd (by rfl) (Or.inr rfl) (pe_fd C_u_law_row (hr.mono (by decide)) (pa_cons (pv 1) (pa_cons (pv 3) pa_nil))))
    (pss_cons (ps_if (pt_cmpR (op_eqD hr.units) (pe_fd C_u_law_draw (hr.mono (by decide)) (pa_cons (pv 1) (pa_cons pe_int pa_nil))) pe_int (nomark _)) (pss_cons (ps_set (i := 6) sc_law.nd (by rfl) (Or.inr rfl) (pe_fd C_u_law_draw (hr.mono (by decide)) (pa_cons (pv 1) (pa_cons (pe_callB call_len_seq (by rfl) T.b_len (by decide +kernel) (pa_cons (pv 4) pa_nil)) pa_nil))))
    (pss_one (ps_set (i := 5) sc_law.nd (by rfl) (Or.inr rfl) (pe_callTy call_tuple_of (by rfl) T.b_tuple (by decide +kernel) (pa_cons (pe_lc (own := [("_law_k", 7)]) (g := (gName 7)) (by rfl) sc_law.nd (pi_range1 (by rfl) T.b_range (pa_cons (pe_callB call_len_seq (by rfl) T.b_len (by decide +kernel) (pa_cons (pv 4) pa_nil)) pa_nil)) (blkOk_by (own := [("_law_k", 7)]) (N := N_law) (sc := defScope s_law) (by decide +kernel)) (fun _ _ _ _ _ => (pg_name (i := 7) sc_law.nd (by rfl) (Or.inl rfl))) (fun _ _ _ _ _ => pts_nil) (fun _ _ _ _ _ => (pe_ifExp (pt_cmpR op_le (pv 7) (pv 6) (nomark _)) (pe_ix ix_seq (pv 4) (pv 7) (fun _ _ => rfl)) (pe_ix ix_seq (pv 5) (pv 7) (fun _ _ => rfl))))) pa_nil))))) pss_nil)
    (pss_cons (ps_if (PW.pt (pw_or (pt_not (pt_val (pe_fd C_u_law_way_right (hr.mono (by decide)) (pa_cons (pv 1) (pa_cons (pv 4) (pa_cons (pv 5) pa_nil)))))) (pw_or1 (pt_not (pt_val (pe_fd C_u_law_refusals (hr.mono (by decide)) (pa_cons (pv 1) (pa_cons (pv 4) pa_nil)))))))) (pss_one (ps_ret pe_bl)) pss_nil)
    (pss_one (ps_if (pt_cmpR (op_neD hr.units) (pe_fd C_stands_between (hr.mono (by decide)) (pa_cons (pv 4) (pa_cons (pv 4) pa_nil))) (pe_tup (pa_cons (pe_tup (pa_cons (pe_tup (pa_cons pe_int (pa_cons pe_int pa_nil))) (pa_cons (pe_tup (pa_cons pe_int (pa_cons pe_int pa_nil))) (pa_cons (pe_fd C_u_law_stand (hr.mono (by decide)) (pa_cons (pv 4) pa_nil)) pa_nil)))) pa_nil)) (nomark _)) (pss_one (ps_ret pe_bl)) pss_nil))))))))
    (pss_one (ps_ret pe_bl))))

end K22
set_option Elab.async false
set_option linter.all false
set_option maxRecDepth 100000
set_option maxHeartbeats 0
namespace K22
open PySem PySem.Spec PyProof.Rows L2 My
abbrev s_init1 : Stmt := inClass (top 3) 0
abbrev s_init2 : Stmt := inClass (top 4) 0
abbrev dd (x : Str) (st : Stmt) (dfl : List He.Dv := []) : He.DefD := ⟨(x, none), x, x, defArgs st, defBody st, defScope st, dfl, []⟩
abbrev di (c q : Str) (st : Stmt) : He.DefD := ⟨(c, some "__init__"), "__init__", q, defArgs st, defBody st, defScope st, [], []⟩
def fn : List He.DefD := [
  dd "is_whole" s_is_whole [.non, .non],
  dd "is_sequence" s_is_sequence [.int 0, .non],
  dd "number_choices" s_number_choices,
  dd "number_pairs" s_number_pairs,
  dd "is_ratio" s_is_ratio,
  dd "_lowest" s_u_lowest,
  dd "make_ratio" s_make_ratio [.int 1],
  dd "plus" s_plus,
  dd "minus" s_minus,
  dd "times" s_times,
  dd "over" s_over,
  dd "compare" s_compare,
  dd "least_of" s_least_of,
  dd "greatest_of" s_greatest_of,
  dd "floor_of" s_floor_of,
  dd "broken_of" s_broken_of,
  dd "merged_ratios" s_merged_ratios,
  dd "ascending_ratios" s_ascending_ratios,
  dd "middle_of_two" s_middle_of_two,
  dd "check_slip_row" s_check_slip_row,
  dd "broken_parts" s_broken_parts,
  dd "stand_of" s_stand_of,
  dd "_distances" s_u_distances,
  dd "_whole_times" s_u_whole_times,
  dd "_row_at" s_u_row_at,
  dd "_joined" s_u_joined,
  dd "stands_between" s_stands_between,
  dd "_law_mix" s_u_law_mix,
  dd "_law_hand" s_u_law_hand,
  dd "_law_draw" s_u_law_draw,
  dd "_law_pick" s_u_law_pick,
  dd "_law_gcd" s_u_law_gcd,
  dd "_law_ratio" s_u_law_ratio,
  dd "_law_plus" s_u_law_plus,
  dd "_law_minus" s_u_law_minus,
  dd "_law_times" s_u_law_times,
  dd "_law_is_less" s_u_law_is_less,
  dd "_law_floor" s_u_law_floor,
  dd "_law_broken" s_u_law_broken,
  dd "_law_is_whole" s_u_law_is_whole,
  dd "_law_is_ratio" s_u_law_is_ratio,
  dd "_law_slip" s_u_law_slip,
  dd "_law_row" s_u_law_row,
  dd "_law_bounds" s_u_law_bounds,
  dd "_law_parts" s_u_law_parts,
  dd "_law_stand" s_u_law_stand,
  dd "_law_between" s_u_law_between,
  dd "_law_at" s_u_law_at,
  dd "_law_is_quiet" s_u_law_is_quiet,
  dd "_law_stretch_right" s_u_law_stretch_right,
  dd "_law_shape_right" s_u_law_shape_right,
  dd "_law_way_right" s_u_law_way_right,
  dd "_law_refused" s_u_law_refused,
  dd "_law_refusals" s_u_law_refusals,
  dd "law" s_law,
  di "BadRatio" "BadRatio.__init__" s_init1,
  di "BadSlipRow" "BadSlipRow.__init__" s_init2]
def fa : List He.Fa := [
  .glo "is_whole",
  .glo "is_sequence",
  .glo "number_choices",
  .glo "number_pairs",
  .glo "is_ratio",
  .glo "_lowest",
  .glo "make_ratio",
  .glo "plus",
  .glo "minus",
  .glo "times",
  .glo "over",
  .glo "compare",
  .glo "least_of",
  .glo "greatest_of",
  .glo "floor_of",
  .glo "broken_of",
  .glo "merged_ratios",
  .glo "ascending_ratios",
  .glo "middle_of_two",
  .glo "check_slip_row",
  .glo "broken_parts",
  .glo "stand_of",
  .glo "_distances",
  .glo "_whole_times",
  .glo "_row_at",
  .glo "_joined",
  .glo "stands_between",
  .glo "_law_mix",
  .glo "_law_hand",
  .glo "_law_draw",
  .glo "_law_pick",
  .glo "_law_gcd",
  .glo "_law_ratio",
  .glo "_law_plus",
  .glo "_law_minus",
  .glo "_law_times",
  .glo "_law_is_less",
  .glo "_law_floor",
  .glo "_law_broken",
  .glo "_law_is_whole",
  .glo "_law_is_ratio",
  .glo "_law_slip",
  .glo "_law_row",
  .glo "_law_bounds",
  .glo "_law_parts",
  .glo "_law_stand",
  .glo "_law_between",
  .glo "_law_at",
  .glo "_law_is_quiet",
  .glo "_law_stretch_right",
  .glo "_law_shape_right",
  .glo "_law_way_right",
  .glo "_law_refused",
  .glo "_law_refusals",
  .glo "law",
  .free "abs",
  .free "bool",
  .free "enumerate",
  .free "int",
  .free "isinstance",
  .free "len",
  .free "list",
  .free "min",
  .free "range",
  .free "tuple",
  .free "zip",
  .glo "ZERO",
  .glo "ONE",
  .glo "HALF",
  .glo "BadRatio",
  .glo "BadSlipRow",
  .exm "BadSlipRow" "BadSlipRow" true,
  .keep "BadRatio",
  .keep "BadSlipRow"]
abbrev CB (K : PySem.W.Frag) : Addr := He.ga K "BadRatio"
abbrev CS (K : PySem.W.Frag) : Addr := He.ga K "BadSlipRow"
def ex (K : PySem.W.Frag) : Bool := oexB K (CB K) && (oexB K (CS K) && (xfB K (CS K) && (He.tupB K "ZERO" [.int 0, .int 1] && (He.tupB K "ONE" [.int 1, .int 1] && (He.tupB K "HALF" [.int 1, .int 2] && (decide (PySem.W.nsIn K mainGlobals "gcd" = some (some (.builtin "math.gcd"))) && (decide (PySem.W.findIn K (.ref (CB K)) "__init__" = some (some (.ref (He.ma K (CB K) "__init__")))) && (decide (PySem.W.typeIn K (.ref (He.ma K (CB K) "__init__")) = some (.type "function")) && (decide (PySem.W.findIn K (.ref (CB K)) "what" = some none) && (decide (PySem.W.findIn K (.ref (CS K)) "__init__" = some (some (.ref (He.ma K (CS K) "__init__")))) && (decide (PySem.W.typeIn K (.ref (He.ma K (CS K) "__init__")) = some (.type "function")) && (decide (PySem.W.findIn K (.ref (CS K)) "what" = some none) && (decide (PySem.W.findIn K (.ref (CS K)) "index" = some none))))))))))))))
abbrev RWL := PySem.Challenge.rw_neverbare_k22_whole_stands_passed_on_a_w
abbrev R : PySem.W.OpenRow := PySem.W.OpenLaw.row RWL
abbrev hk : PySem.W.Hook := He.hookX 5 fa fn [] [] ex
def ob (s : PySem.W.SharedT) : He.AlX := He.obsX 5 fa fn [] [] ex (HandSHeadRun.getT s)
theorem ob_eq (s : PySem.W.SharedT) : ob s = hk.obs s.abs := He.obsX_eq (HandSHeadRun.getT_eq s)
def loose : List Str := (["PrintError", "BadRatio", "BadSlipRow", "gcd", "ZERO", "ONE", "HALF", "is_whole", "is_sequence", "number_choices", "number_pairs", "is_ratio", "_lowest", "make_ratio", "plus", "minus", "times", "over", "compare", "least_of"] : List Str) ++ (["greatest_of", "floor_of", "broken_of", "merged_ratios", "ascending_ratios", "middle_of_two", "check_slip_row", "broken_parts", "stand_of", "_distances", "_whole_times", "_row_at", "_joined", "stands_between", "_law_mix", "_law_hand", "_law_draw", "_law_pick", "_law_gcd", "_law_ratio"] : List Str) ++ (["_law_plus", "_law_minus", "_law_times", "_law_is_less", "_law_floor", "_law_broken", "_law_is_whole", "_law_is_ratio", "_law_slip", "_law_row", "_law_bounds", "_law_parts", "_law_stand", "_law_between", "_law_at", "_law_is_quiet", "_law_stretch_right", "_law_shape_right", "_law_way_right", "_law_refused", "_law_refusals"] : List Str)
section
open HandSHeadRun PyProof.Rows PySem.W
theorem run1 (w : World) : My.allEnd (stepQ (denQ tabQ) R.prog w) 6000 R.prog w (fun h s => looksF R.prog h s.abs) = some true := by
  kernel_rfl
theorem run2 (w : World) : My.allEnd (stepQ (denQ tabQ) R.prog w) 6000 R.prog w (fun _ s => seenQ (PySem.W.view R.prog [66]) loose (importedModules R.prog.main.body) (fun s => xlAt (PySem.W.view R.prog [66]) [] s && recOk R.toRowW.records s) s.abs) = some (openGood (PySem.W.view R.prog [66]) loose) := by
  kernel_rfl
theorem run3 (w : World) : My.allEnd (stepQ (denQ tabQ) R.prog w) 6000 R.prog w (fun _ s => ob s) = some (hk.val w) := by
  kernel_rfl
end
theorem run (w : World) : My.RunAll R (PySem.W.view R.prog [66]) hk ob 6000 loose w := My.allEnd_two (run1 w) (My.allEnd_two (run2 w) (run3 w))
end K22
set_option Elab.async false
set_option linter.all false
set_option maxRecDepth 100000
set_option maxHeartbeats 4000000
namespace K22
open PySem PySem.Spec PyProof.Rows L2 My StX RZ Lw
local macro_rules | `(tactic| walk_at "ed") => `(tactic| first
  | exact ed_int | exact ed_bl | exact ed_str | exact ed_non
  | exact ed_var rfl
  | (apply ed_I0; (focus walk_at "ed"); (focus walk_at "ed"))
  | (apply ed_B0; (focus walk_at "ed"); (focus walk_at "ed"))
  | (apply ed_neg; (focus walk_at "ed"))
  | (apply ed_ixT; (focus walk_at "ed"); (focus walk_at "ed"); (focus rfl))
  | (apply ed_ixL; (focus walk_at "ed"); (focus walk_at "ed"); (focus rfl))
  | (apply ed_ixO; (focus rfl); (focus walk_at "ed"); (focus rfl))
  | (apply ed_len; (focus walk_at "ed"); (focus rfl))
  | (apply ed_lenO; (focus rfl))
  | (apply ed_tup; (focus walk_at "ed"); (focus (simp only [List.length_cons, List.length_nil]; decide)))
  | (apply ed_eq; (focus walk_at "ed"); (focus walk_at "ed"); (focus rfl); (focus rfl))
  | (apply ed_ne; (focus walk_at "ed"); (focus walk_at "ed"); (focus rfl); (focus rfl))
  | (apply ed_isN; (focus walk_at "ed"))
  | (apply ed_notN; (focus walk_at "ed"))
  | (apply ed_isB; (focus walk_at "ed"); (focus walk_at "ed"))
  | (apply ed_notB; (focus walk_at "ed"); (focus walk_at "ed"))
  | (apply ed_isi; (focus walk_at "ed"); (focus first | rfl | assumption); (focus decide +kernel))
  | (apply ed_isi2; (focus walk_at "ed"); (focus first | rfl | assumption); (focus decide +kernel); (focus decide +kernel))
  | (apply ed_not; (focus walk_at "ed"))
  | (apply ed_int1; (focus walk_at "ed"))
  | (apply ed_abs; (focus walk_at "ed"))
  | (apply ed_gcd; (focus walk_at "ed"); (focus walk_at "ed"))
  | exact es_nil
  | (apply es_cons; (focus walk_at "ed"); (focus walk_at "ed"))
  | (apply eb_test; (focus walk_at "ed"))
  | (apply eb_B; (focus walk_at "ed"))
  | (apply eb_not; (focus walk_at "ed")))
section
variable {c : Fr} {D : Ends} {E : XK} {es : List Sv} {ta tb te tx : TE} {x y : Dt} {p q s e : Rat} {a b : Int} {rs os : List Rat} {n : Nat}
theorem up (n : Nat) {m : Nat} {p : Rat} (h : SzR n p) (e : n ≤ m := by decide) : SzR m p := h.mono e
theorem ed_plusR (ha : ED c ta es (ratD p)) (hb : ED c tb es (ratD q)) (hp : SzR 2000 p) (hq : SzR 2000 q) : ED c (tCall (sp_plus c.K) [] E (tCons ta (tCons tb tNil))) es (ratD (p + q)) := ed_two (f := fun p q => ratD (p + q)) ha hb hp hq
theorem ed_minusR (ha : ED c ta es (ratD p)) (hb : ED c tb es (ratD q)) (hp : SzR 2000 p) (hq : SzR 2000 q) : ED c (tCall (sp_minus c.K) [] E (tCons ta (tCons tb tNil))) es (ratD (p - q)) := ed_two (f := fun p q => ratD (p - q)) ha hb hp hq
theorem ed_timesR (ha : ED c ta es (ratD p)) (hb : ED c tb es (ratD q)) (hp : SzR 2000 p) (hq : SzR 2000 q) : ED c (tCall (sp_times c.K) [] E (tCons ta (tCons tb tNil))) es (ratD (p * q)) := ed_two (f := fun p q => ratD (p * q)) ha hb hp hq
theorem sz_sub {n m : Nat} (hp : SzR n p) (hq : SzR m q) : SzR (n + m + 1) (p - q) := by
  have e : p - q = Rat.divInt (p.num * q.den - q.num * p.den) (p.den * q.den) := by rw [← Rat.divInt_sub_divInt _ _ (den_ne p) (den_ne q), divInt_of, divInt_of]
  rw [e]
  refine .of (Int.mul_ne_zero (den_ne p) (den_ne q)) ?_ ((hp.den.mul hq.den).mono (by omega))
  exact Sz.sub (hp.num.mul hq.den) ((hq.num.mul hp.den).mono (by omega))
theorem sz_mul {n m : Nat} (hp : SzR n p) (hq : SzR m q) : SzR (n + m) (p * q) := by
  have e : p * q = Rat.divInt (p.num * q.num) (p.den * q.den) := by rw [← Rat.divInt_mul_divInt, divInt_of, divInt_of]
  rw [e]
  exact .of (Int.mul_ne_zero (den_ne p) (den_ne q)) (hp.num.mul hq.num) (hp.den.mul hq.den)
theorem sz_ov {n m k : Nat} (hp : SzR n p) (hq : SzR m q) (h0 : q.num ≠ 0) (hk : n + m ≤ k) : SzR k (ovR p q) :=
  .of (Int.mul_ne_zero (den_ne p) h0) ((hp.num.mul hq.den).mono hk) ((hp.den.mul hq.num).mono hk)
theorem sz_iR {n : Nat} (h : Sz n a) (h1 : 1 ≤ n) : SzR n (iR a) :=
  .of (by decide) h (show (1 : Nat) < 2 ^ n from Nat.lt_of_lt_of_le (by decide) (Nat.pow_le_pow_right (by decide) h1))
theorem zero_sz : SzR 1 0 := ⟨show (0 : Nat) < 2 ^ 1 by decide, show (1 : Nat) < 2 ^ 1 by decide⟩
theorem one_sz : SzR 1 1 := ⟨show (1 : Nat) < 2 ^ 1 by decide, show (1 : Nat) < 2 ^ 1 by decide⟩
theorem half_sz : SzR 2 (Rat.divInt 1 2) := .of (by decide) (show (1 : Nat) < 2 ^ 2 by decide) (show (2 : Nat) < 2 ^ 2 by decide)
theorem sem_mid (hz : ∀ H, SqT c.K H (He.ga c.K "HALF") [.int 1, .int 2]) (hp : SzR 500 p) (hq : SzR 500 q) (k : RetD c D.rt (fun d => d = ratD (midR p q))) : Cont c (t_middle_of_two c.K D) [.dat (ratD p), .dat (ratD q)] := Lw.sem_middle hz hp hq k
def chP (y z : Dt) : Bool := match y, z with
  | .tup l, .int i => decide ((l.length : Int) = 0) || (match l.getLast? with | some (.int j) => decide (j < i) | _ => false)
  | _, _ => false
def chF (y z : Dt) : Dt := match y with | .tup l => .tup (l ++ [z]) | d => d
def chs (n : Nat) : Nat → List Dt
  | 0 => [.tup []]
  | k + 1 => (chs n k).flatMap fun y => ((intsL 0 (n : Int).toNat).filter (chP y)).map (chF y)
theorem chs_good {n : Nat} : ∀ (k : Nat) {y : Dt}, y ∈ chs n k → ∃ l : List Int, y = .tup (l.map Dt.int) ∧ l.length = k
  | 0, y, h => ⟨[], List.mem_singleton.mp h, rfl⟩
  | k + 1, y, h => by
    obtain ⟨a, ha, h⟩ := List.mem_flatMap.mp h
    obtain ⟨z, hz, rfl⟩ := List.mem_map.mp h
    obtain ⟨l, rfl, hl⟩ := chs_good k ha
    obtain ⟨i, _, rfl⟩ := List.mem_map.mp (List.mem_filter.mp hz).1
    exact ⟨l ++ [_], by rw [List.map_append] <;> rfl, by rw [List.length_append, hl] <;> rfl⟩
theorem chs_len {n k : Nat} (hn : n ≤ 3) (hk : k < 2) : (chs n (k + 1)).length ≤ 100000 := match n, hn, k, hk with
  | 0, _, 0, _ | 1, _, 0, _ | 2, _, 0, _ | 3, _, 0, _ | 0, _, 1, _ | 1, _, 1, _ | 2, _, 1, _ | 3, _, 1, _ => by decide
theorem chs_two {n : Nat} (hn : n ≤ 3) : chs n 2 = (pairsN n).map npD := match n, hn with
  | 0, _ => rfl
  | 1, _ => rfl
  | 2, _ => rfl
  | 3, _ => rfl
theorem last_at {l : List Int} (h : l ≠ []) : ∃ j : Int, (l.map Dt.int).getLast? = some (.int j) ∧ atI (l.map Dt.int) (-1) = some (.int j) := by
  obtain ⟨ini, last, rfl⟩ : ∃ a b, l = a ++ [b] := by
    rcases List.eq_nil_or_concat l with z | ⟨a, b, z⟩
    · exact (h z).elim
    · exact ⟨a, b, by rw [z, List.concat_eq_append]⟩
  refine ⟨last, ?_, ?_⟩
  · rw [List.map_append, List.map_cons, List.map_nil, List.getLast?_append] <;> rfl
  · rw [List.map_append, List.map_cons, List.map_nil]
    exact My.atI_last _ _
theorem sem_nchoices (hm : c.mu = []) (hn : n ≤ 3) (k : RetD c D.rt (fun d => d = .lst ((pairsN n).map npD))) : Cont c (t_number_choices c.K D) [.dat (.int n), .dat (.int 2), .no, .no, .no, .no] := by
  refine s_asg (ed_lst hm (es_cons (ed_tup es_nil (by decide)) es_nil) (by decide)) ?_
  refine s_for (I := fun k es => ∃ o, es = [.dat (.int n), .dat (.int 2), .dat (.lst (chs n k)), o, .no, .no] ∧ (o = .no ∨ ∃ d, o = .dat d)) (f := fun y es => es.set 3 (.dat y)) (vs := [3]) (wi_rng1 (i := 2) (ed_var rfl) (by decide)) ⟨.no, rfl, .inl rfl⟩ (fun P y _ => tg_name) (fun P1 L k y es hk ⟨o, he, ho⟩ => ?_) (fun es ⟨o, he, ho⟩ => ?_)
  · subst he
    have hk2 : k < 2 := by
      have := (List.getElem?_eq_some_iff.mp hk).1
      rw [intsL_len] at this
      exact this
    refine c_asg (ED.is (EV.imp (ev_give (c := c.at P1) hm (eo_lc2T (l := chs n k) (f := fun y es => es.set 4 (.dat y)) (f1 := fun y es => es.set 5 (.dat y)) (lz := fun _ => intsL 0 (n : Int).toNat) (p := chP) (fn := chF) (wi_seq (ed_var rfl) rfl) ?_ (fun P y _ => tg_in (by decide)) (fun y hy => ⟨rfl, fun x hx => hx⟩) (fun P _ y hy => ?_) (fun P y z _ _ => tg_name) (fun y _ z _ => rfl) (fun P _ y hy z hz => ?_) fun P _ y hy z hz => ?_)) fun z ⟨l, e, e2⟩ => by rw [e, e2]) rfl) ?_
    · exact chs_len hn hk2
    · exact wi_rng1 (ed_var rfl) (by omega)
    · obtain ⟨l, rfl, hl⟩ := chs_good k hy
      obtain ⟨i, _, rfl⟩ := List.mem_map.mp hz
      refine EB.imp (eb_or (b := decide (((l.map Dt.int).length : Int) = 0)) (b' := (match (l.map Dt.int).getLast? with | some (.int j) => decide (j < _) | _ => false)) ?_ fun h0 => ?_) fun x hx => hx
      · exact ed_eqI (ed_len (x := .tup (l.map Dt.int)) (ed_var (n := 4) rfl) rfl) ed_int
      have hne : l ≠ [] := fun z => by
        subst z
        cases h0
      obtain ⟨j, h1, h2⟩ := last_at hne
      rw [h1]
      exact eb_test (ed_B0 (c := (c.at P1).at P) (f := fun i j => decide (j < i)) (ed_var (n := 5) rfl) (ed_ixT (ed_var (n := 4) rfl) (ed_neg ed_int) h2))
    · obtain ⟨l, rfl, hl⟩ := chs_good k hy
      exact ed_tup (es_star (ed_var rfl) rfl (es_cons (ed_var rfl) es_nil)) (by rw [List.length_append, List.length_map]; show l.length + 1 ≤ _; omega)
    · exact c_turn' rfl ⟨_, rfl, .inr ⟨_, rfl⟩⟩
  · subst he
    refine c_ret (ed_var rfl) ?_
    exact k.imp fun x hx => by
      rw [hx]
      show Dt.lst (chs n 2) = _
      rw [chs_two hn]
theorem sem_npairs (hn : n ≤ 3) (k : RetD c D.rt (fun d => d = .lst ((pairsN n).map npD))) : Cont c (t_number_pairs c.K D) [.dat (.int n)] :=
  c_retV (EV.imp (ev_call (es_cons (ed_var rfl) (es_cons ed_int es_nil)) ⟨_, n, rfl, hn, rfl⟩) fun z ⟨m, e, _, e2⟩ => by
    have e3 := Int.ofNat.inj (Dt.int.inj (List.cons.inj e).1)
    rw [e2, ← e3]) k
theorem pairs_lt {n : Nat} {z : Nat × Nat} (h : z ∈ pairsN n) : z.1 < z.2 ∧ z.2 < n := by
  obtain ⟨a, ha, h⟩ := List.mem_flatMap.mp h
  obtain ⟨b, hb, rfl⟩ := List.mem_map.mp h
  rw [List.mem_range] at ha hb
  show a < a + 1 + b ∧ a + 1 + b < n
  omega
theorem at_rat {k : Nat} (h : k < rs.length) : atI (rs.map ratD) (k : Int) = some (ratD (rs.getD k 0)) := by
  unfold atI
  rw [Evl.ixN_nat (by rw [List.length_map]; exact h)]
  show (rs.map ratD)[k]? = _
  rw [List.getElem?_map, List.getD_eq_getElem?_getD, List.getElem?_eq_getElem h] <;> rfl
theorem getD_mem {k : Nat} (h : k < rs.length) : rs.getD k 0 ∈ rs := by
  rw [List.getD_eq_getElem?_getD, List.getElem?_eq_getElem h]
  exact List.getElem_mem h
theorem ed_lenR {k : Nat} (h : es[k]? = some (.dat (.tup (rs.map ratD)))) : ED c (tCB (Evl.rLenS c.K) (tCons (tVar k) tNil)) es (.int rs.length) := ed_len (ed_var h) (by show some (rs.map ratD).length = _; rw [List.length_map])
theorem ed_ixR {k : Nat} {j : Nat} (h : es[k]? = some (.dat (.tup (rs.map ratD)))) (hb : ED c tb es (.int j)) (hj : j < rs.length) : ED c (tOp (rIx c.K) (tVar k) tb) es (ratD (rs.getD j 0)) := ed_ixT (ed_var h) hb (at_rat hj)
theorem len_pairs (h : n ≤ 3) : (pairsN n).length ≤ 3 := match n, h with
  | 0, _ => by decide
  | 1, _ => by decide
  | 2, _ => by decide
  | 3, _ => by decide
theorem sem_dist (hm : c.mu = []) (h : All22 rs) (k : RetO c D.rt (fun l => l = (distR rs).map ratD)) : Cont c (t_u_distances c.K D) [.dat (.tup (rs.map ratD)), .no, .no] := by
  have hnp : ED c (tCall (sp_number_pairs c.K) [] E0 (tCons (tCB (Evl.rLenS c.K) (tCons (tVar 0) tNil)) tNil)) [.dat (.tup (rs.map ratD)), .no, .no] (.lst ((pairsN rs.length).map npD)) := by
    refine EV.imp (ev_call (es_cons (ed_lenR rfl) es_nil) ⟨_, rs.length, rfl, h.1, rfl⟩) fun z ⟨n, e1, _, e2⟩ => ?_
    have e3 := Int.ofNat.inj (Dt.int.inj (List.cons.inj e1).1)
    rw [e2, ← e3]
  have lp := len_pairs h.1
  refine c_retO (EO.imp (eo_cat (el_new (eo_list (ed_var rfl) rfl)) (el_new (eo_lc (f := fun y es => match y with
    | .tup [a, b] => (es.set 1 (.dat a)).set 2 (.dat b)
    | _ => es) (p := fun _ => true) (fn := fun y => match y with
    | .tup [.int a, .int b] => ratD (rs.getD a.toNat 0 - rs.getD b.toNat 0)
    | d => d) rfl (wi_seq hnp rfl) (by rw [List.length_map]; omega) (fun P y hy => ?_) (fun y hy => ?_) (fun P _ y hy => ?_) fun P _ y hy _ => ?_)) ?_) fun l e => ?_) k
  · obtain ⟨z, hz, rfl⟩ := List.mem_map.mp hy
    exact tg_two
  · obtain ⟨z, hz, rfl⟩ := List.mem_map.mp hy
    rfl
  · obtain ⟨z, hz, rfl⟩ := List.mem_map.mp hy
    exact eb_yes
  · obtain ⟨z, hz, rfl⟩ := List.mem_map.mp hy
    obtain ⟨h1, h2⟩ := pairs_lt hz
    exact ed_minusR (ed_ixR (j := z.1) rfl (ed_var rfl) (by omega)) (ed_ixR (j := z.2) rfl (ed_var rfl) h2) ((h.2 _ (getD_mem (by omega))).mono (by decide)) ((h.2 _ (getD_mem h2)).mono (by decide))
  · rintro x y rfl rfl
    rw [List.length_map, List.length_map, List.filter_eq_self.mpr (fun _ _ => rfl), List.length_map]
    have := h.1
    omega
  · obtain ⟨x, y, rfl, rfl, rfl⟩ := e
    unfold distR
    rw [List.map_append, List.filter_eq_self.mpr (fun _ _ => rfl), List.map_map, List.map_map]
    congr 1
end
end K22
set_option Elab.async false
set_option linter.all false
set_option maxRecDepth 100000
set_option maxHeartbeats 4000000
namespace K22
open PySem PySem.Spec PyProof.Rows L2 My StX RZ Lw
local macro_rules | `(tactic| walk_at "ed") => `(tactic| first
  | exact ed_int | exact ed_bl | exact ed_str | exact ed_non
  | exact ed_var rfl
  | (apply ed_I0; (focus walk_at "ed"); (focus walk_at "ed"))
  | (apply ed_B0; (focus walk_at "ed"); (focus walk_at "ed"))
  | (apply ed_neg; (focus walk_at "ed"))
  | (apply ed_ixT; (focus walk_at "ed"); (focus walk_at "ed"); (focus rfl))
  | (apply ed_ixL; (focus walk_at "ed"); (focus walk_at "ed"); (focus rfl))
  | (apply ed_ixO; (focus rfl); (focus walk_at "ed"); (focus rfl))
  | (apply ed_len; (focus walk_at "ed"); (focus rfl))
  | (apply ed_lenO; (focus rfl))
  | (apply ed_tup; (focus walk_at "ed"); (focus (simp only [List.length_cons, List.length_nil]; decide)))
  | (apply ed_eq; (focus walk_at "ed"); (focus walk_at "ed"); (focus rfl); (focus rfl))
  | (apply ed_ne; (focus walk_at "ed"); (focus walk_at "ed"); (focus rfl); (focus rfl))
  | (apply ed_isN; (focus walk_at "ed"))
  | (apply ed_notN; (focus walk_at "ed"))
  | (apply ed_isB; (focus walk_at "ed"); (focus walk_at "ed"))
  | (apply ed_notB; (focus walk_at "ed"); (focus walk_at "ed"))
  | (apply ed_isi; (focus walk_at "ed"); (focus first | rfl | assumption); (focus decide +kernel))
  | (apply ed_isi2; (focus walk_at "ed"); (focus first | rfl | assumption); (focus decide +kernel); (focus decide +kernel))
  | (apply ed_not; (focus walk_at "ed"))
  | (apply ed_int1; (focus walk_at "ed"))
  | (apply ed_abs; (focus walk_at "ed"))
  | (apply ed_gcd; (focus walk_at "ed"); (focus walk_at "ed"))
  | exact es_nil
  | (apply es_cons; (focus walk_at "ed"); (focus walk_at "ed"))
  | (apply eb_test; (focus walk_at "ed"))
  | (apply eb_B; (focus walk_at "ed"))
  | (apply eb_not; (focus walk_at "ed")))
section
variable {c : Fr} {D : Ends} {E : XK} {es : List Sv} {ta tb te tx : TE} {x y : Dt} {p q s e : Rat} {a b : Int} {rs os : List Rat} {n : Nat}
theorem ed_over (ha : ED c ta es (ratD p)) (hb : ED c tb es (ratD q)) (hp : SzR 2000 p) (hq : SzR 2000 q) (h0 : q.num ≠ 0) : ED c (tCall (sp_over c.K) [] E (tCons ta (tCons tb tNil))) es (ratD (ovR p q)) := by
  have eo : ∀ C, overO C p q = .ok (ratD (ovR p q)) := fun C => if_neg h0
  refine ed_callX (dd := []) (es_cons ha (es_cons hb es_nil)) (fun _ => .nil) ⟨p, q, rfl, hp, hq, (eo _).symm⟩ fun o ⟨p', q', e, _, _, ey⟩ => ?_
  have e1 := ratD_inj (List.cons.inj e).1
  have e2 := ratD_inj (List.cons.inj (List.cons.inj e).2).1
  rw [ey, ← e1, ← e2, eo]
theorem ed_mk1 (ha : ED c ta es (.int a)) (hs : Sz 5000 a) : ED c (tCall (sp_make_ratio c.K) [.int 1] E (tCons ta tNil)) es (ratD (iR a)) := by
  have s1 : SzD (.int 1) := fun z e => by
    cases e
    exact show (1 : Nat) < 2 ^ 5000 from Nat.lt_of_lt_of_le (show 1 < 2 ^ 1 by decide) (Nat.pow_le_pow_right (by decide) (by decide))
  refine ed_callX (dd := [.int 1]) (es_cons ha es_nil) (fun _ => .cons (.int 1) .nil) ⟨.int a, .int 1, rfl, rfl, rfl, (fun z e => by cases e; exact hs), s1, rfl⟩ fun o ⟨p', q', e, _, _, _, _, ey⟩ => ?_
  have e' : [Dt.int a, .int 1] = [p', q'] := e
  cases e'
  rw [ey] <;> rfl
theorem ed_pickR {f : Rat → List Rat → Rat} (ha : ED c ta es (.tup [ratD p, ratD q])) (hp : SzR 100 p) (hq : SzR 100 q) : ED c (tCall (spD c.K (R_pick f)) [] E (tCons ta tNil)) es (ratD (f p [p, q])) := by
  refine ed_call (es_cons ha es_nil) ⟨_, p, [q], rfl, rfl, ?_, (by show 2 ≤ 10; decide), rfl⟩ fun y ⟨x', p', l', e, e1, _, _, ey⟩ => ?_
  · intro z hz
    rcases List.mem_cons.mp hz with rfl | hz
    · exact hp
    · cases List.mem_singleton.mp hz; exact hq
  · have ex := (List.cons.inj e).1
    subst ex
    have e2 : (p' :: l').map ratD = [p, q].map ratD := (Option.some.inj e1).symm
    have e3 := List.cons.inj (maps_inj e2)
    rw [ey, e3.1, e3.2]
theorem least_or (s e : Rat) : leastR s [s, e] = s ∨ leastR s [s, e] = e := by
  unfold leastR
  simp only [List.foldl_cons, List.foldl_nil]
  split <;> split <;> first | exact .inl rfl | exact .inr rfl
theorem great_or (s e : Rat) : greatR s [s, e] = s ∨ greatR s [s, e] = e := by
  unfold greatR
  simp only [List.foldl_cons, List.foldl_nil]
  split <;> split <;> first | exact .inl rfl | exact .inr rfl
theorem zero_sub' (q : Rat) : (0 : Rat) - q = -q := by rw [Rat.sub_eq_add_neg, Rat.zero_add]
theorem lo4 (hs : In4 s) (he : In4 e) : -4 ≤ loR s e ∧ loR s e ≤ 4 := by
  obtain ⟨_, h1, h2⟩ := hs
  obtain ⟨_, h3, h4⟩ := he
  have a : loR s e ≤ 4 := lo_le.mpr (.inl h2)
  refine ⟨Decidable.byContradiction fun z => ?_, a⟩
  have z : loR s e ≤ -5 := by omega
  rcases lo_le.mp z with z | z
  · have : s ≤ -5 := z
    grind
  · have : e ≤ -5 := z
    grind
theorem hi4 (hs : In4 s) (he : In4 e) : -4 ≤ hiR s e ∧ hiR s e ≤ 4 := by
  obtain ⟨_, h1, h2⟩ := hs
  obtain ⟨_, h3, h4⟩ := he
  have a : -4 ≤ hiR s e := le_hi.mpr (.inl h1)
  refine ⟨a, Decidable.byContradiction fun z => ?_⟩
  have z : 5 ≤ hiR s e := by omega
  rcases le_hi.mp z with z | z
  · have : (5 : Rat) ≤ s := z
    grind
  · have : (5 : Rat) ≤ e := z
    grind
theorem len_times (hs : In4 s) (he : In4 e) : (wholeT s e).length ≤ 9 := by
  unfold wholeT
  split
  · exact Nat.zero_le _
  · rw [List.length_map, List.length_range]
    have := lo4 hs he
    have := hi4 hs he
    omega
theorem num_ne {q : Rat} (h : q ≠ 0) : q.num ≠ 0 := fun z => h (Rat.num_eq_zero.mp z)
theorem sz_small {k : Nat} {a : Int} (h : -8 ≤ a ∧ a ≤ 8) (hk : 4 ≤ k := by decide) : Sz k a := by
  refine Sz.mono (n := 4) ?_ hk
  show a.natAbs < 2 ^ 4
  have : (2 : Nat) ^ 4 = 16 := rfl
  omega
theorem in_times {t : Rat} (h : t ∈ wholeT s e) : ∃ w : Int, loR s e ≤ w ∧ w ≤ hiR s e ∧ e - s ≠ 0 ∧ t = ovR (iR w - s) (e - s) := by
  unfold wholeT at h
  split at h
  · cases h
  · rename_i hne
    obtain ⟨k, hk, rfl⟩ := List.mem_map.mp h
    rw [List.mem_range] at hk
    exact ⟨_, by omega, by omega, hne, rfl⟩
theorem sz_times {t : Rat} (hs : In4 s) (he : In4 e) (h : t ∈ wholeT s e) : SzR 141 t := by
  obtain ⟨w, h1, h2, h3, rfl⟩ := in_times h
  have := lo4 hs he
  have := hi4 hs he
  exact sz_ov (n := 50) (m := 91) (sz_sub (n := 4) (m := 45) (sz_iR (sz_small (by omega)) (by decide)) hs.1) (sz_sub (n := 45) (m := 45) he.1 hs.1) (num_ne h3) (by decide)
theorem sem_times_w (hm : c.mu = []) (hz : ∀ H, SqT c.K H (He.ga c.K "ZERO") [.int 0, .int 1]) (hs : In4 s) (he : In4 e) (k : RetO c D.rt (fun l => l = (wholeT s e).map ratD)) : Cont c (t_u_whole_times c.K D) [.dat (ratD s), .dat (ratD e), .no, .no, .no, .no] := by
  have zr : ∀ {es : List Sv}, ED c (tC (.ref (He.ga c.K "ZERO"))) es (ratD 0) := ed_c fun P => .tup (hz P) (.cons (.int 0) (.cons (.int 1) .nil))
  have szs : SzR 2000 s := hs.1.mono (by decide)
  have sze : SzR 2000 e := he.1.mono (by decide)
  refine s_asg (ed_minusR (ed_var rfl) (ed_var rfl) sze szs) ?_
  refine s_when (b := decide (e - s = 0)) (EBd.is (eb_test (ed_eq (x := ratD (e - s)) (y := ratD 0) (ed_var rfl) zr rfl rfl)) eqv_ratD) (fun h => ?_) fun h => ?_
  · have e0 : wholeT s e = [] := if_pos (of_decide_eq_true h)
    rw [e0] at k
    exact c_retO (eo_lst es_nil fun l e => by rw [e]; exact Nat.zero_le _) k
  · have hne := of_decide_eq_false h
    have L := lo4 hs he
    have U := hi4 hs he
    have sl : SzR 45 (leastR s [s, e]) := by rcases least_or s e with z | z <;> rw [z] <;> first | exact hs.1 | exact he.1
    have sg : SzR 45 (greatR s [s, e]) := by rcases great_or s e with z | z <;> rw [z] <;> first | exact hs.1 | exact he.1
    have tp : ∀ {es : List Sv}, es[0]? = some (.dat (ratD s)) → es[1]? = some (.dat (ratD e)) → ED c (tTup (tCons (tVar 0) (tCons (tVar 1) tNil))) es (.tup [ratD s, ratD e]) := fun h0 h1 => ed_tup (es_cons (ed_var h0) (es_cons (ed_var h1) es_nil)) (by show 2 ≤ 100000; decide)
    refine s_asg (ED.is (ed_neg (ed_floor (ed_minusR zr (ed_pickR (f := leastR) (tp rfl rfl) (hs.1.mono (by decide)) (he.1.mono (by decide))) (up 1 zero_sz) (sl.mono (by decide))) ((sz_sub zero_sz sl).mono (by decide)))) (show Dt.int (-(flR (0 - leastR s [s, e]))) = .int (loR s e) from rfl)) ?_
    refine s_asg (ED.is (ed_floor (ed_pickR (f := greatR) (tp rfl rfl) (hs.1.mono (by decide)) (he.1.mono (by decide))) (sg.mono (by decide))) (show Dt.int (flR (greatR s [s, e])) = .int (hiR s e) from rfl)) ?_
    refine c_retO (EO.imp (eo_lc (l := intsL (loR s e) ((hiR s e + 1) - loR s e).toNat) (f := fun y es => es.set 5 (.dat y)) (p := fun _ => true) (fn := fun y => match y with
      | .int w => ratD (ovR (iR w - s) (e - s))
      | d => d) rfl (wi_rng2 (es_cons (ed_var rfl) (es_cons (ed_I0 (ed_var rfl) ed_int) es_nil)) (by omega)) (by rw [intsL_len]; omega) (fun P y _ => tg_name) (fun y _ => rfl) (fun P _ y _ => eb_yes) fun P _ y hy _ => ?_) fun l el => ?_) k
    · obtain ⟨i, hi, rfl⟩ := List.mem_map.mp hy
      rw [List.mem_range] at hi
      have sw : Sz 4 (loR s e + (i : Nat)) := sz_small (by omega) (by decide)
      exact ed_over (ed_minusR (ed_mk1 (ed_var rfl) (sw.mono (by decide))) (ed_var rfl) ((sz_iR sw (by decide)).mono (by decide)) szs) (ed_var rfl) ((sz_sub (sz_iR sw (by decide)) hs.1).mono (by decide)) ((sz_sub he.1 hs.1).mono (by decide)) (num_ne hne)
    · rw [el, List.filter_eq_self.mpr (fun _ _ => rfl)]
      have e1 : wholeT s e = (List.range (hiR s e + 1 - loR s e).toNat).map fun k => ovR (iR (loR s e + (k : Nat)) - s) (e - s) := if_neg hne
      rw [e1]
      unfold intsL
      rw [List.map_map, List.map_map] <;> rfl
theorem zip_map {α β γ : Type} (f : β → β → γ) (g : α → β) : ∀ l m : List α, List.zipWith f (l.map g) (m.map g) = List.zipWith (fun a b => f (g a) (g b)) l m
  | [], _ => rfl
  | _ :: _, [] => rfl
  | a :: l, b :: m => by
    show _ :: _ = _ :: _
    rw [zip_map f g l m]
theorem mem_zip {α : Type} {γ : Type} {f : α → α → γ} : ∀ {l m : List α} {z : γ}, z ∈ List.zipWith f l m → ∃ a b, a ∈ l ∧ b ∈ m ∧ z = f a b
  | [], _, _, h => by cases h
  | _ :: _, [], _, h => by cases h
  | a :: l, b :: m, z, h => by
    rcases List.mem_cons.mp h with rfl | h
    · exact ⟨a, b, List.mem_cons_self, List.mem_cons_self, rfl⟩
    · obtain ⟨a', b', h1, h2, h3⟩ := mem_zip h
      exact ⟨a', b', List.mem_cons_of_mem _ h1, List.mem_cons_of_mem _ h2, h3⟩
theorem map_zip {α β γ : Type} (g : β → γ) (f : α → α → β) : ∀ l m : List α, (List.zipWith f l m).map g = List.zipWith (fun a b => g (f a b)) l m
  | [], _ => rfl
  | _ :: _, [] => rfl
  | a :: l, b :: m => by
    show _ :: _ = _ :: _
    rw [map_zip g f l m]
theorem sem_rowat {t : Rat} (hm : c.mu = []) (h1 : All22 rs) (h2 : All22 os) (ht : SzR 300 t) (k : RetD c D.rt (fun d => d = .tup ((rowAt rs os t).map ratD))) : Cont c (t_u_row_at c.K D) [.dat (.tup (rs.map ratD)), .dat (.tup (os.map ratD)), .dat (ratD t), .no, .no] := by
  have el : ED c (tLc (iZipA c.K (tCons (tVar 0) (tCons (tVar 1) tNil))) (gTup c.K 2 (gCons (gName 3) (gCons (gName 4) gNil))) tYes (tCall (sp_plus c.K) [] E0 (tCons (tVar 3) (tCons (tCall (sp_times c.K) [] E0 (tCons (tVar 2) (tCons (tCall (sp_minus c.K) [] E0 (tCons (tVar 4) (tCons (tVar 3) tNil))) tNil))) tNil))) [3, 4])
      [.dat (.tup (rs.map ratD)), .dat (.tup (os.map ratD)), .dat (ratD t), .no, .no] (.lst ((rowAt rs os t).map ratD)) := by
    refine EV.imp (ev_give hm (eo_lc (f := fun y es => match y with
      | .tup [a, b] => (es.set 3 (.dat a)).set 4 (.dat b)
      | _ => es) (p := fun _ => true) (fn := fun y => match y with
      | .tup [a, b] => ratD (toR a + t * (toR b - toR a))
      | d => d) rfl (wi_zipT (es_cons (ed_var rfl) (es_cons (ed_var rfl) es_nil))) (by rw [List.length_zipWith, List.length_map]; have := h1.1; omega) (fun P y hy => ?_) (fun y hy => ?_) (fun P _ y hy => ?_) fun P _ y hy _ => ?_)) fun z ⟨l, e, el⟩ => ?_
    · obtain ⟨u, v, hu, hv, rfl⟩ := mem_zip hy
      exact tg_two
    · obtain ⟨u, v, hu, hv, rfl⟩ := mem_zip hy
      rfl
    · exact eb_yes
    · obtain ⟨u0, v0, hu0, hv0, rfl⟩ := mem_zip hy
      obtain ⟨u, hu, rfl⟩ := List.mem_map.mp hu0
      obtain ⟨v, hv, rfl⟩ := List.mem_map.mp hv0
      have su := h1.2 u hu
      have sv := h2.2 v hv
      have sd := sz_sub sv su
      have sp := sz_mul ht sd
      refine ED.is (ed_plusR (ed_var rfl) (ed_timesR (ed_var rfl) (ed_minusR (ed_var rfl) (ed_var rfl) (sv.mono (by decide)) (su.mono (by decide))) (ht.mono (by decide)) (sd.mono (by decide))) (su.mono (by decide)) (sp.mono (by decide))) ?_
      show _ = ratD (toR (ratD u) + t * (toR (ratD v) - toR (ratD u)))
      rw [toR_D, toR_D]
    · rw [e, el, List.filter_eq_self.mpr (fun _ _ => rfl), zip_map, map_zip]
      unfold rowAt
      rw [map_zip]
      refine congrArg Dt.lst ?_
      congr 1
      funext u v
      show ratD (toR (ratD u) + t * (toR (ratD v) - toR (ratD u))) = _
      rw [toR_D, toR_D]
  exact c_ret (ed_tupleOf el rfl) k
/-! stands as data -/
theorem fine_sn (l : SN) : fine (stD l) = true := by
  have h1 : bareAll (l.map cpD) = true := by
    induction l with
    | nil => rfl
    | cons p l ih => exact ih
  have h2 : PyData.canLayAll0 (pyAll (l.map cpD)) = true := by
    clear h1
    induction l with
    | nil => rfl
    | cons p l ih =>
      show (PyData.canLay0 (py (cpD p)) && PyData.canLayAll0 (pyAll (l.map cpD))) = true
      rw [ih] <;> rfl
  have h3 : PyData.depthAll (pyAll (l.map cpD)) ≤ 1 := by
    clear h1 h2
    induction l with
    | nil => exact Nat.zero_le _
    | cons p l ih =>
      show max (PyData.depth (py (cpD p))) (PyData.depthAll (pyAll (l.map cpD))) ≤ 1
      exact Nat.max_le.mpr ⟨Nat.le_refl _, ih⟩
  show (bareAll (l.map cpD) && (PyData.canLayAll0 (pyAll (l.map cpD)) && decide (PyData.depthAll (pyAll (l.map cpD)) + 1 ≤ 64))) = true
  rw [h1, h2, decide_eq_true (by omega)] <;> rfl
theorem eqv_cp (x y : Int × Nat) : eqv (cpD x) (cpD y) = decide (x = y) := by
  show ((x.1 == y.1) && (((x.2 : Int) == y.2) && true)) = _
  by_cases h : x = y
  · subst h
    rw [decide_eq_true rfl, beq_self_eq_true, beq_self_eq_true] <;> rfl
  · rw [decide_eq_false h]
    cases h1 : (x.1 == y.1) with
    | false => rfl
    | true =>
      cases h2 : ((x.2 : Int) == y.2) with
      | false => rfl
      | true => exact (h (Prod.ext (eq_of_beq h1) (Int.ofNat.inj (eq_of_beq h2)))).elim
theorem eqv_sn : ∀ a b : SN, eqv (stD a) (stD b) = decide (a = b)
  | [], [] => rfl
  | [], _ :: _ => rfl
  | _ :: _, [] => rfl
  | x :: a, y :: b => by
    show (eqv (cpD x) (cpD y) && eqv (stD a) (stD b)) = _
    rw [eqv_cp, eqv_sn a b]
    by_cases h : x = y
    · by_cases g : a = b
      · rw [decide_eq_true h, decide_eq_true g, decide_eq_true (by rw [h, g])] <;> rfl
      · rw [decide_eq_true h, decide_eq_false g, decide_eq_false (fun z => g (List.cons.inj z).2)] <;> rfl
    · rw [decide_eq_false h, decide_eq_false (fun z => h (List.cons.inj z).1)] <;> rfl
theorem join_step {l : List Tr} {k : Nat} {x : Tr} (h : l[k]? = some x) : joinL (l.take (k + 1)) = jstep (joinL (l.take k)) x := by
  unfold joinL
  rw [take_get h, List.foldl_append] <;> rfl
theorem jstep_len (f : List Tr) (x : Tr) : (jstep f x).length ≤ f.length + 1 := by
  unfold jstep
  cases h : f.getLast? with
  | none => rw [List.length_append] <;> exact Nat.le_refl _
  | some y =>
    show (if _ then _ else _ : List Tr).length ≤ _
    split
    · rw [List.length_append, List.length_dropLast, List.length_singleton]; omega
    · rw [List.length_append] <;> exact Nat.le_refl _
theorem join_len : ∀ (l : List Tr) (f : List Tr), (l.foldl jstep f).length ≤ f.length + l.length
  | [], f => Nat.le_refl _
  | x :: l, f => by
    rw [List.foldl_cons, List.length_cons]
    have h1 := join_len l (jstep f x)
    have h2 := jstep_len f x
    omega
theorem jstep_st {f : List Tr} {x y : Tr} {P : SN → Prop} (hf : ∀ z ∈ f, P z.2.2) (hx : P x.2.2) (h : y ∈ jstep f x) : P y.2.2 := by
  unfold jstep at h
  cases e : f.getLast? with
  | none =>
    rw [e] at h
    rcases List.mem_append.mp h with h | h
    · exact hf y h
    · cases List.mem_singleton.mp h; exact hx
  | some w =>
    rw [e] at h
    have h : y ∈ (if w.2.2 = x.2.2 then f.dropLast ++ [(w.1, x.2.1, x.2.2)] else f ++ [x]) := h
    split at h
    · rcases List.mem_append.mp h with h | h
      · exact hf y (List.dropLast_subset _ h)
      · cases List.mem_singleton.mp h; exact hx
    · rcases List.mem_append.mp h with h | h
      · exact hf y h
      · cases List.mem_singleton.mp h; exact hx
theorem sem_joined {l : List Tr} (hm : c.mu = []) (hl : l.length ≤ 1000) (k : RetD c D.rt (fun d => d = .tup ((joinL l).map trD))) : Cont c (t_u_joined c.K D) [.dat (.lst (l.map trD)), .no, .no, .no, .no] := by
  refine s_asgO (eo_lst es_nil fun l e => by rw [e]; exact Nat.zero_le _) fun ad ds e => ?_
  subst e
  refine s_for (I := fun k es => ∃ s2 s3 s4 : Sv, es = [.dat (.lst (l.map trD)), .own ad ((joinL (l.take k)).map trD), s2, s3, s4] ∧ Pl s2 ∧ Pl s3 ∧ Pl s4) (f := fun y es => match y with
    | .tup [x1, x2, x3] => ((es.set 2 (.dat x1)).set 3 (.dat x2)).set 4 (.dat x3)
    | _ => es) (vs := [2, 3, 4]) (wi_seq (ed_var rfl) rfl) ⟨_, _, _, rfl, .inl rfl, .inl rfl, .inl rfl⟩ (fun P y hy => ?_) (fun P1 L k y es e ⟨s2, s3, s4, h2, p2, p3, p4⟩ => ?_) fun es ⟨s2, s3, s4, h2, p2, p3, p4⟩ => ?_
  · obtain ⟨z, hz, rfl⟩ := List.mem_map.mp hy
    exact tg_three
  · subst h2
    rw [List.getElem?_map] at e
    obtain ⟨x, ex, rfl⟩ := Option.map_eq_some_iff.mp e
    have hk : k < l.length := (List.getElem?_eq_some_iff.mp ex).1
    have js := join_step ex
    have jl := join_len (l.take k) []
    rw [List.length_nil, List.length_take] at jl
    have jl : (joinL (l.take k)).length ≤ k := by show (List.foldl jstep [] _).length ≤ k; omega
    generalize joinL (l.take k) = f at *
    have tr3 : ∀ {es : List Sv}, es[2]? = some (.dat (ratD x.1)) → es[3]? = some (.dat (ratD x.2.1)) → es[4]? = some (.dat (stD x.2.2)) → ED (c.at P1) (tTup (tCons (tVar 2) (tCons (tVar 3) (tCons (tVar 4) tNil)))) es (trD x) := fun a b d => ed_tup (es_cons (ed_var a) (es_cons (ed_var b) (es_cons (ed_var d) es_nil))) (by show 3 ≤ 100000; decide)
    rcases List.eq_nil_or_concat f with rfl | ⟨m, y, rfl⟩
    · refine c_if (b := false) (EBd.is (eb_and (b := false) (b' := false) (EBd.is (eb_test (ed_B0 (ed_lenO rfl) ed_int)) rfl) fun z => by cases z) rfl) (fun z => by cases z) fun _ => ?_
      refine c_app (φ := fun d => d = trD x) rfl (tr3 rfl rfl rfl) (by decide) fun d ed => ?_
      subst ed
      refine c_turn' rfl ⟨.dat (ratD x.1), .dat (ratD x.2.1), .dat (stD x.2.2), ?_, .inr ⟨_, rfl⟩, .inr ⟨_, rfl⟩, .inr ⟨_, rfl⟩⟩
      rw [js] <;> rfl
    · rw [List.concat_eq_append] at *
      have gl : (m ++ [y]).getLast? = some y := List.getLast?_concat
      have fm : (m ++ [y]).map trD = m.map trD ++ [trD y] := by rw [List.map_append] <;> rfl
      rw [fm]
      have lastD : ∀ {es : List Sv}, es[1]? = some (.own ad (m.map trD ++ [trD y])) → ED (c.at P1) (tOp (rIx c.K) (tVar 1) (tUn (rU fun i => .int (-i)) (tC (.int 1)))) es (trD y) := fun h => ed_ixO h (ed_neg ed_int) (My.atI_last _ _)
      refine c_if (b := decide (y.2.2 = x.2.2)) (EBd.is (eb_and (b := true) (b' := decide (y.2.2 = x.2.2)) (EBd.is (eb_test (ed_B0 (ed_lenO rfl) ed_int)) (decide_eq_true (by rw [List.length_append, List.length_singleton]; omega))) fun _ => EBd.is (eb_test (ed_eq (x := stD y.2.2) (y := stD x.2.2) (ed_ixT (lastD rfl) ed_int rfl) (ed_var rfl) (fine_sn _) (fine_sn _))) (eqv_sn _ _)) rfl) (fun z => ?_) fun z => ?_
      · have z := of_decide_eq_true z
        refine c_setN (φ := fun d => d = trD (y.1, x.2.1, x.2.2)) rfl (ed_tup (es_cons (ed_ixT (lastD rfl) ed_int rfl) (es_cons (ed_var rfl) (es_cons (ed_var rfl) es_nil))) (by show 3 ≤ 100000; decide)) (ed_neg ed_int) fun d ed => ?_
        subst ed
        refine c_turn' rfl ⟨.dat (ratD x.1), .dat (ratD x.2.1), .dat (stD x.2.2), ?_, .inr ⟨_, rfl⟩, .inr ⟨_, rfl⟩, .inr ⟨_, rfl⟩⟩
        have e2 : jstep (m ++ [y]) x = m ++ [(y.1, x.2.1, x.2.2)] := by
          unfold jstep
          rw [gl]
          show (if y.2.2 = x.2.2 then _ else _) = _
          rw [if_pos z, List.dropLast_concat]
        rw [js, e2, List.map_append] <;> rfl
      · have z := of_decide_eq_false z
        refine c_app (φ := fun d => d = trD x) rfl (tr3 rfl rfl rfl) (by rw [← fm, List.length_map]; omega) fun d ed => ?_
        subst ed
        refine c_turn' rfl ⟨.dat (ratD x.1), .dat (ratD x.2.1), .dat (stD x.2.2), ?_, .inr ⟨_, rfl⟩, .inr ⟨_, rfl⟩, .inr ⟨_, rfl⟩⟩
        have e2 : jstep (m ++ [y]) x = m ++ [y] ++ [x] := by
          unfold jstep
          rw [gl]
          exact if_neg z
        rw [js, e2, List.map_append, fm] <;> rfl
  · subst h2
    rw [List.length_map, List.take_length]
    refine c_give (n := 1) rfl hm ?_
    exact c_ret (ed_tupleOf (ed_var rfl) rfl) k
end
end K22
set_option Elab.async false
set_option linter.all false
set_option maxRecDepth 100000
set_option maxHeartbeats 4000000
namespace K22
open PySem PySem.Spec PyProof.Rows L2 My StX RZ Lw
local macro_rules | `(tactic| walk_at "ed") => `(tactic| first
  | exact ed_int | exact ed_bl | exact ed_str | exact ed_non
  | exact ed_var rfl
  | (apply ed_I0; (focus walk_at "ed"); (focus walk_at "ed"))
  | (apply ed_B0; (focus walk_at "ed"); (focus walk_at "ed"))
  | (apply ed_neg; (focus walk_at "ed"))
  | (apply ed_ixT; (focus walk_at "ed"); (focus walk_at "ed"); (focus rfl))
  | (apply ed_ixL; (focus walk_at "ed"); (focus walk_at "ed"); (focus rfl))
  | (apply ed_ixO; (focus rfl); (focus walk_at "ed"); (focus rfl))
  | (apply ed_len; (focus walk_at "ed"); (focus rfl))
  | (apply ed_lenO; (focus rfl))
  | (apply ed_tup; (focus walk_at "ed"); (focus (simp only [List.length_cons, List.length_nil]; decide)))
  | (apply ed_eq; (focus walk_at "ed"); (focus walk_at "ed"); (focus rfl); (focus rfl))
  | (apply ed_ne; (focus walk_at "ed"); (focus walk_at "ed"); (focus rfl); (focus rfl))
  | (apply ed_isN; (focus walk_at "ed"))
  | (apply ed_notN; (focus walk_at "ed"))
  | (apply ed_isB; (focus walk_at "ed"); (focus walk_at "ed"))
  | (apply ed_notB; (focus walk_at "ed"); (focus walk_at "ed"))
  | (apply ed_isi; (focus walk_at "ed"); (focus first | rfl | assumption); (focus decide +kernel))
  | (apply ed_isi2; (focus walk_at "ed"); (focus first | rfl | assumption); (focus decide +kernel); (focus decide +kernel))
  | (apply ed_not; (focus walk_at "ed"))
  | (apply ed_int1; (focus walk_at "ed"))
  | (apply ed_abs; (focus walk_at "ed"))
  | (apply ed_gcd; (focus walk_at "ed"); (focus walk_at "ed"))
  | exact es_nil
  | (apply es_cons; (focus walk_at "ed"); (focus walk_at "ed"))
  | (apply eb_test; (focus walk_at "ed"))
  | (apply eb_B; (focus walk_at "ed"))
  | (apply eb_not; (focus walk_at "ed")))
/-! rows that are let -/
def Row2 (rs : List Rat) : Prop := 1 ≤ rs.length ∧ rs.length ≤ 3 ∧ ∀ q ∈ rs, SzR 22 q ∧ -2 ≤ q ∧ q ≤ 2
def In2 (rs : List Rat) : Prop := ∀ q ∈ rs, -2 ≤ q ∧ q ≤ 2
theorem m2_eq : m2 = -2 := iR_eq (-2)
theorem p2_eq : p2 = 2 := iR_eq 2
theorem word_in {q : Rat} : rowWord (ratD q) = none ↔ -2 ≤ q ∧ q ≤ 2 := by
  unfold rowWord
  rw [if_pos (ratio_of q), toR_D, m2_eq, p2_eq, less_dec, less_dec]
  by_cases h1 : q < -2
  · rw [decide_eq_true h1]
    constructor
    · intro z; cases z
    · intro z; grind
  · by_cases h2 : 2 < q
    · rw [decide_eq_true h2, decide_eq_false h1]
      constructor
      · intro z; cases z
      · intro z; grind
    · rw [decide_eq_false h1, decide_eq_false h2]
      constructor
      · intro z; grind
      · intro _; rfl
theorem scan_in : ∀ {rs : List Rat} {k : Nat}, In2 rs → scan k (rs.map ratD) = none
  | [], _, _ => rfl
  | q :: rs, k, h => by
    show (match rowWord (ratD q) with
      | some w => some (k, w)
      | none => scan (k + 1) (rs.map ratD)) = none
    rw [word_in.mpr (h q List.mem_cons_self)]
    exact scan_in fun p hp => h p (List.mem_cons_of_mem _ hp)
theorem in_scan : ∀ {rs : List Rat} {k : Nat}, scan k (rs.map ratD) = none → In2 rs
  | [], _, _ => fun _ h => by cases h
  | q :: rs, k, h => by
    have h : (match rowWord (ratD q) with
      | some w => some (k, w)
      | none => scan (k + 1) (rs.map ratD)) = none := h
    cases w : rowWord (ratD q) with
    | some w' => rw [w] at h; cases h
    | none =>
      rw [w] at h
      intro p hp
      rcases List.mem_cons.mp hp with rfl | hp
      · exact word_in.mp w
      · exact in_scan h p hp
theorem rowO_of {C : Addr} {x : Dt} {rs : List Rat} (e : itemsD x = some (rs.map ratD)) (h1 : 1 ≤ rs.length) (h3 : rs.length ≤ 3) (h : In2 rs) : rowO C x = .ok (.tup (rs.map ratD)) := by
  unfold rowO
  rw [e]
  show (if 1 ≤ (rs.map ratD).length ∧ (rs.map ratD).length ≤ 3 then _ else _) = _
  rw [if_pos (by rw [List.length_map]; exact ⟨h1, h3⟩), scan_in h]
theorem rowO_let {C : Addr} {x d : Dt} (h : rowO C x = .ok d) (hz : Row22 x) : ∃ rs, d = .tup (rs.map ratD) ∧ itemsD x = some (rs.map ratD) ∧ Row2 rs := by
  obtain ⟨rs, h1, h2, h3, h4⟩ := rowO_ok h
  refine ⟨rs, h1, h2, h3, h4, fun q hq => ⟨?_, ?_⟩⟩
  · have := hz _ h2 (ratD q) (List.mem_map.mpr ⟨q, hq, rfl⟩) (ratio_of q)
    rwa [toR_D] at this
  · unfold rowO at h
    rw [h2] at h
    have h : (if 1 ≤ (rs.map ratD).length ∧ (rs.map ratD).length ≤ 3 then (match scan 0 (rs.map ratD) with
      | some (k, w) => slipEx C k w
      | none => .ok (.tup (rs.map ratD))) else slipEx C 0 "many") = .ok d := h
    rw [if_pos (by rw [List.length_map]; exact ⟨h3, h4⟩)] at h
    cases s : scan 0 (rs.map ratD) with
    | some kw => rw [s] at h; cases h
    | none => exact in_scan s q hq
theorem rowIn_of (rs : List Rat) (h : ∀ q ∈ rs, SzR 2000 q) : RowIn (.tup (rs.map ratD)) ∧ RowIn (.lst (rs.map ratD)) := by
  have key : ∀ l, rs.map ratD = l → ∀ y ∈ l, Kins y ∧ (ratioB y = true → SzR 2000 (toR y)) := fun l e y hy => by
    subst e
    obtain ⟨q, hq, rfl⟩ := List.mem_map.mp hy
    exact ⟨kins_tup fun y hy => by
      rcases List.mem_cons.mp hy with rfl | hy
      · rfl
      · cases List.mem_singleton.mp hy; rfl, fun _ => by rw [toR_D]; exact h q hq⟩
  exact ⟨⟨rfl, (fun l e => by cases e), fun l e => key l (Option.some.inj e)⟩, rfl, (fun l e => by cases e), fun l e => key l (Option.some.inj e)⟩
theorem rowSz_of {n : Nat} (rs : List Rat) (h : ∀ q ∈ rs, SzR n q) : ∀ l, some (rs.map ratD) = some l → ∀ y ∈ l, ratioB y = true → SzR n (toR y) := fun l e y hy _ => by
  cases e
  obtain ⟨q, hq, rfl⟩ := List.mem_map.mp hy
  rw [toR_D]
  exact h q hq
section
variable {c : Fr} {D : Ends} {E : XK} {es : List Sv} {ta tb te tx : TE} {x y : Dt} {p q s e : Rat} {a b : Int} {rs os : List Rat} {n : Nat}
theorem Row2.all (h : Row2 rs) : All22 rs := ⟨h.2.1, fun q hq => (h.2.2 q hq).1⟩
theorem dist_mem (h : q ∈ distR rs) : q ∈ rs ∨ ∃ i j, i < j ∧ j < rs.length ∧ q = rs.getD i 0 - rs.getD j 0 := by
  unfold distR at h
  rcases List.mem_append.mp h with h | h
  · exact .inl h
  · obtain ⟨z, hz, rfl⟩ := List.mem_map.mp h
    obtain ⟨h1, h2⟩ := pairs_lt hz
    exact .inr ⟨z.1, z.2, h1, h2, rfl⟩
theorem dist4 (h : Row2 rs) (hq : q ∈ distR rs) : In4 q := by
  rcases dist_mem hq with m | ⟨i, j, hi, hj, rfl⟩
  · obtain ⟨s, l, u⟩ := h.2.2 q m
    exact ⟨s.mono (by decide), by grind, by grind⟩
  · obtain ⟨s, l, u⟩ := h.2.2 _ (getD_mem (rs := rs) (k := i) (by omega))
    obtain ⟨s', l', u'⟩ := h.2.2 _ (getD_mem (rs := rs) (k := j) hj)
    exact ⟨sz_sub s s', by grind, by grind⟩
theorem dist_len (h : rs.length ≤ 3) : (distR rs).length ≤ 6 := by
  unfold distR
  rw [List.length_append, List.length_map]
  have := len_pairs h
  omega
theorem flat_len {α β : Type} {f : α → List β} {m : Nat} : ∀ {l : List α}, (∀ x ∈ l, (f x).length ≤ m) → (l.flatMap f).length ≤ l.length * m
  | [], _ => Nat.zero_le _
  | x :: l, h => by
    rw [List.flatMap_cons, List.length_append, List.length_cons, Nat.add_mul, Nat.one_mul]
    have h1 := h x List.mem_cons_self
    have h2 := flat_len (l := l) fun y hy => h y (List.mem_cons_of_mem _ hy)
    omega
theorem zip_mem {z : Rat × Rat} {l m : List Rat} (h : z ∈ l.zip m) : z.1 ∈ l ∧ z.2 ∈ m := by
  obtain ⟨a, b⟩ := z
  exact ⟨(List.of_mem_zip h).1, (List.of_mem_zip h).2⟩
theorem cuts_len (h1 : Row2 rs) (h2 : Row2 os) : (cutsR rs os).length ≤ 56 := by
  unfold cutsR
  rw [List.length_append]
  have a := flat_len (m := 9) (l := (distR rs).zip (distR os)) (f := fun x => wholeT x.1 x.2) fun z hz => len_times (dist4 h1 (zip_mem hz).1) (dist4 h2 (zip_mem hz).2)
  have b := dist_len h1.2.1
  rw [List.length_zip] at a
  have c : min (distR rs).length (distR os).length * 9 ≤ 6 * 9 := Nat.mul_le_mul_right _ (by omega)
  show 2 + _ ≤ 56
  omega
theorem cuts_ok (h1 : Row2 rs) (h2 : Row2 os) {t : Rat} (h : t ∈ cutsR rs os) : SzR 141 t ∧ 0 ≤ t ∧ t ≤ 1 := by
  unfold cutsR at h
  rcases List.mem_append.mp h with h | h
  · rcases List.mem_cons.mp h with rfl | h
    · exact ⟨zero_sz.mono (by decide), by grind, by grind⟩
    · cases List.mem_singleton.mp h
      exact ⟨one_sz.mono (by decide), by grind, by grind⟩
  · obtain ⟨z, hz, ht⟩ := List.mem_flatMap.mp h
    have hh := times_iff.mp ht
    exact ⟨sz_times (dist4 h1 (zip_mem hz).1) (dist4 h2 (zip_mem hz).2) ht, hh.2.1, hh.2.2.1⟩
theorem inst_ok (h1 : Row2 rs) (h2 : Row2 os) {t : Rat} (h : t ∈ instR rs os) : SzR 141 t ∧ 0 ≤ t ∧ t ≤ 1 := cuts_ok h1 h2 (mem_sort h)
theorem inst_len (h1 : Row2 rs) (h2 : Row2 os) : (instR rs os).length ≤ 56 := Nat.le_trans len_sort (cuts_len h1 h2)
theorem row_at_ok {n : Nat} {t : Rat} (h1 : Row2 rs) (h2 : Row2 os) (ht : SzR n t) (h0 : 0 ≤ t ∧ t ≤ 1) : ∀ z ∈ rowAt rs os t, SzR (n + 68) z ∧ -2 ≤ z ∧ z ≤ 2 := fun z hz => by
  obtain ⟨u, v, hu, hv, rfl⟩ := mem_zip hz
  obtain ⟨su, lu, uu⟩ := h1.2.2 u hu
  obtain ⟨sv, lv, uv⟩ := h2.2.2 v hv
  have cv := conv_in (a := u) (b := v) (t := t) (l := -2) (h := 2) ⟨lu, uu⟩ ⟨lv, uv⟩ h0
  refine ⟨(sz_add su (sz_mul ht (sz_sub sv su))).mono (by omega), cv.1, cv.2⟩
theorem row_at_len {t : Rat} : (rowAt rs os t).length = min rs.length os.length := List.length_zipWith
theorem ed_stand {l : List Rat} (h : ED c te es (.tup (l.map ratD))) (h1 : 1 ≤ l.length) (h3 : l.length ≤ 3) (hi : In2 l) (hs : ∀ q ∈ l, SzR 1000 q) : ED c (tCall (sp_stand_of c.K) [] E (tCons te tNil)) es (stD (standN l)) := by
  have eo : ∀ C, standO C (.tup (l.map ratD)) = .ok (stD (standN l)) := fun C => by
    unfold standO
    rw [rowO_of (x := .tup (l.map ratD)) rfl h1 h3 hi]
    show Out.ok (.tup (standL ((l.map ratD).map toR))) = _
    rw [toR_map, standL_eq] <;> rfl
  refine ed_callX (dd := []) (es_cons h es_nil) (fun _ => .nil) ⟨_, rfl, (rowIn_of l fun q hq => (hs q hq).mono (by decide)).1, rowSz_of l hs, (eo _).symm⟩ fun o ⟨x', e, _, _, ey⟩ => ?_
  have e' : [Dt.tup (l.map ratD)] = [x'] := e
  cases e'
  rw [ey, eo]
theorem span_succ {S : Rat → SN} {T : List Rat} {k : Nat} : spansN S T (k + 1) = spansN S T k ++ item S T k := by
  unfold spansN
  rw [List.range_succ, List.flatMap_append, List.flatMap_cons, List.flatMap_nil, List.append_nil]
theorem item_len (S : Rat → SN) (T : List Rat) (k : Nat) : (item S T k).length ≤ 2 := by
  unfold item
  rw [List.length_append]
  split
  · exact Nat.le_refl _
  · exact Nat.le_succ _
theorem span_len (S : Rat → SN) (T : List Rat) : ∀ k, (spansN S T k).length ≤ 2 * k
  | 0 => Nat.le_refl _
  | k + 1 => by
    rw [span_succ, List.length_append]
    have := span_len S T k
    have := item_len S T k
    omega
theorem ed_distL (hm : c.mu = []) (h : ED c te es (.tup (rs.map ratD))) (ha : All22 rs) : ED c (tCall (sp_u_distances c.K) [] E (tCons te tNil)) es (.lst ((distR rs).map ratD)) :=
  EV.imp (ev_give hm (eo_call (es_cons h es_nil) ⟨_, rs, rfl, ha, rfl⟩)) fun z ⟨l, e, rs', e1, _, e2⟩ => by
    rw [e, e2, maps_inj (Dt.tup.inj (List.cons.inj e1).1)]
theorem eo_times (h1 : ED c ta es (ratD s)) (h2 : ED c tb es (ratD e)) (hs : In4 s) (he : In4 e) : EO c (tCall (sp_u_whole_times c.K) [] E (tCons ta (tCons tb tNil))) es (fun l => l = (wholeT s e).map ratD) :=
  EO.imp (eo_call (es_cons h1 (es_cons h2 es_nil)) ⟨_, s, e, rfl, hs, he, rfl⟩) fun l ⟨s', e', e1, _, _, e2⟩ => by
    rw [e2, ratD_inj (List.cons.inj e1).1, ratD_inj (List.cons.inj (List.cons.inj e1).2).1]
theorem ed_rowat {t : Rat} (h1 : ED c ta es (.tup (rs.map ratD))) (h2 : ED c tb es (.tup (os.map ratD))) (h3 : ED c te es (ratD t)) (a1 : All22 rs) (a2 : All22 os) (ht : SzR 300 t) : ED c (tCall (sp_u_row_at c.K) [] E (tCons ta (tCons tb (tCons te tNil)))) es (.tup ((rowAt rs os t).map ratD)) :=
  ed_call (es_cons h1 (es_cons h2 (es_cons h3 es_nil))) ⟨rs, os, t, rfl, a1, a2, ht, rfl⟩ fun y ⟨rs', os', t', e, _, _, _, ey⟩ => by
    have e1 := maps_inj (Dt.tup.inj (List.cons.inj e).1)
    have e2 := maps_inj (Dt.tup.inj (List.cons.inj (List.cons.inj e).2).1)
    have e3 := ratD_inj (List.cons.inj (List.cons.inj (List.cons.inj e).2).2).1
    rw [ey, e1, e2, e3]
theorem ed_mid (h1 : ED c ta es (ratD p)) (h2 : ED c tb es (ratD q)) (hp : SzR 500 p) (hq : SzR 500 q) : ED c (tCall (sp_middle_of_two c.K) [] E (tCons ta (tCons tb tNil))) es (ratD (midR p q)) :=
  ed_call (es_cons h1 (es_cons h2 es_nil)) ⟨p, q, rfl, hp, hq, rfl⟩ fun y ⟨p', q', e, _, _, ey⟩ => by
    rw [ey, ratD_inj (List.cons.inj e).1, ratD_inj (List.cons.inj (List.cons.inj e).2).1]
theorem trD_inj_st {a b : SN} (h : stD a = stD b) : a = b := by
  have : eqv (stD a) (stD b) = true := by rw [h, eqv_sn, decide_eq_true rfl]
  rw [eqv_sn] at this
  exact of_decide_eq_true this
theorem trD_inj {x y : Tr} (h : trD x = trD y) : x = y := by
  have h1 := List.cons.inj (Dt.tup.inj h)
  have h2 := List.cons.inj h1.2
  have h3 := List.cons.inj h2.2
  exact Prod.ext (ratD_inj h1.1) (Prod.ext (ratD_inj h2.1) (trD_inj_st h3.1))
theorem trs_inj : ∀ {l m : List Tr}, l.map trD = m.map trD → l = m
  | [], [], _ => rfl
  | [], _ :: _, h => by cases h
  | _ :: _, [], h => by cases h
  | p :: l, q :: m, h => by
    have h' := List.cons.inj h
    rw [trD_inj h'.1, trs_inj h'.2]
theorem ed_joined {l : List Tr} (h : ED c te es (.lst (l.map trD))) (hl : l.length ≤ 1000) : ED c (tCall (sp_u_joined c.K) [] E (tCons te tNil)) es (.tup ((joinL l).map trD)) :=
  ed_call (es_cons h es_nil) ⟨l, rfl, hl, rfl⟩ fun y ⟨l', e, _, ey⟩ => by
    rw [ey, trs_inj (Dt.lst.inj (List.cons.inj e).1)]
end
end K22
set_option Elab.async false
set_option linter.all false
set_option maxRecDepth 100000
set_option maxHeartbeats 4000000
namespace K22
open PySem PySem.Spec PyProof.Rows L2 My StX RZ Lw
local macro_rules | `(tactic| walk_at "ed") => `(tactic| first
  | exact ed_int | exact ed_bl | exact ed_str | exact ed_non
  | exact ed_var rfl
  | (apply ed_I0; (focus walk_at "ed"); (focus walk_at "ed"))
  | (apply ed_B0; (focus walk_at "ed"); (focus walk_at "ed"))
  | (apply ed_neg; (focus walk_at "ed"))
  | (apply ed_ixT; (focus walk_at "ed"); (focus walk_at "ed"); (focus rfl))
  | (apply ed_ixL; (focus walk_at "ed"); (focus walk_at "ed"); (focus rfl))
  | (apply ed_ixO; (focus rfl); (focus walk_at "ed"); (focus rfl))
  | (apply ed_len; (focus walk_at "ed"); (focus rfl))
  | (apply ed_lenO; (focus rfl))
  | (apply ed_tup; (focus walk_at "ed"); (focus (simp only [List.length_cons, List.length_nil]; decide)))
  | (apply ed_eq; (focus walk_at "ed"); (focus walk_at "ed"); (focus rfl); (focus rfl))
  | (apply ed_ne; (focus walk_at "ed"); (focus walk_at "ed"); (focus rfl); (focus rfl))
  | (apply ed_isN; (focus walk_at "ed"))
  | (apply ed_notN; (focus walk_at "ed"))
  | (apply ed_isB; (focus walk_at "ed"); (focus walk_at "ed"))
  | (apply ed_notB; (focus walk_at "ed"); (focus walk_at "ed"))
  | (apply ed_isi; (focus walk_at "ed"); (focus first | rfl | assumption); (focus decide +kernel))
  | (apply ed_isi2; (focus walk_at "ed"); (focus first | rfl | assumption); (focus decide +kernel); (focus decide +kernel))
  | (apply ed_not; (focus walk_at "ed"))
  | (apply ed_int1; (focus walk_at "ed"))
  | (apply ed_abs; (focus walk_at "ed"))
  | (apply ed_gcd; (focus walk_at "ed"); (focus walk_at "ed"))
  | exact es_nil
  | (apply es_cons; (focus walk_at "ed"); (focus walk_at "ed"))
  | (apply eb_test; (focus walk_at "ed"))
  | (apply eb_B; (focus walk_at "ed"))
  | (apply eb_not; (focus walk_at "ed")))
section
variable {c : Fr} {D : Ends} {E : XK} {es : List Sv} {ta tb te tx : TE} {x y : Dt} {rs os : List Rat}
def cutTo (rs os : List Rat) (k : Nat) : List Rat := [0, 1] ++ (((distR rs).zip (distR os)).take k).flatMap fun x => wholeT x.1 x.2
theorem cut_succ {k : Nat} {z : Rat × Rat} (h : ((distR rs).zip (distR os))[k]? = some z) : cutTo rs os (k + 1) = cutTo rs os k ++ wholeT z.1 z.2 := by
  unfold cutTo
  rw [List.take_add_one, h, Option.toList_some, List.flatMap_append, List.flatMap_cons, List.flatMap_nil, List.append_nil, List.append_assoc]
theorem cut_len (h1 : Row2 rs) (h2 : Row2 os) (k : Nat) : (cutTo rs os k).length ≤ 56 := by
  unfold cutTo
  rw [List.length_append]
  have a := flat_len (m := 9) (l := ((distR rs).zip (distR os)).take k) (f := fun x => wholeT x.1 x.2) fun z hz => by
    have hz := List.mem_of_mem_take hz
    exact len_times (dist4 h1 (zip_mem hz).1) (dist4 h2 (zip_mem hz).2)
  have b := dist_len h1.2.1
  have d : (((distR rs).zip (distR os)).take k).length ≤ 6 := by
    rw [List.length_take, List.length_zip]
    omega
  have e : (((distR rs).zip (distR os)).take k).length * 9 ≤ 6 * 9 := Nat.mul_le_mul_right _ d
  show 2 + _ ≤ 56
  omega
theorem zipD (l m : List Rat) : List.zipWith (fun a b => Dt.tup [a, b]) (l.map ratD) (m.map ratD) = (l.zip m).map fun x => Dt.tup [ratD x.1, ratD x.2] := by
  rw [zip_map]
  unfold List.zip
  rw [map_zip]
theorem btw_ok {C : Addr} (h1 : rowO C x = .ok (.tup (rs.map ratD))) (h2 : rowO C y = .ok (.tup (os.map ratD))) (hl : rs.length = os.length) : btwO C x y = .ok (.tup ((btwR rs os).map trD)) := by
  unfold btwO
  rw [h1, h2]
  show (if (rs.map ratD).length = (os.map ratD).length then Out.ok (.tup ((btwR ((rs.map ratD).map toR) ((os.map ratD).map toR)).map trD)) else slipEx C 0 "many") = _
  rw [if_pos (by rw [List.length_map, List.length_map]; exact hl), toR_map, toR_map]
theorem btw_no {C : Addr} (h1 : rowO C x = .ok (.tup (rs.map ratD))) (h2 : rowO C y = .ok (.tup (os.map ratD))) (hl : rs.length ≠ os.length) : btwO C x y = slipEx C 0 "many" := by
  unfold btwO
  rw [h1, h2]
  show (if (rs.map ratD).length = (os.map ratD).length then Out.ok (.tup ((btwR ((rs.map ratD).map toR) ((os.map ratD).map toR)).map trD)) else slipEx C 0 "many") = _
  rw [if_neg (by rw [List.length_map, List.length_map]; exact hl)]
theorem sem_btw (hm : c.mu = []) (hZ : ∀ H, SqT c.K H (He.ga c.K "ZERO") [.int 0, .int 1]) (hO : ∀ H, SqT c.K H (He.ga c.K "ONE") [.int 1, .int 1]) (hx : RowIn x) (hy : RowIn y) (zx : Row22 x) (zy : Row22 y)
    (k : RetD c D.rt (fun d => btwO (He.ga c.K "BadSlipRow") x y = .ok d)) (kx : XtD c E (fun o => o = btwO (He.ga c.K "BadSlipRow") x y)) :
    Cont c (t_stands_between c.K E D) [.dat x, .dat y, .no, .no, .no, .no, .no, .no, .no, .no, .no, .no, .no] := by
  refine s_asgV (ev_callE (Ro := fun o => o = btwO (He.ga c.K "BadSlipRow") x y) (dd := []) (es_cons (ed_var rfl) es_nil) (fun _ => .nil) ⟨_, x, rfl, hx, rfl⟩ (fun C' ns fd ⟨x', e, _, eo⟩ => ?_) kx) fun d ⟨x', e, _, eo⟩ => ?_
  · have e' : [x] = [x'] := e
    cases e'
    unfold btwO
    rw [← eo] <;> rfl
  have e' : [x] = [x'] := e
  cases e'
  obtain ⟨rs, rfl, ex, R1⟩ := rowO_let eo.symm zx
  refine s_asgV (ev_callE (Ro := fun o => o = btwO (He.ga c.K "BadSlipRow") x y) (dd := []) (es_cons (ed_var rfl) es_nil) (fun _ => .nil) ⟨_, y, rfl, hy, rfl⟩ (fun C' ns fd ⟨x', e, _, eo2⟩ => ?_) kx) fun d ⟨x', e, _, eo2⟩ => ?_
  · have e' : [y] = [x'] := e
    cases e'
    unfold btwO
    rw [← eo, ← eo2] <;> rfl
  have e' : [y] = [x'] := e
  cases e'
  obtain ⟨os, rfl, ey, R2⟩ := rowO_let eo2.symm zy
  refine s_when (b := !eqv (.int rs.length) (.int os.length)) (eb_test (ed_ne (ed_lenR rfl) (ed_lenR rfl) rfl rfl)) (fun h => ?_) fun h => ?_
  · rw [eqv_int] at h
    have hl : rs.length ≠ os.length := fun z => by rw [z, decide_eq_true rfl] at h; cases h
    refine c_raise2 (D := D) (es_cons ed_int (es_cons ed_str es_nil)) kx ?_
    rw [btw_no eo.symm eo2.symm hl] <;> rfl
  rw [eqv_int] at h
  have hl : rs.length = os.length := Decidable.byContradiction fun z => by rw [decide_eq_false (fun w => z (by omega))] at h; cases h
  have bo := btw_ok eo.symm eo2.symm hl
  have szi := fun t => inst_ok (t := t) R1 R2
  have leni := inst_len R1 R2
  refine s_asgO (eo_lst (es_cons (ed_c (d := ratD 0) fun P => .tup (hZ P) (.cons (.int 0) (.cons (.int 1) .nil))) (es_cons (ed_c (d := ratD 1) fun P => .tup (hO P) (.cons (.int 1) (.cons (.int 1) .nil))) es_nil)) fun l e => by rw [e]; show 2 ≤ 100000; decide) fun ad ds e => ?_
  subst e
  refine s_for (I := fun k es => ∃ s5 s6 : Sv, es = [.dat x, .dat y, .dat (.tup (rs.map ratD)), .dat (.tup (os.map ratD)), .own ad ((cutTo rs os k).map ratD), s5, s6, .no, .no, .no, .no, .no, .no] ∧ Pl s5 ∧ Pl s6) (f := fun y es => match y with
    | .tup [x1, x2] => (es.set 5 (.dat x1)).set 6 (.dat x2)
    | _ => es) (vs := [5, 6]) (wi_zipL (es_cons (ed_distL hm (ed_var rfl) R1.all) (es_cons (ed_distL hm (ed_var rfl) R2.all) es_nil))) ⟨_, _, rfl, .inl rfl, .inl rfl⟩ (fun P y hy => ?_) (fun P1 L k y es e ⟨s5, s6, h2, p5, p6⟩ => ?_) fun es ⟨s5, s6, h2, p5, p6⟩ => ?_
  · rw [zipD] at hy
    obtain ⟨z, hz, rfl⟩ := List.mem_map.mp hy
    exact tg_two
  · subst h2
    rw [zipD, List.getElem?_map] at e
    obtain ⟨z, ez, rfl⟩ := Option.map_eq_some_iff.mp e
    have hz := zip_mem (List.mem_of_getElem? ez)
    refine c_ext (ρ := fun l => l = (wholeT z.1 z.2).map ratD) rfl (eo_times (ed_var rfl) (ed_var rfl) (dist4 R1 hz.1) (dist4 R2 hz.2)) (fun l e => ?_) fun l e => ?_
    · rw [e, List.length_map, List.length_map]
      have := cut_len R1 R2 k
      have := len_times (dist4 R1 hz.1) (dist4 R2 hz.2)
      omega
    · subst e
      refine c_turn' rfl ⟨.dat (ratD z.1), .dat (ratD z.2), ?_, .inr ⟨_, rfl⟩, .inr ⟨_, rfl⟩⟩
      rw [cut_succ ez, List.map_append] <;> rfl
  · subst h2
    have ec : cutTo rs os (List.zipWith (fun a b => Dt.tup [a, b]) ((distR rs).map ratD) ((distR os).map ratD)).length = cutsR rs os := by
      rw [zipD, List.length_map]
      unfold cutTo cutsR
      rw [List.take_length]
    rw [ec]
    refine c_give (n := 4) rfl hm ?_
    have cl := cuts_len R1 R2
    refine s_asg (ed_asc (n := 8) (l := cutsR rs os) (ed_var rfl) (Nat.le_trans cl (by decide)) (by omega) fun q hq => (cuts_ok R1 R2 hq).1.mono (by decide)) ?_
    refine s_asgO (eo_lst es_nil fun l e => by rw [e]; exact Nat.zero_le _) fun ad2 ds e => ?_
    subst e
    show Cont c _ [.dat x, .dat y, .dat (.tup (rs.map ratD)), .dat (.tup (os.map ratD)), .dat (.lst ((cutsR rs os).map ratD)), s5, s6, .dat (.tup ((instR rs os).map ratD)), .own ad2 [], .no, .no, .no, .no]
    have hb : btwR rs os = joinL (spansN (fun t => standN (rowAt rs os t)) (instR rs os) (instR rs os).length) := rfl
    rw [hb] at bo
    clear hb ec
    generalize instR rs os = T at *
    refine s_for (I := fun k es => ∃ s9 s10 s11 s12 : Sv, es = [.dat x, .dat y, .dat (.tup (rs.map ratD)), .dat (.tup (os.map ratD)), .dat (.lst ((cutsR rs os).map ratD)), s5, s6, .dat (.tup (T.map ratD)), .own ad2 ((spansN (fun t => standN (rowAt rs os t)) T k).map trD), s9, s10, s11, s12]) (f := fun y es => match y with
      | .tup [x1, x2] => (es.set 9 (.dat x1)).set 10 (.dat x2)
      | _ => es) (vs := [9, 10]) (wi_enumA (ed_var rfl) rfl) ⟨_, _, _, _, rfl⟩ (fun P y hy => ?_) (fun P1 L k y es e ⟨s9, s10, s11, s12, h2⟩ => ?_) fun es ⟨s9, s10, s11, s12, h2⟩ => ?_
    · obtain ⟨i, hi, rfl⟩ := List.mem_mapIdx.mp hy
      exact tg_two
    · subst h2
      rw [List.getElem?_mapIdx, List.getElem?_map] at e
      obtain ⟨t, et, rfl⟩ : ∃ t, T[k]? = some t ∧ Dt.tup [.int (k : Nat), ratD t] = y := by
        cases q : T[k]? with
        | none => rw [q] at e; cases e
        | some t => rw [q] at e; exact ⟨t, rfl, Option.some.inj e⟩
      have hk := (List.getElem?_eq_some_iff.mp et).1
      have gt : T.getD k 0 = t := by rw [List.getD_eq_getElem?_getD, et] <;> rfl
      obtain ⟨st, t0, t1⟩ := szi t (List.mem_of_getElem? et)
      have sl := span_len (fun t => standN (rowAt rs os t)) T k
      have stand : ∀ {es : List Sv} {te : TE} {t : Rat} {n : Nat}, es[2]? = some (.dat (.tup (rs.map ratD))) → es[3]? = some (.dat (.tup (os.map ratD))) → ED (c.at P1) te es (ratD t) → SzR n t → n ≤ 300 → 0 ≤ t ∧ t ≤ 1 → ED (c.at P1) (tCall (sp_stand_of c.K) [] E0 (tCons (tCall (sp_u_row_at c.K) [] E0 (tCons (tVar 2) (tCons (tVar 3) (tCons te tNil)))) tNil)) es (stD (standN (rowAt rs os t))) := fun {es te t n} a b d s hn h01 => by
        have ro := row_at_ok R1 R2 s h01
        refine ed_stand (c := c.at P1) (ed_rowat (c := c.at P1) (ed_var a) (ed_var b) d R1.all R2.all (s.mono hn)) ?_ ?_ (fun q hq => (ro q hq).2) fun q hq => (ro q hq).1.mono (by omega)
        · rw [row_at_len]; have := R1.1; have := R2.1; omega
        · rw [row_at_len]; have := R1.2.1; omega
      refine s_when (b := decide ((0 : Int) < (k : Nat))) (eb_test (ed_B0 (ed_var rfl) ed_int)) (fun h => ?_) fun h => ?_
      · have h := of_decide_eq_true h
        have hk1 : k - 1 < T.length := by omega
        have gp := List.getElem?_eq_getElem hk1
        have gpd : T.getD (k - 1) 0 = T[k - 1] := by rw [List.getD_eq_getElem?_getD, gp] <;> rfl
        obtain ⟨sp, p0, p1⟩ := szi _ (List.getElem_mem hk1)
        rw [← gpd] at sp p0 p1
        refine s_asg (d := ratD (T.getD (k - 1) 0)) (ed_ixT (ed_var rfl) (ED.is (ed_I0 (ed_var rfl) ed_int) (show Dt.int ((k : Nat) - 1) = .int ((k - 1 : Nat) : Int) from congrArg Dt.int (by omega))) (at_rat hk1)) ?_
        refine s_asg (ed_mid (c := c.at P1) (ed_var rfl) (ed_var rfl) (sp.mono (by decide)) (st.mono (by decide))) ?_
        have hm01 : 0 ≤ midR (T.getD (k - 1) 0) t ∧ midR (T.getD (k - 1) 0) t ≤ 1 := by
          rw [mid_eq]
          constructor <;> grind
        have szm : SzR 285 (midR (T.getD (k - 1) 0) t) := sz_mul (sz_add sp st) half_sz
        refine c_app (φ := fun d => d = trD (T.getD (k - 1) 0, t, standN (rowAt rs os (midR (T.getD (k - 1) 0) t)))) rfl (ed_tup (es_cons (ed_var rfl) (es_cons (ed_var rfl) (es_cons (stand rfl rfl (ed_var rfl) szm (by decide) hm01) es_nil))) (by show 3 ≤ 100000; decide)) (by rw [List.length_map]; omega) fun d ed => ?_
        subst ed
        refine c_app (φ := fun d => d = trD (t, t, standN (rowAt rs os t))) rfl (ed_tup (es_cons (ed_var rfl) (es_cons (ed_var rfl) (es_cons (stand rfl rfl (ed_var rfl) st (by decide) ⟨t0, t1⟩) es_nil))) (by show 3 ≤ 100000; decide)) (by rw [List.length_append, List.length_map, List.length_singleton]; omega) fun d ed => ?_
        subst ed
        refine c_turn' rfl ⟨.dat (.int (k : Nat)), .dat (ratD t), .dat (ratD (T.getD (k - 1) 0)), .dat (ratD (midR (T.getD (k - 1) 0) t)), ?_⟩
        rw [span_succ, List.map_append]
        unfold item
        rw [if_pos (by omega), gt, List.map_append, ← List.append_assoc] <;> rfl
      · have h := of_decide_eq_false h
        have hk0 : k = 0 := by omega
        refine c_app (φ := fun d => d = trD (t, t, standN (rowAt rs os t))) rfl (ed_tup (es_cons (ed_var rfl) (es_cons (ed_var rfl) (es_cons (stand rfl rfl (ed_var rfl) st (by decide) ⟨t0, t1⟩) es_nil))) (by show 3 ≤ 100000; decide)) (by rw [List.length_map]; omega) fun d ed => ?_
        subst ed
        refine c_turn' rfl ⟨.dat (.int (k : Nat)), .dat (ratD t), s11, s12, ?_⟩
        rw [span_succ, List.map_append]
        unfold item
        rw [if_neg (by omega), gt] <;> rfl
    · subst h2
      rw [List.length_mapIdx, List.length_map]
      refine c_give (n := 8) rfl hm ?_
      have sl := span_len (fun t => standN (rowAt rs os t)) T T.length
      refine c_ret (ed_joined (ed_var rfl) (by omega)) (RetD.imp k fun d ed => ?_)
      rw [ed, bo]
end
end K22
set_option Elab.async false
set_option linter.all false
set_option maxRecDepth 100000
set_option maxHeartbeats 4000000
namespace K22
open PySem PySem.Spec PyProof.Rows L2 My StX RZ Lw
local macro_rules | `(tactic| walk_at "ed") => `(tactic| first
  | exact ed_int | exact ed_bl | exact ed_str | exact ed_non
  | exact ed_var rfl
  | (apply ed_I0; (focus walk_at "ed"); (focus walk_at "ed"))
  | (apply ed_B0; (focus walk_at "ed"); (focus walk_at "ed"))
  | (apply ed_neg; (focus walk_at "ed"))
  | (apply ed_ixT; (focus walk_at "ed"); (focus walk_at "ed"); (focus rfl))
  | (apply ed_ixL; (focus walk_at "ed"); (focus walk_at "ed"); (focus rfl))
  | (apply ed_ixO; (focus rfl); (focus walk_at "ed"); (focus rfl))
  | (apply ed_len; (focus walk_at "ed"); (focus rfl))
  | (apply ed_lenO; (focus rfl))
  | (apply ed_tup; (focus walk_at "ed"); (focus (simp only [List.length_cons, List.length_nil]; decide)))
  | (apply ed_eq; (focus walk_at "ed"); (focus walk_at "ed"); (focus rfl); (focus rfl))
  | (apply ed_ne; (focus walk_at "ed"); (focus walk_at "ed"); (focus rfl); (focus rfl))
  | (apply ed_isN; (focus walk_at "ed"))
  | (apply ed_notN; (focus walk_at "ed"))
  | (apply ed_isB; (focus walk_at "ed"); (focus walk_at "ed"))
  | (apply ed_notB; (focus walk_at "ed"); (focus walk_at "ed"))
  | (apply ed_isi; (focus walk_at "ed"); (focus first | rfl | assumption); (focus decide +kernel))
  | (apply ed_isi2; (focus walk_at "ed"); (focus first | rfl | assumption); (focus decide +kernel); (focus decide +kernel))
  | (apply ed_not; (focus walk_at "ed"))
  | (apply ed_int1; (focus walk_at "ed"))
  | (apply ed_abs; (focus walk_at "ed"))
  | (apply ed_gcd; (focus walk_at "ed"); (focus walk_at "ed"))
  | exact es_nil
  | (apply es_cons; (focus walk_at "ed"); (focus walk_at "ed"))
  | (apply eb_test; (focus walk_at "ed"))
  | (apply eb_B; (focus walk_at "ed"))
  | (apply eb_not; (focus walk_at "ed")))
section
variable {c : Fr} {D : Ends} {E : XK} {es : List Sv} {ta tb te tx : TE} {ts : TA} {x y : Dt} {p q s e : Rat} {a b : Int} {rs os : List Rat} {n : Nat} {ad : Addr} {l : List Dt}
theorem ed_lstH (hm : c.mu = [ad]) (hk : es[n]? = some (.hand ad)) (h : EDs c ts es l) (hl : l.length ≤ 100000) : ED c (tLst ts) es (.lst l) :=
  EV.imp (ev_giveH hm hk (eo_lst h fun _ e => by rw [e]; exact hl)) fun z ⟨m, e1, e2⟩ => by rw [e1, e2]
theorem sem_lpick (hx : itemsD x = some l) (h0 : 0 < l.length) (h1 : l.length ≤ 1000) (hm : c.mu = [ad]) (k : RetH c ad D.rt (fun d => d ∈ l)) : Cont c (t_u_law_pick c.K D) [.hand ad, .dat x] := by
  have el : lenD x = some l.length := by cases x <;> first | (cases hx; rfl) | cases hx
  refine c_retHh (n := 0) (ev_ixD (ed_var rfl) hx (ev_draw (k := 0) rfl (ed_len (ed_var rfl) el) (by omega) ?_) fun z hz => hz) k hm rfl
  have : (2 : Int) ^ 64 = 18446744073709551616 := rfl
  omega
theorem abs_nat (a : Int) : (if a < 0 then -a else a) = (a.natAbs : Int) := by split <;> omega
theorem half_step {x y : Nat} (h : y < x) (h0 : 0 < y) : 2 * (y * (x % y)) ≤ x * y := by
  have h1 := Nat.mod_lt x h0
  have h2 := Nat.div_add_mod x y
  have h3 : 1 ≤ x / y := Nat.div_pos (Nat.le_of_lt h) h0
  have h4 : y * 1 ≤ y * (x / y) := Nat.mul_le_mul_left y h3
  have h5 : 2 * (x % y) ≤ x := by omega
  calc 2 * (y * (x % y)) = (2 * (x % y)) * y := by rw [Nat.mul_comm y, ← Nat.mul_assoc]
    _ ≤ x * y := Nat.mul_le_mul_right y h5
theorem sem_lgcd (ha : Sz 1900 a) (hb : Sz 1900 b) (k : RetD c D.rt (fun d => d = .int ((Nat.gcd a.natAbs b.natAbs : Nat) : Int))) : Cont c (t_u_law_gcd c.K D) [.dat (.int a), .dat (.int b), .no, .no] := by
  refine s_asg (ED.is (ed_abs (ed_var rfl)) (congrArg Dt.int (abs_nat a))) ?_
  refine s_asg (ED.is (ed_abs (ed_var rfl)) (congrArg Dt.int (abs_nat b))) ?_
  have fin : ∀ (x : Nat) (s1 s2 s3 : Sv), x = Nat.gcd a.natAbs b.natAbs → Cont c (tRet (tVar 0) D) [.dat (.int x), s1, s2, s3] := fun x s1 s2 s3 e => c_ret (ED.is (ed_var rfl) (by rw [e])) k
  refine c_seq (c_rng1 (I := fun k es => ∃ (x y : Nat) (s2 s3 : Sv), es = [.dat (.int x), .dat (.int y), s2, s3] ∧ Nat.gcd x y = Nat.gcd a.natAbs b.natAbs ∧ (k = 0 ∨ y < x) ∧ x * y < 2 ^ (3800 - (k - 1))) ed_int (by decide) ⟨_, _, _, _, rfl, rfl, .inl rfl, ?_⟩ (fun k es hk ⟨x, y, s2, s3, e, hg, ho, hf⟩ => ?_) fun es ⟨x, y, s2, s3, e, hg, ho, hf⟩ => ?_)
  · have : a.natAbs * b.natAbs < 2 ^ (1900 + 1900) := by rw [Nat.pow_add]; exact Nat.mul_lt_mul'' ha hb
    exact this
  · subst e
    refine s_when (b := decide ((y : Int) = 0)) (ed_eqI (ed_var rfl) ed_int) (fun h => c_brk ?_) fun h => ?_
    · have h := of_decide_eq_true h
      have y0 : y = 0 := by omega
      subst y0
      rw [Nat.gcd_zero_right] at hg
      exact fin x _ _ _ hg
    · have h := of_decide_eq_false h
      have y0 : 0 < y := by omega
      refine s_asg (d := .int ((x % y : Nat) : Int)) (ED.is (ed_I (ed_int1 (ed_var rfl)) (ed_var rfl) (show (0 : Int) < y by omega)) (show Dt.int ((x : Int) % (y : Int)) = .int ((x % y : Nat) : Int) from rfl)) (s_asg (ed_var rfl) (c_asg (ed_var rfl) (c_turn ⟨y, x % y, _, _, rfl, ?_, .inr (Nat.mod_lt x y0), ?_⟩)))
      · rw [← hg, Nat.gcd_comm y, ← Nat.gcd_rec, Nat.gcd_comm]
      · rcases ho with rfl | ho
        · refine Nat.lt_of_le_of_lt (m := x * y) ?_ hf
          rw [Nat.mul_comm x y]; exact Nat.mul_le_mul_left y (Nat.mod_le x y)
        · have h2 := half_step ho y0
          by_cases hz : k = 0
          · subst hz
            refine Nat.lt_of_le_of_lt (m := x * y) ?_ hf
            rw [Nat.mul_comm x y]; exact Nat.mul_le_mul_left y (Nat.mod_le x y)
          by_cases hk2 : k - 1 < 3800
          · have e : 3800 - (k - 1) = (3800 - (k + 1 - 1)) + 1 := by omega
            rw [e, Nat.pow_succ] at hf
            omega
          · have e : 3800 - (k - 1) = 0 := by omega
            rw [e, Nat.pow_zero] at hf
            have : 0 < x * y := Nat.mul_pos (by omega) y0
            omega
  · subst e
    have e : 3800 - ((4000 : Int).toNat - 1) = 0 := by decide
    rw [e, Nat.pow_zero] at hf
    have ho : y < x := ho.resolve_left (by decide)
    have y0 : y = 0 := by
      rcases Nat.eq_zero_or_pos y with z | z
      · exact z
      · have : 0 < x * y := Nat.mul_pos (by omega) z
        omega
    subst y0
    rw [Nat.gcd_zero_right] at hg
    exact fin x _ _ _ hg
end
section
variable {c : Fr} {D : Ends} {E : XK} {es : List Sv} {ta tb te tx : TE} {ts : TA} {x y : Dt} {p q s e : Rat} {a b : Int} {rs os : List Rat} {n : Nat} {ad : Addr} {l : List Dt}
theorem ed_lgcd (h1 : ED c ta es (.int a)) (h2 : ED c tb es (.int b)) (ha : Sz 1900 a) (hb : Sz 1900 b) : ED c (tCall (sp_u_law_gcd c.K) [] E (tCons ta (tCons tb tNil))) es (.int ((Nat.gcd a.natAbs b.natAbs : Nat) : Int)) :=
  ed_call (es_cons h1 (es_cons h2 es_nil)) ⟨a, b, rfl, ha, hb, rfl⟩ fun y ⟨a', b', e, _, _, ey⟩ => by
    cases e
    exact ey
theorem sem_lratio (h0 : 0 < b) (ha : Sz 1900 a) (hb : Sz 1900 b) (k : RetD c D.rt (fun d => d = ratD (Rat.divInt a b))) : Cont c (t_u_law_ratio c.K D) [.dat (.int a), .dat (.int b), .no] := by
  have hb0 : b ≠ 0 := by omega
  have e1 : partOf a b = ((Nat.gcd a.natAbs b.natAbs : Nat) : Int) := if_neg (by omega)
  refine s_asg (ED.is (ed_lgcd (ed_var rfl) (ed_var rfl) ha hb) (congrArg Dt.int e1.symm)) ?_
  refine c_ret ?_ k
  have hp := sz_div (x := a) (partOf_ne (a := a) hb0) (sz_part hb0 hb) (by decide)
  have hq := sz_div (x := b) (partOf_ne (a := a) hb0) (sz_part hb0 hb) (by decide)
  have e : ratD (Rat.divInt a b) = .tup [.int (a.fdiv (partOf a b)), .int (b.fdiv (partOf a b))] := by
    rw [low_num hb0, low_den hb0] <;> rfl
  rw [e]
  exact ed_tup (es_cons (ed_I (ed_var rfl) (ed_var rfl) hp) (es_cons (ed_I (ed_var rfl) (ed_var rfl) hq) es_nil)) (by show 2 ≤ 100000; decide)
theorem ed_lratio {q : Rat} (h1 : ED c ta es (.int a)) (h2 : ED c tb es (.int b)) (h0 : 0 < b) (ha : Sz 1900 a) (hb : Sz 1900 b) (e : Rat.divInt a b = q) : ED c (tCall (sp_u_law_ratio c.K) [] E (tCons ta (tCons tb tNil))) es (ratD q) :=
  e ▸ ed_call (es_cons h1 (es_cons h2 es_nil)) ⟨a, b, rfl, h0, ha, hb, rfl⟩ fun y ⟨a', b', e, _, _, _, ey⟩ => by
    cases e
    exact ey
theorem den_mul_pos (p q : Rat) : 0 < (p.den : Int) * q.den := Int.mul_pos (den_pos p) (den_pos q)
theorem sem_lplus (hp : SzR 900 p) (hq : SzR 900 q) (k : RetD c D.rt (fun d => d = ratD (p + q))) : Cont c (t_u_law_plus c.K D) [.dat (ratD p), .dat (ratD q)] := by
  refine c_ret ?_ k
  refine ed_lratio (ed_I0 (ed_mul (ix0 rfl) (ix1 rfl) hp.num hq.den (by decide)) (ed_mul (ix0 rfl) (ix1 rfl) hq.num hp.den (by decide))) (ed_mul (ix1 rfl) (ix1 rfl) hp.den hq.den (by decide)) (den_mul_pos p q) ?_ ?_ ?_
  · exact ((hp.num.mul hq.den).add (hq.num.mul hp.den)).mono (by decide)
  · exact (hp.den.mul hq.den).mono (by decide)
  · rw [← Rat.divInt_add_divInt _ _ (den_ne p) (den_ne q), divInt_of, divInt_of]
theorem sem_lminus (hp : SzR 900 p) (hq : SzR 900 q) (k : RetD c D.rt (fun d => d = ratD (p - q))) : Cont c (t_u_law_minus c.K D) [.dat (ratD p), .dat (ratD q)] := by
  refine c_ret ?_ k
  refine ed_lratio (ed_I0 (ed_mul (ix0 rfl) (ix1 rfl) hp.num hq.den (by decide)) (ed_mul (ix0 rfl) (ix1 rfl) hq.num hp.den (by decide))) (ed_mul (ix1 rfl) (ix1 rfl) hp.den hq.den (by decide)) (den_mul_pos p q) ?_ ?_ ?_
  · exact ((hp.num.mul hq.den).sub (hq.num.mul hp.den)).mono (by decide)
  · exact (hp.den.mul hq.den).mono (by decide)
  · rw [← Rat.divInt_sub_divInt _ _ (den_ne p) (den_ne q), divInt_of, divInt_of]
theorem sem_ltimes (hp : SzR 900 p) (hq : SzR 900 q) (k : RetD c D.rt (fun d => d = ratD (p * q))) : Cont c (t_u_law_times c.K D) [.dat (ratD p), .dat (ratD q)] := by
  refine c_ret ?_ k
  refine ed_lratio (ed_mul (ix0 rfl) (ix0 rfl) hp.num hq.num (by decide)) (ed_mul (ix1 rfl) (ix1 rfl) hp.den hq.den (by decide)) (den_mul_pos p q) ?_ ?_ ?_
  · exact (hp.num.mul hq.num).mono (by decide)
  · exact (hp.den.mul hq.den).mono (by decide)
  · rw [← Rat.divInt_mul_divInt, divInt_of, divInt_of]
theorem sem_lless (hp : SzR 900 p) (hq : SzR 900 q) (k : RetD c D.rt (fun d => d = .bl (lessR p q))) : Cont c (t_u_law_is_less c.K D) [.dat (ratD p), .dat (ratD q)] := by
  refine c_ret ?_ k
  exact ed_B0 (ed_mul (ix0 rfl) (ix1 rfl) hp.num hq.den (by decide)) (ed_mul (ix0 rfl) (ix1 rfl) hq.num hp.den (by decide))
theorem sem_lfloor (hq : SzR 900 q) (k : RetD c D.rt (fun d => d = .int (flR q))) : Cont c (t_u_law_floor c.K D) [.dat (ratD q)] := by
  refine c_ret ?_ k
  unfold flR
  rw [← Int.fdiv_eq_ediv_of_nonneg _ (Int.le_of_lt (den_pos q))]
  exact ed_I (ix0 rfl) (ix1 rfl) (sz_div (den_ne q) hq.den (by decide))
theorem sz_quot {n : Nat} (hq : SzR n q) : Sz n (q.num / q.den) := Nat.lt_of_le_of_lt (Int.natAbs_ediv_le_natAbs _ _) hq.num
theorem sem_lbroken (hq : SzR 900 q) (k : RetD c D.rt (fun d => d = ratD (brokR q))) : Cont c (t_u_law_broken c.K D) [.dat (ratD q)] := by
  refine c_ret ?_ k
  have e : ratD (brokR q) = .tup [.int (q.num - q.num.fdiv q.den * q.den), .int q.den] := by
    rw [brok_D, Int.fdiv_eq_ediv_of_nonneg _ (Int.le_of_lt (den_pos q)), Int.emod_def, Int.mul_comm]
  rw [e]
  refine ed_tup (es_cons (ed_I0 (ix0 rfl) (ed_mul (n := 900) (m := 900) (ed_I (ix0 rfl) (ix1 rfl) (sz_div (den_ne q) hq.den (by decide))) (ix1 rfl) ?_ hq.den (by decide))) (es_cons (ix1 rfl) es_nil)) (by show 2 ≤ 100000; decide)
  rw [Int.fdiv_eq_ediv_of_nonneg _ (Int.le_of_lt (den_pos q))]
  exact sz_quot hq
theorem ed_l2 {f : Rat → Rat → Dt} (ha : ED c ta es (ratD p)) (hb : ED c tb es (ratD q)) (hp : SzR 900 p) (hq : SzR 900 q) : ED c (tCall (spD c.K (R_l2 f)) [] E (tCons ta (tCons tb tNil))) es (f p q) :=
  ed_call (es_cons ha (es_cons hb es_nil)) ⟨p, q, rfl, hp, hq, rfl⟩ fun y ⟨a, b, e, _, _, ey⟩ => by
    rw [ey, ratD_inj (List.cons.inj e).1, ratD_inj (List.cons.inj (List.cons.inj e).2).1]
theorem ed_l1 {f : Rat → Dt} (ha : ED c ta es (ratD p)) (hp : SzR 900 p) : ED c (tCall (spD c.K (R_l1 f)) [] E (tCons ta tNil)) es (f p) :=
  ed_call (es_cons ha es_nil) ⟨p, rfl, hp, rfl⟩ fun y ⟨a, e, _, ey⟩ => by
    rw [ey, ratD_inj (List.cons.inj e).1]
theorem sem_lwhole (hx : Kin x) (k : RetD c D.rt (fun d => d = .bl (isIntB x))) : Cont c (t_u_law_is_whole c.K D) [.dat x] := by
  refine c_ret ?_ k
  rw [← isK_whole]
  exact ed_and (ed_isK (ed_var rfl) hx (by decide)) fun _ => ed_not (ed_isK (ed_var rfl) hx (by decide))
theorem ed_lwhole (h : ED c ta es x) (hx : Kin x) : ED c (tCall (sp_u_law_is_whole c.K) [] E (tCons ta tNil)) es (.bl (isIntB x)) :=
  ed_call (es_cons h es_nil) ⟨x, rfl, hx, rfl⟩ fun y ⟨x', e, _, ey⟩ => by rw [ey, (List.cons.inj e).1]
theorem sem_lisratio (hq : SzR 900 q) (k : RetD c D.rt (fun d => d = .bl true)) : Cont c (t_u_law_is_ratio c.K D) [.dat (ratD q)] := by
  refine s_when (b := false) (EBd.is (eb_or (b := false) (b' := false) (EBd.is (eb_not (eb_B (ed_isK (ed_var rfl) rfl (by decide)))) (by rw [isK_tuple] <;> rfl)) fun _ => EBd.is (eb_test (ed_ne (ed_len (ed_var rfl) rfl) ed_int rfl rfl)) rfl) rfl) (fun z => by cases z) fun _ => ?_
  have dp := den_pos q
  refine s_when (b := false) (EBd.is (eb_or (b := false) (b' := false) (EBd.is (eb_not (eb_B (ed_lwhole (ix0 rfl) rfl))) rfl) fun _ => EBd.is (eb_or (b := false) (b' := false) (EBd.is (eb_not (eb_B (ed_lwhole (ix1 rfl) rfl))) rfl) fun _ => EBd.is (eb_test (ed_B0 (ix1 rfl) ed_int)) (decide_eq_false (by omega))) rfl) rfl) (fun z => by cases z) fun _ => ?_
  refine c_ret (ED.is (ed_eq (ed_lgcd (ix0 rfl) (ix1 rfl) (hq.num.mono (by decide)) (hq.den.mono (by decide))) ed_int rfl rfl) ?_) k
  rw [eqv_int]
  have : Nat.gcd q.num.natAbs ((q.den : Int)).natAbs = 1 := q.reduced
  rw [this] <;> rfl
end
end K22
set_option Elab.async false
set_option linter.all false
set_option maxRecDepth 100000
set_option maxHeartbeats 4000000
namespace K22
open PySem PySem.Spec PyProof.Rows L2 My StX RZ Lw
local macro_rules | `(tactic| walk_at "ed") => `(tactic| first
  | exact ed_int | exact ed_bl | exact ed_str | exact ed_non
  | exact ed_var rfl
  | (apply ed_I0; (focus walk_at "ed"); (focus walk_at "ed"))
  | (apply ed_B0; (focus walk_at "ed"); (focus walk_at "ed"))
  | (apply ed_neg; (focus walk_at "ed"))
  | (apply ed_ixT; (focus walk_at "ed"); (focus walk_at "ed"); (focus rfl))
  | (apply ed_ixL; (focus walk_at "ed"); (focus walk_at "ed"); (focus rfl))
  | (apply ed_ixO; (focus rfl); (focus walk_at "ed"); (focus rfl))
  | (apply ed_len; (focus walk_at "ed"); (focus rfl))
  | (apply ed_lenO; (focus rfl))
  | (apply ed_tup; (focus walk_at "ed"); (focus (simp only [List.length_cons, List.length_nil]; decide)))
  | (apply ed_eq; (focus walk_at "ed"); (focus walk_at "ed"); (focus rfl); (focus rfl))
  | (apply ed_ne; (focus walk_at "ed"); (focus walk_at "ed"); (focus rfl); (focus rfl))
  | (apply ed_isN; (focus walk_at "ed"))
  | (apply ed_notN; (focus walk_at "ed"))
  | (apply ed_isB; (focus walk_at "ed"); (focus walk_at "ed"))
  | (apply ed_notB; (focus walk_at "ed"); (focus walk_at "ed"))
  | (apply ed_isi; (focus walk_at "ed"); (focus first | rfl | assumption); (focus decide +kernel))
  | (apply ed_isi2; (focus walk_at "ed"); (focus first | rfl | assumption); (focus decide +kernel); (focus decide +kernel))
  | (apply ed_not; (focus walk_at "ed"))
  | (apply ed_int1; (focus walk_at "ed"))
  | (apply ed_abs; (focus walk_at "ed"))
  | (apply ed_gcd; (focus walk_at "ed"); (focus walk_at "ed"))
  | exact es_nil
  | (apply es_cons; (focus walk_at "ed"); (focus walk_at "ed"))
  | (apply eb_test; (focus walk_at "ed"))
  | (apply eb_B; (focus walk_at "ed"))
  | (apply eb_not; (focus walk_at "ed")))
section
variable {c : Fr} {D : Ends} {E : XK} {es : List Sv} {ta tb te tx : TE} {ts : TA} {x y : Dt} {p q s e : Rat} {a b : Int} {rs os : List Rat} {n : Nat} {ad : Addr} {l : List Dt}
theorem ratD_int (z : Int) : ratD (z : Rat) = .tup [.int z, .int 1] := by
  show Dt.tup [.int (z : Rat).num, .int ((z : Rat).den : Nat)] = _
  rw [Rat.num_intCast, Rat.den_intCast] <;> rfl
theorem inB_int {z : Int} (h0 : -b ≤ z) (h1 : z ≤ b) : InB b (z : Rat) := by
  refine ⟨?_, ?_, Rat.intCast_le_intCast.mpr h1⟩
  · rw [Rat.den_intCast]
    exact show (1 : Nat) < 2 ^ 20 by decide
  · rw [← Rat.intCast_neg]
    exact Rat.intCast_le_intCast.mpr h0
theorem den_le {a b : Int} (h : 0 < b) : (Rat.divInt a b).den ≤ b.natAbs := by
  rw [Rat.den_divInt, if_neg (by omega)]
  exact Nat.div_le_self _ _
theorem inB_div {bt : Int} (h : 0 < bt) (hb : bt < 2 ^ 20) (h0 : -(b * bt) ≤ a) (h1 : a ≤ b * bt) : InB b (Rat.divInt a bt) := by
  have hp : (0 : Rat) < (bt : Rat) := Rat.intCast_pos.mpr h
  refine ⟨?_, ?_, ?_⟩
  · have := den_le (a := a) h
    show ((Rat.divInt a bt).den : Int).natAbs < 2 ^ 20
    have e : (2 : Nat) ^ 20 = 1048576 := rfl
    have e2 : (2 : Int) ^ 20 = 1048576 := rfl
    omega
  · rw [Rat.divInt_eq_div, ← Rat.not_lt, Rat.div_lt_iff hp, ← Rat.intCast_neg, ← Rat.intCast_mul, Rat.intCast_lt_intCast]
    rw [Int.neg_mul]
    omega
  · rw [Rat.divInt_eq_div, ← Rat.not_lt, Rat.lt_div_iff hp, ← Rat.intCast_mul, Rat.intCast_lt_intCast]
    omega
theorem sem_slip (h0 : 0 ≤ b) (h1 : b ≤ 2) (hm : c.mu = [ad]) (k : RetH c ad D.rt (fun d => ∃ q, InB b q ∧ d = ratD q)) : Cont c (t_u_law_slip c.K D) [.hand ad, .dat (.int b), .no, .no] := by
  have big : (2 : Int) ^ 64 = 18446744073709551616 := rfl
  refine s_asgV (ev_draw (k := 0) rfl ed_int (by decide) (by decide)) fun d ⟨z, e, z0, z1⟩ => ?_
  subst e
  refine s_when (b := decide (z = 0)) (ed_eqI (ed_var rfl) ed_int) (fun _ => ?_) fun _ => ?_
  · refine c_retHh (n := 0) (EV.imp (ev_tup (evs_cons (ei_I0 (ev_draw (k := 0) rfl (ed_I0 (ed_mul (n := 4) (m := 4) ed_int (ed_var rfl) (show (2 : Nat) < 2 ^ 4 by decide) (sz_small (by omega) (by decide)) (by decide)) ed_int) (by omega) (by omega)) (ei_of (ed_var rfl))) (evs_cons ed_int es_nil)) ?_) fun d hd => ?_) k hm rfl
    · rintro l ⟨_, _, rfl, _, _, _, rfl, _, rfl⟩
      show 2 ≤ 100000
      decide
    · obtain ⟨_, rfl, _, _, rfl, ⟨w, rfl, u, v, hu, rfl, rfl⟩, _, _, rfl, rfl, rfl⟩ := hd
      exact ⟨((u - v : Int) : Rat), inB_int (by omega) (by omega), (ratD_int _).symm⟩
  refine s_asgV (ev_ixD (l := [.int 2, .int 3, .int 4, .int 5, .int 7, .int 12]) (ed_lstH hm (n := 0) rfl (es_cons ed_int (es_cons ed_int (es_cons ed_int (es_cons ed_int (es_cons ed_int (es_cons ed_int es_nil)))))) (by show 6 ≤ 100000; decide)) rfl (ev_draw (k := 0) rfl ed_int (by decide) (by decide)) fun z hz => hz) fun d hd => ?_
  obtain ⟨bt, rfl, hb0, hb1⟩ : ∃ bt : Int, d = .int bt ∧ 2 ≤ bt ∧ bt ≤ 1000001 := by
    simp only [List.mem_cons, List.not_mem_nil, or_false] at hd
    rcases hd with rfl | rfl | rfl | rfl | rfl | rfl <;> exact ⟨_, rfl, by decide, by decide⟩
  have rest : ∀ bt : Int, 2 ≤ bt → bt ≤ 1000001 → Cont c (tRet (tCall (sp_u_law_ratio c.K) [] E0 (tCons (tOp (rI0 fun i j => .int (i - j)) (tCall (sp_u_law_draw c.K) [] E0 (tCons (tVar 0) (tCons (tOp (rI0 fun i j => .int (i + j)) (tOp (rI CMulW fun i j => .int (i * j)) (tOp (rI CMulW fun i j => .int (i * j)) (tC (.int 2)) (tVar 1)) (tVar 3)) (tC (.int 1))) tNil))) (tOp (rI CMulW fun i j => .int (i * j)) (tVar 1) (tVar 3))) (tCons (tVar 3) tNil))) D)
      [.hand ad, .dat (.int b), .dat (.int z), .dat (.int bt)] := fun bt hb0 hb1 => by
    have sb : Sz 4 b := sz_small (by omega) (by decide)
    have st : Sz 20 bt := by
      show bt.natAbs < 2 ^ 20
      have e : (2 : Nat) ^ 20 = 1048576 := rfl
      omega
    have m0 : 0 ≤ b * bt := Int.mul_nonneg h0 (by omega)
    have m1 : b * bt ≤ 2 * bt := Int.mul_le_mul_of_nonneg_right h1 (by omega)
    have m2 : 2 * b * bt = 2 * (b * bt) := Int.mul_assoc _ _ _
    refine c_retHh (n := 0) (EV.imp (evs_call (dd := []) (evs_cons (ei_I0 (ev_draw (k := 0) rfl (ed_I0 (ed_mul (n := 8) (m := 20) (ed_mul (n := 4) (m := 4) ed_int (ed_var rfl) (show (2 : Nat) < 2 ^ 4 by decide) sb (by decide)) (ed_var rfl) (Sz.mul (n := 4) (m := 4) (show (2 : Nat) < 2 ^ 4 by decide) sb) st (by decide)) ed_int) (by omega) (by omega)) (ei_of (ed_mul (n := 4) (m := 20) (ed_var rfl) (ed_var rfl) sb st (by decide)))) (evs_cons (ei_of (ed_var rfl)) es_nil)) (fun _ => .nil) ?_) fun d hd => ?_) k hm rfl
    · rintro l ⟨_, _, rfl, ⟨w, rfl, u, v, hu, rfl, rfl⟩, _, _, rfl, ⟨w2, rfl, rfl⟩, rfl⟩
      refine ⟨_, _, _, rfl, by omega, ?_, st.mono (by decide), rfl⟩
      refine Sz.mono (n := 24) ?_ (by decide)
      unfold Sz
      have e : (2 : Nat) ^ 24 = 16777216 := rfl
      omega
    · obtain ⟨_, ⟨_, _, rfl, ⟨w, rfl, u, v, hu, rfl, rfl⟩, _, _, rfl, ⟨w2, rfl, rfl⟩, rfl⟩, a', b', e, _, _, _, ed⟩ := hd
      have e1 := Dt.int.inj (List.cons.inj e).1
      have e2 := Dt.int.inj (List.cons.inj (List.cons.inj e).2).1
      subst e1 e2
      have e2 : (2 : Int) ^ 20 = 1048576 := rfl
      exact ⟨_, inB_div (by omega) (by omega) (by omega) (by omega), ed⟩
  refine s_ifV (ρ := fun _ => True) (eb_any (ed_eqI (ed_var rfl) ed_int)) (fun _ => ?_) fun _ => c_next (rest bt hb0 hb1)
  refine c_asgV (ei_I0 (ei_of ed_int) (ev_draw (k := 0) rfl (ed_I (i := 10) (j := 6) ed_int ed_int ⟨by decide, by decide, by decide⟩) (by decide) (by decide))) fun d ⟨w, e, i, j, hi, ⟨hj0, hj1⟩, ew⟩ => ?_
  subst e
  have hj1 : j < 1000000 := hj1
  exact rest w (by omega) (by omega)
theorem inB_sz (h : InB b q) (h1 : b ≤ 2) : SzR 22 q := by
  obtain ⟨hd, l, u⟩ := h
  have dp := den_pos q
  have hb : (b : Rat) ≤ 2 := Rat.intCast_le_intCast (a := b) (b := 2) |>.mpr h1
  refine ⟨?_, hd.mono (by decide)⟩
  have hq : q = Rat.divInt q.num q.den := (divInt_of q).symm
  have hp : (0 : Rat) < ((q.den : Int) : Rat) := Rat.intCast_pos.mpr dp
  have a1 : ¬ ((2 : Int) : Rat) < Rat.divInt q.num q.den := by
    rw [divInt_of]
    have : ((2 : Int) : Rat) = 2 := rfl
    grind
  have a2 : ¬ Rat.divInt q.num q.den < ((-2 : Int) : Rat) := by
    rw [divInt_of]
    have : ((-2 : Int) : Rat) = -2 := rfl
    grind
  rw [Rat.divInt_eq_div, Rat.lt_div_iff hp, ← Rat.intCast_mul, Rat.intCast_lt_intCast] at a1
  rw [Rat.divInt_eq_div, Rat.div_lt_iff hp, ← Rat.intCast_mul, Rat.intCast_lt_intCast] at a2
  show q.num.natAbs < 2 ^ 22
  have hd : (q.den : Int).natAbs < 2 ^ 20 := hd
  have e : (2 : Nat) ^ 20 = 1048576 := rfl
  have e2 : (2 : Nat) ^ 22 = 4194304 := rfl
  omega
theorem inB_mono {b' : Int} (h : InB b q) (h1 : b ≤ b') : InB b' q := by
  obtain ⟨hd, l, u⟩ := h
  have hb : (b : Rat) ≤ (b' : Rat) := Rat.intCast_le_intCast.mpr h1
  exact ⟨hd, by grind, by grind⟩
theorem brok_add {z : Int} (hd : Sz 20 p.den) (h0 : -b ≤ z) (h1 : z < b) : InB b (brokR p + (z : Rat)) := by
  have e : brokR p + (z : Rat) = Rat.divInt (p.num % p.den * 1 + z * p.den) (p.den * 1) := by
    have e1 : (brokR p) = Rat.divInt (p.num % p.den) p.den := (divInt_of (brokR p)).symm
    have e2 : (z : Rat) = Rat.divInt z 1 := (iR_eq z).symm
    rw [e1, e2, Rat.divInt_add_divInt _ _ (den_ne p) (by decide)]
  obtain ⟨r0, r1⟩ := brok_range p
  have c1 : ((-b : Int) : Rat) ≤ (z : Rat) := Rat.intCast_le_intCast.mpr h0
  have c2 : ((z + 1 : Int) : Rat) ≤ (b : Rat) := Rat.intCast_le_intCast.mpr (by omega)
  rw [Rat.intCast_neg] at c1
  rw [cast1] at c2
  refine ⟨?_, by grind, by grind⟩
  rw [e]
  have := den_le (a := p.num % p.den * 1 + z * p.den) (b := p.den * 1) (by have := den_pos p; omega)
  show ((Rat.divInt (p.num % p.den * 1 + z * p.den) (p.den * 1)).den : Int).natAbs < 2 ^ 20
  have hd : (p.den : Int).natAbs < 2 ^ 20 := hd
  omega
end
end K22
set_option Elab.async false
set_option linter.all false
set_option maxRecDepth 100000
set_option maxHeartbeats 4000000
namespace K22
open PySem PySem.Spec PyProof.Rows L2 My StX RZ Lw
local macro_rules | `(tactic| walk_at "ed") => `(tactic| first
  | exact ed_int | exact ed_bl | exact ed_str | exact ed_non
  | exact ed_var rfl
  | (apply ed_I0; (focus walk_at "ed"); (focus walk_at "ed"))
  | (apply ed_B0; (focus walk_at "ed"); (focus walk_at "ed"))
  | (apply ed_neg; (focus walk_at "ed"))
  | (apply ed_ixT; (focus walk_at "ed"); (focus walk_at "ed"); (focus rfl))
  | (apply ed_ixL; (focus walk_at "ed"); (focus walk_at "ed"); (focus rfl))
  | (apply ed_ixO; (focus rfl); (focus walk_at "ed"); (focus rfl))
  | (apply ed_len; (focus walk_at "ed"); (focus rfl))
  | (apply ed_lenO; (focus rfl))
  | (apply ed_tup; (focus walk_at "ed"); (focus (simp only [List.length_cons, List.length_nil]; decide)))
  | (apply ed_eq; (focus walk_at "ed"); (focus walk_at "ed"); (focus rfl); (focus rfl))
  | (apply ed_ne; (focus walk_at "ed"); (focus walk_at "ed"); (focus rfl); (focus rfl))
  | (apply ed_isN; (focus walk_at "ed"))
  | (apply ed_notN; (focus walk_at "ed"))
  | (apply ed_isB; (focus walk_at "ed"); (focus walk_at "ed"))
  | (apply ed_notB; (focus walk_at "ed"); (focus walk_at "ed"))
  | (apply ed_isi; (focus walk_at "ed"); (focus first | rfl | assumption); (focus decide +kernel))
  | (apply ed_isi2; (focus walk_at "ed"); (focus first | rfl | assumption); (focus decide +kernel); (focus decide +kernel))
  | (apply ed_not; (focus walk_at "ed"))
  | (apply ed_int1; (focus walk_at "ed"))
  | (apply ed_abs; (focus walk_at "ed"))
  | (apply ed_gcd; (focus walk_at "ed"); (focus walk_at "ed"))
  | exact es_nil
  | (apply es_cons; (focus walk_at "ed"); (focus walk_at "ed"))
  | (apply eb_test; (focus walk_at "ed"))
  | (apply eb_B; (focus walk_at "ed"))
  | (apply eb_not; (focus walk_at "ed")))
section
variable {c : Fr} {D : Ends} {E : XK} {es : List Sv} {ta tb te tx : TE} {ts : TA} {x y : Dt} {p q s e : Rat} {a b : Int} {rs os : List Rat} {n : Nat} {ad : Addr} {l : List Dt}
theorem ev_slip {k : Nat} (hn : es[k]? = some (.hand ad)) (h : ED c ta es (.int b)) (h0 : 0 ≤ b) (h1 : b ≤ 2) : EV c (tCall (sp_u_law_slip c.K) [] E (tCons (tVar k) (tCons ta tNil))) es (fun d => ∃ q, InB b q ∧ d = ratD q) :=
  EV.imp (ev_callH hn (es_cons h es_nil) fun l e => by
    subst e
    exact ⟨_, b, rfl, h0, h1, ((0 : Int) : Rat), inB_int (by omega) (by omega), rfl⟩) fun d ⟨l, e, b', e', _, _, hq⟩ => by
    subst e
    cases e'
    exact hq
theorem ev_lpick {k : Nat} (hn : es[k]? = some (.hand ad)) (h : ED c ta es x) (hx : itemsD x = some l) (h0 : 0 < l.length) (h1 : l.length ≤ 1000) : EV c (tCall (sp_u_law_pick c.K) [] E (tCons (tVar k) (tCons ta tNil))) es (fun d => d ∈ l) :=
  EV.imp (ev_callH hn (es_cons h es_nil) fun l' e => by
    subst e
    exact ⟨l[0], x, l, rfl, hx, h0, h1, List.getElem_mem h0⟩) fun d ⟨l', e, x', l2, e', hx', _, _, hd⟩ => by
    subst e
    cases (List.cons.inj e').1
    rw [hx] at hx'
    cases hx'
    exact hd
theorem rat_ne_nil {f : List Rat} (h : (!eqv (.lst (f.map ratD)) (.lst [])) = true) : ∃ m p, f = m ++ [p] := by
  rcases List.eq_nil_or_concat f with rfl | ⟨m, p, rfl⟩
  · cases h
  · exact ⟨m, p, by rw [List.concat_eq_append]⟩
theorem sem_row {bs : List Int} (hb : Bnds bs) (hm : c.mu = [ad]) (k : RetH c ad D.rt (fun d => ∃ rs : List Rat, rs.length = bs.length ∧ RowOk rs ∧ d = .tup (rs.map ratD))) : Cont c (t_u_law_row c.K D) [.hand ad, .dat (.lst (bs.map Dt.int)), .no, .no, .no] := by
  refine s_asgO (eo_lst es_nil fun l e => by rw [e]; exact Nat.zero_le _) fun o ds e => ?_
  subst e
  refine s_for (I := fun k es => ∃ (f : List Rat) (s3 s4 : Sv), es = [.hand ad, .dat (.lst (bs.map Dt.int)), .own o (f.map ratD), s3, s4] ∧ f.length = k ∧ ∀ q ∈ f, InB 2 q) (f := fun y es => es.set 3 (.dat y)) (wi_seq (ed_var rfl) rfl) ⟨[], _, _, rfl, rfl, fun q h => by cases h⟩ (fun P y _ => tg_name) (fun P1 L k y es e ⟨f, s3, s4, h2, hl, hf⟩ => ?_) fun es ⟨f, s3, s4, h2, hl, hf⟩ => ?_
  · subst h2
    rw [List.getElem?_map] at e
    obtain ⟨b, eb, rfl⟩ := Option.map_eq_some_iff.mp e
    obtain ⟨b0, b2⟩ := hb.2.2 b (List.mem_of_getElem? eb)
    have hk : k < bs.length := (List.getElem?_eq_some_iff.mp eb).1
    have h3 := hb.2.1
    refine s_asgV (ev_slip (k := 0) rfl (ed_var rfl) b0 b2) fun d ⟨q, hq, ed⟩ => ?_
    subst ed
    have app : ∀ q, InB 2 q → Cont (c.at P1) (tDrop (tBM c.K "list" rAppend (tVar 2) (tCons (tVar 4) tNil)) { D with nx := My.Turn (c.at P1) (fun k es => ∃ (f : List Rat) (s3 s4 : Sv), es = [.hand ad, .dat (.lst (bs.map Dt.int)), .own o (f.map ratD), s3, s4] ∧ f.length = k ∧ ∀ q ∈ f, InB 2 q) (k + 1), ct := My.Turn (c.at P1) (fun k es => ∃ (f : List Rat) (s3 s4 : Sv), es = [.hand ad, .dat (.lst (bs.map Dt.int)), .own o (f.map ratD), s3, s4] ∧ f.length = k ∧ ∀ q ∈ f, InB 2 q) (k + 1), bk := tRet (tCB (rTupleOf c.K) (tCons (tVar 2) tNil)) D })
        [.hand ad, .dat (.lst (bs.map Dt.int)), .own o (f.map ratD), .dat (.int b), .dat (ratD q)] := fun q hq => by
      refine c_app (φ := fun d => d = ratD q) rfl (ed_var rfl) (by rw [List.length_map]; omega) fun d ed => ?_
      subst ed
      refine c_turn' rfl ⟨f ++ [q], .dat (.int b), .dat (ratD q), ?_, by rw [List.length_append, hl] <;> rfl, fun z hz => ?_⟩
      · rw [List.map_append] <;> rfl
      · rcases List.mem_append.mp hz with hz | hz
        · exact hf z hz
        · cases List.mem_singleton.mp hz; exact hq
    refine s_ifV (eb_andW (eb_test (ed_neO (n := 2) rfl (eo_lst es_nil fun l e => by rw [e]; exact Nat.zero_le _) (fine_rats _) rfl)) fun _ => eb_andW (eb_test (ed_B0 (ed_var rfl) ed_int)) fun _ => eb_eqV (ev_draw (k := 0) rfl ed_int (by decide) (by decide)) (ei_of ed_int)) (fun h => ?_) fun _ => c_next (app q (inB_mono hq b2))
    obtain ⟨h1, h2⟩ := h rfl
    obtain ⟨h2, _⟩ := h2 rfl
    have h2 := of_decide_eq_true h2
    obtain ⟨m, p, rfl⟩ := rat_ne_nil h1
    have hp := hf p (List.mem_append_right _ List.mem_cons_self)
    have fm : (m ++ [p]).map ratD = m.map ratD ++ [ratD p] := by rw [List.map_append] <;> rfl
    have zp : SzR 900 p := (inB_sz hp (by decide)).mono (by decide)
    have last : ED (c.at P1) (tOp (rIx c.K) (tVar 2) (tUn (rU fun i => .int (-i)) (tC (.int 1)))) [.hand ad, .dat (.lst (bs.map Dt.int)), .own o ((m ++ [p]).map ratD), .dat (.int b), .dat (ratD q)] (ratD p) := by
      rw [fm]
      exact ed_ixO rfl (ed_neg ed_int) (My.atI_last _ _)
    have big : (2 : Int) ^ 64 = 18446744073709551616 := rfl
    refine c_asgV (evs_call (c := c.at P1) (dd := []) (evs_cons (ed_l1 (c := c.at P1) (f := fun q => ratD (brokR q)) last zp) (evs_cons (ev_tup (evs_cons (ei_I0 (ev_draw (c := c.at P1) (k := 0) rfl (ed_mul (n := 4) (m := 4) ed_int (ed_var rfl) (show (2 : Nat) < 2 ^ 4 by decide) (sz_small (by omega) (by decide)) (by decide)) (by omega) (by omega)) (ei_of (ed_var rfl))) (evs_cons ed_int es_nil)) ?_) es_nil)) (fun _ => .nil) ?_) fun d hd => ?_
    · rintro l ⟨_, _, rfl, _, _, _, rfl, _, rfl⟩
      show 2 ≤ 100000
      decide
    · rintro l ⟨_, _, rfl, rfl, _, _, rfl, ⟨_, rfl, _, _, rfl, ⟨w, rfl, u, v, hu, rfl, rfl⟩, _, _, rfl, rfl, rfl⟩, rfl⟩
      refine ⟨_, brokR p, ((u - v : Int) : Rat), by rw [ratD_int] <;> rfl, brok_sz zp, ?_, rfl⟩
      exact (inB_sz (b := 2) (inB_int (by omega) (by omega)) (by decide)).mono (by decide)
    · obtain ⟨_, ⟨_, _, rfl, rfl, _, _, rfl, ⟨_, rfl, _, _, rfl, ⟨w, rfl, u, v, hu, rfl, rfl⟩, _, _, rfl, rfl, rfl⟩, rfl⟩, p', q', e, _, _, ed⟩ := hd
      rw [← ratD_int] at e
      have e1 := ratD_inj (List.cons.inj e).1
      have e2 := ratD_inj (List.cons.inj (List.cons.inj e).2).1
      subst ed
      rw [← e1, ← e2]
      exact app _ (inB_mono (b := v) (brok_add hp.1 (by omega) (by omega)) b2)
  · subst h2
    rw [List.length_map] at hl
    refine c_giveH (n := 2) (j := 0) rfl rfl hm ?_
    exact c_retHh (n := 0) (EV.imp (ed_tupleOf (ed_var rfl) rfl) fun d ed => ⟨f, hl, ⟨by have := hb.1; omega, by have := hb.2.1; omega, hf⟩, ed⟩) k hm rfl
def picks : List Dt := [.int 0, .int 1, .int 1, .int 1, .int 2, .int 2]
theorem ints_of : ∀ {r : List Dt}, (∀ d ∈ r, d ∈ picks) → ∃ bs : List Int, r = bs.map Dt.int ∧ ∀ b ∈ bs, 0 ≤ b ∧ b ≤ 2
  | [], _ => ⟨[], rfl, fun b h => by cases h⟩
  | d :: r, h => by
    obtain ⟨bs, e, hb⟩ := ints_of fun z hz => h z (List.mem_cons_of_mem _ hz)
    obtain ⟨i, rfl, h0, h2⟩ : ∃ i : Int, d = .int i ∧ 0 ≤ i ∧ i ≤ 2 := by
      have := h d List.mem_cons_self
      simp only [picks, List.mem_cons, List.not_mem_nil, or_false] at this
      rcases this with rfl | rfl | rfl | rfl | rfl | rfl <;> exact ⟨_, rfl, by decide, by decide⟩
    exact ⟨i :: bs, by rw [e] <;> rfl, fun b hb' => by
      rcases List.mem_cons.mp hb' with rfl | hb'
      · exact ⟨h0, h2⟩
      · exact hb b hb'⟩
theorem ed_picks (hm : c.mu = [ad]) (hk : es[n]? = some (.hand ad)) : ED c (tLst (tCons (tC (.int 0)) (tCons (tC (.int 1)) (tCons (tC (.int 1)) (tCons (tC (.int 1)) (tCons (tC (.int 2)) (tCons (tC (.int 2)) tNil))))))) es (.lst picks) :=
  ed_lstH hm hk (es_cons ed_int (es_cons ed_int (es_cons ed_int (es_cons ed_int (es_cons ed_int (es_cons ed_int es_nil)))))) (by show 6 ≤ 100000; decide)
theorem sem_bounds (hm : c.mu = [ad]) (k : RetH c ad D.rt (fun d => ∃ bs : List Int, Bnds bs ∧ d = .lst (bs.map Dt.int))) : Cont c (t_u_law_bounds c.K D) [.hand ad, .dat (.int 3), .no, .no] := by
  have ip : ∀ {P : Hp} {es : List Sv}, es[0]? = some (.hand ad) → EV (c.at P) (tCall (sp_u_law_pick c.K) [] E0 (tCons (tVar 0) (tCons (tLst (tCons (tC (.int 0)) (tCons (tC (.int 1)) (tCons (tC (.int 1)) (tCons (tC (.int 1)) (tCons (tC (.int 2)) (tCons (tC (.int 2)) tNil))))))) tNil))) es (fun d => d ∈ picks) := fun {P es} h => ev_lpick (c := c.at P) (l := picks) h (ed_picks (c := c.at P) hm h) rfl (by decide) (by decide)
  have ip0 : EV c (tCall (sp_u_law_pick c.K) [] E0 (tCons (tVar 0) (tCons (tLst (tCons (tC (.int 0)) (tCons (tC (.int 1)) (tCons (tC (.int 1)) (tCons (tC (.int 1)) (tCons (tC (.int 2)) (tCons (tC (.int 2)) tNil))))))) tNil))) [.hand ad, .dat (.int 3), .no, .no] (IsI fun z => 0 ≤ z ∧ z ≤ 2) := EV.imp (ev_lpick (l := picks) (k := 0) rfl (ed_picks hm (n := 0) rfl) rfl (by decide) (by decide)) fun d hd => by
    simp only [picks, List.mem_cons, List.not_mem_nil, or_false] at hd
    rcases hd with rfl | rfl | rfl | rfl | rfl | rfl <;> exact ⟨_, rfl, by decide, by decide⟩
  refine s_asgV (ei_I0 (ei_of ed_int) ip0) fun d ⟨m, e, i, j, hi, ⟨hj0, hj1⟩, em⟩ => ?_
  subst e hi
  have e3 : (if (3 : Int) < m then 3 else m) = m := by rw [if_neg (by omega)]
  refine c_retHh (n := 0) (EV.imp (ev_giveH hm (k := 0) rfl (eo_lcH (k := 0) (ad := ad) (φ := fun d => d ∈ picks) (f := fun y es => es.set 3 (.dat y)) rfl (WI.r (wi_rng1 (i := m) (ED.is (ed_min2 (ed_var rfl) (ed_var rfl)) (congrArg Dt.int e3)) (by omega))) (by rw [intsL_len]; omega) (fun P y _ => tg_name) (fun y _ => ⟨rfl, rfl⟩) fun P _ y _ => ip rfl)) fun d ⟨r, ed, hr, hd⟩ => ?_) k hm rfl
  obtain ⟨bs, e, hb⟩ := ints_of hd
  subst e
  rw [intsL_len, List.length_map] at hr
  exact ⟨bs, ⟨by omega, by omega, hb⟩, ed⟩
end
end K22
set_option Elab.async false
set_option linter.all false
set_option maxRecDepth 100000
set_option maxHeartbeats 4000000
namespace K22
open PySem PySem.Spec PyProof.Rows L2 My StX RZ Lw
local macro_rules | `(tactic| walk_at "ed") => `(tactic| first
  | exact ed_int | exact ed_bl | exact ed_str | exact ed_non
  | exact ed_var rfl
  | (apply ed_I0; (focus walk_at "ed"); (focus walk_at "ed"))
  | (apply ed_B0; (focus walk_at "ed"); (focus walk_at "ed"))
  | (apply ed_neg; (focus walk_at "ed"))
  | (apply ed_ixT; (focus walk_at "ed"); (focus walk_at "ed"); (focus rfl))
  | (apply ed_ixL; (focus walk_at "ed"); (focus walk_at "ed"); (focus rfl))
  | (apply ed_ixO; (focus rfl); (focus walk_at "ed"); (focus rfl))
  | (apply ed_len; (focus walk_at "ed"); (focus rfl))
  | (apply ed_lenO; (focus rfl))
  | (apply ed_tup; (focus walk_at "ed"); (focus (simp only [List.length_cons, List.length_nil]; decide)))
  | (apply ed_eq; (focus walk_at "ed"); (focus walk_at "ed"); (focus rfl); (focus rfl))
  | (apply ed_ne; (focus walk_at "ed"); (focus walk_at "ed"); (focus rfl); (focus rfl))
  | (apply ed_isN; (focus walk_at "ed"))
  | (apply ed_notN; (focus walk_at "ed"))
  | (apply ed_isB; (focus walk_at "ed"); (focus walk_at "ed"))
  | (apply ed_notB; (focus walk_at "ed"); (focus walk_at "ed"))
  | (apply ed_isi; (focus walk_at "ed"); (focus first | rfl | assumption); (focus decide +kernel))
  | (apply ed_isi2; (focus walk_at "ed"); (focus first | rfl | assumption); (focus decide +kernel); (focus decide +kernel))
  | (apply ed_not; (focus walk_at "ed"))
  | (apply ed_int1; (focus walk_at "ed"))
  | (apply ed_abs; (focus walk_at "ed"))
  | (apply ed_gcd; (focus walk_at "ed"); (focus walk_at "ed"))
  | exact es_nil
  | (apply es_cons; (focus walk_at "ed"); (focus walk_at "ed"))
  | (apply eb_test; (focus walk_at "ed"))
  | (apply eb_B; (focus walk_at "ed"))
  | (apply eb_not; (focus walk_at "ed")))
section
variable {c : Fr} {D : Ends} {E : XK} {es : List Sv} {ta tb te tx : TE} {ts : TA} {x y : Dt} {p q s e t : Rat} {a b : Int} {rs os : List Rat} {n : Nat} {ad : Addr} {l : List Dt}
theorem any_rat (q : Rat) (l : List Rat) : ((l.map ratD).any fun y => eqv y (ratD q)) = l.any fun p => decide (p = q) := by
  rw [List.any_map]
  congr 1
  funext p
  show eqv (ratD p) (ratD q) = _
  rw [eqv_ratD]
theorem filt_rat (f : Rat → Bool) (l : List Rat) : ((l.map ratD).filter fun y => f (toR y)).map id = (l.filter f).map ratD := by
  rw [List.map_id, List.filter_map]
  congr 1
  exact List.filter_congr fun q _ => by
    show f (toR (ratD q)) = f q
    rw [toR_D]
theorem ins_len (l : List Rat) (p : Rat) : (insR l p).length ≤ l.length + 1 := by
  unfold insR
  split
  · rw [List.length_append, List.length_append, List.length_take, List.length_drop, List.length_singleton]
    omega
  · omega
theorem fold_ins_len : ∀ (l m : List Rat), (l.foldl insR m).length ≤ m.length + l.length
  | [], m => Nat.le_refl _
  | p :: l, m => by
    rw [List.foldl_cons, List.length_cons]
    have := fold_ins_len l (insR m p)
    have := ins_len m p
    omega
theorem ins_mem {l : List Rat} {p z : Rat} (h : z ∈ insR l p) : z ∈ l ∨ z = p := by
  unfold insR at h
  split at h
  · rcases List.mem_append.mp h with h | h
    · rcases List.mem_append.mp h with h | h
      · exact .inl (List.mem_of_mem_take h)
      · exact .inr (List.mem_singleton.mp h)
    · exact .inl (List.mem_of_mem_drop h)
  · exact .inl h
theorem fold_ins_mem : ∀ {l m : List Rat} {z : Rat}, z ∈ l.foldl insR m → z ∈ m ∨ z ∈ l
  | [], m, z, h => .inl h
  | p :: l, m, z, h => by
    rw [List.foldl_cons] at h
    rcases fold_ins_mem h with h | h
    · rcases ins_mem h with h | h
      · exact .inl h
      · exact .inr (by rw [h]; exact List.mem_cons_self)
    · exact .inr (List.mem_cons_of_mem _ h)
def partsTo (rs : List Rat) (k : Nat) : List Rat := ((rs.take k).map brokR).foldl insR []
theorem parts_succ {k : Nat} (h : rs[k]? = some p) : partsTo rs (k + 1) = insR (partsTo rs k) (brokR p) := by
  unfold partsTo
  rw [take_get h, List.map_append, List.foldl_append] <;> rfl
theorem parts_len (k : Nat) : (partsTo rs k).length ≤ rs.length := by
  have := fold_ins_len ((rs.take k).map brokR) []
  rw [List.length_nil, List.length_map, List.length_take] at this
  unfold partsTo
  omega
theorem parts_sz {k : Nat} (h : Few9 rs) : ∀ z ∈ partsTo rs k, SzR 890 z := fun z hz => by
  rcases fold_ins_mem hz with hz | hz
  · cases hz
  · obtain ⟨p, hp, rfl⟩ := List.mem_map.mp hz
    exact brok_sz (h.2 p (List.mem_of_mem_take hp))
theorem ed_lless (ha : ED c ta es (ratD p)) (hb : ED c tb es (ratD q)) (hp : SzR 900 p) (hq : SzR 900 q) : ED c (tCall (sp_u_law_is_less c.K) [] E (tCons ta (tCons tb tNil))) es (.bl (lessR p q)) := ed_l2 (f := fun p q => .bl (lessR p q)) ha hb hp hq
theorem ed_lbroken (ha : ED c ta es (ratD p)) (hp : SzR 900 p) : ED c (tCall (sp_u_law_broken c.K) [] E (tCons ta tNil)) es (ratD (brokR p)) := ed_l1 (f := fun q => ratD (brokR q)) ha hp
theorem ed_lfloor (ha : ED c ta es (ratD p)) (hp : SzR 900 p) : ED c (tCall (sp_u_law_floor c.K) [] E (tCons ta tNil)) es (.int (flR p)) := ed_l1 (f := fun q => .int (flR q)) ha hp
theorem sem_parts (h : Few9 rs) (hm : c.mu = []) (k : RetO c D.rt (fun l => l = (partsR rs).map ratD)) : Cont c (t_u_law_parts c.K D) [.dat (.tup (rs.map ratD)), .no, .no, .no, .no] := by
  refine s_asgO (eo_lst es_nil fun l e => by rw [e]; exact Nat.zero_le _) fun o ds e => ?_
  subst e
  refine s_for (I := fun k es => ∃ (s2 s3 : Sv), es = [.dat (.tup (rs.map ratD)), .own o ((partsTo rs k).map ratD), s2, s3, .no]) (f := fun y es => es.set 2 (.dat y)) (wi_seq (ed_var rfl) rfl) ⟨_, _, rfl⟩ (fun P y _ => tg_name) (fun P1 L k y es e ⟨s2, s3, h2⟩ => ?_) fun es ⟨s2, s3, h2⟩ => ?_
  · subst h2
    rw [List.getElem?_map] at e
    obtain ⟨p, ep, rfl⟩ := Option.map_eq_some_iff.mp e
    have hp := h.2 p (List.mem_of_getElem? ep)
    have hps : SzR 900 p := hp.mono (by decide)
    have hbs : SzR 900 (brokR p) := brok_sz hps
    have sc := parts_succ ep
    have pl := parts_len (rs := rs) k
    have pz := parts_sz (k := k) h
    have h3 := h.1
    generalize partsTo rs k = f at *
    refine s_asg (ed_lbroken (c := c.at P1) (ed_var rfl) hps) ?_
    refine c_if (b := decide (0 < (brokR p).num) && !f.any fun q => decide (q = brokR p)) (eb_and (eb_test (ed_B0 (ix0 (c := c.at P1) rfl) ed_int)) fun _ => EBd.is (eb_test (ed_notInO (c := c.at P1) (x := ratD (brokR p)) (l := f.map ratD) (ed_var rfl) rfl rfl (fine_rats _))) (by rw [any_rat])) (fun z => ?_) fun z => c_next ?_
    · have len : ED (c.at P1) (tCB (Evl.rLenS c.K) (tCons (tLc (iSeq c.K (tVar 1)) (gName 4) (tB (tCall (sp_u_law_is_less c.K) [] E0 (tCons (tVar 4) (tCons (tVar 3) tNil)))) (tVar 4) [4]) tNil)) [.dat (.tup (rs.map ratD)), .own o (f.map ratD), .dat (ratD p), .dat (ratD (brokR p)), .no] (.int ((f.filter fun q => lessR q (brokR p)).length)) := by
        refine ed_len (c := c.at P1) (x := .lst ((f.filter fun q => lessR q (brokR p)).map ratD)) (EV.imp (ev_give (c := c.at P1) hm (eo_lcR (c := c.at P1) (f := fun y es => es.set 4 (.dat y)) (p := fun y => lessR (toR y) (brokR p)) (fn := id) rfl (wr_own (c := c.at P1) (n := 1) rfl) (by rw [List.length_map]; omega) (fun P y _ => tg_name) (fun y _ => rfl) (fun P _ y hy => ?_) fun P _ y hy _ => ed_var rfl)) fun z ⟨l, e1, e2⟩ => ?_) (by show some (List.map ratD _).length = _; rw [List.length_map])
        · obtain ⟨q, hq, rfl⟩ := List.mem_map.mp hy
          rw [toR_D]
          exact eb_B (ed_lless (c := (c.at P1).at P) (ed_var rfl) (ed_var rfl) ((pz q hq).mono (by decide)) hbs)
        · rw [e1, e2, filt_rat fun q => lessR q (brokR p)]
      refine s_ins (c := c.at P1) (n := 1) (d := ratD (brokR p)) rfl (es_cons len (es_cons (ed_var rfl) es_nil)) (by rw [List.length_map]; exact List.length_filter_le _ _) (by rw [List.length_map]; omega) ?_
      refine c_turn' rfl ⟨.dat (ratD p), .dat (ratD (brokR p)), ?_⟩
      have e2 : insR f (brokR p) = f.take (f.filter fun q => lessR q (brokR p)).length ++ [brokR p] ++ f.drop (f.filter fun q => lessR q (brokR p)).length := if_pos z
      rw [sc, e2, List.map_append, List.map_append, List.map_take, List.map_drop] <;> rfl
    · refine c_turn' rfl ⟨.dat (ratD p), .dat (ratD (brokR p)), ?_⟩
      have e2 : insR f (brokR p) = f := if_neg (by rw [z]; decide)
      rw [sc, e2] <;> rfl
  · subst h2
    have e : partsTo rs (rs.map ratD).length = partsR rs := by
      unfold partsTo partsR
      rw [List.length_map, List.take_length]
    rw [e]
    exact RetO.slot k (n := 1) rfl hm rfl
theorem sem_lstand (h : Few9 rs) (hm : c.mu = []) (k : RetD c D.rt (fun d => d = stD (standP rs))) : Cont c (t_u_law_stand c.K D) [.dat (.tup (rs.map ratD)), .no, .no, .no, .no, .no, .no] := by
  refine s_asgO (EO.imp (eo_call (es_cons (ed_var rfl) es_nil) ⟨_, rs, rfl, h, rfl⟩) (τ := fun l => l = (partsR rs).map ratD) fun l ⟨rs', e, _, el⟩ => by rw [el, maps_inj (Dt.tup.inj (List.cons.inj e).1)]) fun o ds e => ?_
  subst e
  refine c_give (n := 1) rfl hm ?_
  refine s_asgO (eo_lst es_nil fun l e => by rw [e]; exact Nat.zero_le _) fun o2 ds e => ?_
  subst e
  have pe : partsR rs = partsTo rs rs.length := by
    unfold partsTo partsR
    rw [List.take_length]
  have pl : (partsR rs).length ≤ rs.length := by rw [pe]; exact parts_len _
  have pz : ∀ z ∈ partsR rs, SzR 890 z := by rw [pe]; exact parts_sz h
  have sp : standP rs = rs.map fun p => (flR p, ((partsR rs).filter fun h => !lessR (brokR p) h).length) := rfl
  clear pe
  generalize partsR rs = f at *
  have h3 := h.1
  refine s_for (I := fun k es => ∃ (s3 s4 s5 : Sv), es = [.dat (.tup (rs.map ratD)), .dat (.lst (f.map ratD)), .own o2 (((standP rs).take k).map cpD), s3, s4, s5, .no] ∧ Pl s5) (f := fun y es => es.set 3 (.dat y)) (wi_seq (ed_var rfl) rfl) ⟨_, _, _, rfl, .inl rfl⟩ (fun P y _ => tg_name) (fun P1 L k y es e ⟨s3, s4, s5, h2, p5⟩ => ?_) fun es ⟨s3, s4, s5, h2, p5⟩ => ?_
  · subst h2
    rw [List.getElem?_map] at e
    obtain ⟨p, ep, rfl⟩ := Option.map_eq_some_iff.mp e
    have hp := h.2 p (List.mem_of_getElem? ep)
    have hk := (List.getElem?_eq_some_iff.mp ep).1
    have hps : SzR 900 p := hp.mono (by decide)
    have hbs : SzR 900 (brokR p) := brok_sz hps
    refine s_asg (ed_lbroken (c := c.at P1) (ed_var rfl) hps) ?_
    have hh : ∀ (s : Sv), Pl s → handsOf [Sv.dat (.tup (rs.map ratD)), .dat (.lst (f.map ratD)), .own o2 (((standP rs).take k).map cpD), .dat (ratD p), .dat (ratD (brokR p)), s, .no] = [] ∧ ∀ y, handsOf [Sv.dat (.tup (rs.map ratD)), .dat (.lst (f.map ratD)), .own o2 (((standP rs).take k).map cpD), .dat (ratD p), .dat (ratD (brokR p)), s, .dat y] = [] := fun s hs => by
      rcases hs with rfl | ⟨_, rfl⟩ <;> exact ⟨rfl, fun _ => rfl⟩
    have len : ED (c.at P1) (tCB (Evl.rLenS c.K) (tCons (tLc (iSeq c.K (tVar 1)) (gName 6) (tNot (tB (tCall (sp_u_law_is_less c.K) [] E0 (tCons (tVar 4) (tCons (tVar 6) tNil))))) (tVar 6) [6]) tNil)) [.dat (.tup (rs.map ratD)), .dat (.lst (f.map ratD)), .own o2 (((standP rs).take k).map cpD), .dat (ratD p), .dat (ratD (brokR p)), s5, .no] (.int ((f.filter fun h => !lessR (brokR p) h).length)) := by
      refine ed_len (c := c.at P1) (x := .lst ((f.filter fun h => !lessR (brokR p) h).map ratD)) (EV.imp (ev_give (c := c.at P1) hm (eo_lc (c := c.at P1) (f := fun y es => es.set 6 (.dat y)) (p := fun y => !lessR (brokR p) (toR y)) (fn := id) (hh s5 p5).1 (wi_seq (c := c.at P1) (ed_var rfl) rfl) (by rw [List.length_map]; omega) (fun P y _ => tg_name) (fun y _ => (hh s5 p5).2 y) (fun P _ y hy => ?_) fun P _ y hy _ => ed_var rfl)) fun z ⟨l, e1, e2⟩ => ?_) (by show some (List.map ratD _).length = _; rw [List.length_map])
      · obtain ⟨q, hq, rfl⟩ := List.mem_map.mp hy
        rw [toR_D]
        exact eb_not (eb_B (ed_lless (c := (c.at P1).at P) (ed_var rfl) (ed_var rfl) hbs ((pz q hq).mono (by decide))))
      · rw [e1, e2, filt_rat fun q => !lessR (brokR p) q]
    refine s_asg len ?_
    refine c_app (φ := fun d => d = cpD (flR p, (f.filter fun h => !lessR (brokR p) h).length)) rfl (ed_tup (es_cons (ed_lfloor (c := c.at P1) (ed_var rfl) hps) (es_cons (ed_var rfl) es_nil)) (by show 2 ≤ 100000; decide)) (by rw [List.length_map, List.length_take]; omega) fun d ed => ?_
    subst ed
    refine c_turn' rfl ⟨.dat (ratD p), .dat (ratD (brokR p)), .dat (.int ((f.filter fun h => !lessR (brokR p) h).length)), ?_, .inr ⟨_, rfl⟩⟩
    have g : (standP rs)[k]? = some (flR p, (f.filter fun h => !lessR (brokR p) h).length) := by rw [sp, List.getElem?_map, ep] <;> rfl
    rw [take_get g, List.map_append] <;> rfl
  · subst h2
    have e : (standP rs).take (rs.map ratD).length = standP rs := by
      rw [List.length_map]
      exact List.take_of_length_le (by rw [sp, List.length_map]; exact Nat.le_refl _)
    rw [e]
    refine c_give (n := 2) rfl hm ?_
    exact c_ret (ed_tupleOf (ed_var rfl) rfl) k
theorem ed_lplus (ha : ED c ta es (ratD p)) (hb : ED c tb es (ratD q)) (hp : SzR 900 p) (hq : SzR 900 q) : ED c (tCall (sp_u_law_plus c.K) [] E (tCons ta (tCons tb tNil))) es (ratD (p + q)) := ed_l2 (f := fun p q => ratD (p + q)) ha hb hp hq
theorem ed_lminus (ha : ED c ta es (ratD p)) (hb : ED c tb es (ratD q)) (hp : SzR 900 p) (hq : SzR 900 q) : ED c (tCall (sp_u_law_minus c.K) [] E (tCons ta (tCons tb tNil))) es (ratD (p - q)) := ed_l2 (f := fun p q => ratD (p - q)) ha hb hp hq
theorem ed_ltimes (ha : ED c ta es (ratD p)) (hb : ED c tb es (ratD q)) (hp : SzR 900 p) (hq : SzR 900 q) : ED c (tCall (sp_u_law_times c.K) [] E (tCons ta (tCons tb tNil))) es (ratD (p * q)) := ed_l2 (f := fun p q => ratD (p * q)) ha hb hp hq
theorem sem_between (hp : SzR 150 p) (hq : SzR 150 q) (ht : SzR 500 t) (k : RetD c D.rt (fun d => d = ratD (betR p q t))) : Cont c (t_u_law_between c.K D) [.dat (ratD p), .dat (ratD q), .dat (ratD t)] := by
  have sd := sz_sub hq hp
  have sm := sz_mul sd ht
  exact c_ret (ed_lplus (ed_var rfl) (ed_ltimes (ed_lminus (ed_var rfl) (ed_var rfl) (hq.mono (by decide)) (hp.mono (by decide))) (ed_var rfl) (sd.mono (by decide)) (ht.mono (by decide))) (hp.mono (by decide)) (sm.mono (by decide))) k
theorem ed_between (h1 : ED c ta es (ratD p)) (h2 : ED c tb es (ratD q)) (h3 : ED c te es (ratD t)) (hp : SzR 150 p) (hq : SzR 150 q) (ht : SzR 500 t) : ED c (tCall (sp_u_law_between c.K) [] E (tCons ta (tCons tb (tCons te tNil)))) es (ratD (betR p q t)) :=
  ed_call (es_cons h1 (es_cons h2 (es_cons h3 es_nil))) ⟨p, q, t, rfl, hp, hq, ht, rfl⟩ fun y ⟨p', q', t', e, _, _, _, ey⟩ => by
    rw [ey, ratD_inj (List.cons.inj e).1, ratD_inj (List.cons.inj (List.cons.inj e).2).1, ratD_inj (List.cons.inj (List.cons.inj (List.cons.inj e).2).2).1]
theorem sem_lat (hm : c.mu = []) (h1 : All22 rs) (h2 : All22 os) (ht : SzR 500 t) (k : RetD c D.rt (fun d => d = .tup ((atR rs os t).map ratD))) : Cont c (t_u_law_at c.K D) [.dat (.tup (rs.map ratD)), .dat (.tup (os.map ratD)), .dat (ratD t), .no, .no] := by
  have el : ED c (tLc (iZipA c.K (tCons (tVar 0) (tCons (tVar 1) tNil))) (gTup c.K 2 (gCons (gName 3) (gCons (gName 4) gNil))) tYes (tCall (sp_u_law_between c.K) [] E0 (tCons (tVar 3) (tCons (tVar 4) (tCons (tVar 2) tNil)))) [3, 4])
      [.dat (.tup (rs.map ratD)), .dat (.tup (os.map ratD)), .dat (ratD t), .no, .no] (.lst ((atR rs os t).map ratD)) := by
    refine EV.imp (ev_give hm (eo_lc (f := fun y es => match y with
      | .tup [a, b] => (es.set 3 (.dat a)).set 4 (.dat b)
      | _ => es) (p := fun _ => true) (fn := fun y => match y with
      | .tup [a, b] => ratD (betR (toR a) (toR b) t)
      | d => d) rfl (wi_zipT (es_cons (ed_var rfl) (es_cons (ed_var rfl) es_nil))) (by rw [List.length_zipWith, List.length_map]; have := h1.1; omega) (fun P y hy => ?_) (fun y hy => ?_) (fun P _ y hy => ?_) fun P _ y hy _ => ?_)) fun z ⟨l, e, el⟩ => ?_
    · obtain ⟨u, v, hu, hv, rfl⟩ := mem_zip hy
      exact tg_two
    · obtain ⟨u, v, hu, hv, rfl⟩ := mem_zip hy
      rfl
    · exact eb_yes
    · obtain ⟨u0, v0, hu0, hv0, rfl⟩ := mem_zip hy
      obtain ⟨u, hu, rfl⟩ := List.mem_map.mp hu0
      obtain ⟨v, hv, rfl⟩ := List.mem_map.mp hv0
      refine ED.is (ed_between (ed_var rfl) (ed_var rfl) (ed_var rfl) ((h1.2 u hu).mono (by decide)) ((h2.2 v hv).mono (by decide)) ht) ?_
      show _ = ratD (betR (toR (ratD u)) (toR (ratD v)) t)
      rw [toR_D, toR_D]
    · rw [e, el, List.filter_eq_self.mpr (fun _ _ => rfl), zip_map, map_zip]
      unfold atR
      rw [map_zip]
      refine congrArg Dt.lst ?_
      congr 1
      funext u v
      show ratD (betR (toR (ratD u)) (toR (ratD v)) t) = _
      rw [toR_D, toR_D]
  exact c_ret (ed_tupleOf el rfl) k
theorem iR_D (w : Int) : ratD (iR w) = .tup [.int w, .int 1] := by rw [iR_eq, ratD_int]
theorem sem_quiet (hp : SzR 800 p) (hq : SzR 800 q) (k : RetD c D.rt (fun d => d = .bl (quietB p q))) : Cont c (t_u_law_is_quiet c.K D) [.dat (ratD p), .dat (ratD q), .no, .no] := by
  have hp9 : SzR 900 p := hp.mono (by decide)
  have hq9 : SzR 900 q := hq.mono (by decide)
  refine s_when (b := decide (p = q)) (EBd.is (eb_test (ed_eq (x := ratD p) (y := ratD q) (ed_var rfl) (ed_var rfl) rfl rfl)) eqv_ratD) (fun h => ?_) fun h => ?_
  · have e : quietB p q = true := by
      unfold quietB
      rw [h, Bool.true_or]
    rw [e] at k
    exact c_ret ed_bl k
  · have e : quietB p q = !lessR (iR (flR (if lessR p q then p else q) + 1)) (if lessR p q then q else p) := by
      unfold quietB
      rw [h, Bool.false_or]
    rw [e] at k
    refine s_asg (d := ratD (if lessR p q then p else q)) (ev_if (b := lessR p q) (eb_B (ed_lless (ed_var rfl) (ed_var rfl) hp9 hq9)) (fun z => ED.is (ed_var rfl) (by rw [if_pos z])) fun z => ED.is (ed_var rfl) (by rw [if_neg (by rw [z]; decide)])) ?_
    refine s_asg (d := ratD (if lessR p q then q else p)) (ev_if (b := lessR p q) (eb_B (ed_lless (ed_var rfl) (ed_var rfl) hp9 hq9)) (fun z => ED.is (ed_var rfl) (by rw [if_pos z])) fun z => ED.is (ed_var rfl) (by rw [if_neg (by rw [z]; decide)])) ?_
    have s1 : SzR 800 (if lessR p q then p else q) := by split <;> assumption
    have s2 : SzR 800 (if lessR p q then q else p) := by split <;> assumption
    generalize (if lessR p q then p else q) = u at *
    generalize (if lessR p q then q else p) = v at *
    refine c_ret (ed_not (ed_lless (p := iR (flR u + 1)) (ED.is (ed_tup (es_cons (ed_I0 (ed_lfloor (ed_var rfl) (s1.mono (by decide))) ed_int) (es_cons ed_int es_nil)) (by show 2 ≤ 100000; decide)) (iR_D _).symm) (ed_var rfl) ?_ (s2.mono (by decide)))) k
    exact (sz_iR (n := 801) (Sz.add (n := 800) (sz_quot s1) (sz_small (a := 1) (by omega) (by decide))) (by decide)).mono (by decide)
end
end K22
set_option Elab.async false
set_option linter.all false
set_option maxRecDepth 100000
set_option maxHeartbeats 4000000
namespace K22
open PySem PySem.Spec PyProof.Rows L2 My StX RZ Lw
local macro_rules | `(tactic| walk_at "ed") => `(tactic| first
  | exact ed_int | exact ed_bl | exact ed_str | exact ed_non
  | exact ed_var rfl
  | (apply ed_I0; (focus walk_at "ed"); (focus walk_at "ed"))
  | (apply ed_B0; (focus walk_at "ed"); (focus walk_at "ed"))
  | (apply ed_neg; (focus walk_at "ed"))
  | (apply ed_ixT; (focus walk_at "ed"); (focus walk_at "ed"); (focus rfl))
  | (apply ed_ixL; (focus walk_at "ed"); (focus walk_at "ed"); (focus rfl))
  | (apply ed_ixO; (focus rfl); (focus walk_at "ed"); (focus rfl))
  | (apply ed_len; (focus walk_at "ed"); (focus rfl))
  | (apply ed_lenO; (focus rfl))
  | (apply ed_tup; (focus walk_at "ed"); (focus (simp only [List.length_cons, List.length_nil]; decide)))
  | (apply ed_eq; (focus walk_at "ed"); (focus walk_at "ed"); (focus rfl); (focus rfl))
  | (apply ed_ne; (focus walk_at "ed"); (focus walk_at "ed"); (focus rfl); (focus rfl))
  | (apply ed_isN; (focus walk_at "ed"))
  | (apply ed_notN; (focus walk_at "ed"))
  | (apply ed_isB; (focus walk_at "ed"); (focus walk_at "ed"))
  | (apply ed_notB; (focus walk_at "ed"); (focus walk_at "ed"))
  | (apply ed_isi; (focus walk_at "ed"); (focus first | rfl | assumption); (focus decide +kernel))
  | (apply ed_isi2; (focus walk_at "ed"); (focus first | rfl | assumption); (focus decide +kernel); (focus decide +kernel))
  | (apply ed_not; (focus walk_at "ed"))
  | (apply ed_int1; (focus walk_at "ed"))
  | (apply ed_abs; (focus walk_at "ed"))
  | (apply ed_gcd; (focus walk_at "ed"); (focus walk_at "ed"))
  | exact es_nil
  | (apply es_cons; (focus walk_at "ed"); (focus walk_at "ed"))
  | (apply eb_test; (focus walk_at "ed"))
  | (apply eb_B; (focus walk_at "ed"))
  | (apply eb_not; (focus walk_at "ed")))
section
variable {c : Fr} {D : Ends} {E : XK} {es : List Sv} {ta tb te tx : TE} {ts : TA} {x y : Dt} {p q s e t : Rat} {a b : Int} {rs os : List Rat} {n : Nat} {ad : Addr} {l : List Dt}
theorem ed_lat (h1 : ED c ta es (.tup (rs.map ratD))) (h2 : ED c tb es (.tup (os.map ratD))) (h3 : ED c te es (ratD t)) (a1 : All22 rs) (a2 : All22 os) (ht : SzR 500 t) : ED c (tCall (sp_u_law_at c.K) [] E (tCons ta (tCons tb (tCons te tNil)))) es (.tup ((atR rs os t).map ratD)) :=
  ed_call (es_cons h1 (es_cons h2 (es_cons h3 es_nil))) ⟨rs, os, t, rfl, a1, a2, ht, rfl⟩ fun y ⟨rs', os', t', e, _, _, _, ey⟩ => by
    rw [ey, maps_inj (Dt.tup.inj (List.cons.inj e).1), maps_inj (Dt.tup.inj (List.cons.inj (List.cons.inj e).2).1), ratD_inj (List.cons.inj (List.cons.inj (List.cons.inj e).2).2).1]
theorem ed_lstand (h : ED c te es (.tup (rs.map ratD))) (hf : Few9 rs) : ED c (tCall (sp_u_law_stand c.K) [] E (tCons te tNil)) es (stD (standP rs)) :=
  ed_call (es_cons h es_nil) ⟨rs, rfl, hf, rfl⟩ fun y ⟨rs', e, _, ey⟩ => by rw [ey, maps_inj (Dt.tup.inj (List.cons.inj e).1)]
theorem ed_quiet (ha : ED c ta es (ratD p)) (hb : ED c tb es (ratD q)) (hp : SzR 800 p) (hq : SzR 800 q) : ED c (tCall (sp_u_law_is_quiet c.K) [] E (tCons ta (tCons tb tNil))) es (.bl (quietB p q)) :=
  ed_call (es_cons ha (es_cons hb es_nil)) ⟨p, q, rfl, hp, hq, rfl⟩ fun y ⟨p', q', e, _, _, ey⟩ => by
    rw [ey, ratD_inj (List.cons.inj e).1, ratD_inj (List.cons.inj (List.cons.inj e).2).1]
theorem sz_bet {n m : Nat} (hp : SzR n p) (hq : SzR n q) (ht : SzR m t) : SzR (3 * n + m + 2) (betR p q t) := by
  unfold betR
  exact (sz_add hp (sz_mul (sz_sub hq hp) ht)).mono (by omega)
theorem at_sz {n : Nat} (a1 : All22 rs) (a2 : All22 os) (ht : SzR n t) : ∀ z ∈ atR rs os t, SzR (n + 68) z := fun z hz => by
  obtain ⟨u, v, hu, hv, rfl⟩ := mem_zip hz
  exact (sz_bet (a1.2 u hu) (a2.2 v hv) ht).mono (by omega)
theorem at_len : (atR rs os t).length = min rs.length os.length := List.length_zipWith
theorem at_few {n : Nat} (a1 : All22 rs) (a2 : All22 os) (ht : SzR n t) (hn : n ≤ 800) : Few9 (atR rs os t) :=
  ⟨by rw [at_len]; have := a1.1; omega, fun z hz => (at_sz a1 a2 ht z hz).mono (by omega)⟩
theorem part3_D : part3.map ratD = [.tup [.int 1, .int 2], .tup [.int 1, .int 9], .tup [.int 999999999, .int 1000000000]] := by
  show [ratD (Rat.divInt 1 2), ratD (Rat.divInt 1 9), ratD (Rat.divInt 999999999 1000000000)] = _
  unfold ratD
  rw [show (Rat.divInt 1 2).num = 1 by decide +kernel, show (((Rat.divInt 1 2).den : Nat) : Int) = 2 by decide +kernel, show (Rat.divInt 1 9).num = 1 by decide +kernel, show (((Rat.divInt 1 9).den : Nat) : Int) = 9 by decide +kernel, show (Rat.divInt 999999999 1000000000).num = 999999999 by decide +kernel, show (((Rat.divInt 999999999 1000000000).den : Nat) : Int) = 1000000000 by decide +kernel]
theorem part3_sz : ∀ p ∈ part3, SzR 31 p := fun p hp => by
  have up : ∀ {a b : Int}, b ≠ 0 → a.natAbs < 2 ^ 31 → b.natAbs < 2 ^ 31 → SzR 31 (Rat.divInt a b) := fun h h1 h2 => .of h h1 h2
  simp only [part3, List.mem_cons, List.not_mem_nil, or_false] at hp
  rcases hp with rfl | rfl | rfl <;> exact up (by decide) (by decide) (by decide)
theorem sem_stretch {st : SN} (hm : c.mu = []) (hl : rs.length = os.length) (a1 : All22 rs) (a2 : All22 os) (hs : SzR 150 s) (he : SzR 150 e) (ho : StretchOk rs os s e st) (k : RetD c D.rt (fun d => d = .bl true)) :
    Cont c (t_u_law_stretch_right c.K D) [.dat (.tup (rs.map ratD)), .dat (.tup (os.map ratD)), .dat (ratD s), .dat (ratD e), .dat (stD st), .no, .no, .no, .no, .no] := by
  obtain ⟨h1, h2, h3⟩ := ho
  have z1 := at_sz a1 a2 hs
  have z2 := at_sz a1 a2 he
  have l1 : (atR rs os s).length = rs.length := by rw [at_len]; omega
  have l2 : (atR rs os e).length = rs.length := by rw [at_len]; omega
  refine s_asg (ed_lat (ed_var rfl) (ed_var rfl) (ed_var rfl) a1 a2 (hs.mono (by decide))) ?_
  refine s_asg (ed_lat (ed_var rfl) (ed_var rfl) (ed_var rfl) a1 a2 (he.mono (by decide))) ?_
  have g1 : ∀ k < rs.length, SzR 218 ((atR rs os s).getD k 0) := fun k hk => (z1 _ (getD_mem (by omega))).mono (by decide)
  have g2 : ∀ k < rs.length, SzR 218 ((atR rs os e).getD k 0) := fun k hk => (z2 _ (getD_mem (by omega))).mono (by decide)
  have u3 := a1.1
  have rest : ∀ s7 s8 : Sv, Cont c ((tSeq (tFor (iSeq c.K (tTup (tCons (tTup (tCons (tC (.int 1)) (tCons (tC (.int 2)) tNil))) (tCons (tTup (tCons (tC (.int 1)) (tCons (tC (.int 9)) tNil))) (tCons (tTup (tCons (tOp (rI0 fun i j => .int (i - j)) (tOp (rI CPow fun i j => .int (i ^ j.toNat)) (tC (.int 10)) (tC (.int 9))) (tC (.int 1))) (tCons (tOp (rI CPow fun i j => .int (i ^ j.toNat)) (tC (.int 10)) (tC (.int 9))) tNil))) tNil))))) (gName 9) (tIfS (tTest (tOp (rNeD c.K) (tCall (sp_u_law_stand c.K) [] E0 (tCons (tCall (sp_u_law_at c.K) [] E0 (tCons (tVar 0) (tCons (tVar 1) (tCons (tCall (sp_u_law_between c.K) [] E0 (tCons (tVar 2) (tCons (tVar 3) (tCons (tVar 9) tNil)))) tNil)))) tNil)) (tVar 4))) (tRet (tC (.bl false))) tNext))
      (tRet (tC (.bl true)))) D) [.dat (.tup (rs.map ratD)), .dat (.tup (os.map ratD)), .dat (ratD s), .dat (ratD e), .dat (stD st), .dat (.tup ((atR rs os s).map ratD)), .dat (.tup ((atR rs os e).map ratD)), s7, s8, .no] := fun s7 s8 => by
    have pow : ∀ {es : List Sv}, ED c (tOp (rI CPow fun i j => .int (i ^ j.toNat)) (tC (.int 10)) (tC (.int 9))) es (.int 1000000000) := ED.is (ed_I (i := 10) (j := 9) ed_int ed_int ⟨by decide, by decide, by decide⟩) rfl
    refine s_for (I := fun k es => ∃ s9, es = [.dat (.tup (rs.map ratD)), .dat (.tup (os.map ratD)), .dat (ratD s), .dat (ratD e), .dat (stD st), .dat (.tup ((atR rs os s).map ratD)), .dat (.tup ((atR rs os e).map ratD)), s7, s8, s9]) (f := fun y es => es.set 9 (.dat y)) (l := part3.map ratD)
      (wi_seq (x := .tup (part3.map ratD)) (ED.is (ed_tup (es_cons (ed_tup (es_cons ed_int (es_cons ed_int es_nil)) (by show 2 ≤ 100000; decide)) (es_cons (ed_tup (es_cons ed_int (es_cons ed_int es_nil)) (by show 2 ≤ 100000; decide)) (es_cons (ed_tup (es_cons (ed_I0 pow ed_int) (es_cons pow es_nil)) (by show 2 ≤ 100000; decide)) es_nil))) (by show 3 ≤ 100000; decide)) (by rw [part3_D] <;> rfl)) rfl) ⟨_, rfl⟩ (fun P y _ => tg_name) (fun P1 L k y es ey ⟨s9, e9⟩ => ?_) fun es ⟨s9, e9⟩ => c_ret ed_bl k
    subst e9
    obtain ⟨p, hp, rfl⟩ := List.mem_map.mp (List.mem_of_getElem? ey)
    have zp := part3_sz p hp
    have zb := sz_bet hs he zp
    refine c_if (b := false) (EBd.is (eb_test (ed_ne (x := stD (standP (atR rs os (betR s e p)))) (y := stD st) (ed_lstand (c := c.at P1) (ed_lat (c := c.at P1) (ed_var rfl) (ed_var rfl) (ed_between (c := c.at P1) (ed_var rfl) (ed_var rfl) (ed_var rfl) hs he (zp.mono (by decide))) a1 a2 (zb.mono (by decide))) (at_few a1 a2 zb (by decide))) (ed_var rfl) (fine_sn _) (fine_sn _))) (by rw [eqv_sn, h3 p hp, decide_eq_true rfl] <;> rfl)) (fun z => by cases z) fun _ => c_next (c_turn' rfl ⟨_, rfl⟩)
  refine c_seq (c_rng1 (I := fun k es => ∃ s7 s8, es = [.dat (.tup (rs.map ratD)), .dat (.tup (os.map ratD)), .dat (ratD s), .dat (ratD e), .dat (stD st), .dat (.tup ((atR rs os s).map ratD)), .dat (.tup ((atR rs os e).map ratD)), s7, s8, .no]) (ed_lenR rfl) (by omega) ⟨_, _, rfl⟩ (fun k es hk ⟨s7, s8, e7⟩ => ?_) fun es ⟨s7, s8, e7⟩ => ?_)
  · subst e7
    have hk : k < rs.length := by omega
    have i5 : ∀ {es : List Sv} {tb : TE} {j : Nat}, es[5]? = some (.dat (.tup ((atR rs os s).map ratD))) → ED c tb es (.int j) → j < rs.length → ED c (tOp (rIx c.K) (tVar 5) tb) es (ratD ((atR rs os s).getD j 0)) := fun a b h => ed_ixR a b (by omega)
    have i6 : ∀ {es : List Sv} {tb : TE} {j : Nat}, es[6]? = some (.dat (.tup ((atR rs os e).map ratD))) → ED c tb es (.int j) → j < rs.length → ED c (tOp (rIx c.K) (tVar 6) tb) es (ratD ((atR rs os e).getD j 0)) := fun a b h => ed_ixR a b (by omega)
    refine s_when (b := false) (EBd.is (eb_not (eb_B (ed_quiet (i5 rfl (ed_var rfl) hk) (i6 rfl (ed_var rfl) hk) ((g1 k hk).mono (by decide)) ((g2 k hk).mono (by decide))))) (by rw [h1 k hk] <;> rfl)) (fun z => by cases z) fun _ => ?_
    refine c_rng2 (i := (k : Int) + 1) (j := rs.length) (I := fun _ es => ∃ s8, es = [.dat (.tup (rs.map ratD)), .dat (.tup (os.map ratD)), .dat (ratD s), .dat (ratD e), .dat (stD st), .dat (.tup ((atR rs os s).map ratD)), .dat (.tup ((atR rs os e).map ratD)), .dat (.int k), s8, .no]) (es_cons (ed_I0 (ed_var rfl) ed_int) (es_cons (ed_lenR rfl) es_nil)) (by omega) ⟨_, rfl⟩ (fun j es hj ⟨s8, e8⟩ => ?_) fun es ⟨s8, e8⟩ => ?_
    · subst e8
      have em : (k : Int) + 1 + (j : Nat) = ((k + 1 + j : Nat) : Int) := by omega
      have hm2 : k + 1 + j < rs.length := by omega
      rw [em]
      refine c_if (b := false) (EBd.is (eb_not (eb_B (ed_quiet (ed_lminus (i5 rfl (ed_var rfl) hk) (i5 (j := k + 1 + j) rfl (ed_var rfl) hm2) ((g1 k hk).mono (by decide)) ((g1 _ hm2).mono (by decide))) (ed_lminus (i6 rfl (ed_var rfl) hk) (i6 (j := k + 1 + j) rfl (ed_var rfl) hm2) ((g2 k hk).mono (by decide)) ((g2 _ hm2).mono (by decide))) ((sz_sub (g1 k hk) (g1 _ hm2)).mono (by decide)) ((sz_sub (g2 k hk) (g2 _ hm2)).mono (by decide))))) (by rw [h2 k (k + 1 + j) (by omega) hm2] <;> rfl)) (fun z => by cases z) fun _ => c_next (c_turn ⟨_, rfl⟩)
    · subst e8
      exact c_turn ⟨_, _, rfl⟩
  · subst e7
    exact rest s7 s8
/-! the shape -/
theorem fine_of {l : List Dt} {n : Nat} (hn : n + 1 ≤ 64) (h : ∀ d ∈ l, bare d = true ∧ PyData.canLay0 (py d) = true ∧ PyData.depth (py d) ≤ n) : fine (.tup l) = true ∧ fine (.lst l) = true := by
  have h1 : bareAll l = true := by
    induction l with
    | nil => rfl
    | cons d l ih =>
      show (bare d && bareAll l) = true
      rw [(h d List.mem_cons_self).1, ih fun x hx => h x (List.mem_cons_of_mem _ hx)] <;> rfl
  have h2 : PyData.canLayAll0 (pyAll l) = true := by
    clear h1
    induction l with
    | nil => rfl
    | cons d l ih =>
      show (PyData.canLay0 (py d) && PyData.canLayAll0 (pyAll l)) = true
      rw [(h d List.mem_cons_self).2.1, ih fun x hx => h x (List.mem_cons_of_mem _ hx)] <;> rfl
  have h3 : PyData.depthAll (pyAll l) ≤ n := by
    clear h1 h2
    induction l with
    | nil => exact Nat.zero_le _
    | cons d l ih =>
      show max (PyData.depth (py d)) (PyData.depthAll (pyAll l)) ≤ n
      exact Nat.max_le.mpr ⟨(h d List.mem_cons_self).2.2, ih fun x hx => h x (List.mem_cons_of_mem _ hx)⟩
  have key : (bareAll l && (PyData.canLayAll0 (pyAll l) && decide (PyData.depthAll (pyAll l) + 1 ≤ 64))) = true := by
    rw [h1, h2, decide_eq_true (by omega)] <;> rfl
  exact ⟨key, key⟩
theorem sn_parts (s : SN) : bare (stD s) = true ∧ PyData.canLay0 (py (stD s)) = true ∧ PyData.depth (py (stD s)) ≤ 2 := by
  have h := fine_sn s
  obtain ⟨h1, h2⟩ := Bool.and_eq_true_iff.mp (show (bare (stD s) && SeqAt.shaped (py (stD s))) = true from h)
  have h3 : PyData.depthAll (pyAll (s.map cpD)) ≤ 1 := by
    clear h h1 h2
    induction s with
    | nil => exact Nat.zero_le _
    | cons p l ih =>
      show max (PyData.depth (py (cpD p))) (PyData.depthAll (pyAll (l.map cpD))) ≤ 1
      exact Nat.max_le.mpr ⟨Nat.le_refl _, ih⟩
  refine ⟨h1, ?_, ?_⟩
  · exact (Bool.and_eq_true_iff.mp (show (PyData.canLay0 (py (stD s)) && decide _) = true from h2)).1
  · show PyData.depthAll (pyAll (s.map cpD)) + 1 ≤ 2
    omega
theorem tr_parts (x : Tr) : bare (trD x) = true ∧ PyData.canLay0 (py (trD x)) = true ∧ PyData.depth (py (trD x)) ≤ 3 := by
  obtain ⟨h1, h2, h3⟩ := sn_parts x.2.2
  refine ⟨?_, ?_, ?_⟩
  · show (true && (true && (bare (stD x.2.2) && true))) = true
    rw [h1] <;> rfl
  · show (true && (true && (PyData.canLay0 (py (stD x.2.2)) && true))) = true
    rw [h2] <;> rfl
  · show max 1 (max 1 (max (PyData.depth (py (stD x.2.2))) 0)) + 1 ≤ 3
    omega
theorem fine_trs (J : List Tr) : fine (.tup (J.map trD)) = true := (fine_of (n := 3) (by decide) fun d hd => by
  obtain ⟨x, _, rfl⟩ := List.mem_map.mp hd
  exact tr_parts x).1
theorem fine_sns (l : List SN) : fine (.lst (l.map stD)) = true := (fine_of (n := 2) (by decide) fun d hd => by
  obtain ⟨x, _, rfl⟩ := List.mem_map.mp hd
  exact sn_parts x).2
theorem any_sn (s : SN) (l : List SN) : ((l.map stD).any fun y => eqv y (stD s)) = decide (s ∈ l) := by
  induction l with
  | nil => rfl
  | cons a l ih =>
    show (eqv (stD a) (stD s) || (l.map stD).any fun y => eqv y (stD s)) = _
    rw [ih, eqv_sn]
    by_cases h : a = s
    · subst h
      rw [decide_eq_true rfl, Bool.true_or, decide_eq_true List.mem_cons_self]
    · by_cases g : s ∈ l
      · rw [decide_eq_true g, decide_eq_true (List.mem_cons_of_mem _ g), Bool.or_true]
      · rw [decide_eq_false h, decide_eq_false g, decide_eq_false (fun z => (List.mem_cons.mp z).elim (fun z => h z.symm) g)] <;> rfl
def wasD : Option Bool → Dt
  | none => .non
  | some b => .bl b
theorem eqv_was (b : Bool) (w : Option Bool) : eqv (.bl b) (wasD w) = decide (some b = w) := by
  cases w with
  | none => rfl
  | some v => cases b <;> cases v <;> rfl
theorem sem_shape {J : List Tr} (hm : c.mu = []) (hJ : TrOk J) (ho : shapeB 0 none [] J = true) (k : RetD c D.rt (fun d => d = .bl true)) : Cont c (t_u_law_shape_right c.K D) [.dat (.tup (J.map trD)), .no, .no, .no, .no, .no] := by
  obtain ⟨hne, hlen, hz⟩ := hJ
  refine s_when (b := false) (EBd.is (eb_or (b := false) (b' := false) (EBd.is (eb_not (eb_B (ed_isK (ed_var rfl) rfl (by decide)))) (by rw [isK_tuple] <;> rfl)) fun _ => EBd.is (eb_test (ed_eq (x := .tup (J.map trD)) (y := .tup []) (ed_var rfl) (ed_tup es_nil (by decide)) (fine_trs J) rfl)) ?_) rfl) (fun z => by cases z) fun _ => ?_
  · cases J with
    | nil => exact (hne rfl).elim
    | cons x l => rfl
  refine s_asgO (eo_lst es_nil fun l e => by rw [e]; exact Nat.zero_le _) fun o ds e => ?_
  subst e
  refine s_asg (d := ratD 0) (ED.is (ed_tup (es_cons ed_int (es_cons ed_int es_nil)) (by show 2 ≤ 100000; decide)) rfl) ?_
  refine s_asg ed_non ?_
  refine s_for (I := fun k es => ∃ (s4 s5 : Sv) (last : Rat) (was : Option Bool) (sts : List SN), es = [.dat (.tup (J.map trD)), .own o (sts.map stD), .dat (ratD last), .dat (wasD was), s4, s5] ∧ shapeB last was sts (J.drop k) = true ∧ sts.length = k) (f := fun y es => es.set 4 (.dat y)) (wi_seq (ed_var rfl) rfl) ⟨_, _, 0, none, [], rfl, ho, rfl⟩ (fun P y _ => tg_name) (fun P1 L k y es ey ⟨s4, s5, last, was, sts, e, hs, hl⟩ => ?_) fun es ⟨s4, s5, last, was, sts, e, hs, hl⟩ => ?_
  · subst e
    rw [List.getElem?_map] at ey
    obtain ⟨x, ex, rfl⟩ := Option.map_eq_some_iff.mp ey
    have hk := (List.getElem?_eq_some_iff.mp ex).1
    have hd : J.drop k = x :: J.drop (k + 1) := by
      rw [List.drop_eq_getElem_cons hk]
      congr 1
      exact (List.getElem?_eq_some_iff.mp ex).2
    rw [hd] at hs
    have hs : (decide (x.1 = last) && (!lessR x.2.1 x.1 && (!decide (some (decide (x.1 = x.2.1)) = was) && (!decide (x.2.2 ∈ sts) && shapeB x.2.1 (some (decide (x.1 = x.2.1))) (sts ++ [x.2.2]) (J.drop (k + 1)))))) = true := hs
    obtain ⟨c1, hs⟩ := Bool.and_eq_true_iff.mp hs
    obtain ⟨c2, hs⟩ := Bool.and_eq_true_iff.mp hs
    obtain ⟨c3, hs⟩ := Bool.and_eq_true_iff.mp hs
    obtain ⟨c4, hs⟩ := Bool.and_eq_true_iff.mp hs
    have c1 := of_decide_eq_true c1
    obtain ⟨z1, z2, _⟩ := hz x (List.mem_of_getElem? ex)
    have i0 : ∀ {es : List Sv}, es[4]? = some (.dat (trD x)) → ED (c.at P1) (tOp (rIx c.K) (tVar 4) (tC (.int 0))) es (ratD x.1) := fun h => ed_ixT (ed_var h) ed_int rfl
    have i1 : ∀ {es : List Sv}, es[4]? = some (.dat (trD x)) → ED (c.at P1) (tOp (rIx c.K) (tVar 4) (tC (.int 1))) es (ratD x.2.1) := fun h => ed_ixT (ed_var h) ed_int rfl
    have i2 : ∀ {es : List Sv}, es[4]? = some (.dat (trD x)) → ED (c.at P1) (tOp (rIx c.K) (tVar 4) (tC (.int 2))) es (stD x.2.2) := fun h => ed_ixT (ed_var h) ed_int rfl
    refine s_when (b := false) (EBd.is (eb_or (b := false) (b' := false) (EBd.is (eb_not (eb_B (ed_isK (c := c.at P1) (x := trD x) (ed_var rfl) rfl (by decide)))) (by rw [isK_tuple] <;> rfl)) fun _ => EBd.is (eb_or (b := false) (b' := false) (EBd.is (eb_test (ed_ne (ed_len (c := c.at P1) (x := trD x) (ed_var rfl) rfl) ed_int rfl rfl)) rfl) fun _ => EBd.is (eb_or (b := false) (b' := false) (EBd.is (eb_not (eb_B (ed_l1 (c := c.at P1) (f := fun _ => .bl true) (i0 rfl) (z1.mono (by decide))))) rfl) fun _ => EBd.is (eb_not (eb_B (ed_l1 (c := c.at P1) (f := fun _ => .bl true) (i1 rfl) (z2.mono (by decide))))) rfl) rfl) rfl) rfl) (fun z => by cases z) fun _ => ?_
    refine s_asg (d := .bl (decide (x.1 = x.2.1))) (ED.is (ed_eq (x := ratD x.1) (y := ratD x.2.1) (i0 rfl) (i1 rfl) rfl rfl) (by rw [eqv_ratD])) ?_
    refine s_when (b := false) (EBd.is (eb_or (b := false) (b' := false) (EBd.is (eb_test (ed_ne (x := ratD x.1) (y := ratD last) (i0 rfl) (ed_var rfl) rfl rfl)) (by rw [eqv_ratD, decide_eq_true c1] <;> rfl)) fun _ => EBd.is (eb_or (b := false) (b' := false) (EBd.is (eb_B (ed_lless (c := c.at P1) (i1 rfl) (i0 rfl) (z2.mono (by decide)) (z1.mono (by decide)))) (by simpa using c2)) fun _ => EBd.is (eb_or (b := false) (b' := false) (EBd.is (eb_test (ed_eq (x := .bl (decide (x.1 = x.2.1))) (y := wasD was) (ed_var rfl) (ed_var rfl) rfl (by cases was <;> rfl))) (by rw [eqv_was]; simpa using c3)) fun _ => EBd.is (eb_test (ed_inO (c := c.at P1) (n := 1) (x := stD x.2.2) (l := sts.map stD) (i2 rfl) rfl (fine_sn _) (fine_sns _))) (by rw [any_sn]; simpa using c4)) rfl) rfl) rfl) (fun z => by cases z) fun _ => ?_
    refine s_asg (ed_var rfl) (s_asg (i1 rfl) ?_)
    refine c_app (φ := fun d => d = stD x.2.2) rfl (i2 rfl) (by rw [List.length_map]; omega) fun d ed => ?_
    subst ed
    refine c_turn' rfl ⟨.dat (trD x), .dat (.bl (decide (x.1 = x.2.1))), x.2.1, some (decide (x.1 = x.2.1)), sts ++ [x.2.2], ?_, hs, by rw [List.length_append, hl] <;> rfl⟩
    rw [List.map_append] <;> rfl
  · subst e
    rw [List.length_map, List.drop_length] at hs
    have hs := of_decide_eq_true (show decide (last = 1) = true from hs)
    refine c_ret (ED.is (ed_eq (x := ratD last) (y := ratD 1) (ed_var rfl) (ED.is (ed_tup (es_cons ed_int (es_cons ed_int es_nil)) (by show 2 ≤ 100000; decide)) rfl) rfl rfl) ?_) k
    rw [eqv_ratD, decide_eq_true hs]
/-! refusals -/
theorem rowO_ex {C C' : Addr} {ns : List Str} {fd : List Dt} (h : rowO C x = .ex C' ns fd) : C' = C ∧ ns = (["what", "index"] : List Str) ∧ ∃ (w : Str) (k : Int), fd = [.str w, .int k] := by
  have key : ∀ {k : Nat} {w : Str}, slipEx C k w = .ex C' ns fd → C' = C ∧ ns = (["what", "index"] : List Str) ∧ ∃ (w : Str) (k : Int), fd = [.str w, .int k] := fun h => by
    unfold slipEx at h
    cases h
    exact ⟨rfl, rfl, _, _, rfl⟩
  unfold rowO at h
  cases e : itemsD x with
  | none => rw [e] at h; exact key h
  | some l =>
    rw [e] at h
    have h : (if 1 ≤ l.length ∧ l.length ≤ 3 then (match scan 0 l with
      | some (k, w) => slipEx C k w
      | none => .ok (.tup l)) else slipEx C 0 "many") = .ex C' ns fd := h
    split at h
    · cases s : scan 0 l with
      | none => rw [s] at h; cases h
      | some kw => rw [s] at h; exact key h
    · exact key h
theorem btwO_ex {C C' : Addr} {ns : List Str} {fd : List Dt} (h : btwO C x y = .ex C' ns fd) : C' = C ∧ ns = (["what", "index"] : List Str) ∧ ∃ (w : Str) (k : Int), fd = [.str w, .int k] := by
  unfold btwO at h
  split at h
  · rename_i e
    cases h
    exact rowO_ex e
  · split at h
    · rename_i e
      cases h
      exact rowO_ex e
    · split at h
      · split at h
        · cases h
        · unfold slipEx at h
          cases h
          exact ⟨rfl, rfl, _, _, rfl⟩
      · cases h
theorem sem_refused (hm : PySem.W.exmOne c.K (.ref (He.ga c.K "BadSlipRow")) (.ref (He.ga c.K "BadSlipRow")) = some true) (hx : RowIn x) (hy : RowIn y) (zx : Row22 x) (zy : Row22 y) (k : RetD c D.rt (fun d => d = refD (btwO (He.ga c.K "BadSlipRow") x y))) : Cont c (t_u_law_refused c.K D) [.dat x, .dat y, .no] := by
  refine c_seq (c_tryR2 (f := "index") (g := "what") (by decide) (es_cons (ed_var rfl) (es_cons (ed_var rfl) es_nil)) (by show 2 < 3; decide) hm ⟨_, x, y, rfl, hx, hy, zx, zy, rfl⟩ (fun d ⟨x', y', e, _, _, _, _, eo⟩ => ?_) fun C' ns fd ⟨x', y', e, _, _, _, _, eo⟩ => ?_)
  · cases e
    refine c_ret ed_non (RetD.imp k fun z ez => ?_)
    rw [ez, ← eo] <;> rfl
  · cases e
    obtain ⟨h1, h2, w, j, h3⟩ := btwO_ex eo.symm
    refine ⟨h1, h2, .str w, .int j, h3, RetD.imp k fun z ez => ?_⟩
    rw [ez, ← eo, h3] <;> rfl
end
end K22
set_option Elab.async false
set_option linter.all false
set_option maxRecDepth 100000
set_option maxHeartbeats 4000000
namespace K22
open PySem PySem.Spec PyProof.Rows L2 My StX RZ Lw
local macro_rules | `(tactic| walk_at "ed") => `(tactic| first
  | exact ed_int | exact ed_bl | exact ed_str | exact ed_non
  | exact ed_var rfl
  | (apply ed_I0; (focus walk_at "ed"); (focus walk_at "ed"))
  | (apply ed_B0; (focus walk_at "ed"); (focus walk_at "ed"))
  | (apply ed_neg; (focus walk_at "ed"))
  | (apply ed_ixT; (focus walk_at "ed"); (focus walk_at "ed"); (focus rfl))
  | (apply ed_ixL; (focus walk_at "ed"); (focus walk_at "ed"); (focus rfl))
  | (apply ed_ixO; (focus rfl); (focus walk_at "ed"); (focus rfl))
  | (apply ed_len; (focus walk_at "ed"); (focus rfl))
  | (apply ed_lenO; (focus rfl))
  | (apply ed_tup; (focus walk_at "ed"); (focus (simp only [List.length_cons, List.length_nil]; decide)))
  | (apply ed_eq; (focus walk_at "ed"); (focus walk_at "ed"); (focus rfl); (focus rfl))
  | (apply ed_ne; (focus walk_at "ed"); (focus walk_at "ed"); (focus rfl); (focus rfl))
  | (apply ed_isN; (focus walk_at "ed"))
  | (apply ed_notN; (focus walk_at "ed"))
  | (apply ed_isB; (focus walk_at "ed"); (focus walk_at "ed"))
  | (apply ed_notB; (focus walk_at "ed"); (focus walk_at "ed"))
  | (apply ed_isi; (focus walk_at "ed"); (focus first | rfl | assumption); (focus decide +kernel))
  | (apply ed_isi2; (focus walk_at "ed"); (focus first | rfl | assumption); (focus decide +kernel); (focus decide +kernel))
  | (apply ed_not; (focus walk_at "ed"))
  | (apply ed_int1; (focus walk_at "ed"))
  | (apply ed_abs; (focus walk_at "ed"))
  | (apply ed_gcd; (focus walk_at "ed"); (focus walk_at "ed"))
  | exact es_nil
  | (apply es_cons; (focus walk_at "ed"); (focus walk_at "ed"))
  | (apply eb_test; (focus walk_at "ed"))
  | (apply eb_B; (focus walk_at "ed"))
  | (apply eb_not; (focus walk_at "ed")))
structure WayOk (rs os : List Rat) (J : List Tr) : Prop where
  ok : TrOk J
  shape : shapeB 0 none [] J = true
  first : ∃ x l, J = x :: l ∧ x.2.2 = standP rs
  last : ∃ x l, J = l ++ [x] ∧ x.2.2 = standP os
  each : ∀ x ∈ J, (x.1 = x.2.1 → standP (atR rs os x.1) = x.2.2) ∧ (x.1 ≠ x.2.1 → StretchOk rs os x.1 x.2.1 x.2.2)
  one : ∀ t, 0 ≤ t → t ≤ 1 → (J.filter fun x => !lessR t x.1 && (!lessR x.2.1 t && decide (x.2.2 = standP (atR rs os t)))).length = 1
section
variable {c : Fr} {D : Ends} {E : XK} {es : List Sv} {ta tb te tx : TE} {ts : TA} {x y : Dt} {p q s e t : Rat} {a b : Int} {rs os : List Rat} {n : Nat} {ad : Addr} {l : List Dt}
theorem RowOk.row2 (h : RowOk rs) : Row2 rs := ⟨h.1, h.2.1, fun q hq => ⟨inB_sz (h.2.2 q hq) (by decide), by
  obtain ⟨_, a, b⟩ := h.2.2 q hq
  exact ⟨by grind, by grind⟩⟩⟩
theorem rowOk_in (h : RowOk rs) : RowIn (.tup (rs.map ratD)) ∧ RowIn (.lst (rs.map ratD)) := rowIn_of rs fun q hq => ((h.row2.2.2 q hq).1).mono (by decide)
theorem row22_tup (h : ∀ q ∈ rs, SzR 22 q) : Row22 (.tup (rs.map ratD)) ∧ Row22 (.lst (rs.map ratD)) := ⟨rowSz_of rs h, rowSz_of rs h⟩
theorem Row2.in2 (h : Row2 rs) : In2 rs := fun q hq => (h.2.2 q hq).2
theorem ed_btw (h1 : ED c ta es x) (h2 : ED c tb es y) (hx : itemsD x = some (rs.map ratD)) (hy : itemsD y = some (os.map ratD)) (ix : RowIn x) (iy : RowIn y) (r1 : Row2 rs) (r2 : Row2 os) (hl : rs.length = os.length) :
    ED c (tCall (sp_stands_between c.K) [] E (tCons ta (tCons tb tNil))) es (.tup ((btwR rs os).map trD)) := by
  have zx : Row22 x := fun l e => rowSz_of rs (fun q hq => (r1.2.2 q hq).1) l (by rw [← hx]; exact e)
  have zy : Row22 y := fun l e => rowSz_of os (fun q hq => (r2.2.2 q hq).1) l (by rw [← hy]; exact e)
  have ok : btwO (He.ga c.K "BadSlipRow") x y = .ok (.tup ((btwR rs os).map trD)) := btw_ok (rowO_of hx r1.1 r1.2.1 r1.in2) (rowO_of hy r2.1 r2.2.1 r2.in2) hl
  refine ed_callX (dd := []) (es_cons h1 (es_cons h2 es_nil)) (fun _ => .nil) (d := .tup ((btwR rs os).map trD)) ⟨x, y, rfl, ix, iy, zx, zy, ok.symm⟩ fun o ⟨x', y', e, _, _, _, _, eo⟩ => ?_
  have e' : [x, y] = [x', y'] := e
  cases e'
  rw [eo, ok]
theorem at_first (x : Tr) (l : List Tr) : atI ((x :: l).map trD) 0 = some (trD x) := by
  unfold atI
  have := Evl.ixN_nat (n := (List.map trD (x :: l)).length) (j := 0) (by rw [List.length_map, List.length_cons]; omega)
  have e : ixN (List.map trD (x :: l)).length 0 = some 0 := this
  rw [e]
  rfl
noncomputable def hitP (J : List Tr) (t : Rat) (st : SN) (y : Dt) : Bool := @decide (∃ x, y = trD x ∧ (!lessR t x.1 && (!lessR x.2.1 t && decide (x.2.2 = st))) = true) (Classical.propDecidable _)
theorem hitP_iff {J : List Tr} {st : SN} (x : Tr) : hitP J t st (trD x) = true ↔ (!lessR t x.1 && (!lessR x.2.1 t && decide (x.2.2 = st))) = true := by
  unfold hitP
  rw [@decide_eq_true_iff _ (Classical.propDecidable _)]
  constructor
  · rintro ⟨y, e, h⟩
    rw [trD_inj e]
    exact h
  · intro h
    exact ⟨x, rfl, h⟩
theorem sem_way (hm : c.mu = [ad]) (h1 : RowOk rs) (h2 : RowOk os) (hl : rs.length = os.length) (hw : WayOk rs os (btwR rs os)) (k : RetH c ad D.rt (fun d => d = .bl true)) :
    Cont c (t_u_law_way_right c.K D) [.hand ad, .dat (.tup (rs.map ratD)), .dat (.tup (os.map ratD)), .no, .no, .no, .no, .no, .no, .no, .no, .no, .no] := by
  have R1 := h1.row2
  have R2 := h2.row2
  have A1 := R1.all
  have A2 := R2.all
  have F : ∀ {rs : List Rat}, Row2 rs → Few9 rs := fun h => ⟨h.2.1, fun q hq => ((h.2.2 q hq).1).mono (by decide)⟩
  refine s_asg (ed_btw (x := .lst (rs.map ratD)) (y := .tup (os.map ratD)) (EV.imp (ev_giveH (k := 0) hm rfl (eo_list (ed_var rfl) rfl)) fun z ⟨l, e, el⟩ => by rw [e, el]) (ed_var rfl) rfl rfl (rowOk_in h1).2 (rowOk_in h2).1 R1 R2 hl) ?_
  obtain ⟨ok, shape, ⟨xf, lf, ef, hf⟩, ⟨xl, ll, el, hlast⟩, each, one⟩ := hw
  generalize btwR rs os = J at *
  have fineJ := fine_trs J
  have nJ := ok.2.1
  refine s_when (b := false) (EBd.is (eb_not (eb_B (ed_call (es_cons (ed_var rfl) es_nil) ⟨J, rfl, ok, shape, rfl⟩ fun y ⟨_, _, _, _, ey⟩ => ey))) rfl) (fun z => by cases z) fun _ => ?_
  have i3 : ∀ {es : List Sv}, es[3]? = some (.dat (.tup (J.map trD))) → ED c (tOp (rIx c.K) (tOp (rIx c.K) (tVar 3) (tC (.int 0))) (tC (.int 2))) es (stD (standP rs)) := fun h => by
    rw [← hf]
    exact ed_ixT (i := 2) (l := [ratD xf.1, ratD xf.2.1, stD xf.2.2]) (ed_ixT (ed_var h) ed_int (by rw [ef]; exact at_first xf lf)) ed_int rfl
  have i4 : ∀ {es : List Sv}, es[3]? = some (.dat (.tup (J.map trD))) → ED c (tOp (rIx c.K) (tOp (rIx c.K) (tVar 3) (tUn (rU fun i => .int (-i)) (tC (.int 1)))) (tC (.int 2))) es (stD (standP os)) := fun h => by
    rw [← hlast]
    exact ed_ixT (i := 2) (l := [ratD xl.1, ratD xl.2.1, stD xl.2.2]) (ed_ixT (ed_var h) (ed_neg ed_int) (by rw [el, List.map_append]; exact My.atI_last _ _)) ed_int rfl
  refine s_when (b := false) (EBd.is (eb_or (b := false) (b' := false) (EBd.is (eb_test (ed_ne (i3 rfl) (ed_lstand (ed_var rfl) (F R1)) (fine_sn _) (fine_sn _))) (by rw [eqv_sn, decide_eq_true rfl] <;> rfl)) fun _ => EBd.is (eb_test (ed_ne (i4 rfl) (ed_lstand (ed_var rfl) (F R2)) (fine_sn _) (fine_sn _))) (by rw [eqv_sn, decide_eq_true rfl] <;> rfl)) rfl) (fun z => by cases z) fun _ => ?_
  refine s_for (I := fun _ es => ∃ s4 s5 s6 : Sv, es = [.hand ad, .dat (.tup (rs.map ratD)), .dat (.tup (os.map ratD)), .dat (.tup (J.map trD)), s4, s5, s6, .no, .no, .no, .no, .no, .no] ∧ Pl s4 ∧ Pl s5 ∧ Pl s6) (f := fun y es => match y with
    | .tup [a, b, s] => ((es.set 4 (.dat a)).set 5 (.dat b)).set 6 (.dat s)
    | _ => es) (vs := [4, 5, 6]) (wi_seq (ed_var rfl) rfl) ⟨_, _, _, rfl, .inl rfl, .inl rfl, .inl rfl⟩ (fun P y hy => ?_) (fun P1 L k y es ey ⟨s4, s5, s6, h2, p4, p5, p6⟩ => ?_) fun es ⟨s4, s5, s6, h2, p4, p5, p6⟩ => ?_
  · obtain ⟨x, _, rfl⟩ := List.mem_map.mp hy
    exact tg_three
  · subst h2
    rw [List.getElem?_map] at ey
    obtain ⟨x, ex, rfl⟩ := Option.map_eq_some_iff.mp ey
    have hx := List.mem_of_getElem? ex
    obtain ⟨z1, z2, z3⟩ := ok.2.2 x hx
    obtain ⟨w1, w2⟩ := each x hx
    have turn : Cont (c.at P1) (My.Turn (c.at P1) (fun _ es => ∃ s4 s5 s6 : Sv, es = [.hand ad, .dat (.tup (rs.map ratD)), .dat (.tup (os.map ratD)), .dat (.tup (J.map trD)), s4, s5, s6, .no, .no, .no, .no, .no, .no] ∧ Pl s4 ∧ Pl s5 ∧ Pl s6) (k + 1)) [.hand ad, .dat (.tup (rs.map ratD)), .dat (.tup (os.map ratD)), .dat (.tup (J.map trD)), .dat (ratD x.1), .dat (ratD x.2.1), .dat (stD x.2.2), .no, .no, .no, .no, .no, .no] := c_turn' rfl ⟨_, _, _, rfl, .inr ⟨_, rfl⟩, .inr ⟨_, rfl⟩, .inr ⟨_, rfl⟩⟩
    refine c_if (b := decide (x.1 = x.2.1)) (EBd.is (eb_test (ed_eq (x := ratD x.1) (y := ratD x.2.1) (ed_var rfl) (ed_var rfl) rfl rfl)) (by rw [eqv_ratD])) (fun h => ?_) fun h => ?_
    · have h := of_decide_eq_true h
      refine c_if (b := false) (EBd.is (eb_test (ed_ne (x := stD (standP (atR rs os x.1))) (y := stD x.2.2) (ed_lstand (c := c.at P1) (ed_lat (c := c.at P1) (ed_var rfl) (ed_var rfl) (ed_var rfl) A1 A2 (z1.mono (by decide))) (at_few A1 A2 z1 (by decide))) (ed_var rfl) (fine_sn _) (fine_sn _))) (by rw [eqv_sn, w1 h, decide_eq_true rfl] <;> rfl)) (fun z => by cases z) fun _ => c_next turn
    · have h := of_decide_eq_false h
      refine c_if (b := false) (EBd.is (eb_not (eb_B (ed_call (c := c.at P1) (es_cons (ed_var rfl) (es_cons (ed_var rfl) (es_cons (ed_var rfl) (es_cons (ed_var rfl) (es_cons (ed_var rfl) es_nil))))) ⟨rs, os, x.1, x.2.1, x.2.2, rfl, hl, A1, A2, z1, z2, z3, w2 h, rfl⟩ fun y ⟨_, _, _, _, _, _, _, _, _, _, _, _, _, ey⟩ => ey))) rfl) (fun z => by cases z) fun _ => c_next turn
  · subst h2
    refine c_seq (c_rng1 (I := fun _ es => ∃ s7 s8 s9 s10 s11 : Sv, es = [.hand ad, .dat (.tup (rs.map ratD)), .dat (.tup (os.map ratD)), .dat (.tup (J.map trD)), s4, s5, s6, s7, s8, s9, s10, s11, .no] ∧ Pl s7 ∧ Pl s8 ∧ Pl s9 ∧ Pl s10 ∧ Pl s11) ed_int (by omega) ⟨_, _, _, _, _, rfl, .inl rfl, .inl rfl, .inl rfl, .inl rfl, .inl rfl⟩ (fun k es hk ⟨s7, s8, s9, s10, s11, e, p7, p8, p9, p10, p11⟩ => ?_) fun es ⟨s7, s8, s9, s10, s11, e, p7, p8, p9, p10, p11⟩ => ?_)
    · subst e
      refine s_asgV (ei_I0 (ei_of ed_int) (ev_draw (k := 0) rfl ed_int (by decide) (by decide))) fun d ⟨bt, e, i, j, hi, ⟨hj0, hj1⟩, ew⟩ => ?_
      subst e
      have b0 : 0 < bt := by omega
      have b1 : bt ≤ 30 := by omega
      have st : Sz 5 bt := by
        show bt.natAbs < 2 ^ 5
        have e : (2 : Nat) ^ 5 = 32 := rfl
        omega
      have big : (2 : Int) ^ 64 = 18446744073709551616 := rfl
      refine s_asgV (φ := fun d => ∃ t : Rat, d = ratD t ∧ SzR 6 t ∧ 0 ≤ t ∧ t ≤ 1) (EV.imp (evs_call (dd := []) (evs_cons (ev_draw (k := 0) rfl (ed_I0 (ed_var rfl) ed_int) (by omega) (by omega)) (evs_cons (ei_of (ed_var rfl)) es_nil)) (fun _ => .nil) ?_) fun d hd => ?_) fun d ⟨t, e, zt, t0, t1⟩ => ?_
      · rintro l ⟨_, _, rfl, ⟨w, rfl, hw0, hw1⟩, _, _, rfl, ⟨w2, rfl, rfl⟩, rfl⟩
        refine ⟨_, _, _, rfl, by omega, ?_, st.mono (by decide), rfl⟩
        refine Sz.mono (n := 5) ?_ (by decide)
        unfold Sz
        have e : (2 : Nat) ^ 5 = 32 := rfl
        omega
      · obtain ⟨_, ⟨_, _, rfl, ⟨w, rfl, hw0, hw1⟩, _, _, rfl, ⟨w2, rfl, rfl⟩, rfl⟩, a', b', e, _, _, _, ed⟩ := hd
        have e1 := Dt.int.inj (List.cons.inj e).1
        have e2 := Dt.int.inj (List.cons.inj (List.cons.inj e).2).1
        subst e1 e2
        refine ⟨_, ed, .of (by omega) (by show w.natAbs < 2 ^ 6; have e : (2 : Nat) ^ 6 = 64 := rfl; omega) (by show w2.natAbs < 2 ^ 6; have e : (2 : Nat) ^ 6 = 64 := rfl; omega), ?_, ?_⟩
        · rw [Rat.divInt_eq_div, ← Rat.not_lt, Rat.div_lt_iff (Rat.intCast_pos.mpr b0), show (0 : Rat) = ((0 : Int) : Rat) from rfl, ← Rat.intCast_mul, Rat.intCast_lt_intCast]
          omega
        · rw [Rat.divInt_eq_div, ← Rat.not_lt, Rat.lt_div_iff (Rat.intCast_pos.mpr b0), show (1 : Rat) = ((1 : Int) : Rat) from rfl, ← Rat.intCast_mul, Rat.intCast_lt_intCast]
          omega
      subst e
      refine s_asg (ed_lstand (ed_lat (ed_var rfl) (ed_var rfl) (ed_var rfl) A1 A2 (zt.mono (by decide))) (at_few A1 A2 zt (by decide))) ?_
      have o1 := one t t0 t1
      generalize hst : standP (atR rs os t) = st at *
      have hp : ∀ x, hitP J t st (trD x) = true ↔ (!lessR t x.1 && (!lessR x.2.1 t && decide (x.2.2 = st))) = true := hitP_iff
      have hh : ∀ y, handsOf [Sv.hand ad, .dat (.tup (rs.map ratD)), .dat (.tup (os.map ratD)), .dat (.tup (J.map trD)), s4, s5, s6, .dat (.int k), .dat (.int bt), .dat (ratD t), .dat (stD st), s11, .dat y] = [ad] := fun y => by
        rcases p4 with rfl | ⟨_, rfl⟩ <;> rcases p5 with rfl | ⟨_, rfl⟩ <;> rcases p6 with rfl | ⟨_, rfl⟩ <;> rcases p11 with rfl | ⟨_, rfl⟩ <;> rfl
      refine s_asgV (φ := fun d => d = .lst ((J.filter fun x => !lessR t x.1 && (!lessR x.2.1 t && decide (x.2.2 = st))).map trD)) (EV.imp (ev_giveH (k := 0) hm rfl (eo_lcJ (k := 0) (f := fun y es => es.set 12 (.dat y)) (p := hitP J t st) (fn := id) rfl (WI.r (wi_seq (ed_var rfl) rfl)) (by rw [List.length_map]; omega) (fun P y _ => tg_name) (fun y _ => ⟨hh y, rfl⟩) (fun P _ y hy => ?_) fun P _ y hy _ => ed_var rfl)) fun z ⟨l, e1, e2⟩ => ?_) fun d ed => ?_
      · obtain ⟨x, hx, rfl⟩ := List.mem_map.mp hy
        obtain ⟨z1, z2, z3⟩ := ok.2.2 x hx
        have zt9 : SzR 900 t := zt.mono (by decide)
        have i0 : ∀ {es : List Sv}, es[12]? = some (.dat (trD x)) → ED (c.at P) (tOp (rIx c.K) (tVar 12) (tC (.int 0))) es (ratD x.1) := fun h => ed_ixT (ed_var h) ed_int rfl
        have i1 : ∀ {es : List Sv}, es[12]? = some (.dat (trD x)) → ED (c.at P) (tOp (rIx c.K) (tVar 12) (tC (.int 1))) es (ratD x.2.1) := fun h => ed_ixT (ed_var h) ed_int rfl
        have i2 : ∀ {es : List Sv}, es[12]? = some (.dat (trD x)) → ED (c.at P) (tOp (rIx c.K) (tVar 12) (tC (.int 2))) es (stD x.2.2) := fun h => ed_ixT (ed_var h) ed_int rfl
        refine EBd.is (eb_and (eb_not (eb_B (ed_lless (c := c.at P) (ed_var rfl) (i0 rfl) zt9 (z1.mono (by decide))))) fun _ => EBd.is (eb_and (eb_not (eb_B (ed_lless (c := c.at P) (i1 rfl) (ed_var rfl) (z2.mono (by decide)) zt9))) fun _ => eb_test (ed_eq (x := stD x.2.2) (y := stD st) (i2 rfl) (ed_var rfl) (fine_sn _) (fine_sn _))) (by rw [eqv_sn])) ?_
        rw [Bool.eq_iff_iff]
        exact (hp x).symm
      · rw [e1, e2, List.map_id, List.filter_map]
        congr 2
        refine List.filter_congr fun x _ => ?_
        rw [Bool.eq_iff_iff]
        exact hp x
      · subst ed
        refine c_if (b := false) (EBd.is (eb_test (ed_ne (ed_len (x := .lst ((J.filter fun x => !lessR t x.1 && (!lessR x.2.1 t && decide (x.2.2 = st))).map trD)) (ed_var rfl) (by show some (List.map trD _).length = some 1; rw [List.length_map, o1])) ed_int rfl rfl)) rfl) (fun z => by cases z) fun _ => c_next (c_turn' rfl ⟨_, _, _, _, _, rfl, .inr ⟨_, rfl⟩, .inr ⟨_, rfl⟩, .inr ⟨_, rfl⟩, .inr ⟨_, rfl⟩, .inr ⟨_, rfl⟩⟩)
    · subst e
      exact c_retHh (n := 0) ed_bl k hm rfl
end
end K22
set_option Elab.async false
set_option linter.all false
set_option maxRecDepth 100000
set_option maxHeartbeats 4000000
namespace K22
open PySem PySem.Spec PyProof.Rows L2 My StX RZ Lw
local macro_rules | `(tactic| walk_at "ed") => `(tactic| first
  | exact ed_int | exact ed_bl | exact ed_str | exact ed_non
  | exact ed_var rfl
  | (apply ed_I0; (focus walk_at "ed"); (focus walk_at "ed"))
  | (apply ed_B0; (focus walk_at "ed"); (focus walk_at "ed"))
  | (apply ed_neg; (focus walk_at "ed"))
  | (apply ed_ixT; (focus walk_at "ed"); (focus walk_at "ed"); (focus rfl))
  | (apply ed_ixL; (focus walk_at "ed"); (focus walk_at "ed"); (focus rfl))
  | (apply ed_ixO; (focus rfl); (focus walk_at "ed"); (focus rfl))
  | (apply ed_len; (focus walk_at "ed"); (focus rfl))
  | (apply ed_lenO; (focus rfl))
  | (apply ed_tup; (focus walk_at "ed"); (focus (simp only [List.length_cons, List.length_nil]; decide)))
  | (apply ed_eq; (focus walk_at "ed"); (focus walk_at "ed"); (focus rfl); (focus rfl))
  | (apply ed_ne; (focus walk_at "ed"); (focus walk_at "ed"); (focus rfl); (focus rfl))
  | (apply ed_isN; (focus walk_at "ed"))
  | (apply ed_notN; (focus walk_at "ed"))
  | (apply ed_isB; (focus walk_at "ed"); (focus walk_at "ed"))
  | (apply ed_notB; (focus walk_at "ed"); (focus walk_at "ed"))
  | (apply ed_isi; (focus walk_at "ed"); (focus first | rfl | assumption); (focus decide +kernel))
  | (apply ed_isi2; (focus walk_at "ed"); (focus first | rfl | assumption); (focus decide +kernel); (focus decide +kernel))
  | (apply ed_not; (focus walk_at "ed"))
  | (apply ed_int1; (focus walk_at "ed"))
  | (apply ed_abs; (focus walk_at "ed"))
  | (apply ed_gcd; (focus walk_at "ed"); (focus walk_at "ed"))
  | exact es_nil
  | (apply es_cons; (focus walk_at "ed"); (focus walk_at "ed"))
  | (apply eb_test; (focus walk_at "ed"))
  | (apply eb_B; (focus walk_at "ed"))
  | (apply eb_not; (focus walk_at "ed")))
theorem cnt_le {α : Type} {p q : α → Bool} : ∀ {l : List α}, (∀ x ∈ l, p x = true → q x = true) → (l.filter p).length ≤ (l.filter q).length
  | [], _ => Nat.le_refl _
  | x :: l, h => by
    have ih := cnt_le (l := l) fun y hy => h y (List.mem_cons_of_mem _ hy)
    have hx := h x List.mem_cons_self
    rw [List.filter_cons, List.filter_cons]
    cases hp : p x
    · cases q x
      · simpa using ih
      · simp; omega
    · rw [hx hp]
      simpa using ih
theorem cnt_lt {α : Type} {p q : α → Bool} : ∀ {l : List α} {z : α}, (∀ x ∈ l, p x = true → q x = true) → z ∈ l → q z = true → p z = false → (l.filter p).length < (l.filter q).length
  | x :: l, z, h, hz, hq, hp => by
    have hx := h x List.mem_cons_self
    have h2 : ∀ y ∈ l, p y = true → q y = true := fun y hy => h y (List.mem_cons_of_mem _ hy)
    have le := cnt_le h2
    rw [List.filter_cons, List.filter_cons]
    rcases List.mem_cons.mp hz with rfl | hz
    · rw [hp, hq]
      simp
      omega
    · have ih := cnt_lt h2 hz hq hp
      cases hp : p x
      · cases q x
        · simpa using ih
        · simp; omega
      · rw [hx hp]
        simpa using ih
theorem num_pos (p : Rat) : (0 < p.num) ↔ 0 < p := by
  have h1 : 0 ≤ p.num ↔ 0 ≤ p := Rat.num_nonneg
  have h2 : p.num = 0 ↔ p = 0 := Rat.num_eq_zero
  constructor
  · intro h
    have := h1.mp (by omega)
    have : p ≠ 0 := fun z => by have := h2.mpr z; omega
    grind
  · intro h
    have := h1.mpr (by grind)
    have : p.num ≠ 0 := fun z => by have := h2.mp z; grind
    omega
theorem ins_iff {l : List Rat} {p z : Rat} : z ∈ insR l p ↔ z ∈ l ∨ (z = p ∧ 0 < p) := by
  unfold insR
  have np : (0 < p.num) ↔ 0 < p := num_pos p
  split
  · rename_i h
    obtain ⟨h1, h2⟩ := Bool.and_eq_true_iff.mp h
    have h1 := np.mp (of_decide_eq_true h1)
    generalize (l.filter fun q => lessR q p).length = i
    conv => rhs; rw [← List.take_append_drop i l]
    simp only [List.mem_append, List.mem_singleton]
    grind
  · rename_i h
    constructor
    · exact .inl
    · rintro (g | ⟨rfl, hz⟩)
      · exact g
      · have : l.any (fun q => decide (q = z)) = true := by
          cases e : l.any (fun q => decide (q = z))
          · exact (h (by rw [e, decide_eq_true (np.mpr hz)]; rfl)).elim
          · rfl
        obtain ⟨y, hy, e⟩ := List.any_eq_true.mp this
        rw [← of_decide_eq_true e]
        exact hy
theorem fold_iff : ∀ {ps l : List Rat} {z : Rat}, z ∈ ps.foldl insR l ↔ z ∈ l ∨ (z ∈ ps ∧ 0 < z)
  | [], l, z => by simp
  | p :: ps, l, z => by
    rw [List.foldl_cons, fold_iff, ins_iff]
    constructor
    · rintro ((h | ⟨rfl, h⟩) | ⟨h, g⟩)
      · exact .inl h
      · exact .inr ⟨List.mem_cons_self, h⟩
      · exact .inr ⟨List.mem_cons_of_mem _ h, g⟩
    · rintro (h | ⟨h, g⟩)
      · exact .inl (.inl h)
      · rcases List.mem_cons.mp h with rfl | h
        · exact .inl (.inr ⟨rfl, g⟩)
        · exact .inr ⟨h, g⟩
theorem parts_iff {rs : List Rat} {z : Rat} : z ∈ partsR rs ↔ (∃ p ∈ rs, brokR p = z) ∧ 0 < z := by
  unfold partsR
  rw [fold_iff, List.mem_map]
  simp
def rankP (P : List Rat) (f : Rat) : Nat := (P.filter fun h => !lessR f h).length
theorem rank_le {P : List Rat} {f g : Rat} (h : f ≤ g) : rankP P f ≤ rankP P g := cnt_le fun x _ hx => by
  rw [less_dec] at hx ⊢
  simp at hx ⊢
  grind
theorem rank_lt {P : List Rat} {f g : Rat} (h : f < g) (hg : g ∈ P) : rankP P f < rankP P g := cnt_lt (z := g) (fun x _ hx => by
  rw [less_dec] at hx ⊢
  simp at hx ⊢
  grind) hg (by rw [less_dec]; simp) (by rw [less_dec]; simp; exact h)
theorem ranks_lt {rs : List Rat} {p q : Rat} (hp : p ∈ rs) (hq : q ∈ rs) : rankP (partsR rs) (brokR p) < rankP (partsR rs) (brokR q) ↔ brokR p < brokR q := by
  constructor
  · intro h
    rcases Classical.em (brokR p < brokR q) with g | g
    · exact g
    · exact absurd (rank_le (P := partsR rs) (Rat.not_lt.mp g)) (by omega)
  · intro h
    exact rank_lt h (parts_iff.mpr ⟨⟨q, hq, rfl⟩, by have := (brok_range p).1; grind⟩)
theorem ranks_0 {rs : List Rat} {p : Rat} (hp : p ∈ rs) : rankP (partsR rs) (brokR p) = 0 ↔ brokR p = 0 := by
  constructor
  · intro h
    rcases Classical.em (brokR p = 0) with g | g
    · exact g
    · have := (brok_range p).1
      have := rank_lt (P := partsR rs) (f := 0) (g := brokR p) (by grind) (parts_iff.mpr ⟨⟨p, hp, rfl⟩, by grind⟩)
      omega
  · intro h
    unfold rankP
    rw [List.length_eq_zero_iff, List.filter_eq_nil_iff]
    intro z hz
    have := (parts_iff.mp hz).2
    rw [less_dec, h]
    simp
    exact this
theorem ins_like {I : List (Rat × Rat)} {z : Rat × Rat} (h : ∀ y ∈ z :: I, ∀ x ∈ z :: I, (y.1 < x.1 ↔ y.2 < x.2)) (hp : 0 < z.1 ↔ 0 < z.2) : ∃ I' : List (Rat × Rat), (∀ y ∈ I', y ∈ z :: I) ∧ insR (I.map (·.1)) z.1 = I'.map (·.1) ∧ insR (I.map (·.2)) z.2 = I'.map (·.2) := by
  have e1 : decide (0 < z.1.num) = decide (0 < z.2.num) := by
    have a := num_pos z.1
    have b := num_pos z.2
    exact decide_eq_decide.mpr (by rw [a, b, hp])
  have e2 : (I.map (·.1)).any (fun q => decide (q = z.1)) = (I.map (·.2)).any (fun q => decide (q = z.2)) := by
    rw [List.any_map, List.any_map]
    rw [Bool.eq_iff_iff, List.any_eq_true, List.any_eq_true]
    have k : ∀ y ∈ I, (decide (y.1 = z.1) = true ↔ decide (y.2 = z.2) = true) := fun y hy => by
      have a := h y (List.mem_cons_of_mem _ hy) z List.mem_cons_self
      have b := h z List.mem_cons_self y (List.mem_cons_of_mem _ hy)
      simp only [decide_eq_true_iff]
      constructor <;> intro e <;> grind
    constructor
    · rintro ⟨y, hy, e⟩
      exact ⟨y, hy, (k y hy).mp e⟩
    · rintro ⟨y, hy, e⟩
      exact ⟨y, hy, (k y hy).mpr e⟩
  have e3 : ((I.map (·.1)).filter fun q => lessR q z.1).length = ((I.map (·.2)).filter fun q => lessR q z.2).length := by
    rw [List.filter_map, List.filter_map, List.length_map, List.length_map]
    congr 1
    exact List.filter_congr fun y hy => by
      show lessR y.1 z.1 = lessR y.2 z.2
      rw [less_dec, less_dec]
      exact decide_eq_decide.mpr (h y (List.mem_cons_of_mem _ hy) z List.mem_cons_self)
  unfold insR
  rw [e1, e2, e3]
  generalize ((I.map (·.2)).filter fun q => lessR q z.2).length = i
  split
  · refine ⟨I.take i ++ [z] ++ I.drop i, fun y hy => ?_, ?_, ?_⟩
    · rcases List.mem_append.mp hy with hy | hy
      · rcases List.mem_append.mp hy with hy | hy
        · exact List.mem_cons_of_mem _ (List.mem_of_mem_take hy)
        · rw [List.mem_singleton.mp hy]; exact List.mem_cons_self
      · exact List.mem_cons_of_mem _ (List.mem_of_mem_drop hy)
    · rw [List.map_append, List.map_append, List.map_take, List.map_drop]
      rfl
    · rw [List.map_append, List.map_append, List.map_take, List.map_drop]
      rfl
  · exact ⟨I, fun y hy => List.mem_cons_of_mem _ hy, rfl, rfl⟩
theorem fold_like : ∀ (L I : List (Rat × Rat)), (∀ y, y ∈ L ∨ y ∈ I → ∀ x, x ∈ L ∨ x ∈ I → (y.1 < x.1 ↔ y.2 < x.2)) → (∀ y ∈ L, (0 < y.1 ↔ 0 < y.2)) → ∃ I' : List (Rat × Rat), (∀ y ∈ I', y ∈ L ∨ y ∈ I) ∧ (L.map (·.1)).foldl insR (I.map (·.1)) = I'.map (·.1) ∧ (L.map (·.2)).foldl insR (I.map (·.2)) = I'.map (·.2)
  | [], I, h, hp => ⟨I, fun y hy => .inr hy, rfl, rfl⟩
  | z :: L, I, h, hp => by
    have w : ∀ y ∈ z :: I, y ∈ z :: L ∨ y ∈ I := fun y hy => by
      rcases List.mem_cons.mp hy with rfl | hy
      · exact .inl List.mem_cons_self
      · exact .inr hy
    obtain ⟨J, h1, h2, h3⟩ := ins_like (z := z) (I := I) (fun y hy x hx => h y (w y hy) x (w x hx)) (hp z List.mem_cons_self)
    have u : ∀ y, y ∈ L ∨ y ∈ J → y ∈ z :: L ∨ y ∈ I := fun y hy => by
      rcases hy with hy | hy
      · exact .inl (List.mem_cons_of_mem _ hy)
      · exact w y (h1 y hy)
    obtain ⟨I', g1, g2, g3⟩ := fold_like L J (fun y hy x hx => h y (u y hy) x (u x hx)) fun y hy => hp y (List.mem_cons_of_mem _ hy)
    refine ⟨I', fun y hy => u y (g1 y hy), ?_, ?_⟩
    · rw [List.map_cons, List.foldl_cons, h2, g2]
    · rw [List.map_cons, List.foldl_cons, h3, g3]
theorem stand_map {α : Type} (f : α → Rat) (L : List α) : standP (L.map f) = L.map fun z => (flR (f z), rankP (partsR (L.map f)) (brokR (f z))) := by
  unfold standP rankP
  rw [List.map_map]
  rfl
theorem stand_same {α : Type} {f g : α → Rat} {L : List α} (h1 : ∀ z ∈ L, flR (f z) = flR (g z)) (h2 : ∀ z ∈ L, (0 < brokR (f z) ↔ 0 < brokR (g z))) (h3 : ∀ z ∈ L, ∀ y ∈ L, (brokR (f z) < brokR (f y) ↔ brokR (g z) < brokR (g y))) : standP (L.map f) = standP (L.map g) := by
  have key := fold_like (L.map fun z => (brokR (f z), brokR (g z))) [] (fun y hy x hx => by
    rcases hy with hy | hy
    · rcases hx with hx | hx
      · obtain ⟨a, ha, rfl⟩ := List.mem_map.mp hy
        obtain ⟨b, hb, rfl⟩ := List.mem_map.mp hx
        exact h3 a ha b hb
      · cases hx
    · cases hy) fun y hy => by
      obtain ⟨a, ha, rfl⟩ := List.mem_map.mp hy
      exact h2 a ha
  obtain ⟨I, k1, k2, k3⟩ := key
  rw [List.map_map] at k2 k3
  have p1 : partsR (L.map f) = I.map (·.1) := by
    rw [← k2]
    unfold partsR
    rw [List.map_map]
    rfl
  have p2 : partsR (L.map g) = I.map (·.2) := by
    rw [← k3]
    unfold partsR
    rw [List.map_map]
    rfl
  rw [stand_map, stand_map, p1, p2]
  refine List.map_congr_left fun z hz => ?_
  rw [h1 z hz]
  congr 1
  unfold rankP
  rw [List.filter_map, List.filter_map, List.length_map, List.length_map]
  congr 1
  refine List.filter_congr fun y hy => ?_
  show (!lessR (brokR (f z)) y.1) = !lessR (brokR (g z)) y.2
  rw [less_dec, less_dec]
  congr 1
  refine decide_eq_decide.mpr ?_
  rcases k1 y hy with hy | hy
  · obtain ⟨a, ha, rfl⟩ := List.mem_map.mp hy
    exact h3 z hz a ha
  · cases hy
theorem stand_inj {α : Type} {f g : α → Rat} {L : List α} (h : standP (L.map f) = standP (L.map g)) : (∀ z ∈ L, flR (f z) = flR (g z)) ∧ (∀ z ∈ L, (brokR (f z) = 0 ↔ brokR (g z) = 0)) ∧ ∀ z ∈ L, ∀ y ∈ L, (brokR (f z) < brokR (f y) ↔ brokR (g z) < brokR (g y)) := by
  rw [stand_map, stand_map] at h
  have k := List.map_inj_left.mp h
  have r : ∀ z ∈ L, rankP (partsR (L.map f)) (brokR (f z)) = rankP (partsR (L.map g)) (brokR (g z)) := fun z hz => (Prod.mk.inj (k z hz)).2
  refine ⟨fun z hz => (Prod.mk.inj (k z hz)).1, fun z hz => ?_, fun z hz y hy => ?_⟩
  · rw [← ranks_0 (List.mem_map_of_mem hz), ← ranks_0 (List.mem_map_of_mem (f := g) hz), r z hz]
  · rw [← ranks_lt (List.mem_map_of_mem hz) (List.mem_map_of_mem hy), ← ranks_lt (List.mem_map_of_mem (f := g) hz) (List.mem_map_of_mem (f := g) hy), r z hz, r y hy]
/-! signs -/
theorem ci_lt {m n : Int} : (m : Rat) < (n : Rat) ↔ m < n := Rat.intCast_lt_intCast
theorem ci_le {m n : Int} : (m : Rat) ≤ (n : Rat) ↔ m ≤ n := Rat.intCast_le_intCast
theorem ci_le1 {m n : Int} : (m : Rat) + 1 ≤ (n : Rat) ↔ m < n := by
  rw [← cast1, ci_le]
  omega
theorem ci_sub (m n : Int) : ((m - n : Int) : Rat) = (m : Rat) - (n : Rat) := Rat.intCast_sub m n
theorem sg1 {p : Rat} {m : Int} : p < m ↔ p.floor < m := Rat.floor_lt_iff.symm
theorem sg2 {p : Rat} {m : Int} : (m : Rat) < p ↔ m < p.floor ∨ (m = p.floor ∧ brokR p ≠ 0) := by
  rw [brok_eq]
  have a := fl_le p
  have b := fl_lt p
  constructor
  · intro h
    have : m ≤ p.floor := Rat.le_floor_iff.mpr (by grind)
    rcases Classical.em (m = p.floor) with e | e
    · refine .inr ⟨e, ?_⟩
      rw [← e]
      grind
    · exact .inl (by omega)
  · rintro (h | ⟨rfl, h⟩)
    · have := ci_lt.mpr h
      grind
    · grind
theorem dg1 {p q : Rat} {m : Int} : p - q < m ↔ p.floor - q.floor < m ∨ (p.floor - q.floor = m ∧ brokR p < brokR q) := by
  have a := brok_range p
  have b := brok_range q
  have ep := brok_eq p
  have eq := brok_eq q
  have es := ci_sub p.floor q.floor
  generalize brokR p = f at *
  generalize brokR q = g at *
  generalize p.floor = P at *
  generalize q.floor = Q at *
  rcases Int.lt_trichotomy (P - Q) m with h | h | h
  · have := ci_le1.mpr h
    constructor
    · intro _; exact .inl h
    · intro _; grind
  · have e : ((P - Q : Int) : Rat) = (m : Rat) := by rw [h]
    constructor
    · intro z; exact .inr ⟨h, by grind⟩
    · rintro (z | ⟨_, z⟩)
      · omega
      · grind
  · have := ci_le1.mpr h
    constructor
    · intro z; grind
    · rintro (z | ⟨z, _⟩) <;> omega
theorem dg2 {p q : Rat} {m : Int} : (m : Rat) < p - q ↔ m < p.floor - q.floor ∨ (p.floor - q.floor = m ∧ brokR q < brokR p) := by
  have h := dg1 (p := q) (q := p) (m := -m)
  have e : ((-m : Int) : Rat) = -(m : Rat) := Rat.intCast_neg m
  rw [e] at h
  constructor
  · intro z
    rcases h.mp (by grind) with z | ⟨z, w⟩
    · exact .inl (by omega)
    · exact .inr ⟨by omega, w⟩
  · intro z
    have := h.mpr (by
      rcases z with z | ⟨z, w⟩
      · exact .inl (by omega)
      · exact .inr ⟨by omega, w⟩)
    grind
/-! times -/
def atZ (t : Rat) (z : Rat × Rat) : Rat := betR z.1 z.2 t
def Hit (s e w : Rat) : Prop := s ≠ e ∧ ∃ m : Int, s + (e - s) * w = m
def Wz (Z : List (Rat × Rat)) (w : Rat) : Prop := 0 ≤ w ∧ w ≤ 1 ∧ ((∃ z ∈ Z, Hit z.1 z.2 w) ∨ ∃ z ∈ Z, ∃ y ∈ Z, Hit (z.1 - y.1) (z.2 - y.2) w)
theorem cross {s e t u : Rat} (h : t ≤ u) (no : ∀ w, t ≤ w → w ≤ u → ¬ Hit s e w) (m : Int) : (s + (e - s) * t < m ↔ s + (e - s) * u < m) ∧ ((m : Rat) < s + (e - s) * t ↔ (m : Rat) < s + (e - s) * u) := by
  rcases Classical.em (s = e) with hs | hs
  · subst hs
    have : s + (s - s) * t = s + (s - s) * u := by grind
    rw [this]
    exact ⟨.rfl, .rfl⟩
  · have hd : e - s ≠ 0 := fun z => hs (by grind)
    obtain ⟨w, hw⟩ : ∃ w : Rat, s + (e - s) * w = m := ⟨((m : Rat) - s) / (e - s), by grind⟩
    have n := fun a b => no w a b ⟨hs, m, hw⟩
    generalize (m : Rat) = r at *
    have et : s + (e - s) * t = r + (e - s) * (t - w) := by grind
    have eu : s + (e - s) * u = r + (e - s) * (u - w) := by grind
    rw [et, eu]
    have side : (t < w ∧ u < w) ∨ (w < t ∧ w < u) := by
      rcases Classical.em (t ≤ w) with a | a
      · have := n a
        exact .inl (by grind)
      · exact .inr (by grind)
    have dd : 0 < e - s ∨ 0 < s - e := by grind
    rcases side with ⟨a, b⟩ | ⟨a, b⟩
    · rcases dd with d | d
      · have := Rat.mul_pos d (show 0 < w - t by grind)
        have := Rat.mul_pos d (show 0 < w - u by grind)
        constructor <;> grind
      · have := Rat.mul_pos d (show 0 < w - t by grind)
        have := Rat.mul_pos d (show 0 < w - u by grind)
        constructor <;> grind
    · rcases dd with d | d
      · have := Rat.mul_pos d (show 0 < t - w by grind)
        have := Rat.mul_pos d (show 0 < u - w by grind)
        constructor <;> grind
      · have := Rat.mul_pos d (show 0 < t - w by grind)
        have := Rat.mul_pos d (show 0 < u - w by grind)
        constructor <;> grind
theorem crossed {s e t u w : Rat} (h : t < u) (h1 : t ≤ w) (h2 : w ≤ u) (hh : Hit s e w) (g : ∀ m : Int, (s + (e - s) * t < m ↔ s + (e - s) * u < m) ∧ ((m : Rat) < s + (e - s) * t ↔ (m : Rat) < s + (e - s) * u)) : False := by
  obtain ⟨hs, m, hm⟩ := hh
  have gm := g m
  generalize (m : Rat) = r at *
  have et : s + (e - s) * t = r + (e - s) * (t - w) := by grind
  have eu : s + (e - s) * u = r + (e - s) * (u - w) := by grind
  rw [et, eu] at gm
  have dd : 0 < e - s ∨ 0 < s - e := by grind
  rcases Classical.em (t = w) with a | a
  · subst a
    rcases dd with d | d
    · have := Rat.mul_pos d (show 0 < u - t by grind)
      grind
    · have := Rat.mul_pos d (show 0 < u - t by grind)
      grind
  · rcases dd with d | d
    · have := Rat.mul_pos d (show 0 < w - t by grind)
      have := Rat.mul_nonneg (Rat.le_of_lt d) (show 0 ≤ u - w by grind)
      grind
    · have := Rat.mul_pos d (show 0 < w - t by grind)
      have := Rat.mul_nonneg (Rat.le_of_lt d) (show 0 ≤ u - w by grind)
      grind
abbrev SZ (Z : List (Rat × Rat)) (t : Rat) : SN := standP (Z.map (atZ t))
theorem at_sub (z y : Rat × Rat) (t : Rat) : atZ t z - atZ t y = (z.1 - y.1) + ((z.2 - y.2) - (z.1 - y.1)) * t := by
  unfold atZ betR
  grind
theorem at_one (z : Rat × Rat) (t : Rat) : atZ t z = z.1 + (z.2 - z.1) * t := rfl
theorem S_const {Z : List (Rat × Rat)} {t u : Rat} (h0 : 0 ≤ t) (h : t ≤ u) (h1 : u ≤ 1) (no : ∀ w, t ≤ w → w ≤ u → ¬ Wz Z w) : SZ Z t = SZ Z u := by
  have c1 : ∀ z ∈ Z, ∀ m : Int, (atZ t z < m ↔ atZ u z < m) ∧ ((m : Rat) < atZ t z ↔ (m : Rat) < atZ u z) := fun z hz m =>
    cross h (fun w a b hh => no w a b ⟨by grind, by grind, .inl ⟨z, hz, hh⟩⟩) m
  have c2 : ∀ z ∈ Z, ∀ y ∈ Z, ∀ m : Int, (atZ t z - atZ t y < m ↔ atZ u z - atZ u y < m) := fun z hz y hy m => by
    rw [at_sub, at_sub]
    exact (cross h (fun w a b hh => no w a b ⟨by grind, by grind, .inr ⟨z, hz, y, hy, hh⟩⟩) m).1
  have fl : ∀ z ∈ Z, (atZ t z).floor = (atZ u z).floor := fun z hz => by
    have a := fun m => (c1 z hz m).1
    have a : ∀ m : Int, (atZ t z).floor < m ↔ (atZ u z).floor < m := fun m => by rw [← sg1, ← sg1]; exact a m
    have := a ((atZ t z).floor + 1)
    have := a ((atZ u z).floor + 1)
    omega
  refine stand_same (fun z hz => by rw [fl_eq, fl_eq, fl z hz]) (fun z hz => ?_) fun z hz y hy => ?_
  · have := (c1 z hz (atZ t z).floor).2
    rw [brok_eq, brok_eq, ← fl z hz]
    generalize ((atZ t z).floor : Rat) = r at *
    grind
  · have a := c2 z hz y hy ((atZ t z).floor - (atZ t y).floor)
    rw [dg1, dg1, ← fl z hz, ← fl y hy] at a
    simpa using a
theorem S_ne {Z : List (Rat × Rat)} {t u w : Rat} (h : t < u) (h1 : t ≤ w) (h2 : w ≤ u) (hw : Wz Z w) : SZ Z t ≠ SZ Z u := fun hs => by
  obtain ⟨a, b, c⟩ := stand_inj hs
  obtain ⟨_, _, ⟨z, hz, hh⟩ | ⟨z, hz, y, hy, hh⟩⟩ := hw
  · refine crossed h h1 h2 hh fun m => ?_
    rw [← at_one, ← at_one]
    have fz := a z hz
    rw [fl_eq, fl_eq] at fz
    have bz := b z hz
    exact ⟨by rw [sg1, sg1, fz], by rw [sg2, sg2, fz, ne_eq, ne_eq, bz]⟩
  · refine crossed h h1 h2 hh fun m => ?_
    rw [← at_sub, ← at_sub]
    have fz := a z hz
    have fy := a y hy
    rw [fl_eq, fl_eq] at fz fy
    have c1 := c z hz y hy
    have c2 := c y hy z hz
    exact ⟨by rw [dg1, dg1, fz, fy, c1], by rw [dg2, dg2, fz, fy, c2]⟩
/-! the distances -/
theorem dist_of {rs os : List Rat} {x : Rat × Rat} (h3 : rs.length ≤ 3) (hl : rs.length = os.length) (h : x ∈ (distR rs).zip (distR os)) : x ∈ rs.zip os ∨ ∃ z ∈ rs.zip os, ∃ y ∈ rs.zip os, x = (z.1 - y.1, z.2 - y.2) := by
  match rs, os, h3, hl with
  | [], [], _, _ => exact .inl h
  | [a], [a'], _, _ => exact .inl h
  | [a, b], [a', b'], _, _ =>
    rw [show (distR [a, b]).zip (distR [a', b']) = [(a, a'), (b, b'), (a - b, a' - b')] from rfl] at h
    simp only [List.mem_cons, List.not_mem_nil, or_false] at h
    rcases h with rfl | rfl | rfl
    · exact .inl (by simp)
    · exact .inl (by simp)
    · exact .inr ⟨(a, a'), by simp, (b, b'), by simp, rfl⟩
  | [a, b, c], [a', b', c'], _, _ =>
    rw [show (distR [a, b, c]).zip (distR [a', b', c']) = [(a, a'), (b, b'), (c, c'), (a - b, a' - b'), (a - c, a' - c'), (b - c, b' - c')] from rfl] at h
    simp only [List.mem_cons, List.not_mem_nil, or_false] at h
    rcases h with rfl | rfl | rfl | rfl | rfl | rfl
    · exact .inl (by simp)
    · exact .inl (by simp)
    · exact .inl (by simp)
    · exact .inr ⟨(a, a'), by simp, (b, b'), by simp, rfl⟩
    · exact .inr ⟨(a, a'), by simp, (c, c'), by simp, rfl⟩
    · exact .inr ⟨(b, b'), by simp, (c, c'), by simp, rfl⟩
theorem dist_1 {rs os : List Rat} {x : Rat × Rat} (h : x ∈ rs.zip os) (hl : rs.length = os.length) : x ∈ (distR rs).zip (distR os) := by
  unfold distR
  rw [List.zip_append hl]
  exact List.mem_append_left _ h
theorem dist_2 {rs os : List Rat} {z y : Rat × Rat} (h3 : rs.length ≤ 3) (hl : rs.length = os.length) (hz : z ∈ rs.zip os) (hy : y ∈ rs.zip os) : z = y ∨ (z.1 - y.1, z.2 - y.2) ∈ (distR rs).zip (distR os) ∨ (y.1 - z.1, y.2 - z.2) ∈ (distR rs).zip (distR os) := by
  match rs, os, h3, hl with
  | [], [], _, _ => cases hz
  | [a], [a'], _, _ =>
    simp only [List.zip_cons_cons, List.zip_nil_left, List.mem_cons, List.not_mem_nil, or_false] at hz hy
    exact .inl (by rw [hz, hy])
  | [a, b], [a', b'], _, _ =>
    rw [show (distR [a, b]).zip (distR [a', b']) = [(a, a'), (b, b'), (a - b, a' - b')] from rfl]
    simp only [List.zip_cons_cons, List.zip_nil_left, List.mem_cons, List.not_mem_nil, or_false] at hz hy
    rcases hz with rfl | rfl <;> rcases hy with rfl | rfl <;> simp
  | [a, b, c], [a', b', c'], _, _ =>
    rw [show (distR [a, b, c]).zip (distR [a', b', c']) = [(a, a'), (b, b'), (c, c'), (a - b, a' - b'), (a - c, a' - c'), (b - c, b' - c')] from rfl]
    simp only [List.zip_cons_cons, List.zip_nil_left, List.mem_cons, List.not_mem_nil, or_false] at hz hy
    rcases hz with rfl | rfl | rfl <;> rcases hy with rfl | rfl | rfl <;> simp
theorem hit_neg {s e s' e' w : Rat} (h : Hit s e w) (h1 : s' = -s) (h2 : e' = -e) : Hit s' e' w := by
  obtain ⟨a, m, b⟩ := h
  refine ⟨by grind, -m, ?_⟩
  rw [Rat.intCast_neg, ← b]
  grind
theorem hit_iff {s e w : Rat} : w ∈ wholeT s e ↔ 0 ≤ w ∧ w ≤ 1 ∧ Hit s e w := by
  rw [times_iff]
  unfold Hit
  constructor
  · rintro ⟨a, b, c, m, d⟩
    exact ⟨b, c, a, m, by grind⟩
  · rintro ⟨b, c, a, m, d⟩
    exact ⟨a, b, c, m, by grind⟩
theorem cuts_iff {rs os : List Rat} {w : Rat} (h3 : rs.length ≤ 3) (hl : rs.length = os.length) : w ∈ cutsR rs os ↔ w = 0 ∨ w = 1 ∨ Wz (rs.zip os) w := by
  unfold cutsR
  rw [List.mem_append, List.mem_flatMap]
  simp only [List.mem_cons, List.not_mem_nil, or_false, hit_iff]
  constructor
  · rintro ((h | h) | ⟨x, hx, h0, h1, hh⟩)
    · exact .inl h
    · exact .inr (.inl h)
    · refine .inr (.inr ⟨h0, h1, ?_⟩)
      rcases dist_of h3 hl hx with hx | ⟨z, hz, y, hy, rfl⟩
      · exact .inl ⟨x, hx, hh⟩
      · exact .inr ⟨z, hz, y, hy, hh⟩
  · rintro (h | h | ⟨h0, h1, ⟨z, hz, hh⟩ | ⟨z, hz, y, hy, hh⟩⟩)
    · exact .inl (.inl h)
    · exact .inl (.inr h)
    · exact .inr ⟨z, dist_1 hz hl, h0, h1, hh⟩
    · rcases dist_2 h3 hl hz hy with e | e | e
      · subst e
        exact (hh.1 (by grind)).elim
      · exact .inr ⟨_, e, h0, h1, hh⟩
      · exact .inr ⟨_, e, h0, h1, hit_neg hh (by grind) (by grind)⟩
theorem rowAt_eq {rs os : List Rat} (t : Rat) : rowAt rs os t = atR rs os t := by
  unfold rowAt atR
  congr 1
  funext a b
  unfold betR
  grind
theorem atR_eq : ∀ (rs os : List Rat) (t : Rat), atR rs os t = (rs.zip os).map (atZ t)
  | [], _, _ => by simp [atR]
  | _ :: _, [], _ => by simp [atR]
  | a :: rs, b :: os, t => by
    have := atR_eq rs os t
    unfold atR at this ⊢
    rw [List.zipWith_cons_cons, List.zip_cons_cons, List.map_cons, this]
    rfl
/-! ascending lists -/
abbrev Asc (l : List Rat) : Prop := l.Pairwise (· < ·)
theorem mem_mergeW {a b : List Rat} {z : Rat} : z ∈ mergeR a b ↔ z ∈ a ∨ z ∈ b := by
  fun_induction mergeR a b with
  | case1 b => simp
  | case2 a as => simp
  | case3 a as b bs h ih =>
    rw [List.mem_cons, ih]
    simp [or_assoc]
  | case4 a as b bs h1 h2 ih =>
    rw [List.mem_cons, ih]
    simp only [List.mem_cons]
    grind
  | case5 a as b bs h1 h2 ih =>
    have e : a = b := by
      have h1 : lessR a b = false := by simpa using h1
      have h2 : lessR b a = false := by simpa using h2
      have := less_not.mp h1
      have := less_not.mp h2
      grind
    rw [List.mem_cons, ih]
    simp only [List.mem_cons]
    grind
theorem asc_merge {a b : List Rat} (ha : Asc a) (hb : Asc b) : Asc (mergeR a b) := by
  fun_induction mergeR a b with
  | case1 b => exact hb
  | case2 a as => exact ha
  | case3 a as b bs h ih =>
    have h := less_iff.mp h
    have pa := List.pairwise_cons.mp ha
    have pb := List.pairwise_cons.mp hb
    refine List.pairwise_cons.mpr ⟨fun z hz => ?_, ih pa.2 hb⟩
    rcases mem_mergeW.mp hz with hz | hz
    · exact pa.1 z hz
    · rcases List.mem_cons.mp hz with rfl | hz
      · exact h
      · have := pb.1 z hz
        grind
  | case4 a as b bs h1 h2 ih =>
    have h := less_iff.mp h2
    have pa := List.pairwise_cons.mp ha
    have pb := List.pairwise_cons.mp hb
    refine List.pairwise_cons.mpr ⟨fun z hz => ?_, ih ha pb.2⟩
    rcases mem_mergeW.mp hz with hz | hz
    · rcases List.mem_cons.mp hz with rfl | hz
      · exact h
      · have := pa.1 z hz
        grind
    · exact pb.1 z hz
  | case5 a as b bs h1 h2 ih =>
    have e : a = b := by
      have h1 : lessR a b = false := by simpa using h1
      have h2 : lessR b a = false := by simpa using h2
      have := less_not.mp h1
      have := less_not.mp h2
      grind
    subst e
    have pa := List.pairwise_cons.mp ha
    have pb := List.pairwise_cons.mp hb
    refine List.pairwise_cons.mpr ⟨fun z hz => ?_, ih pa.2 pb.2⟩
    rcases mem_mergeW.mp hz with hz | hz
    · exact pa.1 z hz
    · exact pb.1 z hz
theorem mem_sortW : ∀ {n : Nat} {l : List Rat} {z : Rat}, z ∈ sortR n l ↔ z ∈ l
  | 0, l, z => .rfl
  | n + 1, l, z => by
    unfold sortR
    split
    · exact .rfl
    · rw [mem_mergeW, mem_sortW, mem_sortW]
      conv => rhs; rw [← List.take_append_drop (l.length / 2) l]
      rw [List.mem_append]
theorem asc_sort : ∀ {n : Nat} {l : List Rat}, l.length ≤ 2 ^ n → Asc (sortR n l)
  | 0, l, h => by
    match l, h with
    | [], _ => exact .nil
    | [x], _ => exact List.pairwise_singleton _ _
    | _ :: _ :: _, h => simp at h
  | n + 1, l, h => by
    unfold sortR
    split
    · rename_i h2
      match l, h2 with
      | [], _ => exact .nil
      | [x], _ => exact List.pairwise_singleton _ _
      | _ :: _ :: _, h => simp at h; omega
    · rw [Nat.pow_succ] at h
      refine asc_merge (asc_sort ?_) (asc_sort ?_)
      · rw [List.length_take]
        omega
      · rw [List.length_drop]
        omega
theorem nodup_len : ∀ {a b : List Rat}, a.Nodup → (∀ z ∈ a, z ∈ b) → a.length ≤ b.length
  | [], _, _, _ => Nat.zero_le _
  | x :: a, b, h, g => by
    have h := List.nodup_cons.mp h
    have hx := g x List.mem_cons_self
    have ih := nodup_len (b := b.erase x) h.2 fun z hz => by
      have ne : z ≠ x := fun e => h.1 (by rw [← e]; exact hz)
      exact (List.mem_erase_of_ne ne).mpr (g z (List.mem_cons_of_mem _ hz))
    rw [List.length_erase_of_mem hx] at ih
    have : 0 < b.length := List.length_pos_of_mem hx
    rw [List.length_cons]
    omega
theorem count_same {a b : List Rat} (ha : a.Nodup) (hb : b.Nodup) (h : ∀ z, z ∈ a ↔ z ∈ b) (p : Rat → Bool) : (a.filter p).length = (b.filter p).length := by
  have k : ∀ {a b : List Rat}, a.Nodup → (∀ z, z ∈ a → z ∈ b) → (a.filter p).length ≤ (b.filter p).length := fun ha h =>
    nodup_len (List.Pairwise.filter _ ha) fun z hz => List.mem_filter.mpr ⟨h z (List.mem_filter.mp hz).1, (List.mem_filter.mp hz).2⟩
  exact Nat.le_antisymm (k ha fun z => (h z).mp) (k hb fun z => (h z).mpr)
theorem asc_nodup {l : List Rat} (h : Asc l) : l.Nodup := List.Pairwise.imp (fun {a b} (h : a < b) => by show a ≠ b; intro e; subst e; grind) h
theorem ins_nodup {l : List Rat} {p : Rat} (h : l.Nodup) : (insR l p).Nodup := by
  unfold insR
  split
  · rename_i g
    have g2 := (Bool.and_eq_true_iff.mp g).2
    have np : p ∉ l := fun hp => by
      have : l.any (fun q => decide (q = p)) = true := List.any_eq_true.mpr ⟨p, hp, decide_eq_true rfl⟩
      rw [this] at g2
      cases g2
    generalize (l.filter fun q => lessR q p).length = i
    have : (l.take i ++ [p] ++ l.drop i).Perm (p :: l) := by
      rw [List.append_assoc]
      refine List.perm_middle.trans ?_
      show (p :: (l.take i ++ l.drop i)).Perm (p :: l)
      rw [List.take_append_drop]
    exact this.nodup_iff.mpr (List.nodup_cons.mpr ⟨np, h⟩)
  · exact h
theorem fold_nodup : ∀ {ps l : List Rat}, l.Nodup → (ps.foldl insR l).Nodup
  | [], _, h => h
  | p :: ps, l, h => by
    rw [List.foldl_cons]
    exact fold_nodup (ins_nodup h)
theorem idx_asc : ∀ {B : List Rat} {q : Rat}, Asc B → q ∈ B → rankP B q = idxR q B + 1
  | a :: B, q, h, hq => by
    have h := List.pairwise_cons.mp h
    unfold rankP idxR
    rcases Classical.em (a = q) with e | e
    · subst e
      rw [if_pos rfl, List.filter_cons_of_pos (by rw [less_dec]; simp)]
      have : (B.filter fun h => !lessR a h) = [] := List.filter_eq_nil_iff.mpr fun z hz => by
        rw [less_dec, decide_eq_true (h.1 z hz)]
        simp
      rw [this]
      rfl
    · have hq := (List.mem_cons.mp hq).resolve_left fun z => e z.symm
      have ih := idx_asc h.2 hq
      unfold rankP at ih
      have lt := h.1 q hq
      rw [if_neg e, List.filter_cons_of_pos (by rw [less_dec]; simp; grind), List.length_cons, ih]
theorem standN_eq {rs : List Rat} (h : rs.length ≤ 256) : standN rs = standP rs := by
  have e := stand_map id rs
  rw [List.map_id] at e
  rw [e]
  unfold standN
  refine List.map_congr_left fun p hp => ?_
  show (p.num / (p.den : Int), _) = (p.num / (p.den : Int), rankP (partsR rs) (brokR p))
  congr 1
  rcases Classical.em (brokR p = 0) with z | z
  · rw [(ranks_0 hp).mpr z]
    unfold idxR
    rw [if_pos z.symm]
  · unfold idxR
    rw [if_neg fun e => z e.symm]
    have mB : ∀ y, y ∈ brokenR rs ↔ (∃ p ∈ rs, brokR p = y) ∧ y ≠ 0 := fun y => by
      unfold brokenR
      rw [mem_sortW, List.mem_filter, List.mem_map]
      simp
    have aB : Asc (brokenR rs) := asc_sort (by
      have := List.length_filter_le (fun p => !decide (p = 0)) (rs.map brokR)
      rw [List.length_map] at this
      exact Nat.le_trans this h)
    rw [← idx_asc aB ((mB _).mpr ⟨⟨p, hp, rfl⟩, z⟩)]
    refine count_same (asc_nodup aB) (fold_nodup .nil) (fun y => ?_) _
    rw [mB, show y ∈ (rs.map brokR).foldl insR [] ↔ _ from parts_iff]
    constructor
    · rintro ⟨⟨p, hp, rfl⟩, h⟩
      exact ⟨⟨p, hp, rfl⟩, by have := (brok_range p).1; grind⟩
    · rintro ⟨h, g⟩
      exact ⟨h, by grind⟩
/-! spans and joins -/
def spW (S : Rat → SN) : Rat → List Rat → List Tr
  | _, [] => []
  | a, b :: r => (a, b, S (midR a b)) :: (b, b, S b) :: spW S b r
def tlW (S : Rat → SN) : Rat → List Rat → List Tr
  | _, [] => []
  | a, b :: r => if S b = S (midR a b) then (a, b, S (midR a b)) :: tlW S b r else (a, b, S (midR a b)) :: (b, b, S b) :: tlW S b r
theorem item_at {S : Rat → SN} (pre : List Rat) (a b : Rat) (r : List Rat) : item S (pre ++ a :: b :: r) (pre.length + 1) = [(a, b, S (midR a b)), (b, b, S b)] := by
  have e1 : (pre ++ a :: b :: r).getD (pre.length + 1) 0 = b := by
    rw [List.getD_eq_getElem?_getD, List.getElem?_append_right (by omega)]
    rw [show pre.length + 1 - pre.length = 1 by omega]
    rfl
  have e2 : (pre ++ a :: b :: r).getD (pre.length + 1 - 1) 0 = a := by
    rw [List.getD_eq_getElem?_getD, List.getElem?_append_right (by omega)]
    rw [show pre.length + 1 - 1 - pre.length = 0 by omega]
    rfl
  unfold item
  rw [if_pos (by omega), e1, e2]
  rfl
theorem spans_from {S : Rat → SN} : ∀ (r pre : List Rat) (a : Rat), (List.range' (pre.length + 1) r.length).flatMap (item S (pre ++ a :: r)) = spW S a r
  | [], _, _ => rfl
  | b :: r, pre, a => by
    have ih := spans_from (S := S) r (pre ++ [a]) b
    rw [List.length_append, List.length_singleton, List.append_assoc] at ih
    rw [List.length_cons, List.range'_succ, List.flatMap_cons, item_at]
    rw [show pre.length + 1 + 1 = pre.length + 1 + 1 from rfl]
    rw [show pre ++ a :: b :: r = pre ++ ([a] ++ b :: r) from rfl, ih]
    rfl
theorem spans_eq {S : Rat → SN} (a : Rat) (r : List Rat) : spansN S (a :: r) (a :: r).length = (a, a, S a) :: spW S a r := by
  unfold spansN
  rw [List.range_eq_range', List.length_cons, List.range'_succ, List.flatMap_cons]
  have h := spans_from (S := S) r [] a
  rw [show (0 + 1) = ([] : List Rat).length + 1 from rfl, show (a :: r) = [] ++ a :: r from rfl, h]
  rfl
def Sep (S : Rat → SN) : List Rat → Prop
  | b :: c :: r => S b ≠ S (midR b c) ∧ Sep S (c :: r)
  | _ => True
theorem jstep_last {found : List Tr} {y x : Tr} : jstep (found ++ [y]) x = if y.2.2 = x.2.2 then found ++ [(y.1, x.2.1, x.2.2)] else found ++ [y, x] := by
  unfold jstep
  rw [List.getLast?_concat]
  show (if y.2.2 = x.2.2 then (found ++ [y]).dropLast ++ [(y.1, x.2.1, x.2.2)] else (found ++ [y]) ++ [x]) = _
  rw [List.dropLast_concat, List.append_assoc]
  rfl
theorem jstep_new {found : List Tr} {x : Tr} (h : ∀ y, found.getLast? = some y → y.2.2 ≠ x.2.2) : jstep found x = found ++ [x] := by
  unfold jstep
  split
  · rename_i y e
    rw [if_neg (h y e)]
  · rfl
theorem fold_tl {S : Rat → SN} : ∀ (r : List Rat) (a : Rat) (found : List Tr), Sep S r → (∀ b r', r = b :: r' → ∀ y, found.getLast? = some y → y.2.2 ≠ S (midR a b)) → (spW S a r).foldl jstep found = found ++ tlW S a r
  | [], _, found, _, _ => (List.append_nil found).symm
  | b :: r, a, found, hs, hf => by
    have s2 : Sep S r := by
      cases r with
      | nil => exact trivial
      | cons c r => exact hs.2
    have nx : ∀ c r', r = c :: r' → S b ≠ S (midR b c) := fun c r' e => by
      subst e
      exact hs.1
    show (spW S b r).foldl jstep (jstep (jstep found (a, b, S (midR a b))) (b, b, S b)) = _
    rw [jstep_new (x := (a, b, S (midR a b))) (hf b r rfl), jstep_last]
    unfold tlW
    by_cases e : S b = S (midR a b)
    · rw [if_pos e.symm, if_pos e]
      show (spW S b r).foldl jstep (found ++ [(a, b, S b)]) = _
      rw [fold_tl r b _ s2 fun c r' ec y ey => ?_, e]
      · rw [List.append_assoc] <;> rfl
      · rw [List.getLast?_concat] at ey
        cases ey
        exact nx c r' ec
    · rw [if_neg fun z => e z.symm, if_neg e]
      rw [fold_tl r b _ s2 fun c r' ec y ey => ?_]
      · rw [List.append_assoc] <;> rfl
      · rw [show found ++ [(a, b, S (midR a b)), (b, b, S b)] = (found ++ [(a, b, S (midR a b))]) ++ [(b, b, S b)] by rw [List.append_assoc] <;> rfl, List.getLast?_concat] at ey
        cases ey
        exact nx c r' ec
def JJ (S : Rat → SN) (a b : Rat) (r : List Rat) : List Tr := (if S a = S (midR a b) then [] else [(a, a, S a)]) ++ tlW S a (b :: r)
theorem join_eq {S : Rat → SN} {a b : Rat} {r : List Rat} (h : Sep S (b :: r)) : joinL ((a, a, S a) :: spW S a (b :: r)) = JJ S a b r := by
  unfold JJ joinL
  by_cases e : S a = S (midR a b)
  · rw [if_pos e, List.nil_append]
    have h2 := fold_tl (b :: r) a [] h fun b r' _ y ey => by cases ey
    rw [List.nil_append] at h2
    rw [← h2]
    show (spW S b r).foldl jstep (jstep (jstep (jstep [] (a, a, S a)) (a, b, S (midR a b))) (b, b, S b)) = (spW S b r).foldl jstep (jstep (jstep [] (a, b, S (midR a b))) (b, b, S b))
    congr 2
    show jstep ([] ++ [(a, a, S a)]) (a, b, S (midR a b)) = _
    rw [jstep_last, if_pos e]
    rfl
  · rw [if_neg e]
    show (spW S a (b :: r)).foldl jstep [(a, a, S a)] = _
    rw [fold_tl (b :: r) a [(a, a, S a)] h fun b' r' eb y ey => by
      cases eb
      cases ey
      exact e]
/-! the way -/
structure Wy (S : Rat → SN) (W : Rat → Prop) : Prop where
  con : ∀ t u, 0 ≤ t → t ≤ u → u ≤ 1 → (∀ w, t ≤ w → w ≤ u → ¬ W w) → S t = S u
  ne : ∀ t u w, t < u → t ≤ w → w ≤ u → W w → S t ≠ S u
structure Ch (W : Rat → Prop) (a : Rat) (r : List Rat) : Prop where
  nn : 0 ≤ a
  asc : Asc (a :: r)
  bd : ∀ b ∈ r, b ≤ 1 ∧ (b = 1 ∨ W b)
  all : ∀ w, W w → a < w → w ∈ r
  one : a = 1 ∨ 1 ∈ r
section
variable {S : Rat → SN} {W : Rat → Prop} {a b : Rat} {r : List Rat}
theorem Ch.lt (h : Ch W a (b :: r)) : a < b := (List.pairwise_cons.mp h.asc).1 b List.mem_cons_self
theorem Ch.tail (h : Ch W a (b :: r)) : Ch W b r := by
  have p := List.pairwise_cons.mp h.asc
  have lt := h.lt
  have nn := h.nn
  refine ⟨by grind, p.2, fun c hc => h.bd c (List.mem_cons_of_mem _ hc), fun w hw lw => ?_, ?_⟩
  · rcases List.mem_cons.mp (h.all w hw (by grind)) with e | e
    · subst e; grind
    · exact e
  · rcases h.one with e | e
    · have := (h.bd b List.mem_cons_self).1
      grind
    · rcases List.mem_cons.mp e with e | e
      · exact .inl e.symm
      · exact .inr e
theorem Ch.end1 (h : Ch W 1 r) : r = [] := by
  cases r with
  | nil => rfl
  | cons b r =>
    have := h.lt
    have := (h.bd b List.mem_cons_self).1
    grind
theorem Ch.gap (h : Ch W a (b :: r)) : ∀ w, W w → ¬ (a < w ∧ w < b) := fun w hw ⟨h1, h2⟩ => by
  have p := (List.pairwise_cons.mp (List.pairwise_cons.mp h.asc).2).1
  rcases List.mem_cons.mp (h.all w hw h1) with e | e
  · subst e; grind
  · have := p w e
    grind
theorem mid_in (h : a < b) : a < midR a b ∧ midR a b < b := by
  rw [mid_eq]
  constructor <;> grind
theorem Ch.inner (h : Ch W a (b :: r)) (w : Wy S W) {t : Rat} (h1 : a < t) (h2 : t < b) : S t = S (midR a b) := by
  have m := mid_in h.lt
  have g := h.gap
  have n := h.nn
  have o := (h.bd b List.mem_cons_self).1
  rcases Rat.le_total (a := t) (b := midR a b) with z | z
  · exact w.con _ _ (by grind) z (by grind) fun x x1 x2 hx => g x hx ⟨by grind, by grind⟩
  · exact (w.con _ _ (by grind) z (by grind) fun x x1 x2 hx => g x hx ⟨by grind, by grind⟩).symm
/-- a time whose stand is not that of the stretch before it is a hit -/
theorem Ch.hit (h : Ch W a (b :: r)) (w : Wy S W) (e : S b ≠ S (midR a b)) : W b := by
  have m := mid_in h.lt
  have g := h.gap
  have n := h.nn
  have o := (h.bd b List.mem_cons_self).1
  rcases Classical.em (W b) with z | z
  · exact z
  · exact (e (w.con _ _ (by grind) (by grind) o fun x x1 x2 hx => by
      rcases Classical.em (x = b) with q | q
      · subst q; exact z hx
      · exact g x hx ⟨by grind, by grind⟩).symm).elim
theorem Ch.same (h : Ch W a (b :: r)) (w : Wy S W) (e : S b = S (midR a b)) : b = 1 ∧ r = [] := by
  have m := mid_in h.lt
  have k : b = 1 := by
    rcases (h.bd b List.mem_cons_self).2 with z | z
    · exact z
    · exact (w.ne _ _ b m.2 (by grind) (by grind) z e.symm).elim
  refine ⟨k, ?_⟩
  subst k
  exact h.tail.end1
theorem Ch.sep : ∀ {r : List Rat} {a : Rat}, Ch W a r → Wy S W → Sep S r
  | [], _, _, _ => trivial
  | [b], _, _, _ => trivial
  | b :: c :: r, a, h, w => by
    refine ⟨fun e => ?_, h.tail.sep w⟩
    have m := mid_in h.tail.lt
    rcases (h.bd b List.mem_cons_self).2 with z | z
    · subst z
      have := h.tail.end1
      cases this
    · exact w.ne _ _ b m.1 (by grind) (by grind) z e
theorem shape_tl (w : Wy S W) : ∀ (r : List Rat) (a : Rat) (was : Option Bool) (sts : List SN), Ch W a r → was ≠ some false → (∀ s ∈ sts, ∃ u v, u ≤ v ∧ v ≤ a ∧ W v ∧ S u = s) → shapeB a was sts (tlW S a r) = true
  | [], a, was, sts, h, _, _ => by
    have : a = 1 := h.one.resolve_right fun z => by cases z
    show decide (a = 1) = true
    exact decide_eq_true this
  | b :: r, a, was, sts, h, hw, hs => by
    have lt := h.lt
    have m := mid_in lt
    have new : ∀ t, a < t → S t ∉ sts := fun t ht hm => by
      obtain ⟨u, v, h1, h2, h3, h4⟩ := hs _ hm
      exact w.ne u t v (by grind) h1 (by grind) h3 h4
    have first : ∀ l, shapeB b (some false) (sts ++ [S (midR a b)]) l = true → shapeB a was sts ((a, b, S (midR a b)) :: l) = true := fun l hl => by
      unfold shapeB
      have e : decide (a = b) = false := decide_eq_false (by grind)
      show (decide (a = a) && (!lessR b a && (!decide (some (decide (a = b)) = was) && (!decide (S (midR a b) ∈ sts) && shapeB b (some (decide (a = b))) (sts ++ [S (midR a b)]) l)))) = true
      rw [e, hl, decide_eq_true rfl, decide_eq_false (new _ m.1), decide_eq_false fun z => hw z.symm, less_not.mpr (by grind)]
      rfl
    unfold tlW
    split
    · rename_i e
      obtain ⟨e1, e2⟩ := h.same w e
      subst e2
      refine first _ ?_
      show decide (b = 1) = true
      exact decide_eq_true e1
    · rename_i e
      have hb := h.hit w e
      refine first _ ?_
      unfold shapeB
      show (decide (b = b) && (!lessR b b && (!decide (some (decide (b = b)) = some false) && (!decide (S b ∈ sts ++ [S (midR a b)]) && shapeB b (some (decide (b = b))) (sts ++ [S (midR a b)] ++ [S b]) (tlW S b r))))) = true
      have nb : S b ∉ sts ++ [S (midR a b)] := fun z => by
        rcases List.mem_append.mp z with z | z
        · exact new b lt z
        · exact e (List.mem_singleton.mp z)
      have ih := shape_tl w r b (some true) (sts ++ [S (midR a b)] ++ [S b]) h.tail (by decide) fun s hs2 => by
        rcases List.mem_append.mp hs2 with hs2 | hs2
        · rcases List.mem_append.mp hs2 with hs2 | hs2
          · obtain ⟨u, v, h1, h2, h3, h4⟩ := hs s hs2
            exact ⟨u, v, h1, by grind, h3, h4⟩
          · exact ⟨midR a b, b, by grind, by grind, hb, (List.mem_singleton.mp hs2).symm⟩
        · exact ⟨b, b, by grind, by grind, hb, (List.mem_singleton.mp hs2).symm⟩
      have e1 : decide (b = b) = true := decide_eq_true rfl
      rw [e1, ih, decide_eq_false nb, less_not.mpr (Rat.le_refl)]
      rfl
structure Gd (S : Rat → SN) (W : Rat → Prop) (a : Rat) (r : List Rat) (x : Tr) : Prop where
  m1 : x.1 ∈ a :: r
  m2 : x.2.1 ∈ a :: r
  le : x.1 ≤ x.2.1
  pt : x.1 = x.2.1 → S x.1 = x.2.2
  iv : x.1 ≠ x.2.1 → (∀ w, W w → ¬ (x.1 < w ∧ w < x.2.1)) ∧ ∀ t, x.1 < t → t < x.2.1 → S t = x.2.2
  ex : ∃ t, x.2.2 = S t
theorem Gd.up {x : Tr} {c : Rat} (h : Gd S W b r x) : Gd S W a (b :: r) x := ⟨List.mem_cons_of_mem _ h.m1, List.mem_cons_of_mem _ h.m2, h.le, h.pt, h.iv, h.ex⟩
theorem good_tl (w : Wy S W) : ∀ (r : List Rat) (a : Rat), Ch W a r → ∀ x ∈ tlW S a r, Gd S W a r x
  | [], _, _, x, hx => by cases hx
  | b :: r, a, h, x, hx => by
    have lt := h.lt
    have ih := good_tl w r b h.tail
    have g1 : Gd S W a (b :: r) (a, b, S (midR a b)) := ⟨List.mem_cons_self, List.mem_cons_of_mem _ List.mem_cons_self, by show a ≤ b; grind, fun e => by have e : a = b := e; grind, fun _ => ⟨h.gap, fun t h1 h2 => h.inner w h1 h2⟩, _, rfl⟩
    have g2 : Gd S W a (b :: r) (b, b, S b) := ⟨List.mem_cons_of_mem _ List.mem_cons_self, List.mem_cons_of_mem _ List.mem_cons_self, Rat.le_refl, fun _ => rfl, fun z => (z rfl).elim, _, rfl⟩
    unfold tlW at hx
    split at hx
    · rcases List.mem_cons.mp hx with rfl | hx
      · exact g1
      · exact (ih x hx).up (c := a)
    · rcases List.mem_cons.mp hx with rfl | hx
      · exact g1
      · rcases List.mem_cons.mp hx with rfl | hx
        · exact g2
        · exact (ih x hx).up (c := a)
theorem ex_tl (w : Wy S W) : ∀ (r : List Rat) (a : Rat), Ch W a r → ∀ t, a < t → t ≤ 1 → ∃ x ∈ tlW S a r, x.1 ≤ t ∧ t ≤ x.2.1 ∧ x.2.2 = S t
  | [], a, h, t, h1, h2 => by
    have : a = 1 := h.one.resolve_right fun z => by cases z
    grind
  | b :: r, a, h, t, h1, h2 => by
    have lt := h.lt
    have ih := ex_tl w r b h.tail t
    unfold tlW
    rcases Classical.em (t < b) with z | z
    · have e := (h.inner w h1 z).symm
      split
      · exact ⟨_, List.mem_cons_self, by show a ≤ t; grind, by show t ≤ b; grind, e⟩
      · exact ⟨_, List.mem_cons_self, by show a ≤ t; grind, by show t ≤ b; grind, e⟩
    · rcases Classical.em (t = b) with q | q
      · subst q
        split
        · rename_i e
          exact ⟨_, List.mem_cons_self, by show a ≤ t; grind, by show t ≤ t; grind, e.symm⟩
        · exact ⟨_, List.mem_cons_of_mem _ List.mem_cons_self, by show t ≤ t; grind, by show t ≤ t; grind, rfl⟩
      · obtain ⟨x, hx, k⟩ := ih (by grind) h2
        split
        · exact ⟨x, List.mem_cons_of_mem _ hx, k⟩
        · exact ⟨x, List.mem_cons_of_mem _ (List.mem_cons_of_mem _ hx), k⟩
theorem last_tl (w : Wy S W) : ∀ (r : List Rat) (a b : Rat), Ch W a (b :: r) → ∃ l x, tlW S a (b :: r) = l ++ [x] ∧ x.2.2 = S 1
  | [], a, b, h => by
    have e1 : b = 1 := h.tail.one.resolve_right fun z => by cases z
    subst e1
    unfold tlW
    split
    · rename_i e
      exact ⟨[], _, rfl, e.symm⟩
    · exact ⟨[_], _, rfl, rfl⟩
  | c :: r, a, b, h => by
    obtain ⟨l, x, e, hx⟩ := last_tl w r b c h.tail
    unfold tlW
    split
    · exact ⟨_ :: l, x, by rw [e]; rfl, hx⟩
    · exact ⟨_ :: _ :: l, x, by rw [e]; rfl, hx⟩
theorem len_tl : ∀ (r : List Rat) (a : Rat), (tlW S a r).length ≤ 2 * r.length
  | [], _ => Nat.le_refl _
  | b :: r, a => by
    have ih := len_tl r b
    unfold tlW
    split
    · rw [List.length_cons, List.length_cons]; omega
    · rw [List.length_cons, List.length_cons, List.length_cons]; omega
theorem shape_nodup : ∀ {l : List Tr} {last : Rat} {was : Option Bool} {sts : List SN}, shapeB last was sts l = true → (∀ x ∈ l, x.2.2 ∉ sts) ∧ (l.map (·.2.2)).Nodup
  | [], _, _, _, _ => ⟨fun _ h => by (cases h), .nil⟩
  | x :: l, last, was, sts, h => by
    have h : (decide (x.1 = last) && (!lessR x.2.1 x.1 && (!decide (some (decide (x.1 = x.2.1)) = was) && (!decide (x.2.2 ∈ sts) && shapeB x.2.1 (some (decide (x.1 = x.2.1))) (sts ++ [x.2.2]) l)))) = true := h
    obtain ⟨c1, h⟩ := Bool.and_eq_true_iff.mp h
    obtain ⟨c2, h⟩ := Bool.and_eq_true_iff.mp h
    obtain ⟨c3, h⟩ := Bool.and_eq_true_iff.mp h
    obtain ⟨c4, h⟩ := Bool.and_eq_true_iff.mp h
    obtain ⟨k1, k2⟩ := shape_nodup h
    have n4 : x.2.2 ∉ sts := by simpa using c4
    refine ⟨fun y hy => ?_, ?_⟩
    · rcases List.mem_cons.mp hy with rfl | hy
      · exact n4
      · exact fun z => k1 y hy (List.mem_append_left _ z)
    · rw [List.map_cons]
      refine List.nodup_cons.mpr ⟨fun z => ?_, k2⟩
      obtain ⟨y, hy, e⟩ := List.mem_map.mp z
      exact k1 y hy (List.mem_append_right _ (by rw [e]; exact List.mem_singleton.mpr rfl))
theorem only_one {p : Tr → Bool} {s : SN} : ∀ {l : List Tr} {x : Tr}, (l.map (·.2.2)).Nodup → x ∈ l → p x = true → (∀ y ∈ l, p y = true → y.2.2 = s) → (l.filter p).length = 1
  | y :: l, x, hn, hx, hp, ha => by
    rw [List.map_cons] at hn
    have hn := List.nodup_cons.mp hn
    rcases List.mem_cons.mp hx with rfl | hx
    · rw [List.filter_cons_of_pos hp]
      have : l.filter p = [] := List.filter_eq_nil_iff.mpr fun z hz pz => by
        have e1 := ha z (List.mem_cons_of_mem _ hz) pz
        have e2 := ha x List.mem_cons_self hp
        exact hn.1 (List.mem_map.mpr ⟨z, hz, by rw [e1, e2]⟩)
      rw [this]
      rfl
    · have np : p y = false := by
        cases e : p y
        · rfl
        · have e1 := ha y List.mem_cons_self e
          have e2 := ha x (List.mem_cons_of_mem _ hx) hp
          exact (hn.1 (List.mem_map.mpr ⟨x, hx, by rw [e1, e2]⟩)).elim
      rw [List.filter_cons_of_neg (by rw [np]; decide)]
      exact only_one hn.2 hx hp fun z hz => ha z (List.mem_cons_of_mem _ hz)
end
end K22
set_option Elab.async false
set_option linter.all false
set_option maxRecDepth 100000
set_option maxHeartbeats 4000000
namespace K22
open PySem PySem.Spec PyProof.Rows L2 My StX RZ Lw
local macro_rules | `(tactic| walk_at "ed") => `(tactic| first
  | exact ed_int | exact ed_bl | exact ed_str | exact ed_non
  | exact ed_var rfl
  | (apply ed_I0; (focus walk_at "ed"); (focus walk_at "ed"))
  | (apply ed_B0; (focus walk_at "ed"); (focus walk_at "ed"))
  | (apply ed_neg; (focus walk_at "ed"))
  | (apply ed_ixT; (focus walk_at "ed"); (focus walk_at "ed"); (focus rfl))
  | (apply ed_ixL; (focus walk_at "ed"); (focus walk_at "ed"); (focus rfl))
  | (apply ed_ixO; (focus rfl); (focus walk_at "ed"); (focus rfl))
  | (apply ed_len; (focus walk_at "ed"); (focus rfl))
  | (apply ed_lenO; (focus rfl))
  | (apply ed_tup; (focus walk_at "ed"); (focus (simp only [List.length_cons, List.length_nil]; decide)))
  | (apply ed_eq; (focus walk_at "ed"); (focus walk_at "ed"); (focus rfl); (focus rfl))
  | (apply ed_ne; (focus walk_at "ed"); (focus walk_at "ed"); (focus rfl); (focus rfl))
  | (apply ed_isN; (focus walk_at "ed"))
  | (apply ed_notN; (focus walk_at "ed"))
  | (apply ed_isB; (focus walk_at "ed"); (focus walk_at "ed"))
  | (apply ed_notB; (focus walk_at "ed"); (focus walk_at "ed"))
  | (apply ed_isi; (focus walk_at "ed"); (focus first | rfl | assumption); (focus decide +kernel))
  | (apply ed_isi2; (focus walk_at "ed"); (focus first | rfl | assumption); (focus decide +kernel); (focus decide +kernel))
  | (apply ed_not; (focus walk_at "ed"))
  | (apply ed_int1; (focus walk_at "ed"))
  | (apply ed_abs; (focus walk_at "ed"))
  | (apply ed_gcd; (focus walk_at "ed"); (focus walk_at "ed"))
  | exact es_nil
  | (apply es_cons; (focus walk_at "ed"); (focus walk_at "ed"))
  | (apply eb_test; (focus walk_at "ed"))
  | (apply eb_B; (focus walk_at "ed"))
  | (apply eb_not; (focus walk_at "ed")))
/-! the way between two rows -/
theorem wy (Z : List (Rat × Rat)) : Wy (SZ Z) (Wz Z) := ⟨fun _ _ h0 h h1 no => S_const h0 h h1 no, fun _ _ _ h h1 h2 hw => S_ne h h1 h2 hw⟩
section
variable {rs os : List Rat}
theorem way_S (h3 : rs.length ≤ 3) : (fun t => standN (rowAt rs os t)) = SZ (rs.zip os) := by
  funext t
  rw [rowAt_eq, atR_eq, standN_eq]
  rw [List.length_map, List.length_zip]
  omega
theorem chain_of (r1 : Row2 rs) (r2 : Row2 os) (hl : rs.length = os.length) : ∃ b r, instR rs os = 0 :: b :: r ∧ Ch (Wz (rs.zip os)) 0 (b :: r) := by
  have m : ∀ w, w ∈ instR rs os ↔ w = 0 ∨ w = 1 ∨ Wz (rs.zip os) w := fun w => by
    unfold instR
    rw [mem_sortW, cuts_iff r1.2.1 hl]
  have A : Asc (instR rs os) := asc_sort (Nat.le_trans (cuts_len r1 r2) (by decide))
  generalize instR rs os = T at *
  have m0 := (m 0).mpr (.inl rfl)
  have m1 := (m 1).mpr (.inr (.inl rfl))
  have nn : ∀ w ∈ T, 0 ≤ w := fun w hw => by
    rcases (m w).mp hw with rfl | rfl | h
    · exact Rat.le_refl
    · grind
    · exact h.1
  match T, A, m, m0, m1, nn with
  | [], _, _, m0, _, _ => cases m0
  | [a], _, _, m0, m1, _ =>
    have := List.mem_singleton.mp m0
    have := List.mem_singleton.mp m1
    grind
  | a :: b :: r, A, m, m0, m1, nn =>
    have p := List.pairwise_cons.mp A
    have a0 : a = 0 := by
      rcases List.mem_cons.mp m0 with e | e
      · exact e.symm
      · have := p.1 0 e
        have := nn a List.mem_cons_self
        grind
    subst a0
    refine ⟨b, r, rfl, ⟨Rat.le_refl, A, fun c hc => ?_, fun w hw lw => ?_, ?_⟩⟩
    · have lt := p.1 c hc
      rcases (m c).mp (List.mem_cons_of_mem _ hc) with e | e | e
      · subst e; grind
      · subst e; exact ⟨Rat.le_refl, .inl rfl⟩
      · exact ⟨e.2.1, .inr e⟩
    · rcases List.mem_cons.mp ((m w).mpr (.inr (.inr hw))) with e | e
      · subst e; grind
      · exact e
    · rcases List.mem_cons.mp m1 with e | e
      · grind
      · exact .inr e
theorem zip_at0 : ∀ {rs os : List Rat}, rs.length = os.length → (rs.zip os).map (atZ 0) = rs
  | [], [], _ => rfl
  | a :: rs, b :: os, h => by
    rw [List.zip_cons_cons, List.map_cons, zip_at0 (by simpa using h)]
    congr 1
    unfold atZ betR
    grind
theorem zip_at1 : ∀ {rs os : List Rat}, rs.length = os.length → (rs.zip os).map (atZ 1) = os
  | [], [], _ => rfl
  | a :: rs, b :: os, h => by
    rw [List.zip_cons_cons, List.map_cons, zip_at1 (by simpa using h)]
    congr 1
    unfold atZ betR
    grind
theorem btw_J {b : Rat} {r : List Rat} (h3 : rs.length ≤ 3) (e : instR rs os = 0 :: b :: r) (h : Ch (Wz (rs.zip os)) 0 (b :: r)) : btwR rs os = JJ (SZ (rs.zip os)) 0 b r := by
  unfold btwR
  rw [way_S h3, e, spans_eq, join_eq (h.sep (wy _))]
theorem quiet_of {p q : Rat} (h : ∀ m : Int, ¬ ((p < m ∧ (m : Rat) < q) ∨ (q < m ∧ (m : Rat) < p))) : quietB p q = true := by
  have key : ∀ {p q : Rat}, p < q → (∀ m : Int, ¬ (p < m ∧ (m : Rat) < q)) → lessR (iR (flR p + 1)) q = false := fun {p q} lt h => by
    rw [less_not, iR_eq, cast1, fl_eq]
    have a := fl_lt p
    have b := h (p.floor + 1)
    rw [cast1] at b
    generalize (p.floor : Rat) = f at *
    grind
  unfold quietB
  by_cases e : p = q
  · rw [decide_eq_true e]
    rfl
  · rw [decide_eq_false e]
    by_cases l : p < q
    · rw [less_iff.mpr l]
      show (false || !lessR (iR (flR p + 1)) q) = true
      rw [key l fun m hm => h m (.inl hm)]
      rfl
    · rw [less_not.mpr (Rat.not_lt.mp l)]
      show (false || !lessR (iR (flR q + 1)) p) = true
      rw [key (by grind) fun m hm => h m (.inr hm)]
      rfl
/-- nothing gets whole between, so it is quiet -/
theorem quiet_lin {s e t u : Rat} (h : t < u) (no : ∀ w, t < w → w < u → ¬ Hit s e w) : quietB (s + (e - s) * t) (s + (e - s) * u) = true := by
  refine quiet_of fun m hm => ?_
  rcases Classical.em (s = e) with hs | hs
  · subst hs
    have : s + (s - s) * t = s + (s - s) * u := by grind
    grind
  · obtain ⟨w, hw⟩ : ∃ w : Rat, s + (e - s) * w = m := ⟨((m : Rat) - s) / (e - s), by grind⟩
    have n := fun a b => no w a b ⟨hs, m, hw⟩
    generalize (m : Rat) = r at *
    have et : s + (e - s) * t = r + (e - s) * (t - w) := by grind
    have eu : s + (e - s) * u = r + (e - s) * (u - w) := by grind
    rw [et, eu] at hm
    have side : w ≤ t ∨ u ≤ w := by
      rcases Classical.em (t < w) with a | a
      · have := n a
        exact .inr (by grind)
      · exact .inl (by grind)
    have dd : 0 ≤ e - s ∨ 0 ≤ s - e := by grind
    rcases side with a | a
    · rcases dd with d | d
      · have := Rat.mul_nonneg d (show 0 ≤ t - w by grind)
        have := Rat.mul_nonneg d (show 0 ≤ u - w by grind)
        grind
      · have := Rat.mul_nonneg d (show 0 ≤ t - w by grind)
        have := Rat.mul_nonneg d (show 0 ≤ u - w by grind)
        grind
    · rcases dd with d | d
      · have := Rat.mul_nonneg d (show 0 ≤ w - t by grind)
        have := Rat.mul_nonneg d (show 0 ≤ w - u by grind)
        grind
      · have := Rat.mul_nonneg d (show 0 ≤ w - t by grind)
        have := Rat.mul_nonneg d (show 0 ≤ w - u by grind)
        grind
theorem at_get {t : Rat} {k : Nat} (hl : rs.length = os.length) (hk : k < rs.length) : ∃ z ∈ rs.zip os, ∀ t, (atR rs os t).getD k 0 = atZ t z := by
  have hz : k < (rs.zip os).length := by rw [List.length_zip]; omega
  refine ⟨(rs.zip os)[k], List.getElem_mem hz, fun t => ?_⟩
  rw [atR_eq, List.getD_eq_getElem?_getD, List.getElem?_map, List.getElem?_eq_getElem hz]
  rfl
theorem part3_in : ∀ p ∈ part3, 0 < p ∧ p < 1 := fun p hp => by
  have e1 : Rat.divInt 1 2 = 1 / 2 := by rw [Rat.divInt_eq_div] <;> rfl
  have e2 : Rat.divInt 1 9 = 1 / 9 := by rw [Rat.divInt_eq_div] <;> rfl
  have e3 : Rat.divInt 999999999 1000000000 = 999999999 / 1000000000 := by rw [Rat.divInt_eq_div] <;> rfl
  simp only [part3, List.mem_cons, List.not_mem_nil, or_false] at hp
  rcases hp with rfl | rfl | rfl
  · rw [e1]; constructor <;> grind
  · rw [e2]; constructor <;> grind
  · rw [e3]; constructor <;> grind
theorem bet_in {s e p : Rat} (h : s < e) (hp : 0 < p ∧ p < 1) : s < betR s e p ∧ betR s e p < e := by
  unfold betR
  have a := Rat.mul_pos (show 0 < e - s by grind) hp.1
  have b := Rat.mul_pos (show 0 < e - s by grind) (show 0 < 1 - p by grind)
  constructor <;> grind
theorem way_ok (h1 : RowOk rs) (h2 : RowOk os) (hl : rs.length = os.length) : WayOk rs os (btwR rs os) := by
  have r1 := h1.row2
  have r2 := h2.row2
  obtain ⟨b, r, eT, h⟩ := chain_of r1 r2 hl
  have w := wy (rs.zip os)
  have hin : ∀ t, t ∈ (0 : Rat) :: b :: r → SzR 150 t ∧ 0 ≤ t ∧ t ≤ 1 := fun t ht => by
    rw [← eT] at ht
    have := inst_ok r1 r2 ht
    exact ⟨this.1.mono (by decide), this.2⟩
  have hlen := inst_len r1 r2
  rw [eT] at hlen
  rw [btw_J r1.2.1 eT h]
  have S0 : SZ (rs.zip os) 0 = standP rs := by show standP _ = _; rw [zip_at0 hl]
  have S1 : SZ (rs.zip os) 1 = standP os := by show standP _ = _; rw [zip_at1 hl]
  have Sat : ∀ t, standP (atR rs os t) = SZ (rs.zip os) t := fun t => by rw [atR_eq]
  have Sn : ∀ t, SnOk (SZ (rs.zip os) t) := fun t => by
    show (standP _).length ≤ 3
    unfold standP
    rw [List.length_map, List.length_map, List.length_zip]
    have := r1.2.1
    omega
  have lt := h.lt
  have m := mid_in lt
  have hit0 : SZ (rs.zip os) 0 ≠ SZ (rs.zip os) (midR 0 b) → Wz (rs.zip os) 0 := fun e => by
    rcases Classical.em (Wz (rs.zip os) 0) with z | z
    · exact z
    · have b1 := (h.bd b List.mem_cons_self).1
      exact (e (w.con _ _ Rat.le_refl (by grind) (by grind) fun x x1 x2 hx => by
        rcases Classical.em (x = 0) with q | q
        · subst q; exact z hx
        · exact h.gap x hx ⟨by grind, by grind⟩)).elim
  have good : ∀ x ∈ JJ (SZ (rs.zip os)) 0 b r, Gd (SZ (rs.zip os)) (Wz (rs.zip os)) 0 (b :: r) x := fun x hx => by
    unfold JJ at hx
    rcases List.mem_append.mp hx with hx | hx
    · split at hx
      · cases hx
      · cases List.mem_singleton.mp hx
        exact ⟨List.mem_cons_self, List.mem_cons_self, Rat.le_refl, fun _ => rfl, fun z => (z rfl).elim, _, rfl⟩
    · exact good_tl w _ _ h x hx
  have shape : shapeB 0 none [] (JJ (SZ (rs.zip os)) 0 b r) = true := by
    unfold JJ
    split
    · exact shape_tl w _ _ _ _ h (by decide) fun s hs => by cases hs
    · rename_i e
      have h0 := hit0 e
      have t := shape_tl w (b :: r) 0 (some true) ([] ++ [SZ (rs.zip os) 0]) h (by decide) fun s hs => ⟨0, 0, Rat.le_refl, Rat.le_refl, h0, (List.mem_singleton.mp hs).symm⟩
      show (decide ((0 : Rat) = 0) && (!lessR 0 0 && (!decide (some (decide ((0 : Rat) = 0)) = none) && (!decide (SZ (rs.zip os) 0 ∈ []) && shapeB 0 (some (decide ((0 : Rat) = 0))) ([] ++ [SZ (rs.zip os) 0]) (tlW (SZ (rs.zip os)) 0 (b :: r)))))) = true
      have e1 : decide ((0 : Rat) = 0) = true := decide_eq_true rfl
      rw [e1, t, less_not.mpr (Rat.le_refl)]
      rfl
  have headT : ∃ x l, tlW (SZ (rs.zip os)) 0 (b :: r) = x :: l ∧ x = (0, b, SZ (rs.zip os) (midR 0 b)) := by
    unfold tlW
    split
    · exact ⟨_, _, rfl, rfl⟩
    · exact ⟨_, _, rfl, rfl⟩
  refine ⟨⟨fun e => ?_, ?_, fun x hx => ?_⟩, shape, ?_, ?_, fun x hx => ?_, fun t t0 t1 => ?_⟩
  · obtain ⟨x, l, e2, _⟩ := headT
    unfold JJ at e
    rw [e2] at e
    have := congrArg List.length e
    rw [List.length_append, List.length_cons] at this
    simp at this
  · unfold JJ
    rw [List.length_append]
    have a := len_tl (S := SZ (rs.zip os)) (b :: r) 0
    have c : (if SZ (rs.zip os) 0 = SZ (rs.zip os) (midR 0 b) then ([] : List Tr) else [(0, 0, SZ (rs.zip os) 0)]).length ≤ 1 := by split <;> simp
    rw [List.length_cons] at hlen
    omega
  · have g := good x hx
    refine ⟨(hin _ g.m1).1, (hin _ g.m2).1, ?_⟩
    obtain ⟨t, e⟩ := g.ex
    rw [e]
    exact Sn t
  · unfold JJ
    obtain ⟨x, l, e2, ex⟩ := headT
    split
    · rename_i e
      exact ⟨x, l, e2, by rw [ex, ← S0]; exact e.symm⟩
    · exact ⟨_, _, rfl, S0⟩
  · obtain ⟨l, x, e, hx⟩ := last_tl w r 0 b h
    unfold JJ
    rw [e]
    exact ⟨x, _ ++ l, by rw [List.append_assoc], by rw [hx, S1]⟩
  · have g := good x hx
    refine ⟨fun e => by rw [Sat]; exact g.pt e, fun ne => ?_⟩
    have lx : x.1 < x.2.1 := by
      have := g.le
      grind
    obtain ⟨i1, i2⟩ := g.iv ne
    obtain ⟨_, a0, _⟩ := hin _ g.m1
    obtain ⟨_, _, a1⟩ := hin _ g.m2
    refine ⟨fun k hk => ?_, fun k n hkn hn => ?_, fun p hp => ?_⟩
    · obtain ⟨z, hz, ez⟩ := at_get (t := 0) hl hk
      rw [ez, ez, at_one, at_one]
      exact quiet_lin lx fun v v1 v2 hv => i1 v ⟨by grind, by grind, .inl ⟨z, hz, hv⟩⟩ ⟨v1, v2⟩
    · obtain ⟨z, hz, ez⟩ := at_get (t := 0) hl (show k < rs.length by omega)
      obtain ⟨y, hy, ey⟩ := at_get (t := 0) hl hn
      rw [ez, ez, ey, ey, at_sub, at_sub]
      exact quiet_lin lx fun v v1 v2 hv => i1 v ⟨by grind, by grind, .inr ⟨z, hz, y, hy, hv⟩⟩ ⟨v1, v2⟩
    · have := bet_in lx (part3_in p hp)
      rw [Sat]
      exact i2 _ this.1 this.2
  · have nd := (shape_nodup shape).2
    have ex : ∃ x ∈ JJ (SZ (rs.zip os)) 0 b r, x.1 ≤ t ∧ t ≤ x.2.1 ∧ x.2.2 = SZ (rs.zip os) t := by
      unfold JJ
      rcases Classical.em (t = 0) with z | z
      · subst z
        split
        · rename_i e
          obtain ⟨x, l, e2, ex⟩ := headT
          rw [e2, ex]
          exact ⟨_, List.mem_append_right _ List.mem_cons_self, Rat.le_refl, by show 0 ≤ b; grind, e.symm⟩
        · exact ⟨_, List.mem_append_left _ List.mem_cons_self, Rat.le_refl, Rat.le_refl, rfl⟩
      · obtain ⟨x, hx, k⟩ := ex_tl w (b :: r) 0 h t (by grind) t1
        exact ⟨x, List.mem_append_right _ hx, k⟩
    obtain ⟨x, hx, k1, k2, k3⟩ := ex
    refine only_one (s := SZ (rs.zip os) t) nd hx ?_ fun y hy hp => ?_
    · rw [less_not.mpr k1, less_not.mpr k2, Sat, decide_eq_true k3]
      rfl
    · obtain ⟨_, q⟩ := Bool.and_eq_true_iff.mp hp
      obtain ⟨_, q⟩ := Bool.and_eq_true_iff.mp q
      rw [of_decide_eq_true q, Sat]
theorem way_same (h1 : RowOk rs) : btwR rs rs = [(0, 1, standP rs)] := by
  have r1 := h1.row2
  obtain ⟨b, r, eT, h⟩ := chain_of r1 r1 rfl
  have w := wy (rs.zip rs)
  have zz : ∀ {rs : List Rat} {z : Rat × Rat}, z ∈ rs.zip rs → z.1 = z.2 := fun {rs} => by
    induction rs with
    | nil => intro z hz; cases hz
    | cons a l ih =>
      intro z hz
      rw [List.zip_cons_cons] at hz
      rcases List.mem_cons.mp hz with rfl | hz
      · rfl
      · exact ih hz
  have no : ∀ v, ¬ Wz (rs.zip rs) v := fun v hv => by
    obtain ⟨_, _, ⟨z, hz, hh⟩ | ⟨z, hz, y, hy, hh⟩⟩ := hv
    · exact hh.1 (zz hz)
    · exact hh.1 (by rw [zz hz, zz hy])
  have b1 : b = 1 := (h.bd b List.mem_cons_self).2.resolve_right (no b)
  subst b1
  have er := h.tail.end1
  subst er
  rw [btw_J r1.2.1 eT h]
  have m := mid_in h.lt
  have e0 : SZ (rs.zip rs) 0 = SZ (rs.zip rs) (midR 0 1) := w.con _ _ Rat.le_refl (by grind) (by grind) fun v _ _ => no v
  have e1 : SZ (rs.zip rs) 1 = SZ (rs.zip rs) (midR 0 1) := (w.con _ _ (by grind) (by grind) Rat.le_refl fun v _ _ => no v).symm
  have S0 : SZ (rs.zip rs) 0 = standP rs := by show standP _ = _; rw [zip_at0 rfl]
  unfold JJ tlW
  rw [if_pos e0, if_pos e1, ← e0, S0]
  rfl
end
end K22
set_option Elab.async false
set_option linter.all false
set_option maxRecDepth 100000
set_option maxHeartbeats 4000000
namespace K22
open PySem PySem.Spec PyProof.Rows L2 My StX RZ Lw
local macro_rules | `(tactic| walk_at "ed") => `(tactic| first
  | exact ed_int | exact ed_bl | exact ed_str | exact ed_non
  | exact ed_var rfl
  | (apply ed_I0; (focus walk_at "ed"); (focus walk_at "ed"))
  | (apply ed_B0; (focus walk_at "ed"); (focus walk_at "ed"))
  | (apply ed_neg; (focus walk_at "ed"))
  | (apply ed_ixT; (focus walk_at "ed"); (focus walk_at "ed"); (focus rfl))
  | (apply ed_ixL; (focus walk_at "ed"); (focus walk_at "ed"); (focus rfl))
  | (apply ed_ixO; (focus rfl); (focus walk_at "ed"); (focus rfl))
  | (apply ed_len; (focus walk_at "ed"); (focus rfl))
  | (apply ed_lenO; (focus rfl))
  | (apply ed_tup; (focus walk_at "ed"); (focus (simp only [List.length_cons, List.length_nil]; decide)))
  | (apply ed_eq; (focus walk_at "ed"); (focus walk_at "ed"); (focus rfl); (focus rfl))
  | (apply ed_ne; (focus walk_at "ed"); (focus walk_at "ed"); (focus rfl); (focus rfl))
  | (apply ed_isN; (focus walk_at "ed"))
  | (apply ed_notN; (focus walk_at "ed"))
  | (apply ed_isB; (focus walk_at "ed"); (focus walk_at "ed"))
  | (apply ed_notB; (focus walk_at "ed"); (focus walk_at "ed"))
  | (apply ed_isi; (focus walk_at "ed"); (focus first | rfl | assumption); (focus decide +kernel))
  | (apply ed_isi2; (focus walk_at "ed"); (focus first | rfl | assumption); (focus decide +kernel); (focus decide +kernel))
  | (apply ed_not; (focus walk_at "ed"))
  | (apply ed_int1; (focus walk_at "ed"))
  | (apply ed_abs; (focus walk_at "ed"))
  | (apply ed_gcd; (focus walk_at "ed"); (focus walk_at "ed"))
  | exact es_nil
  | (apply es_cons; (focus walk_at "ed"); (focus walk_at "ed"))
  | (apply eb_test; (focus walk_at "ed"))
  | (apply eb_B; (focus walk_at "ed"))
  | (apply eb_not; (focus walk_at "ed")))
section
variable {c : Fr} {D : Ends} {E : XK} {es : List Sv} {ta tb te tx : TE} {ts : TA} {x y : Dt} {p q s e t : Rat} {a b : Int} {rs os : List Rat} {n : Nat} {ad : Addr} {l : List Dt}
def kwD (k : Int) (w : Str) : Dt := .tup [.int k, .str w]
def badD : List Dt := [.tup [.non, kwD 0 "many"], .tup [.lst [.tup [.int 1, .int 2], .int 1], kwD 1 "ratio"], .tup [.lst [.tup [.int 0, .int 1], .tup [.int 5, .int 2]], kwD 1 "far"], .tup [.tup [], kwD 0 "many"]]
theorem ed_kw {k : Int} {w : Str} : ED c (tTup (tCons (tC (.int k)) (tCons (tC (.str w)) tNil))) es (kwD k w) := ed_tup (es_cons ed_int (es_cons ed_str es_nil)) (by show 2 ≤ 100000; decide)
theorem ed_pair {i j : Int} : ED c (tTup (tCons (tC (.int i)) (tCons (tC (.int j)) tNil))) es (.tup [.int i, .int j]) := ed_tup (es_cons ed_int (es_cons ed_int es_nil)) (by show 2 ≤ 100000; decide)
theorem ed_two (h1 : ED c ta es x) (h2 : ED c tb es y) : ED c (tTup (tCons ta (tCons tb tNil))) es (.tup [x, y]) := ed_tup (es_cons h1 (es_cons h2 es_nil)) (by show 2 ≤ 100000; decide)
theorem ed_bad (hm : c.mu = [ad]) (hk : es[n]? = some (.hand ad)) : ED c (tLst (tCons (tTup (tCons (tC .non) (tCons (tTup (tCons (tC (.int 0)) (tCons (tC (.str "many")) tNil))) tNil))) (tCons (tTup (tCons (tLst (tCons (tTup (tCons (tC (.int 1)) (tCons (tC (.int 2)) tNil))) (tCons (tC (.int 1)) tNil))) (tCons (tTup (tCons (tC (.int 1)) (tCons (tC (.str "ratio")) tNil))) tNil))) (tCons (tTup (tCons (tLst (tCons (tTup (tCons (tC (.int 0)) (tCons (tC (.int 1)) tNil))) (tCons (tTup (tCons (tC (.int 5)) (tCons (tC (.int 2)) tNil))) tNil))) (tCons (tTup (tCons (tC (.int 1)) (tCons (tC (.str "far")) tNil))) tNil))) (tCons (tTup (tCons (tTup tNil) (tCons (tTup (tCons (tC (.int 0)) (tCons (tC (.str "many")) tNil))) tNil))) tNil))))) es (.lst badD) :=
  ed_lstH hm hk (es_cons (ed_two ed_non ed_kw) (es_cons (ed_two (ed_lstH hm hk (es_cons ed_pair (es_cons ed_int es_nil)) (by show 2 ≤ 100000; decide)) ed_kw) (es_cons (ed_two (ed_lstH hm hk (es_cons ed_pair (es_cons ed_pair es_nil)) (by show 2 ≤ 100000; decide)) ed_kw) (es_cons (ed_two (ed_tup es_nil (by decide)) ed_kw) es_nil)))) (by show 4 ≤ 100000; decide)
theorem zr {m : Nat} {i j : Int} (hn : 22 ≤ m) (h : j ≠ 0) (h1 : i.natAbs < 4194304) (h2 : j.natAbs < 4194304) : SzR m (toR (.tup [.int i, .int j])) := by
  have e : (2 : Nat) ^ 22 = 4194304 := rfl
  have k : SzR 22 (Rat.divInt i j) := .of h (by show i.natAbs < 2 ^ 22; omega) (by show j.natAbs < 2 ^ 22; omega)
  exact k.mono hn
theorem bad_ok {d : Dt} (h : d ∈ badD) : ∃ x k w, d = .tup [x, kwD k w] ∧ RowIn x ∧ Row22 x ∧ (∀ C, rowO C x = .ex C ["what", "index"] [.str w, .int k]) ∧ fine (kwD k w) = true ∧ eqv (kwD k w) (kwD k w) = true := by
  simp only [badD, List.mem_cons, List.not_mem_nil, or_false] at h
  rcases h with rfl | rfl | rfl | rfl
  · exact ⟨_, _, _, rfl, ⟨rfl, (fun l h => by cases h), fun l e => by cases e⟩, (fun l e => by cases e), (fun C => rfl), by decide +kernel, rfl⟩
  · refine ⟨_, _, _, rfl, ⟨rfl, (fun l h => by cases h), fun l e y hy => ?_⟩, fun l e y hy hr => ?_, (fun C => ?_), by decide +kernel, rfl⟩
    · cases e
      simp only [List.mem_cons, List.not_mem_nil, or_false] at hy
      rcases hy with rfl | rfl
      · refine ⟨⟨rfl, (fun l e y hy => ?_), fun l e => by cases e⟩, fun _ => ?_⟩
        · cases e
          simp only [List.mem_cons, List.not_mem_nil, or_false] at hy
          rcases hy with rfl | rfl <;> rfl
        · exact zr (by decide) (by decide) (by decide) (by decide)
      · exact ⟨⟨rfl, (fun l e => by cases e), fun l e => by cases e⟩, fun h => by cases h⟩
    · cases e
      simp only [List.mem_cons, List.not_mem_nil, or_false] at hy
      rcases hy with rfl | rfl
      · exact zr (by decide) (by decide) (by decide) (by decide)
      · cases hr
    · rfl
  · refine ⟨_, _, _, rfl, ⟨rfl, (fun l h => by cases h), fun l e y hy => ?_⟩, fun l e y hy hr => ?_, (fun C => ?_), by decide +kernel, rfl⟩
    · cases e
      simp only [List.mem_cons, List.not_mem_nil, or_false] at hy
      have k : ∀ {i j : Int}, Kins (.tup [.int i, .int j]) := ⟨rfl, (fun l e y hy => by
        cases e
        simp only [List.mem_cons, List.not_mem_nil, or_false] at hy
        rcases hy with rfl | rfl <;> rfl), fun l e => by cases e⟩
      rcases hy with rfl | rfl
      · exact ⟨k, fun _ => zr (by decide) (by decide) (by decide) (by decide)⟩
      · exact ⟨k, fun _ => zr (by decide) (by decide) (by decide) (by decide)⟩
    · cases e
      simp only [List.mem_cons, List.not_mem_nil, or_false] at hy
      rcases hy with rfl | rfl
      · exact zr (by decide) (by decide) (by decide) (by decide)
      · exact zr (by decide) (by decide) (by decide) (by decide)
    · rfl
  · refine ⟨_, _, _, rfl, ⟨rfl, (fun l h => by cases h), fun l e y hy => ?_⟩, fun l e y hy => ?_, (fun C => rfl), by decide +kernel, rfl⟩
    · cases e; cases hy
    · cases e; cases hy
theorem ed_refused (h1 : ED c ta es x) (h2 : ED c tb es y) (hx : RowIn x) (hy : RowIn y) (zx : Row22 x) (zy : Row22 y) : ED c (tCall (sp_u_law_refused c.K) [] E (tCons ta (tCons tb tNil))) es (refD (btwO (He.ga c.K "BadSlipRow") x y)) :=
  ed_call (es_cons h1 (es_cons h2 es_nil)) ⟨x, y, rfl, hx, hy, zx, zy, rfl⟩ fun d ⟨x', y', e, _, _, _, _, ed⟩ => by
    rw [ed, (List.cons.inj e).1, (List.cons.inj (List.cons.inj e).2).1]
theorem row_x {C : Addr} (h : RowOk rs) : rowO C (.tup (rs.map ratD)) = .ok (.tup (rs.map ratD)) := rowO_of rfl h.1 h.2.1 h.row2.in2
theorem btw_ex1 {C : Addr} {k : Int} {w : Str} (h : rowO C x = .ex C ["what", "index"] [.str w, .int k]) : refD (btwO C x y) = kwD k w := by
  unfold btwO
  rw [h]
  rfl
theorem btw_ex2 {C : Addr} {k : Int} {w : Str} (h1 : rowO C x = .ok (.tup l)) (h : rowO C y = .ex C ["what", "index"] [.str w, .int k]) : refD (btwO C x y) = kwD k w := by
  unfold btwO
  rw [h1, h]
  rfl
theorem sz0 : SzR 22 0 := by
  have k : SzR 22 (Rat.divInt 0 1) := .of (by decide) (by show (0 : Int).natAbs < 2 ^ 22; decide) (by show (1 : Int).natAbs < 2 ^ 22; decide)
  exact k
theorem longer_ok (h : RowOk rs) : ∃ m : List Rat, (if (rs.length : Int) < 3 then rs.map ratD ++ [.tup [.int 0, .int 1]] else (rs.map ratD).take 2) = m.map ratD ∧ Row2 m ∧ rs.length ≠ m.length := by
  have R := h.row2
  by_cases g : (rs.length : Int) < 3
  · refine ⟨rs ++ [0], ?_, ⟨?_, ?_, fun q hq => ?_⟩, ?_⟩
    · rw [if_pos g, List.map_append] <;> rfl
    · rw [List.length_append, List.length_singleton]; omega
    · rw [List.length_append, List.length_singleton]; omega
    · rcases List.mem_append.mp hq with hq | hq
      · exact R.2.2 q hq
      · cases List.mem_singleton.mp hq
        exact ⟨sz0, by grind, by grind⟩
    · rw [List.length_append, List.length_singleton]; omega
  · have := R.2.1
    refine ⟨rs.take 2, ?_, ⟨?_, ?_, fun q hq => R.2.2 q (List.mem_of_mem_take hq)⟩, ?_⟩
    · rw [if_neg g, List.map_take]
    · rw [List.length_take]; omega
    · rw [List.length_take]; omega
    · rw [List.length_take]; omega
theorem sem_refusals (hm : c.mu = [ad]) (h : RowOk rs) (k : RetH c ad D.rt (fun d => d = .bl true)) : Cont c (t_u_law_refusals c.K D) [.hand ad, .dat (.tup (rs.map ratD)), .no, .no, .no, .no] := by
  have R := h.row2
  have z22 : ∀ {rs : List Rat}, Row2 rs → ∀ q ∈ rs, SzR 22 q := fun h q hq => (h.2.2 q hq).1
  have ri := (rowOk_in h).1
  have rz := (row22_tup (z22 R)).1
  refine s_asg (ed_bad (n := 0) hm rfl) ?_
  refine s_asgV (ev_lpick (k := 0) rfl (ed_var rfl) rfl (by decide) (by decide)) fun d1 h1 => ?_
  refine s_asgV (ev_lpick (k := 0) rfl (ed_var rfl) rfl (by decide) (by decide)) fun d2 h2 => ?_
  obtain ⟨x1, k1, w1, rfl, a1, b1, c1, f1, g1⟩ := bad_ok h1
  obtain ⟨x2, k2, w2, rfl, a2, b2, c2, f2, g2⟩ := bad_ok h2
  refine s_when (b := false) (EBd.is (eb_or (b := false) (b' := false) (EBd.is (eb_test (ed_ne (x := kwD k1 w1) (y := kwD k1 w1) (ED.is (ed_refused (ed_ixT (i := 0) (l := [x1, kwD k1 w1]) (ed_var rfl) ed_int rfl) (ed_ixT (i := 0) (l := [x2, kwD k2 w2]) (ed_var rfl) ed_int rfl) a1 a2 b1 b2) (btw_ex1 (c1 _))) (ed_ixT (i := 1) (l := [x1, kwD k1 w1]) (ed_var rfl) ed_int rfl) f1 f1)) (by rw [g1] <;> rfl)) fun _ => EBd.is (eb_test (ed_ne (x := kwD k2 w2) (y := kwD k2 w2) (ED.is (ed_refused (ed_var rfl) (ed_ixT (i := 0) (l := [x2, kwD k2 w2]) (ed_var rfl) ed_int rfl) ri a2 rz b2) (btw_ex2 (row_x h) (c2 _))) (ed_ixT (i := 1) (l := [x2, kwD k2 w2]) (ed_var rfl) ed_int rfl) f2 f2)) (by rw [g2] <;> rfl)) rfl) (fun z => by cases z) fun _ => ?_
  obtain ⟨m, em, Rm, ne⟩ := longer_ok h
  have len : ED c (tCB (Evl.rLenS c.K) (tCons (tVar 1) tNil)) [.hand ad, .dat (.tup (rs.map ratD)), .dat (.lst badD), .dat (.tup [x1, kwD k1 w1]), .dat (.tup [x2, kwD k2 w2]), .no] (.int rs.length) := ed_lenR rfl
  refine s_asgV (φ := fun d => d = .lst (m.map ratD)) (EV.imp (ev_giveH (k := 0) hm rfl (eo_if (b := decide ((rs.length : Int) < 3)) (ρ := fun r => r = m.map ratD) (eb_test (ed_B0 len ed_int)) (fun g => ?_) fun g => ?_)) fun z ⟨l, e, el⟩ => by rw [e, el]) fun d ed => ?_
  · have g := of_decide_eq_true g
    refine EO.imp (eo_cat (el_new (eo_list (ed_var rfl) rfl)) (el_new (eo_lst (es_cons ed_pair es_nil) fun l e => by rw [e]; show 1 ≤ 100000; decide)) fun x y ex ey => ?_) fun l ⟨x, y, ex, ey, e⟩ => ?_
    · rw [ex, ey, List.length_map]
      show rs.length + 1 ≤ 100000
      omega
    · rw [e, ex, ey, ← em, if_pos g]
  · have g := of_decide_eq_false g
    refine EO.imp (eo_slice (l := rs.map ratD) (EV.imp (ev_giveH (k := 0) hm rfl (eo_list (ed_var rfl) rfl)) fun z ⟨l, e, el⟩ => by rw [e, el]) ep_none (ep_some ed_int)) fun l e => ?_
    rw [e, ← em, if_neg g]
    have l3 : (rs.map ratD).length = 3 := by rw [List.length_map]; have := R.2.1; omega
    unfold My.cutD
    rw [l3]
    rfl
  · subst ed
    have lo := (rowIn_of m fun q hq => (z22 Rm q hq).mono (by decide)).2
    have lz := (row22_tup (z22 Rm)).2
    have rm : ∀ C, rowO C (.lst (m.map ratD)) = .ok (.tup (m.map ratD)) := fun C => rowO_of rfl Rm.1 Rm.2.1 Rm.in2
    have f : fine (kwD 0 "many") = true := by decide +kernel
    have e1 : ∀ C, refD (btwO C (.tup (rs.map ratD)) (.lst (m.map ratD))) = kwD 0 "many" := fun C => by
      rw [btw_no (row_x h) (rm C) ne] <;> rfl
    have e2 : ∀ C, refD (btwO C (.lst (m.map ratD)) (.tup (rs.map ratD))) = kwD 0 "many" := fun C => by
      rw [btw_no (rm C) (row_x h) (fun z => ne z.symm)] <;> rfl
    refine c_retHh (n := 0) (φ := fun d => d = .bl true) (ED.is (ed_and (b := true) (b' := true) (ED.is (ed_eq (x := kwD 0 "many") (y := kwD 0 "many") (ED.is (ed_refused (ed_var rfl) (ed_var rfl) ri lo rz lz) (e1 _)) ed_kw f f) rfl) fun _ => ED.is (ed_eq (x := kwD 0 "many") (y := kwD 0 "many") (ED.is (ed_refused (ed_var rfl) (ed_var rfl) lo ri lz rz) (e2 _)) ed_kw f f) rfl) rfl) k hm rfl
end
end K22
set_option Elab.async false
set_option linter.all false
set_option maxRecDepth 100000
set_option maxHeartbeats 4000000
namespace K22
open PySem PySem.Spec PyProof.Rows L2 My StX RZ Lw
local macro_rules | `(tactic| walk_at "ed") => `(tactic| first
  | exact ed_int | exact ed_bl | exact ed_str | exact ed_non
  | exact ed_var rfl
  | (apply ed_I0; (focus walk_at "ed"); (focus walk_at "ed"))
  | (apply ed_B0; (focus walk_at "ed"); (focus walk_at "ed"))
  | (apply ed_neg; (focus walk_at "ed"))
  | (apply ed_ixT; (focus walk_at "ed"); (focus walk_at "ed"); (focus rfl))
  | (apply ed_ixL; (focus walk_at "ed"); (focus walk_at "ed"); (focus rfl))
  | (apply ed_ixO; (focus rfl); (focus walk_at "ed"); (focus rfl))
  | (apply ed_len; (focus walk_at "ed"); (focus rfl))
  | (apply ed_lenO; (focus rfl))
  | (apply ed_tup; (focus walk_at "ed"); (focus (simp only [List.length_cons, List.length_nil]; decide)))
  | (apply ed_eq; (focus walk_at "ed"); (focus walk_at "ed"); (focus rfl); (focus rfl))
  | (apply ed_ne; (focus walk_at "ed"); (focus walk_at "ed"); (focus rfl); (focus rfl))
  | (apply ed_isN; (focus walk_at "ed"))
  | (apply ed_notN; (focus walk_at "ed"))
  | (apply ed_isB; (focus walk_at "ed"); (focus walk_at "ed"))
  | (apply ed_notB; (focus walk_at "ed"); (focus walk_at "ed"))
  | (apply ed_isi; (focus walk_at "ed"); (focus first | rfl | assumption); (focus decide +kernel))
  | (apply ed_isi2; (focus walk_at "ed"); (focus first | rfl | assumption); (focus decide +kernel); (focus decide +kernel))
  | (apply ed_not; (focus walk_at "ed"))
  | (apply ed_int1; (focus walk_at "ed"))
  | (apply ed_abs; (focus walk_at "ed"))
  | (apply ed_gcd; (focus walk_at "ed"); (focus walk_at "ed"))
  | exact es_nil
  | (apply es_cons; (focus walk_at "ed"); (focus walk_at "ed"))
  | (apply eb_test; (focus walk_at "ed"))
  | (apply eb_B; (focus walk_at "ed"))
  | (apply eb_not; (focus walk_at "ed")))
section
variable {c : Fr} {D : Ends} {E : XK} {es : List Sv} {ta tb te tx : TE} {ts : TA} {x y : Dt} {p q s e t : Rat} {a b : Int} {rs os : List Rat} {n : Nat} {ad : Addr} {l : List Dt}
theorem ev_lbounds {k : Nat} (hn : es[k]? = some (.hand ad)) : EV c (tCall (sp_u_law_bounds c.K) [] E (tCons (tVar k) (tCons (tC (.int 3)) tNil))) es (fun d => ∃ bs : List Int, Bnds bs ∧ d = .lst (bs.map Dt.int)) :=
  EV.imp (ev_callH hn (es_cons ed_int es_nil) fun l e => by
    subst e
    exact ⟨_, rfl, [0], ⟨by decide, by decide, by decide⟩, rfl⟩) fun d ⟨l, e, _, h⟩ => h
theorem ev_lrow {k : Nat} {bs : List Int} (hn : es[k]? = some (.hand ad)) (h : ED c ta es (.lst (bs.map Dt.int))) (hb : Bnds bs) : EV c (tCall (sp_u_law_row c.K) [] E (tCons (tVar k) (tCons ta tNil))) es (fun d => ∃ rs : List Rat, rs.length = bs.length ∧ RowOk rs ∧ d = .tup (rs.map ratD)) :=
  EV.imp (ev_callH hn (es_cons h es_nil) fun l e => by
    subst e
    have z : InB 2 0 := ⟨by show (1 : Int).natAbs < 2 ^ 20; decide, by grind, by grind⟩
    exact ⟨_, bs, rfl, hb, List.replicate bs.length 0, List.length_replicate, ⟨by rw [List.length_replicate]; exact hb.1, by rw [List.length_replicate]; exact hb.2.1, fun q hq => by rw [List.eq_of_mem_replicate hq]; exact z⟩, rfl⟩) fun d ⟨l, e, bs', e', _, rs, h1, h2, h3⟩ => by
    subst e
    have e1 := (List.cons.inj e').1
    have e2 : bs.map Dt.int = bs'.map Dt.int := Dt.lst.inj e1
    have e3 := congrArg List.length e2
    rw [List.length_map, List.length_map] at e3
    exact ⟨rs, by rw [h1, e3], h2, h3⟩
theorem ed_way {k : Nat} (hn : es[k]? = some (.hand ad)) (h1 : ED c ta es (.tup (rs.map ratD))) (h2 : ED c tb es (.tup (os.map ratD))) (r1 : RowOk rs) (r2 : RowOk os) (hl : rs.length = os.length) : ED c (tCall (sp_u_law_way_right c.K) [] E (tCons (tVar k) (tCons ta (tCons tb tNil)))) es (.bl true) :=
  EV.imp (ev_callH hn (es_cons h1 (es_cons h2 es_nil)) fun l e => by
    subst e
    exact ⟨_, rs, os, rfl, r1, r2, hl, rfl⟩) fun d ⟨l, e, _, _, _, _, _, _, h⟩ => h
theorem ed_refusals {k : Nat} (hn : es[k]? = some (.hand ad)) (h1 : ED c ta es (.tup (rs.map ratD))) (r1 : RowOk rs) : ED c (tCall (sp_u_law_refusals c.K) [] E (tCons (tVar k) (tCons ta tNil))) es (.bl true) :=
  EV.imp (ev_callH hn (es_cons h1 es_nil) fun l e => by
    subst e
    exact ⟨_, rs, rfl, r1, rfl⟩) fun d ⟨l, e, _, _, _, h⟩ => h
theorem s_ifI {ρ : Bool → Prop} {I : List Sv → Prop} {tt : TT} {t u w : TS} (h : EB c tt es ρ) (hd : ∀ es, I es → Cont c (u D) es) (h1 : (∀ es, I es → Cont c (u D) es) → ρ true → Cont c (t { D with nx := u D }) es) (h2 : (∀ es, I es → Cont c (u D) es) → ρ false → Cont c (w { D with nx := u D }) es) : Cont c (tSeq (tIfS tt t w) u D) es := c_seq (c_ifV h (h1 hd) (h2 hd))
def keptR (rs os : List Rat) (k : Int) : List Rat := (List.range rs.length).map fun (i : Nat) => if ((i : Nat) : Int) ≤ k then rs.getD i 0 else os.getD i 0
def keptF (rs os : List Rat) (k : Int) : Dt → Dt
  | .int i => ratD (if i ≤ k then rs.getD i.toNat 0 else os.getD i.toNat 0)
  | d => d
theorem kept_ok {k : Int} (h1 : RowOk rs) (h2 : RowOk os) (hl : os.length = rs.length) : RowOk (keptR rs os k) ∧ (keptR rs os k).length = rs.length := by
  have l : (keptR rs os k).length = rs.length := by unfold keptR; rw [List.length_map, List.length_range]
  refine ⟨⟨by rw [l]; exact h1.1, by rw [l]; exact h1.2.1, fun q hq => ?_⟩, l⟩
  obtain ⟨i, hi, rfl⟩ := List.mem_map.mp hq
  rw [List.mem_range] at hi
  split
  · exact h1.2.2 _ (getD_mem hi)
  · exact h2.2.2 _ (getD_mem (by omega))
theorem eqv_tr1 (x : Tr) : eqv (.tup ([x].map trD)) (.tup ([x].map trD)) = true := by
  show ((eqv (ratD x.1) (ratD x.1) && (eqv (ratD x.2.1) (ratD x.2.1) && (eqv (stD x.2.2) (stD x.2.2) && true))) && true) = true
  rw [eqv_ratD, eqv_ratD, eqv_sn, decide_eq_true rfl, decide_eq_true rfl, decide_eq_true rfl] <;> rfl
theorem kept_D {k : Int} : (intsL 0 rs.length).map (keptF rs os k) = (keptR rs os k).map ratD := by
  unfold keptR intsL
  rw [List.map_map, List.map_map]
  refine List.map_congr_left fun i _ => ?_
  show keptF rs os k (.int (0 + (i : Int))) = ratD _
  rw [Int.zero_add] <;> rfl
theorem sem_law {ns : List Int} (hl : ns.length ≤ 63) (hm : c.mu = []) (k : RetD c D.rt (fun d => d = .bl true)) :
    Cont c (t_law c.K D) [.dat (.lst (ns.map Dt.int)), .no, .no, .no, .no, .no, .no, .no] := by
  refine s_asgO (eo_call (es_cons (ed_var rfl) es_nil) ⟨_, ns, rfl, hl, ⟨[], 0, 0, 0, rfl, (fun _ h => by cases h), by decide, by decide, by decide, by decide, by decide, by decide⟩⟩) fun ad ds ⟨_, _, _, hk⟩ => ?_
  refine c_hand (n := 1) rfl hk ?_
  refine c_seq (c_rng1 (I := fun _ es => ∃ s2 s3 s4 s5 s6 : Sv, es = [.dat (.lst (ns.map Dt.int)), .hand ad, s2, s3, s4, s5, s6, .no] ∧ Pl s6) ed_int (by omega) ⟨_, _, _, _, _, rfl, .inl rfl⟩ (fun k es hk ⟨s2, s3, s4, s5, s6, e, p6⟩ => ?_) fun es ⟨s2, s3, s4, s5, s6, e, p6⟩ => ?_)
  · subst e
    refine s_asgV (ev_lbounds (k := 1) rfl) fun d ⟨bs, hb, e⟩ => ?_
    subst e
    refine s_asgV (ev_lrow (k := 1) rfl (ed_var rfl) hb) fun d ⟨rs, l1, r1, e⟩ => ?_
    subst e
    refine s_asgV (ev_lrow (k := 1) rfl (ed_var rfl) hb) fun d ⟨os, l2, r2, e⟩ => ?_
    subst e
    have n3 := r1.2.1
    have n1 := r1.1
    refine s_ifI (ρ := fun _ => True) (I := fun es => ∃ (os : List Rat) (s6 : Sv), es = [.dat (.lst (ns.map Dt.int)), .hand ad, .dat (.int k), .dat (.lst (bs.map Dt.int)), .dat (.tup (rs.map ratD)), .dat (.tup (os.map ratD)), s6, .no] ∧ Pl s6 ∧ RowOk os ∧ os.length = rs.length) (eb_any (eb_eqV (ev_draw (k := 1) rfl ed_int (by decide) (by decide)) (ei_of ed_int))) (fun es ⟨os, s6, e, p6, r2, hl⟩ => ?_) (fun hd _ => ?_) fun hd _ => c_next (hd _ ⟨os, s6, rfl, p6, r2, by omega⟩)
    · subst e
      refine s_when (b := false) (EBd.is (eb_or (b := false) (b' := false) (EBd.is (eb_not (eb_B (ed_way (k := 1) rfl (ed_var rfl) (ed_var rfl) r1 r2 hl.symm))) rfl) fun _ => EBd.is (eb_not (eb_B (ed_refusals (k := 1) rfl (ed_var rfl) r1))) rfl) rfl) (fun z => by cases z) fun _ => ?_
      have R := r1.row2
      have few : Few9 rs := ⟨R.2.1, fun q hq => ((R.2.2 q hq).1).mono (by decide)⟩
      have ri := (rowOk_in r1).1
      have bt : ED c (tCall (sp_stands_between c.K) [] E0 (tCons (tVar 4) (tCons (tVar 4) tNil))) [.dat (.lst (ns.map Dt.int)), .hand ad, .dat (.int k), .dat (.lst (bs.map Dt.int)), .dat (.tup (rs.map ratD)), .dat (.tup (os.map ratD)), s6, .no] (.tup ([(0, 1, standP rs)].map trD)) := ED.is (ed_btw (ed_var rfl) (ed_var rfl) rfl rfl ri ri R R rfl) (by rw [way_same r1])
      have own : ED c (tTup (tCons (tTup (tCons (tTup (tCons (tC (.int 0)) (tCons (tC (.int 1)) tNil))) (tCons (tTup (tCons (tC (.int 1)) (tCons (tC (.int 1)) tNil))) (tCons (tCall (sp_u_law_stand c.K) [] E0 (tCons (tVar 4) tNil)) tNil)))) tNil)) [.dat (.lst (ns.map Dt.int)), .hand ad, .dat (.int k), .dat (.lst (bs.map Dt.int)), .dat (.tup (rs.map ratD)), .dat (.tup (os.map ratD)), s6, .no] (.tup ([(0, 1, standP rs)].map trD)) := ED.is (ed_tup (es_cons (ed_tup (es_cons ed_pair (es_cons ed_pair (es_cons (ed_lstand (ed_var rfl) few) es_nil))) (by show 3 ≤ 100000; decide)) es_nil) (by show 1 ≤ 100000; decide)) rfl
      refine c_if (b := false) (EBd.is (eb_test (ed_ne bt own (fine_trs _) (fine_trs _))) ?_) (fun z => by cases z) fun _ => c_next (c_turn' rfl ⟨_, _, _, _, _, rfl, p6⟩)
      rw [eqv_tr1] <;> rfl
    · refine s_asgV (ev_draw (k := 1) rfl (ed_lenR rfl) (by omega) (by omega)) fun d ⟨kp, e, k0, k1⟩ => ?_
      subst e
      obtain ⟨r3, l3⟩ := kept_ok (k := kp) r1 r2 (by omega)
      refine c_asg (d := .tup ((keptR rs os kp).map ratD)) (ed_tupleOf (x := .lst ((keptR rs os kp).map ratD)) (EV.imp (ev_give hm (eo_lcJ (k := 1) (f := fun y es => es.set 7 (.dat y)) (p := fun _ => true) (fn := keptF rs os kp) rfl (WI.r (wi_rng1 (ed_lenR (rs := rs) rfl) (by omega))) ?_ (fun P y _ => tg_name) (fun y _ => ⟨rfl, rfl⟩) (fun P _ y hy => eb_yes) fun P _ y hy _ => ?_)) fun z ⟨l, e1, e2⟩ => ?_) rfl) (hd _ ⟨_, _, rfl, .inr ⟨_, rfl⟩, r3, l3⟩)
      · unfold intsL
        rw [List.length_map, List.length_range]
        omega
      · unfold intsL at hy
        obtain ⟨i, hi, rfl⟩ := List.mem_map.mp hy
        rw [List.mem_range] at hi
        have hi : i < rs.length := by omega
        rw [Int.zero_add]
        refine ED.is (d := if (i : Int) ≤ kp then ratD (rs.getD i 0) else ratD (os.getD i 0)) (ev_if (b := decide ((i : Int) ≤ kp)) (eb_test (ed_B0 (ed_var rfl) (ed_var rfl))) (fun h => ?_) fun h => ?_) ?_
        · have h := of_decide_eq_true h
          rw [if_pos h]
          exact ed_ixR (c := c.at P) rfl (ed_var rfl) hi
        · have h := of_decide_eq_false h
          rw [if_neg h]
          exact ed_ixR (c := c.at P) rfl (ed_var rfl) (by omega)
        · show _ = ratD (if (i : Int) ≤ kp then rs.getD i 0 else os.getD i 0)
          split <;> rfl
      · rw [e1, e2, List.filter_eq_self.mpr (fun _ _ => rfl), show ((rs.length : Int)).toNat = rs.length from rfl, kept_D]
  · subst e
    exact c_ret ed_bl k
end
end K22
set_option Elab.async false
set_option linter.all false
set_option maxRecDepth 100000
set_option maxHeartbeats 4000000
namespace K22
open PySem PySem.Spec PyProof.Rows L2 My StX RZ Lw
local macro_rules | `(tactic| walk_at "ed") => `(tactic| first
  | exact ed_int | exact ed_bl | exact ed_str | exact ed_non
  | exact ed_var rfl
  | (apply ed_I0; (focus walk_at "ed"); (focus walk_at "ed"))
  | (apply ed_B0; (focus walk_at "ed"); (focus walk_at "ed"))
  | (apply ed_neg; (focus walk_at "ed"))
  | (apply ed_ixT; (focus walk_at "ed"); (focus walk_at "ed"); (focus rfl))
  | (apply ed_ixL; (focus walk_at "ed"); (focus walk_at "ed"); (focus rfl))
  | (apply ed_ixO; (focus rfl); (focus walk_at "ed"); (focus rfl))
  | (apply ed_len; (focus walk_at "ed"); (focus rfl))
  | (apply ed_lenO; (focus rfl))
  | (apply ed_tup; (focus walk_at "ed"); (focus (simp only [List.length_cons, List.length_nil]; decide)))
  | (apply ed_eq; (focus walk_at "ed"); (focus walk_at "ed"); (focus rfl); (focus rfl))
  | (apply ed_ne; (focus walk_at "ed"); (focus walk_at "ed"); (focus rfl); (focus rfl))
  | (apply ed_isN; (focus walk_at "ed"))
  | (apply ed_notN; (focus walk_at "ed"))
  | (apply ed_isB; (focus walk_at "ed"); (focus walk_at "ed"))
  | (apply ed_notB; (focus walk_at "ed"); (focus walk_at "ed"))
  | (apply ed_isi; (focus walk_at "ed"); (focus first | rfl | assumption); (focus decide +kernel))
  | (apply ed_isi2; (focus walk_at "ed"); (focus first | rfl | assumption); (focus decide +kernel); (focus decide +kernel))
  | (apply ed_not; (focus walk_at "ed"))
  | (apply ed_int1; (focus walk_at "ed"))
  | (apply ed_abs; (focus walk_at "ed"))
  | (apply ed_gcd; (focus walk_at "ed"); (focus walk_at "ed"))
  | exact es_nil
  | (apply es_cons; (focus walk_at "ed"); (focus walk_at "ed"))
  | (apply eb_test; (focus walk_at "ed"))
  | (apply eb_B; (focus walk_at "ed"))
  | (apply eb_not; (focus walk_at "ed")))
section
variable {P : Program} {w : World} {K : PySem.W.Frag} {mg : Str → Option Value} {base : Heap} {f : Addr} {fd : FuncData}
abbrev FnP (K : PySem.W.Frag) (x : Str) (st : Stmt) (dvs : List V) (f : Addr) (fd : FuncData) : Prop := FunD K x x (defArgs st) (defBody st) (defScope st) dvs [] f fd
theorem ok_is_whole (T : Txt P w K mg base)  (F : FnP K "is_whole" s_is_whole [.non, .non] f fd) : FnOk P w K mg base (L2.CX P w) l_is_whole f fd ["thing", "low", "high"] (sp_is_whole K) :=
  fnD (n := 0) F sc_is_whole rfl (fun ds d h => by obtain ⟨x, lo, hi, rfl, hx, hlo, hhi, rfl⟩ := h; rfl) (by intro f cdv A outer s H E hr; apply d_is_whole <;> assumption) (fun P0 H0 D ds h k => by obtain ⟨_, x, lo, hi, rfl, hx, hlo, hhi, rfl⟩ := h; exact sem_is_whole hx hlo hhi (k.imp fun d hd => ⟨x, lo, hi, rfl, hx, hlo, hhi, hd⟩))
theorem ok_is_sequence (T : Txt P w K mg base) (C_is_whole : Fd P w K mg base l_is_whole "is_whole" ["thing", "low", "high"] [] (sp_is_whole K)) (F : FnP K "is_sequence" s_is_sequence [.int 0, .non] f fd) : FnOk P w K mg base (L2.CX P w) l_is_sequence f fd ["thing", "low", "high"] (sp_is_sequence K) :=
  fnD (n := 0) F sc_is_sequence rfl (fun ds d h => by obtain ⟨x, lo, hi, rfl, hx, hN, hL, hU, rfl⟩ := h; rfl) (by intro f cdv A outer s H E hr; apply d_is_sequence <;> assumption) (fun P0 H0 D ds h k => by obtain ⟨_, x, lo, hi, rfl, hx, hN, hL, hU, rfl⟩ := h; exact sem_is_sequence hx hN hL hU (k.imp fun d hd => ⟨x, lo, hi, rfl, hx, hN, hL, hU, hd⟩))
theorem ok_number_choices (T : Txt P w K mg base)  (F : FnP K "number_choices" s_number_choices [] f fd) : FnOk P w K mg base (L2.CX P w) l_number_choices f fd ["many", "size"] (sp_number_choices K) :=
  fnD (n := 4) F sc_number_choices rfl (fun ds d h => by obtain ⟨n, rfl, hn, rfl⟩ := h; rfl) (by intro f cdv A outer s H E hr; apply d_number_choices <;> assumption) (fun P0 H0 D ds h k => by obtain ⟨_, n, rfl, hn, rfl⟩ := h; exact sem_nchoices rfl hn (k.imp fun d hd => ⟨n, rfl, hn, hd⟩))
theorem f_number_choices (T : Txt P w K mg base)  (F : FnP K "number_choices" s_number_choices [] f fd) (hm : mg "number_choices" = some (.ref f)) : Fd P w K mg base l_number_choices "number_choices" ["many", "size"] [] (sp_number_choices K) :=
  fdN F hm (by apply ok_number_choices <;> assumption) fun _ _ _ _ _ _ us hl => match us, hl with | [_, _], _ => rfl
theorem ok_number_pairs (T : Txt P w K mg base) (C_number_choices : Fd P w K mg base l_number_choices "number_choices" ["many", "size"] [] (sp_number_choices K)) (F : FnP K "number_pairs" s_number_pairs [] f fd) : FnOk P w K mg base (L2.CX P w) l_number_pairs f fd ["many"] (sp_number_pairs K) :=
  fnD (n := 0) F sc_number_pairs rfl (fun ds d h => by obtain ⟨n, rfl, hn, rfl⟩ := h; rfl) (by intro f cdv A outer s H E hr; apply d_number_pairs <;> assumption) (fun P0 H0 D ds h k => by obtain ⟨_, n, rfl, hn, rfl⟩ := h; exact sem_npairs hn (k.imp fun d hd => ⟨n, rfl, hn, hd⟩))
theorem f_number_pairs (T : Txt P w K mg base) (C_number_choices : Fd P w K mg base l_number_choices "number_choices" ["many", "size"] [] (sp_number_choices K)) (F : FnP K "number_pairs" s_number_pairs [] f fd) (hm : mg "number_pairs" = some (.ref f)) : Fd P w K mg base l_number_pairs "number_pairs" ["many"] [] (sp_number_pairs K) :=
  fdN F hm (by apply ok_number_pairs <;> assumption) fun _ _ _ _ _ _ us hl => match us, hl with | [_], _ => rfl
theorem ok_is_ratio (T : Txt P w K mg base) (C_is_whole_1 : Fd P w K mg base l_is_whole "is_whole" ["thing", "low", "high"] [.non, .non] (sp_is_whole K)) (C_is_whole_2 : Fd P w K mg base l_is_whole "is_whole" ["thing", "low", "high"] [.non] (sp_is_whole K)) (F : FnP K "is_ratio" s_is_ratio [] f fd) : FnOk P w K mg base (L2.CX P w) l_is_ratio f fd ["thing"] (sp_is_ratio K) :=
  fnD (n := 2) F sc_is_ratio rfl (fun ds d h => by obtain ⟨x, rfl, hx, rfl⟩ := h; rfl) (by intro f cdv A outer s H E hr; apply d_is_ratio <;> assumption) (fun P0 H0 D ds h k => by obtain ⟨_, x, rfl, hx, rfl⟩ := h; exact sem_is_ratio hx (k.imp fun d hd => ⟨x, rfl, hx, hd⟩))
theorem f_is_ratio (T : Txt P w K mg base) (C_is_whole_1 : Fd P w K mg base l_is_whole "is_whole" ["thing", "low", "high"] [.non, .non] (sp_is_whole K)) (C_is_whole_2 : Fd P w K mg base l_is_whole "is_whole" ["thing", "low", "high"] [.non] (sp_is_whole K)) (F : FnP K "is_ratio" s_is_ratio [] f fd) (hm : mg "is_ratio" = some (.ref f)) : Fd P w K mg base l_is_ratio "is_ratio" ["thing"] [] (sp_is_ratio K) :=
  fdN F hm (by apply ok_is_ratio <;> assumption) fun _ _ _ _ _ _ us hl => match us, hl with | [_], _ => rfl
theorem ok_u_lowest (T : Txt P w K mg base)  (F : FnP K "_lowest" s_u_lowest [] f fd) : FnOk P w K mg base (L2.CX P w) l_u_lowest f fd ["top", "bottom"] (sp_u_lowest K) :=
  fnD (n := 1) F sc_u_lowest rfl (fun ds d h => by obtain ⟨a, b, rfl, h0, h1, h2, rfl⟩ := h; rfl) (by intro f cdv A outer s H E hr; apply d_u_lowest <;> assumption) (fun P0 H0 D ds h k => by obtain ⟨_, a, b, rfl, h0, h1, h2, rfl⟩ := h; exact sem_lowest h0 h1 h2 (k.imp fun d hd => ⟨a, b, rfl, h0, h1, h2, hd⟩))
theorem f_u_lowest (T : Txt P w K mg base)  (F : FnP K "_lowest" s_u_lowest [] f fd) (hm : mg "_lowest" = some (.ref f)) : Fd P w K mg base l_u_lowest "_lowest" ["top", "bottom"] [] (sp_u_lowest K) :=
  fdN F hm (by apply ok_u_lowest <;> assumption) fun _ _ _ _ _ _ us hl => match us, hl with | [_, _], _ => rfl
theorem ok_make_ratio (T : Txt P w K mg base) (C_is_whole_1 : Fd P w K mg base l_is_whole "is_whole" ["thing", "low", "high"] [.non, .non] (sp_is_whole K)) (C_u_lowest : Fd P w K mg base l_u_lowest "_lowest" ["top", "bottom"] [] (sp_u_lowest K)) (F : FnP K "make_ratio" s_make_ratio [.int 1] f fd) : FnOk P w K mg base (L2.CX P w) l_make_ratio f fd ["top", "bottom"] (sp_make_ratio K) :=
  fnX (n := 0) F sc_make_ratio rfl (fun ds d h => by obtain ⟨x, y, rfl, hx, hy, sx, sy, rfl⟩ := h; rfl) (by intro f cdv A outer s H E hr; apply d_make_ratio <;> assumption) (fun P0 H0 D E ds h k kx => by obtain ⟨_, x, y, rfl, hx, hy, sx, sy, rfl⟩ := h; exact sem_make_ratio hx hy sx sy (k.imp fun d hd => ⟨x, y, rfl, hx, hy, sx, sy, hd.symm⟩) fun dx P H σ es C fs fd hr => kx dx P H σ es C fs fd ⟨x, y, rfl, hx, hy, sx, sy, hr⟩)
theorem ok_plus (T : Txt P w K mg base) (C_u_lowest : Fd P w K mg base l_u_lowest "_lowest" ["top", "bottom"] [] (sp_u_lowest K)) (F : FnP K "plus" s_plus [] f fd) : FnOk P w K mg base (L2.CX P w) l_plus f fd ["one", "other"] (sp_plus K) :=
  fnD (n := 0) F sc_plus rfl (fun ds d h => by obtain ⟨p, q, rfl, hp, hq, rfl⟩ := h; rfl) (by intro f cdv A outer s H E hr; apply d_plus <;> assumption) (fun P0 H0 D ds h k => by obtain ⟨_, p, q, rfl, hp, hq, rfl⟩ := h; exact sem_plus hp hq (k.imp fun d hd => ⟨p, q, rfl, hp, hq, hd⟩))
theorem f_plus (T : Txt P w K mg base) (C_u_lowest : Fd P w K mg base l_u_lowest "_lowest" ["top", "bottom"] [] (sp_u_lowest K)) (F : FnP K "plus" s_plus [] f fd) (hm : mg "plus" = some (.ref f)) : Fd P w K mg base l_plus "plus" ["one", "other"] [] (sp_plus K) :=
  fdN F hm (by apply ok_plus <;> assumption) fun _ _ _ _ _ _ us hl => match us, hl with | [_, _], _ => rfl
theorem ok_minus (T : Txt P w K mg base) (C_u_lowest : Fd P w K mg base l_u_lowest "_lowest" ["top", "bottom"] [] (sp_u_lowest K)) (F : FnP K "minus" s_minus [] f fd) : FnOk P w K mg base (L2.CX P w) l_minus f fd ["one", "other"] (sp_minus K) :=
  fnD (n := 0) F sc_minus rfl (fun ds d h => by obtain ⟨p, q, rfl, hp, hq, rfl⟩ := h; rfl) (by intro f cdv A outer s H E hr; apply d_minus <;> assumption) (fun P0 H0 D ds h k => by obtain ⟨_, p, q, rfl, hp, hq, rfl⟩ := h; exact sem_minus hp hq (k.imp fun d hd => ⟨p, q, rfl, hp, hq, hd⟩))
theorem f_minus (T : Txt P w K mg base) (C_u_lowest : Fd P w K mg base l_u_lowest "_lowest" ["top", "bottom"] [] (sp_u_lowest K)) (F : FnP K "minus" s_minus [] f fd) (hm : mg "minus" = some (.ref f)) : Fd P w K mg base l_minus "minus" ["one", "other"] [] (sp_minus K) :=
  fdN F hm (by apply ok_minus <;> assumption) fun _ _ _ _ _ _ us hl => match us, hl with | [_, _], _ => rfl
theorem ok_times (T : Txt P w K mg base) (C_u_lowest : Fd P w K mg base l_u_lowest "_lowest" ["top", "bottom"] [] (sp_u_lowest K)) (F : FnP K "times" s_times [] f fd) : FnOk P w K mg base (L2.CX P w) l_times f fd ["one", "other"] (sp_times K) :=
  fnD (n := 0) F sc_times rfl (fun ds d h => by obtain ⟨p, q, rfl, hp, hq, rfl⟩ := h; rfl) (by intro f cdv A outer s H E hr; apply d_times <;> assumption) (fun P0 H0 D ds h k => by obtain ⟨_, p, q, rfl, hp, hq, rfl⟩ := h; exact sem_times hp hq (k.imp fun d hd => ⟨p, q, rfl, hp, hq, hd⟩))
theorem f_times (T : Txt P w K mg base) (C_u_lowest : Fd P w K mg base l_u_lowest "_lowest" ["top", "bottom"] [] (sp_u_lowest K)) (F : FnP K "times" s_times [] f fd) (hm : mg "times" = some (.ref f)) : Fd P w K mg base l_times "times" ["one", "other"] [] (sp_times K) :=
  fdN F hm (by apply ok_times <;> assumption) fun _ _ _ _ _ _ us hl => match us, hl with | [_, _], _ => rfl
theorem ok_over (T : Txt P w K mg base) (C_u_lowest : Fd P w K mg base l_u_lowest "_lowest" ["top", "bottom"] [] (sp_u_lowest K)) (F : FnP K "over" s_over [] f fd) : FnOk P w K mg base (L2.CX P w) l_over f fd ["one", "other"] (sp_over K) :=
  fnX (n := 0) F sc_over rfl (fun ds d h => by obtain ⟨p, q, rfl, hp, hq, rfl⟩ := h; rfl) (by intro f cdv A outer s H E hr; apply d_over <;> assumption) (fun P0 H0 D E ds h k kx => by obtain ⟨_, p, q, rfl, hp, hq, rfl⟩ := h; exact sem_over hp hq (k.imp fun d hd => ⟨p, q, rfl, hp, hq, hd.symm⟩) fun dx P H σ es C fs fd hr => kx dx P H σ es C fs fd ⟨p, q, rfl, hp, hq, hr⟩)
theorem f_over (T : Txt P w K mg base) (C_u_lowest : Fd P w K mg base l_u_lowest "_lowest" ["top", "bottom"] [] (sp_u_lowest K)) (F : FnP K "over" s_over [] f fd) (hm : mg "over" = some (.ref f)) : Fd P w K mg base l_over "over" ["one", "other"] [] (sp_over K) :=
  fdN F hm (by apply ok_over <;> assumption) fun _ _ _ _ _ _ us hl => match us, hl with | [_, _], _ => rfl
theorem ok_compare (T : Txt P w K mg base)  (F : FnP K "compare" s_compare [] f fd) : FnOk P w K mg base (L2.CX P w) l_compare f fd ["one", "other"] (sp_compare K) :=
  fnD (n := 2) F sc_compare rfl (fun ds d h => by obtain ⟨p, q, rfl, hp, hq, rfl⟩ := h; rfl) (by intro f cdv A outer s H E hr; apply d_compare <;> assumption) (fun P0 H0 D ds h k => by obtain ⟨_, p, q, rfl, hp, hq, rfl⟩ := h; exact sem_compare hp hq (k.imp fun d hd => ⟨p, q, rfl, hp, hq, hd⟩))
theorem f_compare (T : Txt P w K mg base)  (F : FnP K "compare" s_compare [] f fd) (hm : mg "compare" = some (.ref f)) : Fd P w K mg base l_compare "compare" ["one", "other"] [] (sp_compare K) :=
  fdN F hm (by apply ok_compare <;> assumption) fun _ _ _ _ _ _ us hl => match us, hl with | [_, _], _ => rfl
theorem ok_least_of (T : Txt P w K mg base) (C_compare : Fd P w K mg base l_compare "compare" ["one", "other"] [] (sp_compare K)) (F : FnP K "least_of" s_least_of [] f fd) : FnOk P w K mg base (L2.CX P w) l_least_of f fd ["ratios"] (sp_least_of K) :=
  fnD (n := 2) F sc_least_of rfl (fun ds d h => by obtain ⟨x, p, l, rfl, hx, hs, hl, rfl⟩ := h; rfl) (by intro f cdv A outer s H E hr; apply d_least_of <;> assumption) (fun P0 H0 D ds h k => by obtain ⟨_, x, p, l, rfl, hx, hs, hl, rfl⟩ := h; exact sem_least_of hx hs (k.imp fun d hd => ⟨x, p, l, rfl, hx, hs, hl, hd⟩))
theorem f_least_of (T : Txt P w K mg base) (C_compare : Fd P w K mg base l_compare "compare" ["one", "other"] [] (sp_compare K)) (F : FnP K "least_of" s_least_of [] f fd) (hm : mg "least_of" = some (.ref f)) : Fd P w K mg base l_least_of "least_of" ["ratios"] [] (sp_least_of K) :=
  fdN F hm (by apply ok_least_of <;> assumption) fun _ _ _ _ _ _ us hl => match us, hl with | [_], _ => rfl
theorem ok_greatest_of (T : Txt P w K mg base) (C_compare : Fd P w K mg base l_compare "compare" ["one", "other"] [] (sp_compare K)) (F : FnP K "greatest_of" s_greatest_of [] f fd) : FnOk P w K mg base (L2.CX P w) l_greatest_of f fd ["ratios"] (sp_greatest_of K) :=
  fnD (n := 2) F sc_greatest_of rfl (fun ds d h => by obtain ⟨x, p, l, rfl, hx, hs, hl, rfl⟩ := h; rfl) (by intro f cdv A outer s H E hr; apply d_greatest_of <;> assumption) (fun P0 H0 D ds h k => by obtain ⟨_, x, p, l, rfl, hx, hs, hl, rfl⟩ := h; exact sem_greatest_of hx hs (k.imp fun d hd => ⟨x, p, l, rfl, hx, hs, hl, hd⟩))
theorem f_greatest_of (T : Txt P w K mg base) (C_compare : Fd P w K mg base l_compare "compare" ["one", "other"] [] (sp_compare K)) (F : FnP K "greatest_of" s_greatest_of [] f fd) (hm : mg "greatest_of" = some (.ref f)) : Fd P w K mg base l_greatest_of "greatest_of" ["ratios"] [] (sp_greatest_of K) :=
  fdN F hm (by apply ok_greatest_of <;> assumption) fun _ _ _ _ _ _ us hl => match us, hl with | [_], _ => rfl
theorem ok_floor_of (T : Txt P w K mg base)  (F : FnP K "floor_of" s_floor_of [] f fd) : FnOk P w K mg base (L2.CX P w) l_floor_of f fd ["one"] (sp_floor_of K) :=
  fnD (n := 0) F sc_floor_of rfl (fun ds d h => by obtain ⟨q, rfl, hq, rfl⟩ := h; rfl) (by intro f cdv A outer s H E hr; apply d_floor_of <;> assumption) (fun P0 H0 D ds h k => by obtain ⟨_, q, rfl, hq, rfl⟩ := h; exact sem_floor_of hq (k.imp fun d hd => ⟨q, rfl, hq, hd⟩))
theorem f_floor_of (T : Txt P w K mg base)  (F : FnP K "floor_of" s_floor_of [] f fd) (hm : mg "floor_of" = some (.ref f)) : Fd P w K mg base l_floor_of "floor_of" ["one"] [] (sp_floor_of K) :=
  fdN F hm (by apply ok_floor_of <;> assumption) fun _ _ _ _ _ _ us hl => match us, hl with | [_], _ => rfl
theorem ok_broken_of (T : Txt P w K mg base)  (F : FnP K "broken_of" s_broken_of [] f fd) : FnOk P w K mg base (L2.CX P w) l_broken_of f fd ["one"] (sp_broken_of K) :=
  fnD (n := 0) F sc_broken_of rfl (fun ds d h => by obtain ⟨q, rfl, rfl⟩ := h; rfl) (by intro f cdv A outer s H E hr; apply d_broken_of <;> assumption) (fun P0 H0 D ds h k => by obtain ⟨_, q, rfl, rfl⟩ := h; exact sem_broken_of (k.imp fun d hd => ⟨q, rfl, hd⟩))
theorem f_broken_of (T : Txt P w K mg base)  (F : FnP K "broken_of" s_broken_of [] f fd) (hm : mg "broken_of" = some (.ref f)) : Fd P w K mg base l_broken_of "broken_of" ["one"] [] (sp_broken_of K) :=
  fdN F hm (by apply ok_broken_of <;> assumption) fun _ _ _ _ _ _ us hl => match us, hl with | [_], _ => rfl
theorem ok_merged_ratios (T : Txt P w K mg base) (C_compare : Fd P w K mg base l_compare "compare" ["one", "other"] [] (sp_compare K)) (F : FnP K "merged_ratios" s_merged_ratios [] f fd) : FnOk P w K mg base (L2.CX P w) l_merged_ratios f fd ["one", "other"] (sp_merged_ratios K) :=
  fnD (n := 4) F sc_merged_ratios rfl (fun ds d h => by obtain ⟨a, b, rfl, hl, ha, hb, rfl⟩ := h; rfl) (by intro f cdv A outer s H E hr; apply d_merged_ratios <;> assumption) (fun P0 H0 D ds h k => by obtain ⟨_, a, b, rfl, hl, ha, hb, rfl⟩ := h; exact sem_merged rfl hl ha hb (k.imp fun d hd => ⟨a, b, rfl, hl, ha, hb, hd⟩))
theorem f_merged_ratios (T : Txt P w K mg base) (C_compare : Fd P w K mg base l_compare "compare" ["one", "other"] [] (sp_compare K)) (F : FnP K "merged_ratios" s_merged_ratios [] f fd) (hm : mg "merged_ratios" = some (.ref f)) : Fd P w K mg base l_merged_ratios "merged_ratios" ["one", "other"] [] (sp_merged_ratios K) :=
  fdN F hm (by apply ok_merged_ratios <;> assumption) fun _ _ _ _ _ _ us hl => match us, hl with | [_, _], _ => rfl
theorem asc_ok (T : Txt P w K mg base) (C_merged_ratios : Fd P w K mg base l_merged_ratios "merged_ratios" ["one", "other"] [] (sp_merged_ratios K)) (F : FnP K "ascending_ratios" s_ascending_ratios [] f fd) (hm : mg "ascending_ratios" = some (.ref f)) : ∀ n : Nat, FnOk P w K mg base (L2.CX P w) (n + 3) f fd ["ratios"] (sp_asc n K) := by
  have step : ∀ (n lR : Nat) (spR : Sp), lR ≤ n + 2 → (∀ m, n = m + 1 → spR = sp_asc m K) → Fd P w K mg base lR "ascending_ratios" ["ratios"] [] spR → FnOk P w K mg base (L2.CX P w) (n + 3) f fd ["ratios"] (sp_asc n K) := fun n lR spR hl hR C =>
    fnD (n := 1) (m := n + 2) F sc_ascending_ratios rfl (fun ds d h => by obtain ⟨l, rfl, _⟩ := h; rfl) (by intro f cdv A outer s H E hr; exact d_ascending_ratios T C_merged_ratios hl (by omega) C hr) (fun P0 H0 D ds h k => by obtain ⟨_, l, rfl, hn, h5, hs, rfl⟩ := h; exact sem_asc rfl hn h5 hs hR (k.imp fun d hd => ⟨l, rfl, hn, h5, hs, hd⟩))
  intro n
  induction n with
  | zero =>
    refine step 0 2 (fun _ _ _ _ => False) (by omega) (fun m h => by omega) ?_
    exact fdN F hm ⟨fun _ _ _ _ h => h.elim, fun _ _ _ _ _ _ _ _ _ _ _ _ _ h => h.elim⟩ fun _ _ _ _ _ _ us hl => match us, hl with | [_], _ => rfl
  | succ n ih =>
    refine step (n + 1) (n + 3) (sp_asc n K) (by omega) (fun m h => by cases h; rfl) ?_
    exact fdN F hm ih fun _ _ _ _ _ _ us hl => match us, hl with | [_], _ => rfl
theorem f_ascending_ratios (T : Txt P w K mg base) (C_merged_ratios : Fd P w K mg base l_merged_ratios "merged_ratios" ["one", "other"] [] (sp_merged_ratios K)) (F : FnP K "ascending_ratios" s_ascending_ratios [] f fd) (hm : mg "ascending_ratios" = some (.ref f)) : Fd P w K mg base l_ascending_ratios "ascending_ratios" ["ratios"] [] (sp_ascending_ratios K) :=
  fdN F hm (asc_ok T C_merged_ratios F hm 8) fun _ _ _ _ _ _ us hl => match us, hl with | [_], _ => rfl
theorem ok_middle_of_two (T : Txt P w K mg base) (C_times : Fd P w K mg base l_times "times" ["one", "other"] [] (sp_times K)) (C_plus : Fd P w K mg base l_plus "plus" ["one", "other"] [] (sp_plus K)) (F : FnP K "middle_of_two" s_middle_of_two [] f fd) : FnOk P w K mg base (L2.CX P w) l_middle_of_two f fd ["one", "other"] (sp_middle_of_two K) :=
  fnD (n := 0) F sc_middle_of_two rfl (fun ds d h => by obtain ⟨p, q, rfl, hp, hq, rfl⟩ := h; rfl) (by intro f cdv A outer s H E hr; apply d_middle_of_two <;> assumption) (fun P0 H0 D ds h k => by obtain ⟨_, p, q, rfl, hp, hq, rfl⟩ := h; exact sem_mid T.z_HALF hp hq (k.imp fun d hd => ⟨p, q, rfl, hp, hq, hd⟩))
theorem f_middle_of_two (T : Txt P w K mg base) (C_times : Fd P w K mg base l_times "times" ["one", "other"] [] (sp_times K)) (C_plus : Fd P w K mg base l_plus "plus" ["one", "other"] [] (sp_plus K)) (F : FnP K "middle_of_two" s_middle_of_two [] f fd) (hm : mg "middle_of_two" = some (.ref f)) : Fd P w K mg base l_middle_of_two "middle_of_two" ["one", "other"] [] (sp_middle_of_two K) :=
  fdN F hm (by apply ok_middle_of_two <;> assumption) fun _ _ _ _ _ _ us hl => match us, hl with | [_, _], _ => rfl
theorem ok_check_slip_row (T : Txt P w K mg base) (C_is_sequence : Fd P w K mg base l_is_sequence "is_sequence" ["thing", "low", "high"] [] (sp_is_sequence K)) (C_is_ratio : Fd P w K mg base l_is_ratio "is_ratio" ["thing"] [] (sp_is_ratio K)) (C_compare : Fd P w K mg base l_compare "compare" ["one", "other"] [] (sp_compare K)) (F : FnP K "check_slip_row" s_check_slip_row [] f fd) : FnOk P w K mg base (L2.CX P w) l_check_slip_row f fd ["row"] (sp_check_slip_row K) :=
  fnX (n := 2) F sc_check_slip_row rfl (fun ds d h => by obtain ⟨x, rfl, hx, rfl⟩ := h; rfl) (by intro f cdv A outer s H E hr; apply d_check_slip_row <;> assumption) (fun P0 H0 D E ds h k kx => by obtain ⟨_, x, rfl, hx, rfl⟩ := h; exact sem_check_slip_row hx (k.imp fun d hd => ⟨x, rfl, hx, hd.symm⟩) fun dx P H σ es C fs fd hr => kx dx P H σ es C fs fd ⟨x, rfl, hx, hr⟩)
theorem f_check_slip_row (T : Txt P w K mg base) (C_is_sequence : Fd P w K mg base l_is_sequence "is_sequence" ["thing", "low", "high"] [] (sp_is_sequence K)) (C_is_ratio : Fd P w K mg base l_is_ratio "is_ratio" ["thing"] [] (sp_is_ratio K)) (C_compare : Fd P w K mg base l_compare "compare" ["one", "other"] [] (sp_compare K)) (F : FnP K "check_slip_row" s_check_slip_row [] f fd) (hm : mg "check_slip_row" = some (.ref f)) : Fd P w K mg base l_check_slip_row "check_slip_row" ["row"] [] (sp_check_slip_row K) :=
  fdN F hm (by apply ok_check_slip_row <;> assumption) fun _ _ _ _ _ _ us hl => match us, hl with | [_], _ => rfl
theorem ok_broken_parts (T : Txt P w K mg base) (C_broken_of : Fd P w K mg base l_broken_of "broken_of" ["one"] [] (sp_broken_of K)) (C_ascending_ratios : Fd P w K mg base l_ascending_ratios "ascending_ratios" ["ratios"] [] (sp_ascending_ratios K)) (F : FnP K "broken_parts" s_broken_parts [] f fd) : FnOk P w K mg base (L2.CX P w) l_broken_parts f fd ["row"] (sp_broken_parts K) :=
  fnD (n := 3) F sc_broken_parts rfl (fun ds d h => by obtain ⟨l, rfl, hl, hs, rfl⟩ := h; rfl) (by intro f cdv A outer s H E hr; apply d_broken_parts <;> assumption) (fun P0 H0 D ds h k => by obtain ⟨_, l, rfl, hl, hs, rfl⟩ := h; exact sem_broken_parts rfl T.z_ZERO hl hs (k.imp fun d hd => ⟨l, rfl, hl, hs, hd⟩))
theorem f_broken_parts (T : Txt P w K mg base) (C_broken_of : Fd P w K mg base l_broken_of "broken_of" ["one"] [] (sp_broken_of K)) (C_ascending_ratios : Fd P w K mg base l_ascending_ratios "ascending_ratios" ["ratios"] [] (sp_ascending_ratios K)) (F : FnP K "broken_parts" s_broken_parts [] f fd) (hm : mg "broken_parts" = some (.ref f)) : Fd P w K mg base l_broken_parts "broken_parts" ["row"] [] (sp_broken_parts K) :=
  fdN F hm (by apply ok_broken_parts <;> assumption) fun _ _ _ _ _ _ us hl => match us, hl with | [_], _ => rfl
theorem ok_stand_of (T : Txt P w K mg base) (C_check_slip_row : Fd P w K mg base l_check_slip_row "check_slip_row" ["row"] [] (sp_check_slip_row K)) (C_broken_parts : Fd P w K mg base l_broken_parts "broken_parts" ["row"] [] (sp_broken_parts K)) (C_broken_of : Fd P w K mg base l_broken_of "broken_of" ["one"] [] (sp_broken_of K)) (C_floor_of : Fd P w K mg base l_floor_of "floor_of" ["one"] [] (sp_floor_of K)) (F : FnP K "stand_of" s_stand_of [] f fd) : FnOk P w K mg base (L2.CX P w) l_stand_of f fd ["row"] (sp_stand_of K) :=
  fnX (n := 4) F sc_stand_of rfl (fun ds d h => by obtain ⟨x, rfl, hx, hs, rfl⟩ := h; rfl) (by intro f cdv A outer s H E hr; apply d_stand_of <;> assumption) (fun P0 H0 D E ds h k kx => by obtain ⟨_, x, rfl, hx, hs, rfl⟩ := h; exact sem_stand_of rfl T.z_ZERO hx hs (k.imp fun d hd => ⟨x, rfl, hx, hs, hd.symm⟩) fun dx P H σ es C fs fd hr => kx dx P H σ es C fs fd ⟨x, rfl, hx, hs, hr⟩)
theorem f_stand_of (T : Txt P w K mg base) (C_check_slip_row : Fd P w K mg base l_check_slip_row "check_slip_row" ["row"] [] (sp_check_slip_row K)) (C_broken_parts : Fd P w K mg base l_broken_parts "broken_parts" ["row"] [] (sp_broken_parts K)) (C_broken_of : Fd P w K mg base l_broken_of "broken_of" ["one"] [] (sp_broken_of K)) (C_floor_of : Fd P w K mg base l_floor_of "floor_of" ["one"] [] (sp_floor_of K)) (F : FnP K "stand_of" s_stand_of [] f fd) (hm : mg "stand_of" = some (.ref f)) : Fd P w K mg base l_stand_of "stand_of" ["row"] [] (sp_stand_of K) :=
  fdN F hm (by apply ok_stand_of <;> assumption) fun _ _ _ _ _ _ us hl => match us, hl with | [_], _ => rfl
theorem ok_u_distances (T : Txt P w K mg base) (C_number_pairs : Fd P w K mg base l_number_pairs "number_pairs" ["many"] [] (sp_number_pairs K)) (C_minus : Fd P w K mg base l_minus "minus" ["one", "other"] [] (sp_minus K)) (F : FnP K "_distances" s_u_distances [] f fd) : FnOk P w K mg base (L2.CX P w) l_u_distances f fd ["row"] (sp_u_distances K) :=
  fnO (n := 2) F sc_u_distances rfl (fun ds d h => by obtain ⟨rs, rfl, h1, rfl⟩ := h; rfl) (by intro f cdv A outer s H E hr; apply d_u_distances <;> assumption) (fun P0 H0 D ds h k => by obtain ⟨_, rs, rfl, h1, rfl⟩ := h; exact sem_dist rfl h1 fun l P H σ es ds hd => k l P H σ es ds ⟨rs, rfl, h1, hd⟩)
theorem f_u_distances (T : Txt P w K mg base) (C_number_pairs : Fd P w K mg base l_number_pairs "number_pairs" ["many"] [] (sp_number_pairs K)) (C_minus : Fd P w K mg base l_minus "minus" ["one", "other"] [] (sp_minus K)) (F : FnP K "_distances" s_u_distances [] f fd) (hm : mg "_distances" = some (.ref f)) : Fd P w K mg base l_u_distances "_distances" ["row"] [] (sp_u_distances K) :=
  fdN F hm (by apply ok_u_distances <;> assumption) fun _ _ _ _ _ _ us hl => match us, hl with | [_], _ => rfl
theorem ok_u_whole_times (T : Txt P w K mg base) (C_minus : Fd P w K mg base l_minus "minus" ["one", "other"] [] (sp_minus K)) (C_floor_of : Fd P w K mg base l_floor_of "floor_of" ["one"] [] (sp_floor_of K)) (C_least_of : Fd P w K mg base l_least_of "least_of" ["ratios"] [] (sp_least_of K)) (C_greatest_of : Fd P w K mg base l_greatest_of "greatest_of" ["ratios"] [] (sp_greatest_of K)) (C_over : Fd P w K mg base l_over "over" ["one", "other"] [] (sp_over K)) (C_make_ratio_1 : Fd P w K mg base l_make_ratio "make_ratio" ["top", "bottom"] [.int 1] (sp_make_ratio K)) (F : FnP K "_whole_times" s_u_whole_times [] f fd) : FnOk P w K mg base (L2.CX P w) l_u_whole_times f fd ["start", "end"] (sp_u_whole_times K) :=
  fnO (n := 4) F sc_u_whole_times rfl (fun ds d h => by obtain ⟨s, e, rfl, hs, he, rfl⟩ := h; rfl) (by intro f cdv A outer s H E hr; apply d_u_whole_times <;> assumption) (fun P0 H0 D ds h k => by obtain ⟨_, s, e, rfl, hs, he, rfl⟩ := h; exact sem_times_w rfl T.z_ZERO hs he fun l P H σ es ds hd => k l P H σ es ds ⟨s, e, rfl, hs, he, hd⟩)
theorem f_u_whole_times (T : Txt P w K mg base) (C_minus : Fd P w K mg base l_minus "minus" ["one", "other"] [] (sp_minus K)) (C_floor_of : Fd P w K mg base l_floor_of "floor_of" ["one"] [] (sp_floor_of K)) (C_least_of : Fd P w K mg base l_least_of "least_of" ["ratios"] [] (sp_least_of K)) (C_greatest_of : Fd P w K mg base l_greatest_of "greatest_of" ["ratios"] [] (sp_greatest_of K)) (C_over : Fd P w K mg base l_over "over" ["one", "other"] [] (sp_over K)) (C_make_ratio_1 : Fd P w K mg base l_make_ratio "make_ratio" ["top", "bottom"] [.int 1] (sp_make_ratio K)) (F : FnP K "_whole_times" s_u_whole_times [] f fd) (hm : mg "_whole_times" = some (.ref f)) : Fd P w K mg base l_u_whole_times "_whole_times" ["start", "end"] [] (sp_u_whole_times K) :=
  fdN F hm (by apply ok_u_whole_times <;> assumption) fun _ _ _ _ _ _ us hl => match us, hl with | [_, _], _ => rfl
theorem ok_u_row_at (T : Txt P w K mg base) (C_plus : Fd P w K mg base l_plus "plus" ["one", "other"] [] (sp_plus K)) (C_times : Fd P w K mg base l_times "times" ["one", "other"] [] (sp_times K)) (C_minus : Fd P w K mg base l_minus "minus" ["one", "other"] [] (sp_minus K)) (F : FnP K "_row_at" s_u_row_at [] f fd) : FnOk P w K mg base (L2.CX P w) l_u_row_at f fd ["row", "other", "when"] (sp_u_row_at K) :=
  fnD (n := 2) F sc_u_row_at rfl (fun ds d h => by obtain ⟨rs, os, t, rfl, h1, h2, ht, rfl⟩ := h; rfl) (by intro f cdv A outer s H E hr; apply d_u_row_at <;> assumption) (fun P0 H0 D ds h k => by obtain ⟨_, rs, os, t, rfl, h1, h2, ht, rfl⟩ := h; exact sem_rowat rfl h1 h2 ht (k.imp fun d hd => ⟨rs, os, t, rfl, h1, h2, ht, hd⟩))
theorem f_u_row_at (T : Txt P w K mg base) (C_plus : Fd P w K mg base l_plus "plus" ["one", "other"] [] (sp_plus K)) (C_times : Fd P w K mg base l_times "times" ["one", "other"] [] (sp_times K)) (C_minus : Fd P w K mg base l_minus "minus" ["one", "other"] [] (sp_minus K)) (F : FnP K "_row_at" s_u_row_at [] f fd) (hm : mg "_row_at" = some (.ref f)) : Fd P w K mg base l_u_row_at "_row_at" ["row", "other", "when"] [] (sp_u_row_at K) :=
  fdN F hm (by apply ok_u_row_at <;> assumption) fun _ _ _ _ _ _ us hl => match us, hl with | [_, _, _], _ => rfl
theorem ok_u_joined (T : Txt P w K mg base)  (F : FnP K "_joined" s_u_joined [] f fd) : FnOk P w K mg base (L2.CX P w) l_u_joined f fd ["spans"] (sp_u_joined K) :=
  fnD (n := 4) F sc_u_joined rfl (fun ds d h => by obtain ⟨l, rfl, hl, rfl⟩ := h; rfl) (by intro f cdv A outer s H E hr; apply d_u_joined <;> assumption) (fun P0 H0 D ds h k => by obtain ⟨_, l, rfl, hl, rfl⟩ := h; exact sem_joined rfl hl (k.imp fun d hd => ⟨l, rfl, hl, hd⟩))
theorem f_u_joined (T : Txt P w K mg base)  (F : FnP K "_joined" s_u_joined [] f fd) (hm : mg "_joined" = some (.ref f)) : Fd P w K mg base l_u_joined "_joined" ["spans"] [] (sp_u_joined K) :=
  fdN F hm (by apply ok_u_joined <;> assumption) fun _ _ _ _ _ _ us hl => match us, hl with | [_], _ => rfl
theorem ok_stands_between (T : Txt P w K mg base) (C_check_slip_row : Fd P w K mg base l_check_slip_row "check_slip_row" ["row"] [] (sp_check_slip_row K)) (C_u_distances : Fd P w K mg base l_u_distances "_distances" ["row"] [] (sp_u_distances K)) (C_u_whole_times : Fd P w K mg base l_u_whole_times "_whole_times" ["start", "end"] [] (sp_u_whole_times K)) (C_ascending_ratios : Fd P w K mg base l_ascending_ratios "ascending_ratios" ["ratios"] [] (sp_ascending_ratios K)) (C_middle_of_two : Fd P w K mg base l_middle_of_two "middle_of_two" ["one", "other"] [] (sp_middle_of_two K)) (C_stand_of : Fd P w K mg base l_stand_of "stand_of" ["row"] [] (sp_stand_of K)) (C_u_row_at : Fd P w K mg base l_u_row_at "_row_at" ["row", "other", "when"] [] (sp_u_row_at K)) (C_u_joined : Fd P w K mg base l_u_joined "_joined" ["spans"] [] (sp_u_joined K)) (F : FnP K "stands_between" s_stands_between [] f fd) : FnOk P w K mg base (L2.CX P w) l_stands_between f fd ["row", "other"] (sp_stands_between K) :=
  fnX (n := 11) F sc_stands_between rfl (fun ds d h => by obtain ⟨x, y, rfl, hx, hy, zx, zy, rfl⟩ := h; rfl) (by intro f cdv A outer s H E hr; apply d_stands_between <;> assumption) (fun P0 H0 D E ds h k kx => by obtain ⟨_, x, y, rfl, hx, hy, zx, zy, rfl⟩ := h; exact sem_btw rfl T.z_ZERO T.z_ONE hx hy zx zy (k.imp fun d hd => ⟨x, y, rfl, hx, hy, zx, zy, hd.symm⟩) fun dx P H σ es C fs fd hr => kx dx P H σ es C fs fd ⟨x, y, rfl, hx, hy, zx, zy, hr⟩)
theorem f_stands_between (T : Txt P w K mg base) (C_check_slip_row : Fd P w K mg base l_check_slip_row "check_slip_row" ["row"] [] (sp_check_slip_row K)) (C_u_distances : Fd P w K mg base l_u_distances "_distances" ["row"] [] (sp_u_distances K)) (C_u_whole_times : Fd P w K mg base l_u_whole_times "_whole_times" ["start", "end"] [] (sp_u_whole_times K)) (C_ascending_ratios : Fd P w K mg base l_ascending_ratios "ascending_ratios" ["ratios"] [] (sp_ascending_ratios K)) (C_middle_of_two : Fd P w K mg base l_middle_of_two "middle_of_two" ["one", "other"] [] (sp_middle_of_two K)) (C_stand_of : Fd P w K mg base l_stand_of "stand_of" ["row"] [] (sp_stand_of K)) (C_u_row_at : Fd P w K mg base l_u_row_at "_row_at" ["row", "other", "when"] [] (sp_u_row_at K)) (C_u_joined : Fd P w K mg base l_u_joined "_joined" ["spans"] [] (sp_u_joined K)) (F : FnP K "stands_between" s_stands_between [] f fd) (hm : mg "stands_between" = some (.ref f)) : Fd P w K mg base l_stands_between "stands_between" ["row", "other"] [] (sp_stands_between K) :=
  fdN F hm (by apply ok_stands_between <;> assumption) fun _ _ _ _ _ _ us hl => match us, hl with | [_, _], _ => rfl
theorem ok_u_law_mix (T : Txt P w K mg base)  (F : FnP K "_law_mix" s_u_law_mix [] f fd) : FnOk P w K mg base (L2.CX P w) l_u_law_mix f fd ["_law_number", "_law_turn"] (sp_u_law_mix K) :=
  fnD (n := 2) F sc_u_law_mix rfl (fun ds d h => by obtain ⟨n, t, rfl, h0, h1, h2, h3, _⟩ := h; rfl) (by intro f cdv A outer s H E hr; apply d_u_law_mix <;> assumption) (fun P0 H0 D ds h k => by obtain ⟨_, n, t, rfl, h0, h1, h2, h3, _⟩ := h; exact sem_mix h0 h1 h2 h3 (k.imp fun d hd => ⟨n, t, rfl, h0, h1, h2, h3, hd⟩))
theorem f_u_law_mix (T : Txt P w K mg base)  (F : FnP K "_law_mix" s_u_law_mix [] f fd) (hm : mg "_law_mix" = some (.ref f)) : Fd P w K mg base l_u_law_mix "_law_mix" ["_law_number", "_law_turn"] [] (sp_u_law_mix K) :=
  fdN F hm (by apply ok_u_law_mix <;> assumption) fun _ _ _ _ _ _ us hl => match us, hl with | [_, _], _ => rfl
theorem ok_u_law_hand (T : Txt P w K mg base)  (F : FnP K "_law_hand" s_u_law_hand [] f fd) : FnOk P w K mg base (L2.CX P w) l_u_law_hand f fd ["_law_script"] (sp_u_law_hand K) :=
  fnO (n := 3) F sc_u_law_hand rfl (fun ds d h => by obtain ⟨ns, rfl, hl, _⟩ := h; rfl) (by intro f cdv A outer s H E hr; apply d_u_law_hand <;> assumption) (fun P0 H0 D ds h k => by obtain ⟨_, ns, rfl, hl, _⟩ := h; exact sem_hand hl rfl fun l P H σ es ds hd => k l P H σ es ds ⟨ns, rfl, hl, hd⟩)
theorem f_u_law_hand (T : Txt P w K mg base)  (F : FnP K "_law_hand" s_u_law_hand [] f fd) (hm : mg "_law_hand" = some (.ref f)) : Fd P w K mg base l_u_law_hand "_law_hand" ["_law_script"] [] (sp_u_law_hand K) :=
  fdN F hm (by apply ok_u_law_hand <;> assumption) fun _ _ _ _ _ _ us hl => match us, hl with | [_], _ => rfl
theorem ok_u_law_draw (T : Txt P w K mg base) (C_u_law_mix : Fd P w K mg base l_u_law_mix "_law_mix" ["_law_number", "_law_turn"] [] (sp_u_law_mix K)) (F : FnP K "_law_draw" s_u_law_draw [] f fd) : FnOk P w K mg base (L2.CX P w) l_u_law_draw f fd ["_law_hand_here", "_law_many"] (sp_u_law_draw K) :=
  fnH (n := 2) F sc_u_law_draw rfl (fun ds d h => by obtain ⟨m, rfl, h0, h1, _⟩ := h; rfl) (by intro f cdv A outer s H E hr; apply d_u_law_draw <;> assumption) (fun P0 H0 a D ds h k => by obtain ⟨_, m, rfl, h0, h1, _⟩ := h; exact sem_draw h0 h1 rfl fun v P H d hs hd => k v P H d hs ⟨m, rfl, h0, h1, hd⟩)
theorem f_u_law_draw (T : Txt P w K mg base) (C_u_law_mix : Fd P w K mg base l_u_law_mix "_law_mix" ["_law_number", "_law_turn"] [] (sp_u_law_mix K)) (F : FnP K "_law_draw" s_u_law_draw [] f fd) (hm : mg "_law_draw" = some (.ref f)) : Fd P w K mg base l_u_law_draw "_law_draw" ["_law_hand_here", "_law_many"] [] (sp_u_law_draw K) :=
  fdN F hm (by apply ok_u_law_draw <;> assumption) fun _ _ _ _ _ _ us hl => match us, hl with | [_, _], _ => rfl
theorem ok_u_law_pick (T : Txt P w K mg base) (C_u_law_draw : Fd P w K mg base l_u_law_draw "_law_draw" ["_law_hand_here", "_law_many"] [] (sp_u_law_draw K)) (F : FnP K "_law_pick" s_u_law_pick [] f fd) : FnOk P w K mg base (L2.CX P w) l_u_law_pick f fd ["_law_hand_here", "_law_things"] (sp_u_law_pick K) :=
  fnH (n := 0) F sc_u_law_pick rfl (fun ds d h => by obtain ⟨x, l, rfl, hx, h0, h1, _⟩ := h; rfl) (by intro f cdv A outer s H E hr; apply d_u_law_pick <;> assumption) (fun P0 H0 a D ds h k => by obtain ⟨_, x, l, rfl, hx, h0, h1, _⟩ := h; exact sem_lpick hx h0 h1 rfl fun v P H d hs hd => k v P H d hs ⟨x, l, rfl, hx, h0, h1, hd⟩)
theorem f_u_law_pick (T : Txt P w K mg base) (C_u_law_draw : Fd P w K mg base l_u_law_draw "_law_draw" ["_law_hand_here", "_law_many"] [] (sp_u_law_draw K)) (F : FnP K "_law_pick" s_u_law_pick [] f fd) (hm : mg "_law_pick" = some (.ref f)) : Fd P w K mg base l_u_law_pick "_law_pick" ["_law_hand_here", "_law_things"] [] (sp_u_law_pick K) :=
  fdN F hm (by apply ok_u_law_pick <;> assumption) fun _ _ _ _ _ _ us hl => match us, hl with | [_, _], _ => rfl
theorem ok_u_law_gcd (T : Txt P w K mg base)  (F : FnP K "_law_gcd" s_u_law_gcd [] f fd) : FnOk P w K mg base (L2.CX P w) l_u_law_gcd f fd ["_law_one", "_law_other"] (sp_u_law_gcd K) :=
  fnD (n := 2) F sc_u_law_gcd rfl (fun ds d h => by obtain ⟨a, b, rfl, h0, h1, rfl⟩ := h; rfl) (by intro f cdv A outer s H E hr; apply d_u_law_gcd <;> assumption) (fun P0 H0 D ds h k => by obtain ⟨_, a, b, rfl, h0, h1, rfl⟩ := h; exact sem_lgcd h0 h1 (k.imp fun d hd => ⟨a, b, rfl, h0, h1, hd⟩))
theorem f_u_law_gcd (T : Txt P w K mg base)  (F : FnP K "_law_gcd" s_u_law_gcd [] f fd) (hm : mg "_law_gcd" = some (.ref f)) : Fd P w K mg base l_u_law_gcd "_law_gcd" ["_law_one", "_law_other"] [] (sp_u_law_gcd K) :=
  fdN F hm (by apply ok_u_law_gcd <;> assumption) fun _ _ _ _ _ _ us hl => match us, hl with | [_, _], _ => rfl
theorem ok_u_law_ratio (T : Txt P w K mg base) (C_u_law_gcd : Fd P w K mg base l_u_law_gcd "_law_gcd" ["_law_one", "_law_other"] [] (sp_u_law_gcd K)) (F : FnP K "_law_ratio" s_u_law_ratio [] f fd) : FnOk P w K mg base (L2.CX P w) l_u_law_ratio f fd ["_law_top", "_law_bottom"] (sp_u_law_ratio K) :=
  fnD (n := 1) F sc_u_law_ratio rfl (fun ds d h => by obtain ⟨a, b, rfl, h0, h1, h2, rfl⟩ := h; rfl) (by intro f cdv A outer s H E hr; apply d_u_law_ratio <;> assumption) (fun P0 H0 D ds h k => by obtain ⟨_, a, b, rfl, h0, h1, h2, rfl⟩ := h; exact sem_lratio h0 h1 h2 (k.imp fun d hd => ⟨a, b, rfl, h0, h1, h2, hd⟩))
theorem f_u_law_ratio (T : Txt P w K mg base) (C_u_law_gcd : Fd P w K mg base l_u_law_gcd "_law_gcd" ["_law_one", "_law_other"] [] (sp_u_law_gcd K)) (F : FnP K "_law_ratio" s_u_law_ratio [] f fd) (hm : mg "_law_ratio" = some (.ref f)) : Fd P w K mg base l_u_law_ratio "_law_ratio" ["_law_top", "_law_bottom"] [] (sp_u_law_ratio K) :=
  fdN F hm (by apply ok_u_law_ratio <;> assumption) fun _ _ _ _ _ _ us hl => match us, hl with | [_, _], _ => rfl
theorem ok_u_law_plus (T : Txt P w K mg base) (C_u_law_ratio : Fd P w K mg base l_u_law_ratio "_law_ratio" ["_law_top", "_law_bottom"] [] (sp_u_law_ratio K)) (F : FnP K "_law_plus" s_u_law_plus [] f fd) : FnOk P w K mg base (L2.CX P w) l_u_law_plus f fd ["_law_one", "_law_other"] (sp_u_law_plus K) :=
  fnD (n := 0) F sc_u_law_plus rfl (fun ds d h => by obtain ⟨p, q, rfl, hp, hq, rfl⟩ := h; rfl) (by intro f cdv A outer s H E hr; apply d_u_law_plus <;> assumption) (fun P0 H0 D ds h k => by obtain ⟨_, p, q, rfl, hp, hq, rfl⟩ := h; exact sem_lplus hp hq (k.imp fun d hd => ⟨p, q, rfl, hp, hq, hd⟩))
theorem f_u_law_plus (T : Txt P w K mg base) (C_u_law_ratio : Fd P w K mg base l_u_law_ratio "_law_ratio" ["_law_top", "_law_bottom"] [] (sp_u_law_ratio K)) (F : FnP K "_law_plus" s_u_law_plus [] f fd) (hm : mg "_law_plus" = some (.ref f)) : Fd P w K mg base l_u_law_plus "_law_plus" ["_law_one", "_law_other"] [] (sp_u_law_plus K) :=
  fdN F hm (by apply ok_u_law_plus <;> assumption) fun _ _ _ _ _ _ us hl => match us, hl with | [_, _], _ => rfl
theorem ok_u_law_minus (T : Txt P w K mg base) (C_u_law_ratio : Fd P w K mg base l_u_law_ratio "_law_ratio" ["_law_top", "_law_bottom"] [] (sp_u_law_ratio K)) (F : FnP K "_law_minus" s_u_law_minus [] f fd) : FnOk P w K mg base (L2.CX P w) l_u_law_minus f fd ["_law_one", "_law_other"] (sp_u_law_minus K) :=
  fnD (n := 0) F sc_u_law_minus rfl (fun ds d h => by obtain ⟨p, q, rfl, hp, hq, rfl⟩ := h; rfl) (by intro f cdv A outer s H E hr; apply d_u_law_minus <;> assumption) (fun P0 H0 D ds h k => by obtain ⟨_, p, q, rfl, hp, hq, rfl⟩ := h; exact sem_lminus hp hq (k.imp fun d hd => ⟨p, q, rfl, hp, hq, hd⟩))
theorem f_u_law_minus (T : Txt P w K mg base) (C_u_law_ratio : Fd P w K mg base l_u_law_ratio "_law_ratio" ["_law_top", "_law_bottom"] [] (sp_u_law_ratio K)) (F : FnP K "_law_minus" s_u_law_minus [] f fd) (hm : mg "_law_minus" = some (.ref f)) : Fd P w K mg base l_u_law_minus "_law_minus" ["_law_one", "_law_other"] [] (sp_u_law_minus K) :=
  fdN F hm (by apply ok_u_law_minus <;> assumption) fun _ _ _ _ _ _ us hl => match us, hl with | [_, _], _ => rfl
theorem ok_u_law_times (T : Txt P w K mg base) (C_u_law_ratio : Fd P w K mg base l_u_law_ratio "_law_ratio" ["_law_top", "_law_bottom"] [] (sp_u_law_ratio K)) (F : FnP K "_law_times" s_u_law_times [] f fd) : FnOk P w K mg base (L2.CX P w) l_u_law_times f fd ["_law_one", "_law_other"] (sp_u_law_times K) :=
  fnD (n := 0) F sc_u_law_times rfl (fun ds d h => by obtain ⟨p, q, rfl, hp, hq, rfl⟩ := h; rfl) (by intro f cdv A outer s H E hr; apply d_u_law_times <;> assumption) (fun P0 H0 D ds h k => by obtain ⟨_, p, q, rfl, hp, hq, rfl⟩ := h; exact sem_ltimes hp hq (k.imp fun d hd => ⟨p, q, rfl, hp, hq, hd⟩))
theorem f_u_law_times (T : Txt P w K mg base) (C_u_law_ratio : Fd P w K mg base l_u_law_ratio "_law_ratio" ["_law_top", "_law_bottom"] [] (sp_u_law_ratio K)) (F : FnP K "_law_times" s_u_law_times [] f fd) (hm : mg "_law_times" = some (.ref f)) : Fd P w K mg base l_u_law_times "_law_times" ["_law_one", "_law_other"] [] (sp_u_law_times K) :=
  fdN F hm (by apply ok_u_law_times <;> assumption) fun _ _ _ _ _ _ us hl => match us, hl with | [_, _], _ => rfl
theorem ok_u_law_is_less (T : Txt P w K mg base)  (F : FnP K "_law_is_less" s_u_law_is_less [] f fd) : FnOk P w K mg base (L2.CX P w) l_u_law_is_less f fd ["_law_one", "_law_other"] (sp_u_law_is_less K) :=
  fnD (n := 0) F sc_u_law_is_less rfl (fun ds d h => by obtain ⟨p, q, rfl, hp, hq, rfl⟩ := h; rfl) (by intro f cdv A outer s H E hr; apply d_u_law_is_less <;> assumption) (fun P0 H0 D ds h k => by obtain ⟨_, p, q, rfl, hp, hq, rfl⟩ := h; exact sem_lless hp hq (k.imp fun d hd => ⟨p, q, rfl, hp, hq, hd⟩))
theorem f_u_law_is_less (T : Txt P w K mg base)  (F : FnP K "_law_is_less" s_u_law_is_less [] f fd) (hm : mg "_law_is_less" = some (.ref f)) : Fd P w K mg base l_u_law_is_less "_law_is_less" ["_law_one", "_law_other"] [] (sp_u_law_is_less K) :=
  fdN F hm (by apply ok_u_law_is_less <;> assumption) fun _ _ _ _ _ _ us hl => match us, hl with | [_, _], _ => rfl
theorem ok_u_law_floor (T : Txt P w K mg base)  (F : FnP K "_law_floor" s_u_law_floor [] f fd) : FnOk P w K mg base (L2.CX P w) l_u_law_floor f fd ["_law_one"] (sp_u_law_floor K) :=
  fnD (n := 0) F sc_u_law_floor rfl (fun ds d h => by obtain ⟨q, rfl, hq, rfl⟩ := h; rfl) (by intro f cdv A outer s H E hr; apply d_u_law_floor <;> assumption) (fun P0 H0 D ds h k => by obtain ⟨_, q, rfl, hq, rfl⟩ := h; exact sem_lfloor hq (k.imp fun d hd => ⟨q, rfl, hq, hd⟩))
theorem f_u_law_floor (T : Txt P w K mg base)  (F : FnP K "_law_floor" s_u_law_floor [] f fd) (hm : mg "_law_floor" = some (.ref f)) : Fd P w K mg base l_u_law_floor "_law_floor" ["_law_one"] [] (sp_u_law_floor K) :=
  fdN F hm (by apply ok_u_law_floor <;> assumption) fun _ _ _ _ _ _ us hl => match us, hl with | [_], _ => rfl
theorem ok_u_law_broken (T : Txt P w K mg base)  (F : FnP K "_law_broken" s_u_law_broken [] f fd) : FnOk P w K mg base (L2.CX P w) l_u_law_broken f fd ["_law_one"] (sp_u_law_broken K) :=
  fnD (n := 0) F sc_u_law_broken rfl (fun ds d h => by obtain ⟨q, rfl, hq, rfl⟩ := h; rfl) (by intro f cdv A outer s H E hr; apply d_u_law_broken <;> assumption) (fun P0 H0 D ds h k => by obtain ⟨_, q, rfl, hq, rfl⟩ := h; exact sem_lbroken hq (k.imp fun d hd => ⟨q, rfl, hq, hd⟩))
theorem f_u_law_broken (T : Txt P w K mg base)  (F : FnP K "_law_broken" s_u_law_broken [] f fd) (hm : mg "_law_broken" = some (.ref f)) : Fd P w K mg base l_u_law_broken "_law_broken" ["_law_one"] [] (sp_u_law_broken K) :=
  fdN F hm (by apply ok_u_law_broken <;> assumption) fun _ _ _ _ _ _ us hl => match us, hl with | [_], _ => rfl
theorem ok_u_law_is_whole (T : Txt P w K mg base)  (F : FnP K "_law_is_whole" s_u_law_is_whole [] f fd) : FnOk P w K mg base (L2.CX P w) l_u_law_is_whole f fd ["_law_thing"] (sp_u_law_is_whole K) :=
  fnD (n := 0) F sc_u_law_is_whole rfl (fun ds d h => by obtain ⟨x, rfl, hx, rfl⟩ := h; rfl) (by intro f cdv A outer s H E hr; apply d_u_law_is_whole <;> assumption) (fun P0 H0 D ds h k => by obtain ⟨_, x, rfl, hx, rfl⟩ := h; exact sem_lwhole hx (k.imp fun d hd => ⟨x, rfl, hx, hd⟩))
theorem f_u_law_is_whole (T : Txt P w K mg base)  (F : FnP K "_law_is_whole" s_u_law_is_whole [] f fd) (hm : mg "_law_is_whole" = some (.ref f)) : Fd P w K mg base l_u_law_is_whole "_law_is_whole" ["_law_thing"] [] (sp_u_law_is_whole K) :=
  fdN F hm (by apply ok_u_law_is_whole <;> assumption) fun _ _ _ _ _ _ us hl => match us, hl with | [_], _ => rfl
theorem ok_u_law_is_ratio (T : Txt P w K mg base) (C_u_law_is_whole : Fd P w K mg base l_u_law_is_whole "_law_is_whole" ["_law_thing"] [] (sp_u_law_is_whole K)) (C_u_law_gcd : Fd P w K mg base l_u_law_gcd "_law_gcd" ["_law_one", "_law_other"] [] (sp_u_law_gcd K)) (F : FnP K "_law_is_ratio" s_u_law_is_ratio [] f fd) : FnOk P w K mg base (L2.CX P w) l_u_law_is_ratio f fd ["_law_thing"] (sp_u_law_is_ratio K) :=
  fnD (n := 0) F sc_u_law_is_ratio rfl (fun ds d h => by obtain ⟨q, rfl, hq, rfl⟩ := h; rfl) (by intro f cdv A outer s H E hr; apply d_u_law_is_ratio <;> assumption) (fun P0 H0 D ds h k => by obtain ⟨_, q, rfl, hq, rfl⟩ := h; exact sem_lisratio hq (k.imp fun d hd => ⟨q, rfl, hq, hd⟩))
theorem f_u_law_is_ratio (T : Txt P w K mg base) (C_u_law_is_whole : Fd P w K mg base l_u_law_is_whole "_law_is_whole" ["_law_thing"] [] (sp_u_law_is_whole K)) (C_u_law_gcd : Fd P w K mg base l_u_law_gcd "_law_gcd" ["_law_one", "_law_other"] [] (sp_u_law_gcd K)) (F : FnP K "_law_is_ratio" s_u_law_is_ratio [] f fd) (hm : mg "_law_is_ratio" = some (.ref f)) : Fd P w K mg base l_u_law_is_ratio "_law_is_ratio" ["_law_thing"] [] (sp_u_law_is_ratio K) :=
  fdN F hm (by apply ok_u_law_is_ratio <;> assumption) fun _ _ _ _ _ _ us hl => match us, hl with | [_], _ => rfl
theorem ok_u_law_slip (T : Txt P w K mg base) (C_u_law_draw : Fd P w K mg base l_u_law_draw "_law_draw" ["_law_hand_here", "_law_many"] [] (sp_u_law_draw K)) (C_u_law_ratio : Fd P w K mg base l_u_law_ratio "_law_ratio" ["_law_top", "_law_bottom"] [] (sp_u_law_ratio K)) (F : FnP K "_law_slip" s_u_law_slip [] f fd) : FnOk P w K mg base (L2.CX P w) l_u_law_slip f fd ["_law_hand_here", "_law_bound"] (sp_u_law_slip K) :=
  fnH (n := 2) F sc_u_law_slip rfl (fun ds d h => by obtain ⟨b, rfl, h0, h1, _⟩ := h; rfl) (by intro f cdv A outer s H E hr; apply d_u_law_slip <;> assumption) (fun P0 H0 a D ds h k => by obtain ⟨_, b, rfl, h0, h1, _⟩ := h; exact sem_slip h0 h1 rfl fun v P H d hs hd => k v P H d hs ⟨b, rfl, h0, h1, hd⟩)
theorem f_u_law_slip (T : Txt P w K mg base) (C_u_law_draw : Fd P w K mg base l_u_law_draw "_law_draw" ["_law_hand_here", "_law_many"] [] (sp_u_law_draw K)) (C_u_law_ratio : Fd P w K mg base l_u_law_ratio "_law_ratio" ["_law_top", "_law_bottom"] [] (sp_u_law_ratio K)) (F : FnP K "_law_slip" s_u_law_slip [] f fd) (hm : mg "_law_slip" = some (.ref f)) : Fd P w K mg base l_u_law_slip "_law_slip" ["_law_hand_here", "_law_bound"] [] (sp_u_law_slip K) :=
  fdN F hm (by apply ok_u_law_slip <;> assumption) fun _ _ _ _ _ _ us hl => match us, hl with | [_, _], _ => rfl
theorem ok_u_law_row (T : Txt P w K mg base) (C_u_law_slip : Fd P w K mg base l_u_law_slip "_law_slip" ["_law_hand_here", "_law_bound"] [] (sp_u_law_slip K)) (C_u_law_draw : Fd P w K mg base l_u_law_draw "_law_draw" ["_law_hand_here", "_law_many"] [] (sp_u_law_draw K)) (C_u_law_plus : Fd P w K mg base l_u_law_plus "_law_plus" ["_law_one", "_law_other"] [] (sp_u_law_plus K)) (C_u_law_broken : Fd P w K mg base l_u_law_broken "_law_broken" ["_law_one"] [] (sp_u_law_broken K)) (F : FnP K "_law_row" s_u_law_row [] f fd) : FnOk P w K mg base (L2.CX P w) l_u_law_row f fd ["_law_hand_here", "_law_bounds_here"] (sp_u_law_row K) :=
  fnH (n := 3) F sc_u_law_row rfl (fun ds d h => by obtain ⟨bs, rfl, hb, _⟩ := h; rfl) (by intro f cdv A outer s H E hr; apply d_u_law_row <;> assumption) (fun P0 H0 a D ds h k => by obtain ⟨_, bs, rfl, hb, _⟩ := h; exact sem_row hb rfl fun v P H d hs hd => k v P H d hs ⟨bs, rfl, hb, hd⟩)
theorem f_u_law_row (T : Txt P w K mg base) (C_u_law_slip : Fd P w K mg base l_u_law_slip "_law_slip" ["_law_hand_here", "_law_bound"] [] (sp_u_law_slip K)) (C_u_law_draw : Fd P w K mg base l_u_law_draw "_law_draw" ["_law_hand_here", "_law_many"] [] (sp_u_law_draw K)) (C_u_law_plus : Fd P w K mg base l_u_law_plus "_law_plus" ["_law_one", "_law_other"] [] (sp_u_law_plus K)) (C_u_law_broken : Fd P w K mg base l_u_law_broken "_law_broken" ["_law_one"] [] (sp_u_law_broken K)) (F : FnP K "_law_row" s_u_law_row [] f fd) (hm : mg "_law_row" = some (.ref f)) : Fd P w K mg base l_u_law_row "_law_row" ["_law_hand_here", "_law_bounds_here"] [] (sp_u_law_row K) :=
  fdN F hm (by apply ok_u_law_row <;> assumption) fun _ _ _ _ _ _ us hl => match us, hl with | [_, _], _ => rfl
theorem ok_u_law_bounds (T : Txt P w K mg base) (C_u_law_pick : Fd P w K mg base l_u_law_pick "_law_pick" ["_law_hand_here", "_law_things"] [] (sp_u_law_pick K)) (F : FnP K "_law_bounds" s_u_law_bounds [] f fd) : FnOk P w K mg base (L2.CX P w) l_u_law_bounds f fd ["_law_hand_here", "_law_most"] (sp_u_law_bounds K) :=
  fnH (n := 2) F sc_u_law_bounds rfl (fun ds d h => by obtain ⟨rfl, _⟩ := h; rfl) (by intro f cdv A outer s H E hr; apply d_u_law_bounds <;> assumption) (fun P0 H0 a D ds h k => by obtain ⟨_, rfl, _⟩ := h; exact sem_bounds rfl fun v P H d hs hd => k v P H d hs ⟨rfl, hd⟩)
theorem f_u_law_bounds (T : Txt P w K mg base) (C_u_law_pick : Fd P w K mg base l_u_law_pick "_law_pick" ["_law_hand_here", "_law_things"] [] (sp_u_law_pick K)) (F : FnP K "_law_bounds" s_u_law_bounds [] f fd) (hm : mg "_law_bounds" = some (.ref f)) : Fd P w K mg base l_u_law_bounds "_law_bounds" ["_law_hand_here", "_law_most"] [] (sp_u_law_bounds K) :=
  fdN F hm (by apply ok_u_law_bounds <;> assumption) fun _ _ _ _ _ _ us hl => match us, hl with | [_, _], _ => rfl
theorem ok_u_law_parts (T : Txt P w K mg base) (C_u_law_broken : Fd P w K mg base l_u_law_broken "_law_broken" ["_law_one"] [] (sp_u_law_broken K)) (C_u_law_is_less : Fd P w K mg base l_u_law_is_less "_law_is_less" ["_law_one", "_law_other"] [] (sp_u_law_is_less K)) (F : FnP K "_law_parts" s_u_law_parts [] f fd) : FnOk P w K mg base (L2.CX P w) l_u_law_parts f fd ["_law_row_here"] (sp_u_law_parts K) :=
  fnO (n := 4) F sc_u_law_parts rfl (fun ds d h => by obtain ⟨rs, rfl, h1, rfl⟩ := h; rfl) (by intro f cdv A outer s H E hr; apply d_u_law_parts <;> assumption) (fun P0 H0 D ds h k => by obtain ⟨_, rs, rfl, h1, rfl⟩ := h; exact sem_parts h1 rfl fun l P H σ es ds hd => k l P H σ es ds ⟨rs, rfl, h1, hd⟩)
theorem f_u_law_parts (T : Txt P w K mg base) (C_u_law_broken : Fd P w K mg base l_u_law_broken "_law_broken" ["_law_one"] [] (sp_u_law_broken K)) (C_u_law_is_less : Fd P w K mg base l_u_law_is_less "_law_is_less" ["_law_one", "_law_other"] [] (sp_u_law_is_less K)) (F : FnP K "_law_parts" s_u_law_parts [] f fd) (hm : mg "_law_parts" = some (.ref f)) : Fd P w K mg base l_u_law_parts "_law_parts" ["_law_row_here"] [] (sp_u_law_parts K) :=
  fdN F hm (by apply ok_u_law_parts <;> assumption) fun _ _ _ _ _ _ us hl => match us, hl with | [_], _ => rfl
theorem ok_u_law_stand (T : Txt P w K mg base) (C_u_law_parts : Fd P w K mg base l_u_law_parts "_law_parts" ["_law_row_here"] [] (sp_u_law_parts K)) (C_u_law_broken : Fd P w K mg base l_u_law_broken "_law_broken" ["_law_one"] [] (sp_u_law_broken K)) (C_u_law_is_less : Fd P w K mg base l_u_law_is_less "_law_is_less" ["_law_one", "_law_other"] [] (sp_u_law_is_less K)) (C_u_law_floor : Fd P w K mg base l_u_law_floor "_law_floor" ["_law_one"] [] (sp_u_law_floor K)) (F : FnP K "_law_stand" s_u_law_stand [] f fd) : FnOk P w K mg base (L2.CX P w) l_u_law_stand f fd ["_law_row_here"] (sp_u_law_stand K) :=
  fnD (n := 6) F sc_u_law_stand rfl (fun ds d h => by obtain ⟨rs, rfl, h1, rfl⟩ := h; rfl) (by intro f cdv A outer s H E hr; apply d_u_law_stand <;> assumption) (fun P0 H0 D ds h k => by obtain ⟨_, rs, rfl, h1, rfl⟩ := h; exact sem_lstand h1 rfl (k.imp fun d hd => ⟨rs, rfl, h1, hd⟩))
theorem f_u_law_stand (T : Txt P w K mg base) (C_u_law_parts : Fd P w K mg base l_u_law_parts "_law_parts" ["_law_row_here"] [] (sp_u_law_parts K)) (C_u_law_broken : Fd P w K mg base l_u_law_broken "_law_broken" ["_law_one"] [] (sp_u_law_broken K)) (C_u_law_is_less : Fd P w K mg base l_u_law_is_less "_law_is_less" ["_law_one", "_law_other"] [] (sp_u_law_is_less K)) (C_u_law_floor : Fd P w K mg base l_u_law_floor "_law_floor" ["_law_one"] [] (sp_u_law_floor K)) (F : FnP K "_law_stand" s_u_law_stand [] f fd) (hm : mg "_law_stand" = some (.ref f)) : Fd P w K mg base l_u_law_stand "_law_stand" ["_law_row_here"] [] (sp_u_law_stand K) :=
  fdN F hm (by apply ok_u_law_stand <;> assumption) fun _ _ _ _ _ _ us hl => match us, hl with | [_], _ => rfl
theorem ok_u_law_between (T : Txt P w K mg base) (C_u_law_plus : Fd P w K mg base l_u_law_plus "_law_plus" ["_law_one", "_law_other"] [] (sp_u_law_plus K)) (C_u_law_times : Fd P w K mg base l_u_law_times "_law_times" ["_law_one", "_law_other"] [] (sp_u_law_times K)) (C_u_law_minus : Fd P w K mg base l_u_law_minus "_law_minus" ["_law_one", "_law_other"] [] (sp_u_law_minus K)) (F : FnP K "_law_between" s_u_law_between [] f fd) : FnOk P w K mg base (L2.CX P w) l_u_law_between f fd ["_law_low", "_law_high", "_law_part"] (sp_u_law_between K) :=
  fnD (n := 0) F sc_u_law_between rfl (fun ds d h => by obtain ⟨p, q, t, rfl, hp, hq, ht, rfl⟩ := h; rfl) (by intro f cdv A outer s H E hr; apply d_u_law_between <;> assumption) (fun P0 H0 D ds h k => by obtain ⟨_, p, q, t, rfl, hp, hq, ht, rfl⟩ := h; exact sem_between hp hq ht (k.imp fun d hd => ⟨p, q, t, rfl, hp, hq, ht, hd⟩))
theorem f_u_law_between (T : Txt P w K mg base) (C_u_law_plus : Fd P w K mg base l_u_law_plus "_law_plus" ["_law_one", "_law_other"] [] (sp_u_law_plus K)) (C_u_law_times : Fd P w K mg base l_u_law_times "_law_times" ["_law_one", "_law_other"] [] (sp_u_law_times K)) (C_u_law_minus : Fd P w K mg base l_u_law_minus "_law_minus" ["_law_one", "_law_other"] [] (sp_u_law_minus K)) (F : FnP K "_law_between" s_u_law_between [] f fd) (hm : mg "_law_between" = some (.ref f)) : Fd P w K mg base l_u_law_between "_law_between" ["_law_low", "_law_high", "_law_part"] [] (sp_u_law_between K) :=
  fdN F hm (by apply ok_u_law_between <;> assumption) fun _ _ _ _ _ _ us hl => match us, hl with | [_, _, _], _ => rfl
theorem ok_u_law_at (T : Txt P w K mg base) (C_u_law_between : Fd P w K mg base l_u_law_between "_law_between" ["_law_low", "_law_high", "_law_part"] [] (sp_u_law_between K)) (F : FnP K "_law_at" s_u_law_at [] f fd) : FnOk P w K mg base (L2.CX P w) l_u_law_at f fd ["_law_row_here", "_law_other", "_law_time"] (sp_u_law_at K) :=
  fnD (n := 2) F sc_u_law_at rfl (fun ds d h => by obtain ⟨rs, os, t, rfl, h1, h2, ht, rfl⟩ := h; rfl) (by intro f cdv A outer s H E hr; apply d_u_law_at <;> assumption) (fun P0 H0 D ds h k => by obtain ⟨_, rs, os, t, rfl, h1, h2, ht, rfl⟩ := h; exact sem_lat rfl h1 h2 ht (k.imp fun d hd => ⟨rs, os, t, rfl, h1, h2, ht, hd⟩))
theorem f_u_law_at (T : Txt P w K mg base) (C_u_law_between : Fd P w K mg base l_u_law_between "_law_between" ["_law_low", "_law_high", "_law_part"] [] (sp_u_law_between K)) (F : FnP K "_law_at" s_u_law_at [] f fd) (hm : mg "_law_at" = some (.ref f)) : Fd P w K mg base l_u_law_at "_law_at" ["_law_row_here", "_law_other", "_law_time"] [] (sp_u_law_at K) :=
  fdN F hm (by apply ok_u_law_at <;> assumption) fun _ _ _ _ _ _ us hl => match us, hl with | [_, _, _], _ => rfl
theorem ok_u_law_is_quiet (T : Txt P w K mg base) (C_u_law_is_less : Fd P w K mg base l_u_law_is_less "_law_is_less" ["_law_one", "_law_other"] [] (sp_u_law_is_less K)) (C_u_law_floor : Fd P w K mg base l_u_law_floor "_law_floor" ["_law_one"] [] (sp_u_law_floor K)) (F : FnP K "_law_is_quiet" s_u_law_is_quiet [] f fd) : FnOk P w K mg base (L2.CX P w) l_u_law_is_quiet f fd ["_law_start", "_law_end"] (sp_u_law_is_quiet K) :=
  fnD (n := 2) F sc_u_law_is_quiet rfl (fun ds d h => by obtain ⟨p, q, rfl, hp, hq, rfl⟩ := h; rfl) (by intro f cdv A outer s H E hr; apply d_u_law_is_quiet <;> assumption) (fun P0 H0 D ds h k => by obtain ⟨_, p, q, rfl, hp, hq, rfl⟩ := h; exact sem_quiet hp hq (k.imp fun d hd => ⟨p, q, rfl, hp, hq, hd⟩))
theorem f_u_law_is_quiet (T : Txt P w K mg base) (C_u_law_is_less : Fd P w K mg base l_u_law_is_less "_law_is_less" ["_law_one", "_law_other"] [] (sp_u_law_is_less K)) (C_u_law_floor : Fd P w K mg base l_u_law_floor "_law_floor" ["_law_one"] [] (sp_u_law_floor K)) (F : FnP K "_law_is_quiet" s_u_law_is_quiet [] f fd) (hm : mg "_law_is_quiet" = some (.ref f)) : Fd P w K mg base l_u_law_is_quiet "_law_is_quiet" ["_law_start", "_law_end"] [] (sp_u_law_is_quiet K) :=
  fdN F hm (by apply ok_u_law_is_quiet <;> assumption) fun _ _ _ _ _ _ us hl => match us, hl with | [_, _], _ => rfl
theorem ok_u_law_stretch_right (T : Txt P w K mg base) (C_u_law_at : Fd P w K mg base l_u_law_at "_law_at" ["_law_row_here", "_law_other", "_law_time"] [] (sp_u_law_at K)) (C_u_law_is_quiet : Fd P w K mg base l_u_law_is_quiet "_law_is_quiet" ["_law_start", "_law_end"] [] (sp_u_law_is_quiet K)) (C_u_law_minus : Fd P w K mg base l_u_law_minus "_law_minus" ["_law_one", "_law_other"] [] (sp_u_law_minus K)) (C_u_law_stand : Fd P w K mg base l_u_law_stand "_law_stand" ["_law_row_here"] [] (sp_u_law_stand K)) (C_u_law_between : Fd P w K mg base l_u_law_between "_law_between" ["_law_low", "_law_high", "_law_part"] [] (sp_u_law_between K)) (F : FnP K "_law_stretch_right" s_u_law_stretch_right [] f fd) : FnOk P w K mg base (L2.CX P w) l_u_law_stretch_right f fd ["_law_row_here", "_law_other", "_law_start", "_law_end", "_law_stand_here"] (sp_u_law_stretch_right K) :=
  fnD (n := 5) F sc_u_law_stretch_right rfl (fun ds d h => by obtain ⟨rs, os, s, e, st, rfl, hl, a1, a2, hs, he, hst, ho, rfl⟩ := h; rfl) (by intro f cdv A outer s H E hr; apply d_u_law_stretch_right <;> assumption) (fun P0 H0 D ds h k => by obtain ⟨_, rs, os, s, e, st, rfl, hl, a1, a2, hs, he, hst, ho, rfl⟩ := h; exact sem_stretch rfl hl a1 a2 hs he ho (k.imp fun d hd => ⟨rs, os, s, e, st, rfl, hl, a1, a2, hs, he, hst, ho, hd⟩))
theorem f_u_law_stretch_right (T : Txt P w K mg base) (C_u_law_at : Fd P w K mg base l_u_law_at "_law_at" ["_law_row_here", "_law_other", "_law_time"] [] (sp_u_law_at K)) (C_u_law_is_quiet : Fd P w K mg base l_u_law_is_quiet "_law_is_quiet" ["_law_start", "_law_end"] [] (sp_u_law_is_quiet K)) (C_u_law_minus : Fd P w K mg base l_u_law_minus "_law_minus" ["_law_one", "_law_other"] [] (sp_u_law_minus K)) (C_u_law_stand : Fd P w K mg base l_u_law_stand "_law_stand" ["_law_row_here"] [] (sp_u_law_stand K)) (C_u_law_between : Fd P w K mg base l_u_law_between "_law_between" ["_law_low", "_law_high", "_law_part"] [] (sp_u_law_between K)) (F : FnP K "_law_stretch_right" s_u_law_stretch_right [] f fd) (hm : mg "_law_stretch_right" = some (.ref f)) : Fd P w K mg base l_u_law_stretch_right "_law_stretch_right" ["_law_row_here", "_law_other", "_law_start", "_law_end", "_law_stand_here"] [] (sp_u_law_stretch_right K) :=
  fdN F hm (by apply ok_u_law_stretch_right <;> assumption) fun _ _ _ _ _ _ us hl => match us, hl with | [_, _, _, _, _], _ => rfl
theorem ok_u_law_shape_right (T : Txt P w K mg base) (C_u_law_is_ratio : Fd P w K mg base l_u_law_is_ratio "_law_is_ratio" ["_law_thing"] [] (sp_u_law_is_ratio K)) (C_u_law_is_less : Fd P w K mg base l_u_law_is_less "_law_is_less" ["_law_one", "_law_other"] [] (sp_u_law_is_less K)) (F : FnP K "_law_shape_right" s_u_law_shape_right [] f fd) : FnOk P w K mg base (L2.CX P w) l_u_law_shape_right f fd ["_law_told"] (sp_u_law_shape_right K) :=
  fnD (n := 5) F sc_u_law_shape_right rfl (fun ds d h => by obtain ⟨J, rfl, hJ, ho, rfl⟩ := h; rfl) (by intro f cdv A outer s H E hr; apply d_u_law_shape_right <;> assumption) (fun P0 H0 D ds h k => by obtain ⟨_, J, rfl, hJ, ho, rfl⟩ := h; exact sem_shape rfl hJ ho (k.imp fun d hd => ⟨J, rfl, hJ, ho, hd⟩))
theorem f_u_law_shape_right (T : Txt P w K mg base) (C_u_law_is_ratio : Fd P w K mg base l_u_law_is_ratio "_law_is_ratio" ["_law_thing"] [] (sp_u_law_is_ratio K)) (C_u_law_is_less : Fd P w K mg base l_u_law_is_less "_law_is_less" ["_law_one", "_law_other"] [] (sp_u_law_is_less K)) (F : FnP K "_law_shape_right" s_u_law_shape_right [] f fd) (hm : mg "_law_shape_right" = some (.ref f)) : Fd P w K mg base l_u_law_shape_right "_law_shape_right" ["_law_told"] [] (sp_u_law_shape_right K) :=
  fdN F hm (by apply ok_u_law_shape_right <;> assumption) fun _ _ _ _ _ _ us hl => match us, hl with | [_], _ => rfl
theorem ok_u_law_way_right (T : Txt P w K mg base) (C_stands_between : Fd P w K mg base l_stands_between "stands_between" ["row", "other"] [] (sp_stands_between K)) (C_u_law_shape_right : Fd P w K mg base l_u_law_shape_right "_law_shape_right" ["_law_told"] [] (sp_u_law_shape_right K)) (C_u_law_stand : Fd P w K mg base l_u_law_stand "_law_stand" ["_law_row_here"] [] (sp_u_law_stand K)) (C_u_law_at : Fd P w K mg base l_u_law_at "_law_at" ["_law_row_here", "_law_other", "_law_time"] [] (sp_u_law_at K)) (C_u_law_stretch_right : Fd P w K mg base l_u_law_stretch_right "_law_stretch_right" ["_law_row_here", "_law_other", "_law_start", "_law_end", "_law_stand_here"] [] (sp_u_law_stretch_right K)) (C_u_law_draw : Fd P w K mg base l_u_law_draw "_law_draw" ["_law_hand_here", "_law_many"] [] (sp_u_law_draw K)) (C_u_law_ratio : Fd P w K mg base l_u_law_ratio "_law_ratio" ["_law_top", "_law_bottom"] [] (sp_u_law_ratio K)) (C_u_law_is_less : Fd P w K mg base l_u_law_is_less "_law_is_less" ["_law_one", "_law_other"] [] (sp_u_law_is_less K)) (F : FnP K "_law_way_right" s_u_law_way_right [] f fd) : FnOk P w K mg base (L2.CX P w) l_u_law_way_right f fd ["_law_hand_here", "_law_row_here", "_law_other"] (sp_u_law_way_right K) :=
  fnH (n := 10) F sc_u_law_way_right rfl (fun ds d h => by obtain ⟨rs, os, rfl, h1, h2, hl, _⟩ := h; rfl) (by intro f cdv A outer s H E hr; apply d_u_law_way_right <;> assumption) (fun P0 H0 a D ds h k => by obtain ⟨_, rs, os, rfl, h1, h2, hl, _⟩ := h; exact sem_way rfl h1 h2 hl (way_ok h1 h2 hl) fun v P H d hs hd => k v P H d hs ⟨rs, os, rfl, h1, h2, hl, hd⟩)
theorem f_u_law_way_right (T : Txt P w K mg base) (C_stands_between : Fd P w K mg base l_stands_between "stands_between" ["row", "other"] [] (sp_stands_between K)) (C_u_law_shape_right : Fd P w K mg base l_u_law_shape_right "_law_shape_right" ["_law_told"] [] (sp_u_law_shape_right K)) (C_u_law_stand : Fd P w K mg base l_u_law_stand "_law_stand" ["_law_row_here"] [] (sp_u_law_stand K)) (C_u_law_at : Fd P w K mg base l_u_law_at "_law_at" ["_law_row_here", "_law_other", "_law_time"] [] (sp_u_law_at K)) (C_u_law_stretch_right : Fd P w K mg base l_u_law_stretch_right "_law_stretch_right" ["_law_row_here", "_law_other", "_law_start", "_law_end", "_law_stand_here"] [] (sp_u_law_stretch_right K)) (C_u_law_draw : Fd P w K mg base l_u_law_draw "_law_draw" ["_law_hand_here", "_law_many"] [] (sp_u_law_draw K)) (C_u_law_ratio : Fd P w K mg base l_u_law_ratio "_law_ratio" ["_law_top", "_law_bottom"] [] (sp_u_law_ratio K)) (C_u_law_is_less : Fd P w K mg base l_u_law_is_less "_law_is_less" ["_law_one", "_law_other"] [] (sp_u_law_is_less K)) (F : FnP K "_law_way_right" s_u_law_way_right [] f fd) (hm : mg "_law_way_right" = some (.ref f)) : Fd P w K mg base l_u_law_way_right "_law_way_right" ["_law_hand_here", "_law_row_here", "_law_other"] [] (sp_u_law_way_right K) :=
  fdN F hm (by apply ok_u_law_way_right <;> assumption) fun _ _ _ _ _ _ us hl => match us, hl with | [_, _, _], _ => rfl
theorem ok_u_law_refused (T : Txt P w K mg base) (C_stands_between : Fd P w K mg base l_stands_between "stands_between" ["row", "other"] [] (sp_stands_between K)) (F : FnP K "_law_refused" s_u_law_refused [] f fd) : FnOk P w K mg base (L2.CX P w) l_u_law_refused f fd ["_law_row_here", "_law_other"] (sp_u_law_refused K) :=
  fnD (n := 1) F sc_u_law_refused rfl (fun ds d h => by obtain ⟨x, y, rfl, hx, hy, zx, zy, rfl⟩ := h; rfl) (by intro f cdv A outer s H E hr; apply d_u_law_refused <;> assumption) (fun P0 H0 D ds h k => by obtain ⟨_, x, y, rfl, hx, hy, zx, zy, rfl⟩ := h; exact sem_refused T.exm hx hy zx zy (k.imp fun d hd => ⟨x, y, rfl, hx, hy, zx, zy, hd⟩))
theorem f_u_law_refused (T : Txt P w K mg base) (C_stands_between : Fd P w K mg base l_stands_between "stands_between" ["row", "other"] [] (sp_stands_between K)) (F : FnP K "_law_refused" s_u_law_refused [] f fd) (hm : mg "_law_refused" = some (.ref f)) : Fd P w K mg base l_u_law_refused "_law_refused" ["_law_row_here", "_law_other"] [] (sp_u_law_refused K) :=
  fdN F hm (by apply ok_u_law_refused <;> assumption) fun _ _ _ _ _ _ us hl => match us, hl with | [_, _], _ => rfl
theorem ok_u_law_refusals (T : Txt P w K mg base) (C_u_law_pick : Fd P w K mg base l_u_law_pick "_law_pick" ["_law_hand_here", "_law_things"] [] (sp_u_law_pick K)) (C_u_law_refused : Fd P w K mg base l_u_law_refused "_law_refused" ["_law_row_here", "_law_other"] [] (sp_u_law_refused K)) (F : FnP K "_law_refusals" s_u_law_refusals [] f fd) : FnOk P w K mg base (L2.CX P w) l_u_law_refusals f fd ["_law_hand_here", "_law_row_here"] (sp_u_law_refusals K) :=
  fnH (n := 4) F sc_u_law_refusals rfl (fun ds d h => by obtain ⟨rs, rfl, h1, _⟩ := h; rfl) (by intro f cdv A outer s H E hr; apply d_u_law_refusals <;> assumption) (fun P0 H0 a D ds h k => by obtain ⟨_, rs, rfl, h1, _⟩ := h; exact sem_refusals rfl h1 fun v P H d hs hd => k v P H d hs ⟨rs, rfl, h1, hd⟩)
theorem f_u_law_refusals (T : Txt P w K mg base) (C_u_law_pick : Fd P w K mg base l_u_law_pick "_law_pick" ["_law_hand_here", "_law_things"] [] (sp_u_law_pick K)) (C_u_law_refused : Fd P w K mg base l_u_law_refused "_law_refused" ["_law_row_here", "_law_other"] [] (sp_u_law_refused K)) (F : FnP K "_law_refusals" s_u_law_refusals [] f fd) (hm : mg "_law_refusals" = some (.ref f)) : Fd P w K mg base l_u_law_refusals "_law_refusals" ["_law_hand_here", "_law_row_here"] [] (sp_u_law_refusals K) :=
  fdN F hm (by apply ok_u_law_refusals <;> assumption) fun _ _ _ _ _ _ us hl => match us, hl with | [_, _], _ => rfl
end
end K22
set_option Elab.async false
set_option linter.all false
set_option maxRecDepth 100000
set_option maxHeartbeats 4000000
namespace K22
open PySem PySem.Spec PyProof.Rows L2 My StX RZ Lw
local macro_rules | `(tactic| walk_at "ed") => `(tactic| first
  | exact ed_int | exact ed_bl | exact ed_str | exact ed_non
  | exact ed_var rfl
  | (apply ed_I0; (focus walk_at "ed"); (focus walk_at "ed"))
  | (apply ed_B0; (focus walk_at "ed"); (focus walk_at "ed"))
  | (apply ed_neg; (focus walk_at "ed"))
  | (apply ed_ixT; (focus walk_at "ed"); (focus walk_at "ed"); (focus rfl))
  | (apply ed_ixL; (focus walk_at "ed"); (focus walk_at "ed"); (focus rfl))
  | (apply ed_ixO; (focus rfl); (focus walk_at "ed"); (focus rfl))
  | (apply ed_len; (focus walk_at "ed"); (focus rfl))
  | (apply ed_lenO; (focus rfl))
  | (apply ed_tup; (focus walk_at "ed"); (focus (simp only [List.length_cons, List.length_nil]; decide)))
  | (apply ed_eq; (focus walk_at "ed"); (focus walk_at "ed"); (focus rfl); (focus rfl))
  | (apply ed_ne; (focus walk_at "ed"); (focus walk_at "ed"); (focus rfl); (focus rfl))
  | (apply ed_isN; (focus walk_at "ed"))
  | (apply ed_notN; (focus walk_at "ed"))
  | (apply ed_isB; (focus walk_at "ed"); (focus walk_at "ed"))
  | (apply ed_notB; (focus walk_at "ed"); (focus walk_at "ed"))
  | (apply ed_isi; (focus walk_at "ed"); (focus first | rfl | assumption); (focus decide +kernel))
  | (apply ed_isi2; (focus walk_at "ed"); (focus first | rfl | assumption); (focus decide +kernel); (focus decide +kernel))
  | (apply ed_not; (focus walk_at "ed"))
  | (apply ed_int1; (focus walk_at "ed"))
  | (apply ed_abs; (focus walk_at "ed"))
  | (apply ed_gcd; (focus walk_at "ed"); (focus walk_at "ed"))
  | exact es_nil
  | (apply es_cons; (focus walk_at "ed"); (focus walk_at "ed"))
  | (apply eb_test; (focus walk_at "ed"))
  | (apply eb_B; (focus walk_at "ed"))
  | (apply eb_not; (focus walk_at "ed")))
theorem d_law0 {P : Program} {w : World} {K : PySem.W.Frag} {mg : Str → Option Value} {base : Heap} {f : Addr} {cdv : Value} {A : Around} {outer : List Env} {s : Shared} {H : Hp} {E : XK} (T : Txt P w K mg base) (C_u_law_hand : Fd P w K mg base l_u_law_hand "_law_hand" ["_law_script"] [] (sp_u_law_hand K)) (C_u_law_bounds : Fd P w K mg base l_u_law_bounds "_law_bounds" ["_law_hand_here", "_law_most"] [] (sp_u_law_bounds K)) (C_u_law_row : Fd P w K mg base l_u_law_row "_law_row" ["_law_hand_here", "_law_bounds_here"] [] (sp_u_law_row K)) (C_u_law_draw : Fd P w K mg base l_u_law_draw "_law_draw" ["_law_hand_here", "_law_many"] [] (sp_u_law_draw K)) (C_u_law_way_right : Fd P w K mg base l_u_law_way_right "_law_way_right" ["_law_hand_here", "_law_row_here", "_law_other"] [] (sp_u_law_way_right K)) (C_u_law_refusals : Fd P w K mg base l_u_law_refusals "_law_refusals" ["_law_hand_here", "_law_row_here"] [] (sp_u_law_refusals K)) (C_stands_between : Fd P w K mg base l_stands_between "stands_between" ["row", "other"] [] (sp_stands_between K)) (C_u_law_stand : Fd P w K mg base l_u_law_stand "_law_stand" ["_law_row_here"] [] (sp_u_law_stand K))
    (hr : Room m_law (A.deeper (envOfC "law" (defScope s_law) s.heap.objs.size f cdv))) :
    PSs (cxOf CX0 P w K mg base N_law "law" (defScope s_law) f cdv A outer s H E) (defBody s_law) (t_law K) :=
  (pss_cons (ps_set (i := 1) sc_law.nd (by rfl) (Or.inl rfl) (pe_fd C_u_law_hand (hr.mono (by decide)) (pa_cons (pv 0) pa_nil)))
    (pss_cons (ps_for (passes_of rfl) rfl (pi_range1 (by rfl) T.b_range (pa_cons pe_int pa_nil)) (pg_name (i := 2) sc_law.nd (by rfl) (Or.inl rfl)) (pss_cons (ps_set (i := 3) sc_law.nd (by rfl) (Or.inl rfl) (pe_fd C_u_law_bounds (hr.mono (by decide)) (pa_cons (pv 1) (pa_cons pe_int pa_nil))))
    (pss_cons (ps_set (i := 4) sc_law.nd (by rfl) (Or.inr rfl) (pe_fd C_u_law_row (hr.mono (by decide)) (pa_cons (pv 1) (pa_cons (pv 3) pa_nil))))
    (pss_cons (ps_set (i := 5) sc_law.nd (by rfl) (Or.inr rfl) (pe_fd C_u_law_row (hr.mono (by decide)) (pa_cons (pv 1) (pa_cons (pv 3) pa_nil))))
    (pss_cons (ps_if (pt_cmpR (op_eqD hr.units) (pe_fd C_u_law_draw (hr.mono (by decide)) (pa_cons (pv 1) (pa_cons pe_int pa_nil))) pe_int (nomark _)) (pss_cons (ps_set (i := 6) sc_law.nd (by rfl) (Or.inr rfl) (pe_fd C_u_law_draw (hr.mono (by decide)) (pa_cons (pv 1) (pa_cons (pe_callB call_len_seq (by rfl) T.b_len (by decide +kernel) (pa_cons (pv 4) pa_nil)) pa_nil))))
    (pss_one (ps_set (i := 5) sc_law.nd (by rfl) (Or.inr rfl) (pe_callTy call_tuple_of (by rfl) T.b_tuple (by decide +kernel) (pa_cons (pe_lc (own := [("_law_k", 7)]) (g := (gName 7)) (by rfl) sc_law.nd (pi_range1 (by rfl) T.b_range (pa_cons (pe_callB call_len_seq (by rfl) T.b_len (by decide +kernel) (pa_cons (pv 4) pa_nil)) pa_nil)) (blkOk_by (own := [("_law_k", 7)]) (N := N_law) (sc := defScope s_law) (by decide +kernel)) (fun _ _ _ _ _ => (pg_name (i := 7) sc_law.nd (by rfl) (Or.inl rfl))) (fun _ _ _ _ _ => pts_nil) (fun _ _ _ _ _ => (pe_ifExp (pt_cmpR op_le (pv 7) (pv 6) (nomark _)) (pe_ix ix_seq (pv 4) (pv 7) (fun _ _ => rfl)) (pe_ix ix_seq (pv 5) (pv 7) (fun _ _ => rfl))))) pa_nil))))) pss_nil)
    (pss_cons (ps_if (PW.pt (pw_or (pt_not (pt_val (pe_fd C_u_law_way_right (hr.mono (by decide)) (pa_cons (pv 1) (pa_cons (pv 4) (pa_cons (pv 5) pa_nil)))))) (pw_or1 (pt_not (pt_val (pe_fd C_u_law_refusals (hr.mono (by decide)) (pa_cons (pv 1) (pa_cons (pv 4) pa_nil)))))))) (pss_one (ps_ret pe_bl)) pss_nil)
    (pss_one (ps_if (pt_cmpR (op_neD hr.units) (pe_fd C_stands_between (hr.mono (by decide)) (pa_cons (pv 4) (pa_cons (pv 4) pa_nil))) (pe_tup (pa_cons (pe_tup (pa_cons (pe_tup (pa_cons pe_int (pa_cons pe_int pa_nil))) (pa_cons (pe_tup (pa_cons pe_int (pa_cons pe_int pa_nil))) (pa_cons (pe_fd C_u_law_stand (hr.mono (by decide)) (pa_cons (pv 4) pa_nil)) pa_nil)))) pa_nil)) (nomark _)) (pss_one (ps_ret pe_bl)) pss_nil))))))))
    (pss_one (ps_ret pe_bl))))
section
variable {P : Program} {w : World} {K : PySem.W.Frag} {mg : Str → Option Value} {base : Heap} {f C : Addr} {fd : FuncData}
theorem sc_init1 : FnScope ["self", "what"] ["self", "what"] (defScope s_init1) := ⟨rfl, rfl, rfl, by decide +kernel, rfl, by decide +kernel, by decide +kernel⟩
theorem sc_init2 : FnScope ["self", "index", "what"] ["self", "index", "what"] (defScope s_init2) := ⟨rfl, rfl, rfl, by decide +kernel, rfl, by decide +kernel, by decide +kernel⟩
theorem ok_init1 (T : OexC K C) (hno : PySem.W.findIn K (.ref C) "what" = some none) (F : FunD K "__init__" "BadRatio.__init__" (defArgs s_init1) (defBody s_init1) (defScope s_init1) [] [] f fd) : FnOk P w K mg base (L2.CX P w) 1 f fd ["self", "what"] (spIni1 K C "what") := by
  refine F.ok sc_init1 (fun vs H Q E h => ?_) (fun cdv A outer s H vs Q E hr h => ⟨tOst K "what" (tVar 0) (tVar 1), pss_one (ps_ost (pv 0) (pv 1)), ?_⟩)
  · obtain ⟨a, v, rfl, _⟩ := h
    rfl
  · obtain ⟨a, v, rfl, ea, q⟩ := h
    exact ⟨v, rfl, .ref a, rfl, a, C, rfl, T, hno, .inl ⟨ea, fun dx h1 h2 => q dx h1 h2⟩⟩
theorem ok_init2 (T : OexC K C) (hno : PySem.W.findIn K (.ref C) "index" = some none) (hno2 : PySem.W.findIn K (.ref C) "what" = some none) (F : FunD K "__init__" "BadSlipRow.__init__" (defArgs s_init2) (defBody s_init2) (defScope s_init2) [] [] f fd) : FnOk P w K mg base (L2.CX P w) 1 f fd ["self", "index", "what"] (spIni2 K C "index" "what") := by
  refine F.ok sc_init2 (fun vs H Q E h => ?_) (fun cdv A outer s H vs Q E hr h => ⟨tSeq (tOst K "index" (tVar 0) (tVar 1)) (tOst K "what" (tVar 0) (tVar 2)), pss_cons (ps_ost (pv 0) (pv 1)) (pss_one (ps_ost (pv 0) (pv 2))), ?_⟩)
  · obtain ⟨a, v, u, rfl, _⟩ := h
    rfl
  · obtain ⟨a, v, u, rfl, ea, q⟩ := h
    refine ⟨v, rfl, .ref a, rfl, a, C, rfl, T, hno, .inl ⟨ea, fun dx h1 h2 => ?_⟩⟩
    exact ⟨u, rfl, .ref a, rfl, a, C, rfl, T, hno2, .inr ⟨dx, [("index", v)], upd_same, (upd_ne h2).trans upd_same, (by show 1 ≤ 900; decide), q dx h1 h2⟩⟩
theorem w_binds1 (F : FnP K "is_whole" s_is_whole [.non, .non] f fd) : ∃ ds, Vals [V.non, .non] ds ∧ Binds K fd ["thing", "low", "high"] ds :=
  F.binds1 1 0 (by simp) rfl fun T kV doc pm an cdv ct us its h1 h2 => match us, its, h1, h2 with
    | [_], [_, _], _, _ => ⟨_, rfl, rfl⟩
theorem w_binds2 (F : FnP K "is_whole" s_is_whole [.non, .non] f fd) : ∃ ds, Vals [V.non] ds ∧ Binds K fd ["thing", "low", "high"] ds :=
  F.binds1 2 1 (by simp) rfl fun T kV doc pm an cdv ct us its h1 h2 => match us, its, h1, h2 with
    | [_, _], [_, _], _, _ => ⟨_, rfl, rfl⟩
theorem w_binds3 (F : FnP K "is_whole" s_is_whole [.non, .non] f fd) : ∃ ds, Vals ([] : List V) ds ∧ Binds K fd ["thing", "low", "high"] ds :=
  F.binds1 3 2 (by simp) rfl fun T kV doc pm an cdv ct us its h1 h2 => match us, its, h1, h2 with
    | [_, _, _], [_, _], _, _ => ⟨_, rfl, rfl⟩
theorem q_binds3 (F : FnP K "is_sequence" s_is_sequence [.int 0, .non] f fd) : ∃ ds, Vals ([] : List V) ds ∧ Binds K fd ["thing", "low", "high"] ds :=
  F.binds1 3 2 (by simp) rfl fun T kV doc pm an cdv ct us its h1 h2 => match us, its, h1, h2 with
    | [_, _, _], [_, _], _, _ => ⟨_, rfl, rfl⟩
theorem m_binds1 (F : FnP K "make_ratio" s_make_ratio [.int 1] f fd) : ∃ ds, Vals [V.int 1] ds ∧ Binds K fd ["top", "bottom"] ds :=
  F.binds1 1 0 (by simp) rfl fun T kV doc pm an cdv ct us its h1 h2 => match us, its, h1, h2 with
    | [_], [_], _, _ => ⟨_, rfl, rfl⟩
end
section
variable {P : Program} {w w' : World} {K : PySem.W.Frag} {h base : Heap} {mg : Str → Option Value} {f : Addr} {fd : FuncData}
theorem txt (X : K.In h) (G : h.Ns mainGlobals mg) (c : He.SaysX fa fn [] [] ex w h K) : Txt P w' K mg base := by
  obtain ⟨e1, m⟩ := He.ba (show _ = true from c.more)
  obtain ⟨e2, m⟩ := He.ba m
  obtain ⟨e3, m⟩ := He.ba m
  obtain ⟨e4, m⟩ := He.ba m
  obtain ⟨e5, m⟩ := He.ba m
  obtain ⟨e6, m⟩ := He.ba m
  obtain ⟨e7, m⟩ := He.ba m
  obtain ⟨e8, m⟩ := He.ba m
  obtain ⟨e9, m⟩ := He.ba m
  obtain ⟨e10, m⟩ := He.ba m
  obtain ⟨e11, m⟩ := He.ba m
  obtain ⟨e12, m⟩ := He.ba m
  obtain ⟨e13, e14⟩ := He.ba m
  have T1 := oexB_ok e1
  have T2 := oexB_ok e2
  have no1 := of_decide_eq_true e10
  have no2 := of_decide_eq_true e13
  have no3 := of_decide_eq_true e14
  obtain ⟨f1, F1⟩ := c.t.d.def_ 55 (d := di "BadRatio" "BadRatio.__init__" s_init1) rfl
  obtain ⟨f2, F2⟩ := c.t.d.def_ 56 (d := di "BadSlipRow" "BadSlipRow.__init__" s_init2) rfl
  exact {
    b_abs := He.free_ok X G (c.t.d.fact 55 (f := .free "abs") rfl)
    b_bool := He.free_ok X G (c.t.d.fact 56 (f := .free "bool") rfl)
    b_enumerate := He.free_ok X G (c.t.d.fact 57 (f := .free "enumerate") rfl)
    b_int := He.free_ok X G (c.t.d.fact 58 (f := .free "int") rfl)
    b_isinstance := He.free_ok X G (c.t.d.fact 59 (f := .free "isinstance") rfl)
    b_len := He.free_ok X G (c.t.d.fact 60 (f := .free "len") rfl)
    b_list := He.free_ok X G (c.t.d.fact 61 (f := .free "list") rfl)
    b_min := He.free_ok X G (c.t.d.fact 62 (f := .free "min") rfl)
    b_range := He.free_ok X G (c.t.d.fact 63 (f := .free "range") rfl)
    b_tuple := He.free_ok X G (c.t.d.fact 64 (f := .free "tuple") rfl)
    b_zip := He.free_ok X G (c.t.d.fact 65 (f := .free "zip") rfl)
    g_ZERO := He.glo_ok X G (c.t.d.fact 66 (f := .glo "ZERO") rfl)
    g_ONE := He.glo_ok X G (c.t.d.fact 67 (f := .glo "ONE") rfl)
    g_HALF := He.glo_ok X G (c.t.d.fact 68 (f := .glo "HALF") rfl)
    g_BadRatio := He.glo_ok X G (c.t.d.fact 69 (f := .glo "BadRatio") rfl)
    g_BadSlipRow := He.glo_ok X G (c.t.d.fact 70 (f := .glo "BadSlipRow") rfl)
    g_gcd := PySem.W.mg_of X G (of_decide_eq_true e7)
    z_ZERO := fun H => He.tupB_ok e4 H
    z_ONE := fun H => He.tupB_ok e5 H
    z_HALF := fun H => He.tupB_ok e6 H
    oex1 := T1
    ini1 := ⟨_, f1, of_decide_eq_true e8, of_decide_eq_true e9, ok_init1 T1 no1 F1, F1.bindsN fun _ _ _ _ _ _ us hl => match us, hl with | [_, _], _ => rfl⟩
    oex2 := T2
    ini2 := ⟨_, f2, of_decide_eq_true e11, of_decide_eq_true e12, ok_init2 T2 no3 no2 F2, F2.bindsN fun _ _ _ _ _ _ us hl => match us, hl with | [_, _, _], _ => rfl⟩
    xf_BadSlipRow := xfB_ok e3
    no_BadSlipRow_what := no2
    no_BadSlipRow_index := no3
    exm := He.exm_ok (c.t.d.fact 71 (f := .exm "BadSlipRow" "BadSlipRow" true) rfl) }
theorem ok_law (T : Txt P w K mg base) (C_u_law_hand : Fd P w K mg base l_u_law_hand "_law_hand" ["_law_script"] [] (sp_u_law_hand K)) (C_u_law_bounds : Fd P w K mg base l_u_law_bounds "_law_bounds" ["_law_hand_here", "_law_most"] [] (sp_u_law_bounds K)) (C_u_law_row : Fd P w K mg base l_u_law_row "_law_row" ["_law_hand_here", "_law_bounds_here"] [] (sp_u_law_row K)) (C_u_law_draw : Fd P w K mg base l_u_law_draw "_law_draw" ["_law_hand_here", "_law_many"] [] (sp_u_law_draw K)) (C_u_law_way_right : Fd P w K mg base l_u_law_way_right "_law_way_right" ["_law_hand_here", "_law_row_here", "_law_other"] [] (sp_u_law_way_right K)) (C_u_law_refusals : Fd P w K mg base l_u_law_refusals "_law_refusals" ["_law_hand_here", "_law_row_here"] [] (sp_u_law_refusals K)) (C_stands_between : Fd P w K mg base l_stands_between "stands_between" ["row", "other"] [] (sp_stands_between K)) (C_u_law_stand : Fd P w K mg base l_u_law_stand "_law_stand" ["_law_row_here"] [] (sp_u_law_stand K)) (F : FnP K "law" s_law [] f fd) : FnOk P w K mg base CX0 l_law f fd ["_law_script"] (sp_law K) := by
  refine F.ok sc_law (fun vs H Q E h => ?_) (fun cdv A outer s H vs Q E hr h => ⟨t_law K, ?_, ?_⟩)
  · obtain ⟨P, ds, e, ha, ⟨d, ns, rfl, _, _⟩, _⟩ := h
    rw [ha.len] <;> rfl
  · apply d_law0 <;> assumption
  · obtain ⟨P, ds, e, ha, ⟨d, ns, rfl, hl, _⟩, q⟩ := h
    rw [start_eq (n := 7) (by rw [ha.len] <;> rfl)]
    exact sem_law (D := { nx := fun _ H' => Q .non H', rt := Q }) (c := ⟨K, [], P, H⟩) hl rfl (fun v P' H' σ es x hx r hv => q v P' H' x ⟨ns, rfl, hl, hx⟩ (r.grow rfl) hv) _ P H (rep_start e ha)
theorem facts (X : K.In h) (G : h.Ns mainGlobals mg) (hfa : mg ("law" : Str) = some (.ref f)) (c : He.SaysX fa fn [] [] ex w h K) :
    ∃ fd : FuncData, (∀ (s : Shared) (v : Value), BindsTo s fd ⟨[v], []⟩ [("_law_script", v)]) ∧ ∀ base : Heap, FnOk P w K mg base CX0 l_law f fd ["_law_script"] (sp_law K) := by
  obtain ⟨d_0, F_0⟩ : ∃ fd, FnP K "is_whole" s_is_whole [.non, .non] (He.ga K "is_whole") fd := c.t.d.def_ 0 (d := dd "is_whole" s_is_whole [.non, .non]) rfl
  have m_0 : mg "is_whole" = some (.ref (He.ga K "is_whole")) := He.glo_ok X G (c.t.d.fact 0 (f := .glo "is_whole") rfl)
  obtain ⟨d_1, F_1⟩ : ∃ fd, FnP K "is_sequence" s_is_sequence [.int 0, .non] (He.ga K "is_sequence") fd := c.t.d.def_ 1 (d := dd "is_sequence" s_is_sequence [.int 0, .non]) rfl
  have m_1 : mg "is_sequence" = some (.ref (He.ga K "is_sequence")) := He.glo_ok X G (c.t.d.fact 1 (f := .glo "is_sequence") rfl)
  obtain ⟨d_2, F_2⟩ : ∃ fd, FnP K "number_choices" s_number_choices [] (He.ga K "number_choices") fd := c.t.d.def_ 2 (d := dd "number_choices" s_number_choices) rfl
  have m_2 : mg "number_choices" = some (.ref (He.ga K "number_choices")) := He.glo_ok X G (c.t.d.fact 2 (f := .glo "number_choices") rfl)
  obtain ⟨d_3, F_3⟩ : ∃ fd, FnP K "number_pairs" s_number_pairs [] (He.ga K "number_pairs") fd := c.t.d.def_ 3 (d := dd "number_pairs" s_number_pairs) rfl
  have m_3 : mg "number_pairs" = some (.ref (He.ga K "number_pairs")) := He.glo_ok X G (c.t.d.fact 3 (f := .glo "number_pairs") rfl)
  obtain ⟨d_4, F_4⟩ : ∃ fd, FnP K "is_ratio" s_is_ratio [] (He.ga K "is_ratio") fd := c.t.d.def_ 4 (d := dd "is_ratio" s_is_ratio) rfl
  have m_4 : mg "is_ratio" = some (.ref (He.ga K "is_ratio")) := He.glo_ok X G (c.t.d.fact 4 (f := .glo "is_ratio") rfl)
  obtain ⟨d_5, F_5⟩ : ∃ fd, FnP K "_lowest" s_u_lowest [] (He.ga K "_lowest") fd := c.t.d.def_ 5 (d := dd "_lowest" s_u_lowest) rfl
  have m_5 : mg "_lowest" = some (.ref (He.ga K "_lowest")) := He.glo_ok X G (c.t.d.fact 5 (f := .glo "_lowest") rfl)
  obtain ⟨d_6, F_6⟩ : ∃ fd, FnP K "make_ratio" s_make_ratio [.int 1] (He.ga K "make_ratio") fd := c.t.d.def_ 6 (d := dd "make_ratio" s_make_ratio [.int 1]) rfl
  have m_6 : mg "make_ratio" = some (.ref (He.ga K "make_ratio")) := He.glo_ok X G (c.t.d.fact 6 (f := .glo "make_ratio") rfl)
  obtain ⟨d_7, F_7⟩ : ∃ fd, FnP K "plus" s_plus [] (He.ga K "plus") fd := c.t.d.def_ 7 (d := dd "plus" s_plus) rfl
  have m_7 : mg "plus" = some (.ref (He.ga K "plus")) := He.glo_ok X G (c.t.d.fact 7 (f := .glo "plus") rfl)
  obtain ⟨d_8, F_8⟩ : ∃ fd, FnP K "minus" s_minus [] (He.ga K "minus") fd := c.t.d.def_ 8 (d := dd "minus" s_minus) rfl
  have m_8 : mg "minus" = some (.ref (He.ga K "minus")) := He.glo_ok X G (c.t.d.fact 8 (f := .glo "minus") rfl)
  obtain ⟨d_9, F_9⟩ : ∃ fd, FnP K "times" s_times [] (He.ga K "times") fd := c.t.d.def_ 9 (d := dd "times" s_times) rfl
  have m_9 : mg "times" = some (.ref (He.ga K "times")) := He.glo_ok X G (c.t.d.fact 9 (f := .glo "times") rfl)
  obtain ⟨d_10, F_10⟩ : ∃ fd, FnP K "over" s_over [] (He.ga K "over") fd := c.t.d.def_ 10 (d := dd "over" s_over) rfl
  have m_10 : mg "over" = some (.ref (He.ga K "over")) := He.glo_ok X G (c.t.d.fact 10 (f := .glo "over") rfl)
  obtain ⟨d_11, F_11⟩ : ∃ fd, FnP K "compare" s_compare [] (He.ga K "compare") fd := c.t.d.def_ 11 (d := dd "compare" s_compare) rfl
  have m_11 : mg "compare" = some (.ref (He.ga K "compare")) := He.glo_ok X G (c.t.d.fact 11 (f := .glo "compare") rfl)
  obtain ⟨d_12, F_12⟩ : ∃ fd, FnP K "least_of" s_least_of [] (He.ga K "least_of") fd := c.t.d.def_ 12 (d := dd "least_of" s_least_of) rfl
  have m_12 : mg "least_of" = some (.ref (He.ga K "least_of")) := He.glo_ok X G (c.t.d.fact 12 (f := .glo "least_of") rfl)
  obtain ⟨d_13, F_13⟩ : ∃ fd, FnP K "greatest_of" s_greatest_of [] (He.ga K "greatest_of") fd := c.t.d.def_ 13 (d := dd "greatest_of" s_greatest_of) rfl
  have m_13 : mg "greatest_of" = some (.ref (He.ga K "greatest_of")) := He.glo_ok X G (c.t.d.fact 13 (f := .glo "greatest_of") rfl)
  obtain ⟨d_14, F_14⟩ : ∃ fd, FnP K "floor_of" s_floor_of [] (He.ga K "floor_of") fd := c.t.d.def_ 14 (d := dd "floor_of" s_floor_of) rfl
  have m_14 : mg "floor_of" = some (.ref (He.ga K "floor_of")) := He.glo_ok X G (c.t.d.fact 14 (f := .glo "floor_of") rfl)
  obtain ⟨d_15, F_15⟩ : ∃ fd, FnP K "broken_of" s_broken_of [] (He.ga K "broken_of") fd := c.t.d.def_ 15 (d := dd "broken_of" s_broken_of) rfl
  have m_15 : mg "broken_of" = some (.ref (He.ga K "broken_of")) := He.glo_ok X G (c.t.d.fact 15 (f := .glo "broken_of") rfl)
  obtain ⟨d_16, F_16⟩ : ∃ fd, FnP K "merged_ratios" s_merged_ratios [] (He.ga K "merged_ratios") fd := c.t.d.def_ 16 (d := dd "merged_ratios" s_merged_ratios) rfl
  have m_16 : mg "merged_ratios" = some (.ref (He.ga K "merged_ratios")) := He.glo_ok X G (c.t.d.fact 16 (f := .glo "merged_ratios") rfl)
  obtain ⟨d_17, F_17⟩ : ∃ fd, FnP K "ascending_ratios" s_ascending_ratios [] (He.ga K "ascending_ratios") fd := c.t.d.def_ 17 (d := dd "ascending_ratios" s_ascending_ratios) rfl
  have m_17 : mg "ascending_ratios" = some (.ref (He.ga K "ascending_ratios")) := He.glo_ok X G (c.t.d.fact 17 (f := .glo "ascending_ratios") rfl)
  obtain ⟨d_18, F_18⟩ : ∃ fd, FnP K "middle_of_two" s_middle_of_two [] (He.ga K "middle_of_two") fd := c.t.d.def_ 18 (d := dd "middle_of_two" s_middle_of_two) rfl
  have m_18 : mg "middle_of_two" = some (.ref (He.ga K "middle_of_two")) := He.glo_ok X G (c.t.d.fact 18 (f := .glo "middle_of_two") rfl)
  obtain ⟨d_19, F_19⟩ : ∃ fd, FnP K "check_slip_row" s_check_slip_row [] (He.ga K "check_slip_row") fd := c.t.d.def_ 19 (d := dd "check_slip_row" s_check_slip_row) rfl
  have m_19 : mg "check_slip_row" = some (.ref (He.ga K "check_slip_row")) := He.glo_ok X G (c.t.d.fact 19 (f := .glo "check_slip_row") rfl)
  obtain ⟨d_20, F_20⟩ : ∃ fd, FnP K "broken_parts" s_broken_parts [] (He.ga K "broken_parts") fd := c.t.d.def_ 20 (d := dd "broken_parts" s_broken_parts) rfl
  have m_20 : mg "broken_parts" = some (.ref (He.ga K "broken_parts")) := He.glo_ok X G (c.t.d.fact 20 (f := .glo "broken_parts") rfl)
  obtain ⟨d_21, F_21⟩ : ∃ fd, FnP K "stand_of" s_stand_of [] (He.ga K "stand_of") fd := c.t.d.def_ 21 (d := dd "stand_of" s_stand_of) rfl
  have m_21 : mg "stand_of" = some (.ref (He.ga K "stand_of")) := He.glo_ok X G (c.t.d.fact 21 (f := .glo "stand_of") rfl)
  obtain ⟨d_22, F_22⟩ : ∃ fd, FnP K "_distances" s_u_distances [] (He.ga K "_distances") fd := c.t.d.def_ 22 (d := dd "_distances" s_u_distances) rfl
  have m_22 : mg "_distances" = some (.ref (He.ga K "_distances")) := He.glo_ok X G (c.t.d.fact 22 (f := .glo "_distances") rfl)
  obtain ⟨d_23, F_23⟩ : ∃ fd, FnP K "_whole_times" s_u_whole_times [] (He.ga K "_whole_times") fd := c.t.d.def_ 23 (d := dd "_whole_times" s_u_whole_times) rfl
  have m_23 : mg "_whole_times" = some (.ref (He.ga K "_whole_times")) := He.glo_ok X G (c.t.d.fact 23 (f := .glo "_whole_times") rfl)
  obtain ⟨d_24, F_24⟩ : ∃ fd, FnP K "_row_at" s_u_row_at [] (He.ga K "_row_at") fd := c.t.d.def_ 24 (d := dd "_row_at" s_u_row_at) rfl
  have m_24 : mg "_row_at" = some (.ref (He.ga K "_row_at")) := He.glo_ok X G (c.t.d.fact 24 (f := .glo "_row_at") rfl)
  obtain ⟨d_25, F_25⟩ : ∃ fd, FnP K "_joined" s_u_joined [] (He.ga K "_joined") fd := c.t.d.def_ 25 (d := dd "_joined" s_u_joined) rfl
  have m_25 : mg "_joined" = some (.ref (He.ga K "_joined")) := He.glo_ok X G (c.t.d.fact 25 (f := .glo "_joined") rfl)
  obtain ⟨d_26, F_26⟩ : ∃ fd, FnP K "stands_between" s_stands_between [] (He.ga K "stands_between") fd := c.t.d.def_ 26 (d := dd "stands_between" s_stands_between) rfl
  have m_26 : mg "stands_between" = some (.ref (He.ga K "stands_between")) := He.glo_ok X G (c.t.d.fact 26 (f := .glo "stands_between") rfl)
  obtain ⟨d_27, F_27⟩ : ∃ fd, FnP K "_law_mix" s_u_law_mix [] (He.ga K "_law_mix") fd := c.t.d.def_ 27 (d := dd "_law_mix" s_u_law_mix) rfl
  have m_27 : mg "_law_mix" = some (.ref (He.ga K "_law_mix")) := He.glo_ok X G (c.t.d.fact 27 (f := .glo "_law_mix") rfl)
  obtain ⟨d_28, F_28⟩ : ∃ fd, FnP K "_law_hand" s_u_law_hand [] (He.ga K "_law_hand") fd := c.t.d.def_ 28 (d := dd "_law_hand" s_u_law_hand) rfl
  have m_28 : mg "_law_hand" = some (.ref (He.ga K "_law_hand")) := He.glo_ok X G (c.t.d.fact 28 (f := .glo "_law_hand") rfl)
  obtain ⟨d_29, F_29⟩ : ∃ fd, FnP K "_law_draw" s_u_law_draw [] (He.ga K "_law_draw") fd := c.t.d.def_ 29 (d := dd "_law_draw" s_u_law_draw) rfl
  have m_29 : mg "_law_draw" = some (.ref (He.ga K "_law_draw")) := He.glo_ok X G (c.t.d.fact 29 (f := .glo "_law_draw") rfl)
  obtain ⟨d_30, F_30⟩ : ∃ fd, FnP K "_law_pick" s_u_law_pick [] (He.ga K "_law_pick") fd := c.t.d.def_ 30 (d := dd "_law_pick" s_u_law_pick) rfl
  have m_30 : mg "_law_pick" = some (.ref (He.ga K "_law_pick")) := He.glo_ok X G (c.t.d.fact 30 (f := .glo "_law_pick") rfl)
  obtain ⟨d_31, F_31⟩ : ∃ fd, FnP K "_law_gcd" s_u_law_gcd [] (He.ga K "_law_gcd") fd := c.t.d.def_ 31 (d := dd "_law_gcd" s_u_law_gcd) rfl
  have m_31 : mg "_law_gcd" = some (.ref (He.ga K "_law_gcd")) := He.glo_ok X G (c.t.d.fact 31 (f := .glo "_law_gcd") rfl)
  obtain ⟨d_32, F_32⟩ : ∃ fd, FnP K "_law_ratio" s_u_law_ratio [] (He.ga K "_law_ratio") fd := c.t.d.def_ 32 (d := dd "_law_ratio" s_u_law_ratio) rfl
  have m_32 : mg "_law_ratio" = some (.ref (He.ga K "_law_ratio")) := He.glo_ok X G (c.t.d.fact 32 (f := .glo "_law_ratio") rfl)
  obtain ⟨d_33, F_33⟩ : ∃ fd, FnP K "_law_plus" s_u_law_plus [] (He.ga K "_law_plus") fd := c.t.d.def_ 33 (d := dd "_law_plus" s_u_law_plus) rfl
  have m_33 : mg "_law_plus" = some (.ref (He.ga K "_law_plus")) := He.glo_ok X G (c.t.d.fact 33 (f := .glo "_law_plus") rfl)
  obtain ⟨d_34, F_34⟩ : ∃ fd, FnP K "_law_minus" s_u_law_minus [] (He.ga K "_law_minus") fd := c.t.d.def_ 34 (d := dd "_law_minus" s_u_law_minus) rfl
  have m_34 : mg "_law_minus" = some (.ref (He.ga K "_law_minus")) := He.glo_ok X G (c.t.d.fact 34 (f := .glo "_law_minus") rfl)
  obtain ⟨d_35, F_35⟩ : ∃ fd, FnP K "_law_times" s_u_law_times [] (He.ga K "_law_times") fd := c.t.d.def_ 35 (d := dd "_law_times" s_u_law_times) rfl
  have m_35 : mg "_law_times" = some (.ref (He.ga K "_law_times")) := He.glo_ok X G (c.t.d.fact 35 (f := .glo "_law_times") rfl)
  obtain ⟨d_36, F_36⟩ : ∃ fd, FnP K "_law_is_less" s_u_law_is_less [] (He.ga K "_law_is_less") fd := c.t.d.def_ 36 (d := dd "_law_is_less" s_u_law_is_less) rfl
  have m_36 : mg "_law_is_less" = some (.ref (He.ga K "_law_is_less")) := He.glo_ok X G (c.t.d.fact 36 (f := .glo "_law_is_less") rfl)
  obtain ⟨d_37, F_37⟩ : ∃ fd, FnP K "_law_floor" s_u_law_floor [] (He.ga K "_law_floor") fd := c.t.d.def_ 37 (d := dd "_law_floor" s_u_law_floor) rfl
  have m_37 : mg "_law_floor" = some (.ref (He.ga K "_law_floor")) := He.glo_ok X G (c.t.d.fact 37 (f := .glo "_law_floor") rfl)
  obtain ⟨d_38, F_38⟩ : ∃ fd, FnP K "_law_broken" s_u_law_broken [] (He.ga K "_law_broken") fd := c.t.d.def_ 38 (d := dd "_law_broken" s_u_law_broken) rfl
  have m_38 : mg "_law_broken" = some (.ref (He.ga K "_law_broken")) := He.glo_ok X G (c.t.d.fact 38 (f := .glo "_law_broken") rfl)
  obtain ⟨d_39, F_39⟩ : ∃ fd, FnP K "_law_is_whole" s_u_law_is_whole [] (He.ga K "_law_is_whole") fd := c.t.d.def_ 39 (d := dd "_law_is_whole" s_u_law_is_whole) rfl
  have m_39 : mg "_law_is_whole" = some (.ref (He.ga K "_law_is_whole")) := He.glo_ok X G (c.t.d.fact 39 (f := .glo "_law_is_whole") rfl)
  obtain ⟨d_40, F_40⟩ : ∃ fd, FnP K "_law_is_ratio" s_u_law_is_ratio [] (He.ga K "_law_is_ratio") fd := c.t.d.def_ 40 (d := dd "_law_is_ratio" s_u_law_is_ratio) rfl
  have m_40 : mg "_law_is_ratio" = some (.ref (He.ga K "_law_is_ratio")) := He.glo_ok X G (c.t.d.fact 40 (f := .glo "_law_is_ratio") rfl)
  obtain ⟨d_41, F_41⟩ : ∃ fd, FnP K "_law_slip" s_u_law_slip [] (He.ga K "_law_slip") fd := c.t.d.def_ 41 (d := dd "_law_slip" s_u_law_slip) rfl
  have m_41 : mg "_law_slip" = some (.ref (He.ga K "_law_slip")) := He.glo_ok X G (c.t.d.fact 41 (f := .glo "_law_slip") rfl)
  obtain ⟨d_42, F_42⟩ : ∃ fd, FnP K "_law_row" s_u_law_row [] (He.ga K "_law_row") fd := c.t.d.def_ 42 (d := dd "_law_row" s_u_law_row) rfl
  have m_42 : mg "_law_row" = some (.ref (He.ga K "_law_row")) := He.glo_ok X G (c.t.d.fact 42 (f := .glo "_law_row") rfl)
  obtain ⟨d_43, F_43⟩ : ∃ fd, FnP K "_law_bounds" s_u_law_bounds [] (He.ga K "_law_bounds") fd := c.t.d.def_ 43 (d := dd "_law_bounds" s_u_law_bounds) rfl
  have m_43 : mg "_law_bounds" = some (.ref (He.ga K "_law_bounds")) := He.glo_ok X G (c.t.d.fact 43 (f := .glo "_law_bounds") rfl)
  obtain ⟨d_44, F_44⟩ : ∃ fd, FnP K "_law_parts" s_u_law_parts [] (He.ga K "_law_parts") fd := c.t.d.def_ 44 (d := dd "_law_parts" s_u_law_parts) rfl
  have m_44 : mg "_law_parts" = some (.ref (He.ga K "_law_parts")) := He.glo_ok X G (c.t.d.fact 44 (f := .glo "_law_parts") rfl)
  obtain ⟨d_45, F_45⟩ : ∃ fd, FnP K "_law_stand" s_u_law_stand [] (He.ga K "_law_stand") fd := c.t.d.def_ 45 (d := dd "_law_stand" s_u_law_stand) rfl
  have m_45 : mg "_law_stand" = some (.ref (He.ga K "_law_stand")) := He.glo_ok X G (c.t.d.fact 45 (f := .glo "_law_stand") rfl)
  obtain ⟨d_46, F_46⟩ : ∃ fd, FnP K "_law_between" s_u_law_between [] (He.ga K "_law_between") fd := c.t.d.def_ 46 (d := dd "_law_between" s_u_law_between) rfl
  have m_46 : mg "_law_between" = some (.ref (He.ga K "_law_between")) := He.glo_ok X G (c.t.d.fact 46 (f := .glo "_law_between") rfl)
  obtain ⟨d_47, F_47⟩ : ∃ fd, FnP K "_law_at" s_u_law_at [] (He.ga K "_law_at") fd := c.t.d.def_ 47 (d := dd "_law_at" s_u_law_at) rfl
  have m_47 : mg "_law_at" = some (.ref (He.ga K "_law_at")) := He.glo_ok X G (c.t.d.fact 47 (f := .glo "_law_at") rfl)
  obtain ⟨d_48, F_48⟩ : ∃ fd, FnP K "_law_is_quiet" s_u_law_is_quiet [] (He.ga K "_law_is_quiet") fd := c.t.d.def_ 48 (d := dd "_law_is_quiet" s_u_law_is_quiet) rfl
  have m_48 : mg "_law_is_quiet" = some (.ref (He.ga K "_law_is_quiet")) := He.glo_ok X G (c.t.d.fact 48 (f := .glo "_law_is_quiet") rfl)
  obtain ⟨d_49, F_49⟩ : ∃ fd, FnP K "_law_stretch_right" s_u_law_stretch_right [] (He.ga K "_law_stretch_right") fd := c.t.d.def_ 49 (d := dd "_law_stretch_right" s_u_law_stretch_right) rfl
  have m_49 : mg "_law_stretch_right" = some (.ref (He.ga K "_law_stretch_right")) := He.glo_ok X G (c.t.d.fact 49 (f := .glo "_law_stretch_right") rfl)
  obtain ⟨d_50, F_50⟩ : ∃ fd, FnP K "_law_shape_right" s_u_law_shape_right [] (He.ga K "_law_shape_right") fd := c.t.d.def_ 50 (d := dd "_law_shape_right" s_u_law_shape_right) rfl
  have m_50 : mg "_law_shape_right" = some (.ref (He.ga K "_law_shape_right")) := He.glo_ok X G (c.t.d.fact 50 (f := .glo "_law_shape_right") rfl)
  obtain ⟨d_51, F_51⟩ : ∃ fd, FnP K "_law_way_right" s_u_law_way_right [] (He.ga K "_law_way_right") fd := c.t.d.def_ 51 (d := dd "_law_way_right" s_u_law_way_right) rfl
  have m_51 : mg "_law_way_right" = some (.ref (He.ga K "_law_way_right")) := He.glo_ok X G (c.t.d.fact 51 (f := .glo "_law_way_right") rfl)
  obtain ⟨d_52, F_52⟩ : ∃ fd, FnP K "_law_refused" s_u_law_refused [] (He.ga K "_law_refused") fd := c.t.d.def_ 52 (d := dd "_law_refused" s_u_law_refused) rfl
  have m_52 : mg "_law_refused" = some (.ref (He.ga K "_law_refused")) := He.glo_ok X G (c.t.d.fact 52 (f := .glo "_law_refused") rfl)
  obtain ⟨d_53, F_53⟩ : ∃ fd, FnP K "_law_refusals" s_u_law_refusals [] (He.ga K "_law_refusals") fd := c.t.d.def_ 53 (d := dd "_law_refusals" s_u_law_refusals) rfl
  have m_53 : mg "_law_refusals" = some (.ref (He.ga K "_law_refusals")) := He.glo_ok X G (c.t.d.fact 53 (f := .glo "_law_refusals") rfl)
  obtain ⟨d_54, F_54⟩ : ∃ fd, FnP K "law" s_law [] (He.ga K "law") fd := c.t.d.def_ 54 (d := dd "law" s_law) rfl
  have m_54 : mg "law" = some (.ref (He.ga K "law")) := He.glo_ok X G (c.t.d.fact 54 (f := .glo "law") rfl)
  have e := hfa.symm.trans m_54
  cases e
  refine ⟨_, fun s v => F_54.bindsA (ps := ["_law_script"]) (fun _ _ _ _ _ _ us hl => match us, hl with | [_], _ => rfl) s [v] rfl, fun base => ?_⟩
  have T : Txt P w K mg base := txt X G c
  have O_0 : FnOk P w K mg base (L2.CX P w) l_is_whole (He.ga K "is_whole") d_0 ["thing", "low", "high"] (sp_is_whole K) := by apply ok_is_whole <;> assumption
  obtain ⟨b1, v1, B1⟩ := w_binds1 F_0
  obtain ⟨b2, v2, B2⟩ := w_binds2 F_0
  obtain ⟨b3, v3, B3⟩ := w_binds3 F_0
  have C_w1 : Fd P w K mg base l_is_whole "is_whole" ["thing", "low", "high"] [.non, .non] (sp_is_whole K) := ⟨_, _, b1, O_0, B1, v1, m_0, F_0.kp⟩
  have C_w2 : Fd P w K mg base l_is_whole "is_whole" ["thing", "low", "high"] [.non] (sp_is_whole K) := ⟨_, _, b2, O_0, B2, v2, m_0, F_0.kp⟩
  have C_w3 : Fd P w K mg base l_is_whole "is_whole" ["thing", "low", "high"] [] (sp_is_whole K) := ⟨_, _, b3, O_0, B3, v3, m_0, F_0.kp⟩
  have O_1 : FnOk P w K mg base (L2.CX P w) l_is_sequence (He.ga K "is_sequence") d_1 ["thing", "low", "high"] (sp_is_sequence K) := by apply ok_is_sequence <;> assumption
  obtain ⟨q3, y3, Y3⟩ := q_binds3 F_1
  have C_q3 : Fd P w K mg base l_is_sequence "is_sequence" ["thing", "low", "high"] [] (sp_is_sequence K) := ⟨_, _, q3, O_1, Y3, y3, m_1, F_1.kp⟩
  have C_2 : Fd P w K mg base l_number_choices "number_choices" ["many", "size"] [] (sp_number_choices K) := by apply f_number_choices <;> assumption
  have C_3 : Fd P w K mg base l_number_pairs "number_pairs" ["many"] [] (sp_number_pairs K) := by apply f_number_pairs <;> assumption
  have C_4 : Fd P w K mg base l_is_ratio "is_ratio" ["thing"] [] (sp_is_ratio K) := by apply f_is_ratio <;> assumption
  have C_5 : Fd P w K mg base l_u_lowest "_lowest" ["top", "bottom"] [] (sp_u_lowest K) := by apply f_u_lowest <;> assumption
  have O_6 : FnOk P w K mg base (L2.CX P w) l_make_ratio (He.ga K "make_ratio") d_6 ["top", "bottom"] (sp_make_ratio K) := by apply ok_make_ratio <;> assumption
  obtain ⟨c1, u1, A1⟩ := m_binds1 F_6
  have C_m1 : Fd P w K mg base l_make_ratio "make_ratio" ["top", "bottom"] [.int 1] (sp_make_ratio K) := ⟨_, _, c1, O_6, A1, u1, m_6, F_6.kp⟩
  have C_7 : Fd P w K mg base l_plus "plus" ["one", "other"] [] (sp_plus K) := by apply f_plus <;> assumption
  have C_8 : Fd P w K mg base l_minus "minus" ["one", "other"] [] (sp_minus K) := by apply f_minus <;> assumption
  have C_9 : Fd P w K mg base l_times "times" ["one", "other"] [] (sp_times K) := by apply f_times <;> assumption
  have C_10 : Fd P w K mg base l_over "over" ["one", "other"] [] (sp_over K) := by apply f_over <;> assumption
  have C_11 : Fd P w K mg base l_compare "compare" ["one", "other"] [] (sp_compare K) := by apply f_compare <;> assumption
  have C_12 : Fd P w K mg base l_least_of "least_of" ["ratios"] [] (sp_least_of K) := by apply f_least_of <;> assumption
  have C_13 : Fd P w K mg base l_greatest_of "greatest_of" ["ratios"] [] (sp_greatest_of K) := by apply f_greatest_of <;> assumption
  have C_14 : Fd P w K mg base l_floor_of "floor_of" ["one"] [] (sp_floor_of K) := by apply f_floor_of <;> assumption
  have C_15 : Fd P w K mg base l_broken_of "broken_of" ["one"] [] (sp_broken_of K) := by apply f_broken_of <;> assumption
  have C_16 : Fd P w K mg base l_merged_ratios "merged_ratios" ["one", "other"] [] (sp_merged_ratios K) := by apply f_merged_ratios <;> assumption
  have C_17 : Fd P w K mg base l_ascending_ratios "ascending_ratios" ["ratios"] [] (sp_ascending_ratios K) := by apply f_ascending_ratios <;> assumption
  have C_18 : Fd P w K mg base l_middle_of_two "middle_of_two" ["one", "other"] [] (sp_middle_of_two K) := by apply f_middle_of_two <;> assumption
  have C_19 : Fd P w K mg base l_check_slip_row "check_slip_row" ["row"] [] (sp_check_slip_row K) := by apply f_check_slip_row <;> assumption
  have C_20 : Fd P w K mg base l_broken_parts "broken_parts" ["row"] [] (sp_broken_parts K) := by apply f_broken_parts <;> assumption
  have C_21 : Fd P w K mg base l_stand_of "stand_of" ["row"] [] (sp_stand_of K) := by apply f_stand_of <;> assumption
  have C_22 : Fd P w K mg base l_u_distances "_distances" ["row"] [] (sp_u_distances K) := by apply f_u_distances <;> assumption
  have C_23 : Fd P w K mg base l_u_whole_times "_whole_times" ["start", "end"] [] (sp_u_whole_times K) := by apply f_u_whole_times <;> assumption
  have C_24 : Fd P w K mg base l_u_row_at "_row_at" ["row", "other", "when"] [] (sp_u_row_at K) := by apply f_u_row_at <;> assumption
  have C_25 : Fd P w K mg base l_u_joined "_joined" ["spans"] [] (sp_u_joined K) := by apply f_u_joined <;> assumption
  have C_26 : Fd P w K mg base l_stands_between "stands_between" ["row", "other"] [] (sp_stands_between K) := by apply f_stands_between <;> assumption
  have C_27 : Fd P w K mg base l_u_law_mix "_law_mix" ["_law_number", "_law_turn"] [] (sp_u_law_mix K) := by apply f_u_law_mix <;> assumption
  have C_28 : Fd P w K mg base l_u_law_hand "_law_hand" ["_law_script"] [] (sp_u_law_hand K) := by apply f_u_law_hand <;> assumption
  have C_29 : Fd P w K mg base l_u_law_draw "_law_draw" ["_law_hand_here", "_law_many"] [] (sp_u_law_draw K) := by apply f_u_law_draw <;> assumption
  have C_30 : Fd P w K mg base l_u_law_pick "_law_pick" ["_law_hand_here", "_law_things"] [] (sp_u_law_pick K) := by apply f_u_law_pick <;> assumption
  have C_31 : Fd P w K mg base l_u_law_gcd "_law_gcd" ["_law_one", "_law_other"] [] (sp_u_law_gcd K) := by apply f_u_law_gcd <;> assumption
  have C_32 : Fd P w K mg base l_u_law_ratio "_law_ratio" ["_law_top", "_law_bottom"] [] (sp_u_law_ratio K) := by apply f_u_law_ratio <;> assumption
  have C_33 : Fd P w K mg base l_u_law_plus "_law_plus" ["_law_one", "_law_other"] [] (sp_u_law_plus K) := by apply f_u_law_plus <;> assumption
  have C_34 : Fd P w K mg base l_u_law_minus "_law_minus" ["_law_one", "_law_other"] [] (sp_u_law_minus K) := by apply f_u_law_minus <;> assumption
  have C_35 : Fd P w K mg base l_u_law_times "_law_times" ["_law_one", "_law_other"] [] (sp_u_law_times K) := by apply f_u_law_times <;> assumption
  have C_36 : Fd P w K mg base l_u_law_is_less "_law_is_less" ["_law_one", "_law_other"] [] (sp_u_law_is_less K) := by apply f_u_law_is_less <;> assumption
  have C_37 : Fd P w K mg base l_u_law_floor "_law_floor" ["_law_one"] [] (sp_u_law_floor K) := by apply f_u_law_floor <;> assumption
  have C_38 : Fd P w K mg base l_u_law_broken "_law_broken" ["_law_one"] [] (sp_u_law_broken K) := by apply f_u_law_broken <;> assumption
  have C_39 : Fd P w K mg base l_u_law_is_whole "_law_is_whole" ["_law_thing"] [] (sp_u_law_is_whole K) := by apply f_u_law_is_whole <;> assumption
  have C_40 : Fd P w K mg base l_u_law_is_ratio "_law_is_ratio" ["_law_thing"] [] (sp_u_law_is_ratio K) := by apply f_u_law_is_ratio <;> assumption
  have C_41 : Fd P w K mg base l_u_law_slip "_law_slip" ["_law_hand_here", "_law_bound"] [] (sp_u_law_slip K) := by apply f_u_law_slip <;> assumption
  have C_42 : Fd P w K mg base l_u_law_row "_law_row" ["_law_hand_here", "_law_bounds_here"] [] (sp_u_law_row K) := by apply f_u_law_row <;> assumption
  have C_43 : Fd P w K mg base l_u_law_bounds "_law_bounds" ["_law_hand_here", "_law_most"] [] (sp_u_law_bounds K) := by apply f_u_law_bounds <;> assumption
  have C_44 : Fd P w K mg base l_u_law_parts "_law_parts" ["_law_row_here"] [] (sp_u_law_parts K) := by apply f_u_law_parts <;> assumption
  have C_45 : Fd P w K mg base l_u_law_stand "_law_stand" ["_law_row_here"] [] (sp_u_law_stand K) := by apply f_u_law_stand <;> assumption
  have C_46 : Fd P w K mg base l_u_law_between "_law_between" ["_law_low", "_law_high", "_law_part"] [] (sp_u_law_between K) := by apply f_u_law_between <;> assumption
  have C_47 : Fd P w K mg base l_u_law_at "_law_at" ["_law_row_here", "_law_other", "_law_time"] [] (sp_u_law_at K) := by apply f_u_law_at <;> assumption
  have C_48 : Fd P w K mg base l_u_law_is_quiet "_law_is_quiet" ["_law_start", "_law_end"] [] (sp_u_law_is_quiet K) := by apply f_u_law_is_quiet <;> assumption
  have C_49 : Fd P w K mg base l_u_law_stretch_right "_law_stretch_right" ["_law_row_here", "_law_other", "_law_start", "_law_end", "_law_stand_here"] [] (sp_u_law_stretch_right K) := by apply f_u_law_stretch_right <;> assumption
  have C_50 : Fd P w K mg base l_u_law_shape_right "_law_shape_right" ["_law_told"] [] (sp_u_law_shape_right K) := by apply f_u_law_shape_right <;> assumption
  have C_51 : Fd P w K mg base l_u_law_way_right "_law_way_right" ["_law_hand_here", "_law_row_here", "_law_other"] [] (sp_u_law_way_right K) := by apply f_u_law_way_right <;> assumption
  have C_52 : Fd P w K mg base l_u_law_refused "_law_refused" ["_law_row_here", "_law_other"] [] (sp_u_law_refused K) := by apply f_u_law_refused <;> assumption
  have C_53 : Fd P w K mg base l_u_law_refusals "_law_refusals" ["_law_hand_here", "_law_row_here"] [] (sp_u_law_refusals K) := by apply f_u_law_refusals <;> assumption
  apply ok_law <;> assumption
end
end K22
set_option Elab.async false
set_option linter.all false
set_option maxRecDepth 100000
set_option maxHeartbeats 0
open PySem PySem.W PySem.Calls PyProof.Rows
theorem PySem.Challenge.cw_neverbare_k22_whole_stands_passed_on_a_w_holds : PySem.Challenge.rw_neverbare_k22_whole_stands_passed_on_a_w.Holds := by
  w_on; o_law
  refine My.head_imp (r := OpenLaw.row PySem.Challenge.rw_neverbare_k22_whole_stands_passed_on_a_w) (q := view (OpenLaw.row PySem.Challenge.rw_neverbare_k22_whole_stands_passed_on_a_w).prog [66]) (H := K22.hk) (ob := K22.ob) (M := 6000) (loose := K22.loose) (d := HandSHeadRun.topDef (OpenLaw.row PySem.Challenge.rw_neverbare_k22_whole_stands_passed_on_a_w).prog 66) (kwd := []) K22.ob_eq
    K22.run (by kernel_rfl) (by kernel_rfl) (by kernel_rfl) (by rfl) (by first | assumption | decide +kernel) (by decide +kernel) ⟨rfl, rfl, rfl, rfl, rfl, by decide +kernel⟩ ?hw ?hc
  case hw => w_witness2
  case hc =>
    refine L2.walk_ofE (l := PySem.Challenge.rw_neverbare_k22_whole_stands_passed_on_a_w) (n := 63) (k := 17) (x := "_law_script") (CX := L2.CX0) rfl (by decide) (by kernel_rfl) ⟨rfl, by decide, by decide⟩ ?F (fun _ _ _ _ z => z)
    intro w mg fa h Y G hmg0
    obtain ⟨K, KX, c⟩ := Y
    have hmg : mg ("law" : PySem.Str) = some (.ref fa) := by
      have e : (HandSHeadRun.topDef (OpenLaw.row PySem.Challenge.rw_neverbare_k22_whole_stands_passed_on_a_w).prog 66).name = ("law" : PySem.Str) := by kernel_rfl
      rw [← e]
      exact hmg0
    obtain ⟨fd, hb, hF⟩ := K22.facts (P := (PySem.Challenge.rw_neverbare_k22_whole_stands_passed_on_a_w).prog) (w := w) KX G hmg c
    refine ⟨K, fd, K22.sp_law K, KX, hb, fun H a ns hl _ hS => ?_, fun base _ _ => hF base⟩
    refine ⟨H, [.lst (ns.map My.Dt.int)], .refl H, .cons (.lst hS (My.HasAll.ints ns)) .nil, ⟨_, ns, rfl, hl, rfl⟩, fun v P' H' d ⟨_, _, _, ed⟩ g hv => ?_⟩
    subst ed
    cases hv
    rfl
