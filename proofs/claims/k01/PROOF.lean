import PyProof.Rows.All
import Wide.All
import OpenK.AllK
import Wide.FinOn
import KE.KStateDown
import HandS.Head0
import HandS.Head1
import HandS.Head2
import HandS.ForMost
import HandS.ForExc
import HandS.ExcInit
import HandS.Defaults
import HandS.Evl
import HandS.IsInst
import HandS.Style
import HandS.Wide
import HandS.Gcd
import HandS.FStr
import HandS.Walk
import HandS.HeadHook1
import HandS.ExcField
import HandS.HeadHook4
import PySem.Challenge.RW_neverbare_k01_whole_ratios_reckoned
import HandS.HeadEnd
import HandS.HeadHook2
import HandS.HeadHook3
set_option Elab.async false
set_option linter.all false
set_option maxRecDepth 100000
/-! A head for programs that bring modules in: first their run, then the rest over a tree. -/
noncomputable section
namespace My
open PySem PySem.W PySem.Calls PyProof.Rows HandSHeadRun
/-- the rest of the top, from the state behind the imports -/
def fromTree (st : SharedT → Thread → Option (SharedT × Thread)) (M : Nat) (p : Program) (z : Shared) : Option SharedT :=
  match putAll z.heap.objs.toList .nil 0 with
  | none => none
  | some (t, n) => frNat n fun n₁ => goF st n₁ (z.heap.nsMap mainGlobals "__annotations__") M ⟨t, n, z.heap.life, z.gens, z.drawn, z.toks, z.os⟩ (topStub p)
theorem fromTree_ok {M : Nat} {p : Program} {w : World} {z : Shared} {r : SharedT} (h : fromTree (stepT (denote treeTable) p w) M p z = some r) :
    topRun treeTable p w z.heap.objs.size (z.heap.nsMap mainGlobals "__annotations__") M z (topStub p) = some r.abs := by
  unfold fromTree at h
  cases hq : putAll z.heap.objs.toList .nil 0 with
  | none =>
    rw [hq] at h
    cases h
  | some tn =>
    obtain ⟨t, n⟩ := tn
    rw [hq] at h
    have hg : (frNat n fun n₁ => goF (stepT (denote treeTable) p w) n₁ (z.heap.nsMap mainGlobals "__annotations__") M ⟨t, n, z.heap.life, z.gens, z.drawn, z.toks, z.os⟩ (topStub p)) = some r := h
    rw [frNat_eq] at hg
    have hrun := goF_ok hg
    have hheap := putAll_heap hq
    have hn : z.heap.objs.size = n := by
      rw [← hheap]
      exact absHeap_size t n _
    have habs : (⟨t, n, z.heap.life, z.gens, z.drawn, z.toks, z.os⟩ : SharedT).abs = z := by
      show (⟨absHeap t n z.heap.life, z.gens, z.drawn, z.toks, z.os⟩ : Shared) = z
      rw [hheap]
    rw [habs] at hrun
    rw [hn]
    exact hrun
/-- the whole top: the modules, the fence, the rest; what is looked at behind it -/
def allEnd {α : Type} (st : SharedT → Thread → Option (SharedT × Thread)) (M : Nat) (p : Program) (w : World) (look : Heap → SharedT → α) : Option α :=
  match importEnds treeTable (opening p) w M (start (opening p)).1 (start (opening p)).2 with
  | none => none
  | some y => match fenceModules? p y with
    | none => none
    | some z => match z.heap.isNs mainGlobals && z.gens.size == 0 with
      | false => none
      | true => (fromTree st M p z).map fun r => look z.heap r
theorem left_imp {p q : Program} {loose : List PySem.Str} {Xt : Shared → Bool} {α : Type} {Yf : Shared → α} {Ya : World → α} {N M : Nat} (le : Nat.ble M N = true)
    (run : ∀ w : World, allEnd (stepT (denote treeTable) p w) M p w (fun h r => (looksF p h r.abs, openSeen q loose (importedModules p.main.body) Xt true r.abs, Yf r.abs)) = some (true, openGood q loose, Ya w)) :
    LeftO p q loose Xt Yf Ya N true := fun w => by
  have hr := run w
  unfold allEnd at hr
  cases hy : importEnds treeTable (opening p) w M (start (opening p)).1 (start (opening p)).2 with
  | none =>
    rw [hy] at hr
    cases hr
  | some y =>
    rw [hy] at hr
    dsimp only at hr
    cases hz : fenceModules? p y with
    | none =>
      rw [hz] at hr
      cases hr
    | some z =>
      rw [hz] at hr
      dsimp only at hr
      cases hb : (z.heap.isNs mainGlobals && z.gens.size == 0) with
      | false =>
        rw [hb] at hr
        cases hr
      | true =>
        rw [hb] at hr
        dsimp only at hr
        obtain ⟨r, hf, hv⟩ := Option.map_eq_some_iff.mp hr
        obtain ⟨v1, v2, v3⟩ : _ ∧ _ ∧ _ := by simpa only [Prod.mk.injEq] using hv
        have hle : M + (N - M) = N := by
          have := Nat.le_of_ble_eq_true le
          omega
        have himp := importEnds_mono (N - M) _ _ _ _ hy
        rw [hle] at himp
        have htop := topRun_mono (N - M) _ _ _ _ (fromTree_ok hf)
        rw [hle] at htop
        have hlook : (staticsOk (importedModules p.main.body) z.heap r.abs.heap && namesBound p r.abs.heap && gensDone r.abs && laidKept z.heap r.abs.heap) = true := v1
        have hft : topFrom treeTable p w N z = some r.abs := by
          unfold topFrom
          rw [hb]
          dsimp only
          rw [htop]
          show (match staticsOk (importedModules p.main.body) z.heap r.abs.heap && namesBound p r.abs.heap && gensDone r.abs && laidKept z.heap r.abs.heap with
            | true => some r.abs
            | false => none) = _
          rw [hlook]
        unfold openEnds fencedOpening
        rw [himp]
        show ((fenceModules? p y).bind (topFrom treeTable p w N)).map _ = _
        rw [hz]
        show (topFrom treeTable p w N z).map _ = _
        rw [hft]
        exact congrArg some (Prod.ext v2 v3)
/-- what is to be computed of a row -/
def RunAll (r : OpenRow) (q : Program) (H : Hook) (ob : SharedT → H.α) (M : Nat) (loose : List PySem.Str) (w : World) : Prop :=
  allEnd (stepQ (denQ tabQ) r.prog w) M r.prog w (fun h s => (looksF r.prog h s.abs, seenQ q loose (importedModules r.prog.main.body) (fun s => xlAt q [] s && recOk r.toRowW.records s) s.abs, ob s)) = some (true, openGood q loose, H.val w)
theorem head_imp {r : OpenRow} {q : Program} {H : Hook} {ob : SharedT → H.α} {M : Nat} {loose : List PySem.Str} {d : DefRec} {kwd : List (PySem.Str × PySem.Expr)} (ho : ∀ s : SharedT, ob s = H.obs s.abs)
    (run : ∀ w, RunAll r q H ob M loose w) (hdef : defOf q r.name = some (d, kwd)) (hp : r.prog.theDef r.name = some (d.params, d.body, d.scope))
    (hk : kwWritten? d.params.kwonlyargs d.params.kw_defaults = some kwd) (hwr : (!r.writes || r.records.isEmpty) = true) (k1 : r.wellSaid = true)
    (ok : (chainsOk q && opensWell r.prog && (frees r.toRowW && r.within.isEmpty)) = true) (hb : r.prog.bare) (hw : r.toRowW.promised)
    (call : WalkO q loose (XL q []) H.says r.toRowW d kwd fun f vs => PySem.call f vs) : r.Holds := by
  have left : LeftO r.prog q loose (fun s => xlAt q [] s && recOk r.toRowW.records s) H.obs H.val M true :=
    left_imp (M := M) (Nat.ble_eq_true_of_le (Nat.le_refl _)) fun w => by
      have z := run w
      unfold RunAll at z
      have eo : ob = fun s => H.obs s.abs := funext ho
      rw [eo] at z
      simp only [stepQ_eq, denQ_eq, tabQ_eq, seenQ_eq]
      exact z
  exact holds_open (r := r) (q := q) (loose := loose) (XP := XL q []) (YP := H.says) (d := d) (kwd := kwd) left H.of H.keeps (fun s z => xl_of s (Bool.and_eq_true_iff.mp z).1) XL.keeps hdef hp hk
    (fun s z => recFacts_of (Bool.and_eq_true_iff.mp z).2) hwr k1 ok hb hw call
end My
end
set_option Elab.async false
set_option linter.all false
set_option maxRecDepth 100000
set_option maxHeartbeats 2000000
/-! Data told without the heap: what a value reads as, states of slots, what expressions and statements do to them. -/
namespace My
open PySem L2
open Evl (Ex)

/-! ### data -/
inductive Dt where
  | non | bl (b : Bool) | int (i : Int) | str (s : Str) | lst (ds : List Dt) | tup (ds : List Dt)
  | obj (C : Addr) (ns : List Str) (ds : List Dt)
mutual
inductive Has (K : PySem.W.Frag) (H : Hp) : V → Dt → Prop
  | non : Has K H .non .non
  | bl (b : Bool) : Has K H (.bl b) (.bl b)
  | int (i : Int) : Has K H (.int i) (.int i)
  | str (s : Str) : Has K H (.str s) (.str s)
  | lst {a : Addr} {xs : List V} {ds : List Dt} : SqL K H a xs → HasAll K H xs ds → Has K H (.ref a) (.lst ds)
  | tup {a : Addr} {xs : List V} {ds : List Dt} : SqT K H a xs → HasAll K H xs ds → Has K H (.ref a) (.tup ds)
  | obj {a C dx : Addr} {fs : List (Str × V)} {ds : List Dt} : H a = some (.ins C dx fs) → HasAll K H (fs.map (·.2)) ds → Has K H (.ref a) (.obj C (fs.map (·.1)) ds)
inductive HasAll (K : PySem.W.Frag) (H : Hp) : List V → List Dt → Prop
  | nil : HasAll K H [] []
  | cons {v : V} {vs : List V} {d : Dt} {ds : List Dt} : Has K H v d → HasAll K H vs ds → HasAll K H (v :: vs) (d :: ds)
end
section
variable {K : PySem.W.Frag} {H H' : Hp}
mutual
theorem Has.mono (e : Ex H H') : ∀ (d : Dt) {v : V}, Has K H v d → Has K H' v d
  | .non, _, h => by cases h; exact .non
  | .bl _, _, h => by cases h; exact .bl _
  | .int _, _, h => by cases h; exact .int _
  | .str _, _, h => by cases h; exact .str _
  | .lst ds, _, h => by
    cases h with
    | lst s r => exact .lst (Evl.ex_l e s) (HasAll.mono e ds r)
  | .tup ds, _, h => by
    cases h with
    | tup s r => exact .tup (Evl.ex_t e s) (HasAll.mono e ds r)
  | .obj C ns ds, _, h => by
    cases h with
    | obj s r => exact .obj (e _ _ s) (HasAll.mono e ds r)
theorem HasAll.mono (e : Ex H H') : ∀ (ds : List Dt) {vs : List V}, HasAll K H vs ds → HasAll K H' vs ds
  | [], _, h => by cases h; exact .nil
  | d :: ds, _, h => by
    cases h with
    | cons a b => exact .cons (Has.mono e d a) (HasAll.mono e ds b)
end
theorem HasAll.len : ∀ {ds : List Dt} {vs : List V}, HasAll K H vs ds → vs.length = ds.length
  | [], _, h => by cases h; rfl
  | _ :: _, _, h => by
    cases h with
    | cons a b => rw [List.length_cons, List.length_cons, b.len]
theorem HasAll.get : ∀ {ds : List Dt} {vs : List V} {i : Nat} {d : Dt}, HasAll K H vs ds → ds[i]? = some d → ∃ v, vs[i]? = some v ∧ Has K H v d
  | [], _, _, _, _, e => by simp at e
  | _ :: _, _, 0, _, h, e => by
    cases h with
    | cons a b =>
      cases Option.some.inj e
      exact ⟨_, rfl, a⟩
  | _ :: ds, _, i + 1, d, h, e => by
    cases h with
    | cons a b =>
      obtain ⟨v, e1, h1⟩ := b.get (i := i) (d := d) (by simpa using e)
      exact ⟨v, by simpa using e1, h1⟩
theorem HasAll.get' : ∀ {ds : List Dt} {vs : List V} {i : Nat} {v : V}, HasAll K H vs ds → vs[i]? = some v → ∃ d, ds[i]? = some d ∧ Has K H v d
  | [], _, _, _, h, e => by cases h; simp at e
  | _ :: _, _, 0, _, h, e => by
    cases h with
    | cons a b =>
      cases Option.some.inj e
      exact ⟨_, rfl, a⟩
  | _ :: ds, _, i + 1, v, h, e => by
    cases h with
    | cons a b =>
      obtain ⟨d, e1, h1⟩ := b.get' (i := i) (v := v) (by simpa using e)
      exact ⟨d, by simpa using e1, h1⟩
theorem HasAll.append : ∀ {ds es : List Dt} {vs us : List V}, HasAll K H vs ds → HasAll K H us es → HasAll K H (vs ++ us) (ds ++ es)
  | [], _, _, _, h, g => by cases h; exact g
  | _ :: _, _, _, _, h, g => by
    cases h with
    | cons a b => exact .cons a (b.append g)
theorem HasAll.set : ∀ {ds : List Dt} {vs : List V} {v : V} {d : Dt} (i : Nat), HasAll K H vs ds → Has K H v d → HasAll K H (vs.set i v) (ds.set i d)
  | [], _, _, _, _, h, _ => by cases h; exact .nil
  | _ :: _, _, _, _, 0, h, g => by
    cases h with
    | cons a b => exact .cons g b
  | _ :: _, _, _, _, i + 1, h, g => by
    cases h with
    | cons a b => exact .cons a (b.set i g)
theorem HasAll.ints (ns : List Int) : HasAll K H (ns.map V.int) (ns.map Dt.int) := by
  induction ns with
  | nil => exact .nil
  | cons n ns ih => exact .cons (.int n) ih
end
/-! ### the library's own data -/
mutual
def py : Dt → PyData
  | .non => .none
  | .bl b => .bool b
  | .int i => .int i
  | .str s => .str s
  | .lst ds => .list (pyAll ds)
  | .tup ds => .tuple (pyAll ds)
  | .obj _ _ _ => .none
def pyAll : List Dt → List PyData
  | [] => []
  | d :: ds => py d :: pyAll ds
end
mutual
/-- no objects within -/
def bare : Dt → Bool
  | .obj _ _ _ => false
  | .lst ds => bareAll ds
  | .tup ds => bareAll ds
  | _ => true
def bareAll : List Dt → Bool
  | [] => true
  | d :: ds => bare d && bareAll ds
end
section
variable {K : PySem.W.Frag} {H H' : Hp}
mutual
theorem Has.dp : ∀ (d : Dt) {v : V}, Has K H v d → bare d = true → Dp K H v (py d)
  | .non, _, h, _ => by cases h; exact .non
  | .bl _, _, h, _ => by cases h; exact .bl _
  | .int _, _, h, _ => by cases h; exact .int _
  | .str _, _, h, _ => by cases h; exact .str _
  | .lst ds, _, h, z => by
    cases h with
    | lst s r => exact .lst s (HasAll.dp ds r z)
  | .tup ds, _, h, z => by
    cases h with
    | tup s r => exact .tup s (HasAll.dp ds r z)
  | .obj _ _ _, _, _, z => by cases z
theorem HasAll.dp : ∀ (ds : List Dt) {vs : List V}, HasAll K H vs ds → bareAll ds = true → DpAll K H vs (pyAll ds)
  | [], _, h, _ => by cases h; exact .nil
  | d :: ds, _, h, z => by
    cases h with
    | cons a b =>
      obtain ⟨z1, z2⟩ := Bool.and_eq_true_iff.mp (show (bare d && bareAll ds) = true from z)
      exact .cons (Has.dp d a z1) (HasAll.dp ds b z2)
end
end
def eqv (d e : Dt) : Bool := PyData.eqv (py d) (py e)
def fine (d : Dt) : Bool := bare d && SeqAt.shaped (py d)
theorem fine_bare {d : Dt} (h : fine d = true) : bare d = true := (Bool.and_eq_true_iff.mp h).1
theorem fine_shaped {d : Dt} (h : fine d = true) : SeqAt.shaped (py d) = true := (Bool.and_eq_true_iff.mp h).2

/-! ### growth of heaps -/
/-- P a part of H; behind some step P' of H': both have grown, what is new in P' was free in H -/
structure Grow (P H P' H' : Hp) : Prop where
  p : Ex P P'
  h : Ex H H'
  s : Ex P' H'
  f : ∀ a o, P' a = some o → P a = some o ∨ H a = none
theorem Grow.refl {P H : Hp} (e : Ex P H) : Grow P H P H := ⟨.refl P, .refl H, e, fun _ _ h => .inl h⟩
theorem none_back {H H' : Hp} {a : Addr} (e : Ex H H') (h : H' a = none) : H a = none := Evl.fresh_back e h
theorem Grow.trans {P H P1 H1 P2 H2 : Hp} (a : Grow P H P1 H1) (b : Grow P1 H1 P2 H2) : Grow P H P2 H2 :=
  ⟨a.p.trans b.p, a.h.trans b.h, b.s, fun x o h => (b.f x o h).elim (a.f x o) fun z => .inr (none_back a.h z)⟩

/-! ### the slots -/
inductive Sv where
  | no
  /-- a value that reads as d -/
  | dat (d : Dt)
  /-- a list of one's own at l -/
  | own (l : Addr) (ds : List Dt)
  /-- a hand of drawn numbers at l -/
  | hand (l : Addr)
/-- the four things of a hand -/
def HandOk (ds : List Dt) : Prop := ∃ (ns : List Int) (p r t : Int), ds = [.lst (ns.map Dt.int), .int p, .int r, .int t] ∧ (∀ n ∈ ns, 0 ≤ n) ∧ ns.length ≤ 63 ∧ 0 ≤ p ∧ p ≤ ns.length ∧ 0 ≤ r ∧ 0 ≤ t ∧ t < 2147483648
def owns : List Sv → List Addr
  | [] => []
  | .own l _ :: es => l :: owns es
  | .hand l :: es => l :: owns es
  | _ :: es => owns es
/-- where one stands: the written part, the lists of the caller's that may change, the heaps at the entry -/
structure Fr where
  K : PySem.W.Frag
  mu : List Addr
  P0 : Hp
  H0 : Hp
def Mine (c : Fr) (P H : Hp) (l : Addr) (ds : List Dt) : Prop := (c.H0 l = none ∨ l ∈ c.mu) ∧ P l = none ∧ ∃ xs, H l = some (.lst xs) ∧ HasAll c.K P xs ds
inductive Sl (c : Fr) (P H : Hp) : L2.St → List Sv → Prop
  | nil : Sl c P H [] []
  | no {o : Option V} {σ : L2.St} {es : List Sv} : Sl c P H σ es → Sl c P H (o :: σ) (.no :: es)
  | dat {v : V} {d : Dt} {σ : L2.St} {es : List Sv} : Has c.K P v d → Sl c P H σ es → Sl c P H (some v :: σ) (.dat d :: es)
  | own {l : Addr} {ds : List Dt} {σ : L2.St} {es : List Sv} : Mine c P H l ds → Sl c P H σ es → Sl c P H (some (.ref l) :: σ) (.own l ds :: es)
  | hand {l : Addr} {σ : L2.St} {es : List Sv} : (∃ ds, HandOk ds ∧ Mine c P H l ds) → Sl c P H σ es → Sl c P H (some (.ref l) :: σ) (.hand l :: es)
structure Rep (c : Fr) (P H : Hp) (σ : L2.St) (es : List Sv) : Prop where
  b : Ex c.P0 P
  old : ∀ a o, a ∉ c.mu → c.H0 a = some o → H a = some o
  dom : ∀ a, H a = none → c.H0 a = none
  ex : Ex P H
  fr : ∀ a o, P a = some o → c.P0 a = some o ∨ c.H0 a = none
  sl : Sl c P H σ es
  nd : (owns es).Nodup
section
variable {c : Fr} {P H P' H' : Hp} {σ : L2.St} {es : List Sv} {i : Nat} {d : Dt} {l : Addr} {ds : List Dt}
theorem Mine.step (g : Grow P H P' H') (h : Mine c P H l ds) : Mine c P' H' l ds := by
  obtain ⟨h1, h2, xs, h3, h4⟩ := h
  refine ⟨h1, ?_, xs, g.h _ _ h3, HasAll.mono g.p _ h4⟩
  cases e : P' l with
  | none => rfl
  | some o =>
    rcases g.f _ _ e with z | z
    · rw [h2] at z; cases z
    · rw [h3] at z; cases z
theorem Sl.step (g : Grow P H P' H') : ∀ {σ : L2.St} {es : List Sv}, Sl c P H σ es → Sl c P' H' σ es
  | _, _, .nil => .nil
  | _, _, .no h => .no (h.step g)
  | _, _, .dat a h => .dat (Has.mono g.p _ a) (h.step g)
  | _, _, .own a h => .own (a.step g) (h.step g)
  | _, _, .hand ⟨ds, z, a⟩ h => .hand ⟨ds, z, a.step g⟩ (h.step g)
theorem Rep.step (g : Grow P H P' H') (r : Rep c P H σ es) : Rep c P' H' σ es :=
  ⟨r.b.trans g.p, fun a o m h => g.h _ _ (r.old a o m h), fun a h => r.dom a (none_back g.h h), g.s, fun a o h => (g.f a o h).elim (r.fr a o) fun z => .inr (r.dom a z), r.sl.step g, r.nd⟩
theorem Rep.self (r : Rep c P H σ es) : Grow P H P H := .refl r.ex
/-- what the caller of a def without lists to change learns -/
theorem Rep.grow (r : Rep c P H σ es) (hm : c.mu = []) : Grow c.P0 c.H0 P H := ⟨r.b, fun a o h => r.old a o (by rw [hm]; exact List.not_mem_nil) h, r.ex, r.fr⟩
theorem Sl.get : ∀ {σ : L2.St} {es : List Sv} {i : Nat}, Sl c P H σ es → es[i]? = some (.dat d) → ∃ v, σ[i]? = some (some v) ∧ Has c.K P v d
  | _, _, _, .nil, e => by simp at e
  | _, _, 0, .no _, e => by simp at e
  | _, _, 0, .dat a _, e => by
    have e1 := Sv.dat.inj (Option.some.inj e)
    subst e1
    exact ⟨_, rfl, a⟩
  | _, _, 0, .own _ _, e => by simp at e
  | _, _, 0, .hand _ _, e => by simp at e
  | _, _, i + 1, .no h, e => by simpa using h.get (i := i) (by simpa using e)
  | _, _, i + 1, .dat _ h, e => by simpa using h.get (i := i) (by simpa using e)
  | _, _, i + 1, .own _ h, e => by simpa using h.get (i := i) (by simpa using e)
  | _, _, i + 1, .hand _ h, e => by simpa using h.get (i := i) (by simpa using e)
theorem Sl.getO : ∀ {σ : L2.St} {es : List Sv} {i : Nat}, Sl c P H σ es → es[i]? = some (.own l ds) → σ[i]? = some (some (.ref l)) ∧ Mine c P H l ds
  | _, _, _, .nil, e => by simp at e
  | _, _, 0, .no _, e => by simp at e
  | _, _, 0, .dat _ _, e => by simp at e
  | _, _, 0, .own a _, e => by
    obtain ⟨e1, e2⟩ := Sv.own.inj (Option.some.inj e)
    subst e1 e2
    exact ⟨rfl, a⟩
  | _, _, 0, .hand _ _, e => by simp at e
  | _, _, i + 1, .no h, e => by simpa using h.getO (i := i) (by simpa using e)
  | _, _, i + 1, .dat _ h, e => by simpa using h.getO (i := i) (by simpa using e)
  | _, _, i + 1, .own _ h, e => by simpa using h.getO (i := i) (by simpa using e)
  | _, _, i + 1, .hand _ h, e => by simpa using h.getO (i := i) (by simpa using e)
theorem Sl.getH : ∀ {σ : L2.St} {es : List Sv} {i : Nat}, Sl c P H σ es → es[i]? = some (.hand l) → σ[i]? = some (some (.ref l)) ∧ ∃ ds, HandOk ds ∧ Mine c P H l ds
  | _, _, _, .nil, e => by simp at e
  | _, _, 0, .no _, e => by simp at e
  | _, _, 0, .dat _ _, e => by simp at e
  | _, _, 0, .own _ _, e => by simp at e
  | _, _, 0, .hand a _, e => by
    have e1 := Sv.hand.inj (Option.some.inj e)
    subst e1
    exact ⟨rfl, a⟩
  | _, _, i + 1, .no h, e => by simpa using h.getH (i := i) (by simpa using e)
  | _, _, i + 1, .dat _ h, e => by simpa using h.getH (i := i) (by simpa using e)
  | _, _, i + 1, .own _ h, e => by simpa using h.getH (i := i) (by simpa using e)
  | _, _, i + 1, .hand _ h, e => by simpa using h.getH (i := i) (by simpa using e)
theorem owns_mem : ∀ {es : List Sv} {i : Nat}, (es[i]? = some (.own l ds) ∨ es[i]? = some (.hand l)) → l ∈ owns es
  | [], _, e => by simp at e
  | s :: es, 0, e => by
    rcases e with e | e
    · cases Option.some.inj e
      exact List.mem_cons_self
    · cases Option.some.inj e
      exact List.mem_cons_self
  | s :: es, i + 1, e => by
    have q := owns_mem (es := es) (i := i) (by simpa using e)
    cases s with
    | no => exact q
    | dat _ => exact q
    | own _ _ => exact List.mem_cons_of_mem _ q
    | hand _ => exact List.mem_cons_of_mem _ q
theorem owns_set : ∀ (es : List Sv) (i : Nat) (s : Sv), owns [s] = [] → List.Sublist (owns (es.set i s)) (owns es)
  | [], _, _, _ => .slnil
  | e :: es, 0, s, h => by
    cases s with
    | no => cases e <;> first | exact List.Sublist.refl _ | exact List.sublist_cons_self _ _
    | dat _ => cases e <;> first | exact List.Sublist.refl _ | exact List.sublist_cons_self _ _
    | own _ _ => cases h
    | hand _ => cases h
  | e :: es, i + 1, s, h => by
    have q := owns_set es i s h
    cases e with
    | no => exact q
    | dat _ => exact q
    | own _ _ => exact q.cons₂ _
    | hand _ => exact q.cons₂ _
theorem owns_put : ∀ (es : List Sv) (i : Nat) (s : Sv) (l : Addr), owns [s] = [l] → l ∉ owns es → (owns es).Nodup → (owns (es.set i s)).Nodup ∧ ∀ x ∈ owns (es.set i s), x = l ∨ x ∈ owns es
  | [], _, _, _, _, _, n => ⟨n, fun _ h => .inr h⟩
  | e :: es, 0, s, l, h, hn, n => by
    have q : owns (s :: es) = l :: owns es := by
      cases s with
      | no => cases h
      | dat _ => cases h
      | own a _ => cases (List.cons.inj h).1; rfl
      | hand a => cases (List.cons.inj h).1; rfl
    have sub : List.Sublist (owns es) (owns (e :: es)) := by
      cases e <;> first | exact List.Sublist.refl _ | exact List.sublist_cons_self _ _
    show (owns (s :: es)).Nodup ∧ ∀ x ∈ owns (s :: es), x = l ∨ x ∈ owns (e :: es)
    rw [q]
    exact ⟨List.nodup_cons.mpr ⟨fun z => hn (sub.subset z), n.sublist sub⟩, fun x hx => (List.mem_cons.mp hx).elim .inl fun z => .inr (sub.subset z)⟩
  | e :: es, i + 1, s, l, h, hn, n => by
    cases e with
    | no => exact owns_put es i s l h hn n
    | dat _ => exact owns_put es i s l h hn n
    | own a _ =>
      have n' := List.nodup_cons.mp (show (a :: owns es).Nodup from n)
      obtain ⟨q1, q2⟩ := owns_put es i s l h (fun z => hn (List.mem_cons_of_mem _ z)) n'.2
      refine ⟨List.nodup_cons.mpr ⟨fun z => ?_, q1⟩, fun x hx => ?_⟩
      · rcases q2 a z with e | z
        · exact hn (by rw [← e]; exact List.mem_cons_self)
        · exact n'.1 z
      · rcases List.mem_cons.mp (show x ∈ a :: owns (es.set i s) from hx) with e | z
        · exact .inr (by rw [e]; exact List.mem_cons_self)
        · exact (q2 x z).imp id fun z => List.mem_cons_of_mem _ z
    | hand a =>
      have n' := List.nodup_cons.mp (show (a :: owns es).Nodup from n)
      obtain ⟨q1, q2⟩ := owns_put es i s l h (fun z => hn (List.mem_cons_of_mem _ z)) n'.2
      refine ⟨List.nodup_cons.mpr ⟨fun z => ?_, q1⟩, fun x hx => ?_⟩
      · rcases q2 a z with e | z
        · exact hn (by rw [← e]; exact List.mem_cons_self)
        · exact n'.1 z
      · rcases List.mem_cons.mp (show x ∈ a :: owns (es.set i s) from hx) with e | z
        · exact .inr (by rw [e]; exact List.mem_cons_self)
        · exact (q2 x z).imp id fun z => List.mem_cons_of_mem _ z
theorem Sl.len : ∀ {σ : L2.St} {es : List Sv}, Sl c P H σ es → σ.length = es.length
  | _, _, .nil => rfl
  | _, _, .no h => by rw [List.length_cons, List.length_cons, h.len]
  | _, _, .dat _ h => by rw [List.length_cons, List.length_cons, h.len]
  | _, _, .own _ h => by rw [List.length_cons, List.length_cons, h.len]
  | _, _, .hand _ h => by rw [List.length_cons, List.length_cons, h.len]
/-- one slot anew, by what it is alone -/
theorem Sl.set {o : Option V} {s : Sv} (h1 : Sl c P H [o] [s]) : ∀ {σ : L2.St} {es : List Sv} (i : Nat), Sl c P H σ es → Sl c P H (σ.set i o) (es.set i s)
  | _, _, _, .nil => .nil
  | _, _, 0, .no h => by cases h1 <;> first | exact .no h | exact .dat (by assumption) h | exact .own (by assumption) h | exact .hand (by assumption) h
  | _, _, 0, .dat _ h => by cases h1 <;> first | exact .no h | exact .dat (by assumption) h | exact .own (by assumption) h | exact .hand (by assumption) h
  | _, _, 0, .own _ h => by cases h1 <;> first | exact .no h | exact .dat (by assumption) h | exact .own (by assumption) h | exact .hand (by assumption) h
  | _, _, 0, .hand _ h => by cases h1 <;> first | exact .no h | exact .dat (by assumption) h | exact .own (by assumption) h | exact .hand (by assumption) h
  | _, _, i + 1, .no h => .no (Sl.set h1 i h)
  | _, _, i + 1, .dat a h => .dat a (Sl.set h1 i h)
  | _, _, i + 1, .own a h => .own a (Sl.set h1 i h)
  | _, _, i + 1, .hand a h => .hand a (Sl.set h1 i h)
theorem Rep.put {v : V} (r : Rep c P H σ es) (i : Nat) (h : Has c.K P v d) : Rep c P H (σ.set i (some v)) (es.set i (.dat d)) :=
  ⟨r.b, r.old, r.dom, r.ex, r.fr, Sl.set (.dat h .nil) i r.sl, r.nd.sublist (owns_set es i _ rfl)⟩
theorem Rep.drop {o : Option V} (r : Rep c P H σ es) (i : Nat) : Rep c P H (σ.set i o) (es.set i .no) :=
  ⟨r.b, r.old, r.dom, r.ex, r.fr, Sl.set (.no .nil) i r.sl, r.nd.sublist (owns_set es i _ rfl)⟩
theorem Rep.putO (r : Rep c P H σ es) (i : Nat) (h : Mine c P H l ds) (hn : l ∉ owns es) : Rep c P H (σ.set i (some (.ref l))) (es.set i (.own l ds)) :=
  ⟨r.b, r.old, r.dom, r.ex, r.fr, Sl.set (.own h .nil) i r.sl, (owns_put es i _ l rfl hn r.nd).1⟩
/-- lists of one's own stand -/
theorem Sl.there : ∀ {σ : L2.St} {es : List Sv}, Sl c P H σ es → ∀ l ∈ owns es, ∃ xs, H l = some (.lst xs)
  | _, _, .nil, _, h => by cases h
  | _, _, .no h, l, m => h.there l m
  | _, _, .dat _ h, l, m => h.there l m
  | _, _, .own ⟨_, _, xs, q, _⟩ h, l, m => by
    rcases List.mem_cons.mp m with e | m
    · rw [e]; exact ⟨xs, q⟩
    · exact h.there l m
  | _, _, .hand ⟨_, _, _, _, xs, q, _⟩ h, l, m => by
    rcases List.mem_cons.mp m with e | m
    · rw [e]; exact ⟨xs, q⟩
    · exact h.there l m
theorem Rep.fresh (r : Rep c P H σ es) (h : H l = none) : l ∉ owns es := fun m => by
  obtain ⟨xs, q⟩ := r.sl.there l m
  rw [q] at h; cases h
/-- a list of one's own changes -/
theorem Sl.turn {xs : List V} (hP : P l = none) : ∀ {σ : L2.St} {es : List Sv}, l ∉ owns es → Sl c P H σ es → Sl c P (upd H l (.lst xs)) σ es
  | _, _, _, .nil => .nil
  | _, _, n, .no h => .no (h.turn hP n)
  | _, _, n, .dat a h => .dat a (h.turn hP n)
  | _, .own a _ :: _, n, .own ⟨m1, m2, ys, q, z⟩ h => .own ⟨m1, m2, ys, by rw [upd_ne fun e => n (by rw [← e]; exact List.mem_cons_self)]; exact q, z⟩ (h.turn hP fun m => n (List.mem_cons_of_mem _ m))
  | _, .hand a :: _, n, .hand ⟨ds, k, m1, m2, ys, q, z⟩ h => .hand ⟨ds, k, m1, m2, ys, by rw [upd_ne fun e => n (by rw [← e]; exact List.mem_cons_self)]; exact q, z⟩ (h.turn hP fun m => n (List.mem_cons_of_mem _ m))
theorem Sl.change {xs : List V} {ds' : List Dt} (hx : HasAll c.K P xs ds') : ∀ {σ : L2.St} {es : List Sv} {i : Nat}, (owns es).Nodup → es[i]? = some (.own l ds) → Sl c P H σ es → Sl c P (upd H l (.lst xs)) σ (es.set i (.own l ds'))
  | _, _, _, _, e, .nil => by simp at e
  | _, _, 0, _, e, .no _ => by simp at e
  | _, _, 0, _, e, .dat _ _ => by simp at e
  | _, _, 0, n, e, .own a h => by
    obtain ⟨e1, e2⟩ := Sv.own.inj (Option.some.inj e)
    subst e1 e2
    obtain ⟨m1, m2, _⟩ := a
    exact .own ⟨m1, m2, xs, upd_same, hx⟩ (h.turn m2 (List.nodup_cons.mp n).1)
  | _, _, 0, _, e, .hand _ _ => by simp at e
  | _, _, i + 1, n, e, .no h => .no (Sl.change hx n (by simpa using e) h)
  | _, _, i + 1, n, e, .dat a h => .dat a (Sl.change hx n (by simpa using e) h)
  | _, .own a _ :: es, i + 1, n, e, .own ⟨m1, m2, ys, q, z⟩ h => by
    have n' := List.nodup_cons.mp (show (a :: owns es).Nodup from n)
    have e' : es[i]? = some (.own l ds) := by simpa using e
    exact .own ⟨m1, m2, ys, by rw [upd_ne fun e => n'.1 (by rw [e]; exact owns_mem (.inl e'))]; exact q, z⟩ (Sl.change hx n'.2 e' h)
  | _, .hand a :: es, i + 1, n, e, .hand ⟨us, k, m1, m2, ys, q, z⟩ h => by
    have n' := List.nodup_cons.mp (show (a :: owns es).Nodup from n)
    have e' : es[i]? = some (.own l ds) := by simpa using e
    exact .hand ⟨us, k, m1, m2, ys, by rw [upd_ne fun e => n'.1 (by rw [e]; exact owns_mem (.inl e'))]; exact q, z⟩ (Sl.change hx n'.2 e' h)
theorem owns_same : ∀ {es : List Sv} {i : Nat} {ds' : List Dt}, es[i]? = some (.own l ds) → owns (es.set i (.own l ds')) = owns es
  | [], _, _, e => by simp at e
  | s :: es, 0, _, e => by
    cases Option.some.inj e
    rfl
  | s :: es, i + 1, ds', e => by
    have q := owns_same (es := es) (i := i) (ds' := ds') (by simpa using e)
    cases s with
    | no => exact q
    | dat _ => exact q
    | own a _ => exact congrArg (List.cons a) q
    | hand a => exact congrArg (List.cons a) q
theorem Rep.change {xs : List V} {ds' : List Dt} (r : Rep c P H σ es) (e : es[i]? = some (.own l ds)) (hx : HasAll c.K P xs ds') : Rep c P (upd H l (.lst xs)) σ (es.set i (.own l ds')) := by
  obtain ⟨_, m1, m2, _⟩ := r.sl.getO e
  refine ⟨r.b, fun a o m h => ?_, fun a h => ?_, fun a o h => ?_, r.fr, r.sl.change hx r.nd e, by rw [owns_same e]; exact r.nd⟩
  · have ne : a ≠ l := fun z => by
      subst z
      rcases m1 with q | q
      · rw [q] at h; cases h
      · exact m q
    rw [upd_ne ne]
    exact r.old a o m h
  · by_cases z : a = l
    · subst z; rw [upd_same] at h; cases h
    · rw [upd_ne z] at h
      exact r.dom a h
  · have ne : a ≠ l := fun z => by
      subst z; rw [m2] at h; cases h
    rw [upd_ne ne]
    exact r.ex a o h
end
end My
set_option Elab.async false
set_option linter.all false
set_option maxRecDepth 100000
set_option maxHeartbeats 2000000
/-! What expressions come to, over slots that are told. -/
namespace My
open PySem L2
open Evl (Ex)

/-- the hands among the slots -/
def handsOf : List Sv → List Addr
  | [] => []
  | .hand l :: es => l :: handsOf es
  | _ :: es => handsOf es
/-- the part has grown, all that was tracked stands but the hands -/
structure Kp (es : List Sv) (P H P' H' : Hp) : Prop where
  p : Ex P P'
  k : ∀ b o, b ∉ handsOf es → H b = some o → H' b = some o
  n : ∀ b, H' b = none → H b = none
  f : ∀ b o, P' b = some o → P b = some o ∨ H b = none
theorem Kp.refl {es : List Sv} {P H : Hp} : Kp es P H P H := ⟨.refl P, fun _ _ _ h => h, fun _ h => h, fun _ _ h => .inl h⟩
theorem Kp.trans {es : List Sv} {P H P1 H1 P2 H2 : Hp} (a : Kp es P H P1 H1) (b : Kp es P1 H1 P2 H2) : Kp es P H P2 H2 :=
  ⟨a.p.trans b.p, fun x o n h => b.k x o n (a.k x o n h), fun x h => a.n x (b.n x h), fun x o h => (b.f x o h).elim (a.f x o) fun z => .inr (a.n x z)⟩
theorem Kp.of {es : List Sv} {P H P1 H1 : Hp} (g : Grow P H P1 H1) : Kp es P H P1 H1 := ⟨g.p, fun x o _ h => g.h x o h, fun _ h => none_back g.h h, g.f⟩
theorem Kp.grow {es : List Sv} {P H P1 H1 : Hp} (k : Kp es P H P1 H1) (hh : handsOf es = []) (s : Ex P1 H1) : Grow P H P1 H1 := ⟨k.p, fun x o h => k.k x o (by rw [hh]; exact List.not_mem_nil) h, s, k.f⟩
theorem Kp.put {es : List Sv} {P H P1 H1 : Hp} {a : Addr} {o : HO} (k : Kp es P H P1 H1) (h : H a = none) : Kp es P H P1 (upd H1 a o) :=
  ⟨k.p, fun x u n e => by rw [upd_ne (ne_of_none e h)]; exact k.k x u n e, fun x e => by
    by_cases z : x = a
    · rw [z, upd_same] at e; cases e
    · rw [upd_ne z] at e; exact k.n x e, k.f⟩
theorem Kp.give {es : List Sv} {P H P1 H1 : Hp} {a : Addr} {o : HO} (k : Kp es P H P1 H1) (h : H a = none) (h1 : P1 a = none) : Kp es P H (upd P1 a o) H1 :=
  ⟨k.p.trans (Ex.new h1), k.k, k.n, fun x u e => by
    by_cases z : x = a
    · rw [z]; exact .inr h
    · rw [upd_ne z] at e; exact k.f x u e⟩
def EV (c : Fr) (te : TE) (es : List Sv) (φ : Dt → Prop) : Prop :=
  ∀ σ P H, Rep c P H σ es → ∀ Q : VK, (∀ v P' H' d, φ d → Rep c P' H' σ es → Kp es P H P' H' → Has c.K P' v d → Q v H') → te σ H Q
abbrev ED (c : Fr) (te : TE) (es : List Sv) (d : Dt) : Prop := EV c te es (fun x => x = d)
def EVs (c : Fr) (ta : TA) (es : List Sv) (φ : List Dt → Prop) : Prop :=
  ∀ σ P H, Rep c P H σ es → ∀ Q : List V → Hp → Prop, (∀ vs P' H' ds, φ ds → Rep c P' H' σ es → Kp es P H P' H' → HasAll c.K P' vs ds → Q vs H') → ta σ H Q
abbrev EDs (c : Fr) (ta : TA) (es : List Sv) (ds : List Dt) : Prop := EVs c ta es (fun x => x = ds)
def EB (c : Fr) (tt : TT) (es : List Sv) (φ : Bool → Prop) : Prop :=
  ∀ σ P H, Rep c P H σ es → ∀ Q : Bool → Hp → Prop, (∀ b P' H', φ b → Rep c P' H' σ es → Kp es P H P' H' → Q b H') → tt σ H Q
abbrev EBd (c : Fr) (tt : TT) (es : List Sv) (b : Bool) : Prop := EB c tt es (fun x => x = b)
/-- a fresh list of one's own -/
def EO (c : Fr) (te : TE) (es : List Sv) (φ : List Dt → Prop) : Prop :=
  ∀ σ P H, Rep c P H σ es → ∀ Q : VK, (∀ l P' H' ds, φ ds → Rep c P' H' σ es → Kp es P H P' H' → l ∉ owns es → H l = none → Mine c P' H' l ds → Q (.ref l) H') → te σ H Q
section
variable {c : Fr} {es : List Sv} {te ta tb tx : TE} {tt tu : TT} {ts : TA} {d x y : Dt} {ds : List Dt} {φ ψ χ : Dt → Prop} {i j : Int} {b b' : Bool}
theorem EV.imp (h : EV c te es φ) (k : ∀ d, φ d → ψ d) : EV c te es ψ := fun σ P H r Q q => h σ P H r Q fun v P' H' d e => q v P' H' d (k d e)
theorem ED.is (h : ED c te es d) (e : d = x) : ED c te es x := e ▸ h
theorem EB.imp {α β : Bool → Prop} (h : EB c tt es α) (k : ∀ b, α b → β b) : EB c tt es β := fun σ P H r Q q => h σ P H r Q fun v P' H' e => q v P' H' (k v e)
theorem EBd.is (h : EBd c tt es b) (e : b = b') : EBd c tt es b' := e ▸ h
/-! ### names, constants -/
theorem ed_var {n : Nat} (h : es[n]? = some (.dat d)) : ED c (tVar n) es d := fun σ P H r Q q => by
  obtain ⟨v, e, z⟩ := r.sl.get h
  exact ⟨v, e, q v P H d rfl r Kp.refl z⟩
theorem ed_c {v : V} (h : ∀ P, Has c.K P v d) : ED c (tC v) es d := fun σ P H r Q q => q v P H d rfl r Kp.refl (h P)
theorem ed_int : ED c (tC (.int i)) es (.int i) := ed_c fun _ => .int i
theorem ed_bl : ED c (tC (.bl b)) es (.bl b) := ed_c fun _ => .bl b
theorem ed_str {s : Str} : ED c (tC (.str s)) es (.str s) := ed_c fun _ => .str s
theorem ed_non : ED c (tC .non) es .non := ed_c fun _ => .non
/-! ### operators -/
/-- what an operator gives of two values that read as x and y -/
def RD (c : Fr) (r : R2) (x y : Dt) (χ : Dt → Prop) : Prop :=
  ∀ v u P H, Ex P H → Has c.K P v x → Has c.K P u y → ∀ Q : VK, (∀ w P' H' d, χ d → Grow P H P' H' → Has c.K P' w d → Q w H') → r v u H Q
theorem ev_op {r : R2} (ha : EV c ta es φ) (hb : EV c tb es ψ) (hr : ∀ x y, φ x → ψ y → RD c r x y χ) : EV c (tOp r ta tb) es χ := fun σ P H r0 Q q =>
  ha σ P H r0 _ fun v P1 H1 x hx r1 e1 h1 => hb σ P1 H1 r1 _ fun u P2 H2 y hy r2 e2 h2 =>
    hr x y hx hy v u P2 H2 r2.ex (Has.mono e2.p _ h1) h2 _ fun w P3 H3 z hz g h3 => q w P3 H3 z hz (r2.step g) ((e1.trans e2).trans (.of g)) h3
theorem ed_op {r : R2} (ha : ED c ta es x) (hb : ED c tb es y) (hr : RD c r x y (fun z => z = d)) : ED c (tOp r ta tb) es d :=
  ev_op ha hb fun _ _ e1 e2 => by rw [e1, e2]; exact hr
theorem rd_sc {r : R2} {w : V} (hw : ∀ P, Has c.K P w d) (h : ∀ v u P H, Ex P H → Has c.K P v x → Has c.K P u y → ∀ Q : VK, Q w H → r v u H Q) : RD c r x y (fun z => z = d) :=
  fun v u P H e hv hu Q q => h v u P H e hv hu Q (q w P H d rfl (.refl e) (hw P))
theorem rd_I0 {f : Int → Int → Int} : RD c (rI0 fun i j => .int (f i j)) (.int i) (.int j) (fun z => z = .int (f i j)) :=
  rd_sc (fun _ => .int _) fun v u P H _ hv hu Q q => by cases hv; cases hu; exact ⟨i, j, rfl, rfl, q⟩
theorem rd_B0 {f : Int → Int → Bool} : RD c (rI0 fun i j => .bl (f i j)) (.int i) (.int j) (fun z => z = .bl (f i j)) :=
  rd_sc (fun _ => .bl _) fun v u P H _ hv hu Q q => by cases hv; cases hu; exact ⟨i, j, rfl, rfl, q⟩
theorem rd_I {C : Int → Int → Prop} {f : Int → Int → Int} (hc : C i j) : RD c (rI C fun i j => .int (f i j)) (.int i) (.int j) (fun z => z = .int (f i j)) :=
  rd_sc (fun _ => .int _) fun v u P H _ hv hu Q q => by cases hv; cases hu; exact ⟨i, j, rfl, rfl, hc, q⟩
theorem ed_I0 {f : Int → Int → Int} (ha : ED c ta es (.int i)) (hb : ED c tb es (.int j)) : ED c (tOp (rI0 fun i j => .int (f i j)) ta tb) es (.int (f i j)) := ed_op ha hb rd_I0
theorem ed_B0 {f : Int → Int → Bool} (ha : ED c ta es (.int i)) (hb : ED c tb es (.int j)) : ED c (tOp (rI0 fun i j => .bl (f i j)) ta tb) es (.bl (f i j)) := ed_op ha hb rd_B0
theorem ed_I {C : Int → Int → Prop} {f : Int → Int → Int} (ha : ED c ta es (.int i)) (hb : ED c tb es (.int j)) (hc : C i j) : ED c (tOp (rI C fun i j => .int (f i j)) ta tb) es (.int (f i j)) := ed_op ha hb (rd_I hc)
theorem ed_neg (ha : ED c ta es (.int i)) : ED c (tUn (rU fun i => .int (-i)) ta) es (.int (-i)) := fun σ P H r Q q =>
  ha σ P H r _ fun v P1 H1 z hz r1 e1 h1 => by
    subst hz
    cases h1
    exact ⟨i, rfl, q _ P1 H1 _ rfl r1 e1 (.int _)⟩
/-- numbers of which something is known -/
def IsI (α : Int → Prop) : Dt → Prop := fun d => ∃ k, d = .int k ∧ α k
theorem ei_of (h : ED c te es (.int i)) : EV c te es (IsI fun k => k = i) := EV.imp h fun _ e => ⟨i, e, rfl⟩
theorem ei_I0 {α β : Int → Prop} {f : Int → Int → Int} (ha : EV c ta es (IsI α)) (hb : EV c tb es (IsI β)) : EV c (tOp (rI0 fun i j => .int (f i j)) ta tb) es (IsI fun k => ∃ i j, α i ∧ β j ∧ k = f i j) :=
  ev_op ha hb fun x y ⟨i, e1, a⟩ ⟨j, e2, b⟩ v u P H e hv hu Q q => rd_I0 (i := i) (j := j) v u P H e (e1 ▸ hv) (e2 ▸ hu) Q fun w P' H' z hz => q w P' H' z ⟨f i j, hz, i, j, a, b, rfl⟩
theorem ei_I {α β : Int → Prop} {C : Int → Int → Prop} {f : Int → Int → Int} (ha : EV c ta es (IsI α)) (hb : EV c tb es (IsI β)) (hc : ∀ i j, α i → β j → C i j) : EV c (tOp (rI C fun i j => .int (f i j)) ta tb) es (IsI fun k => ∃ i j, α i ∧ β j ∧ k = f i j) :=
  ev_op ha hb fun x y ⟨i, e1, a⟩ ⟨j, e2, b⟩ v u P H e hv hu Q q => rd_I (hc i j a b) v u P H e (e1 ▸ hv) (e2 ▸ hu) Q fun w P' H' z hz => q w P' H' z ⟨f i j, hz, i, j, a, b, rfl⟩
/-! ### ==, != -/
theorem rd_eq (hx : fine x = true) (hy : fine y = true) : RD c (rEqD c.K) x y (fun z => z = .bl (eqv x y)) :=
  rd_sc (fun _ => .bl _) fun v u P H e hv hu Q q => ⟨py x, py y, Has.dp _ (Has.mono e _ hv) (fine_bare hx), Has.dp _ (Has.mono e _ hu) (fine_bare hy), fine_shaped hx, fine_shaped hy, q⟩
theorem rd_ne (hx : fine x = true) (hy : fine y = true) : RD c (rNeD c.K) x y (fun z => z = .bl (!eqv x y)) :=
  rd_sc (fun _ => .bl _) fun v u P H e hv hu Q q => ⟨py x, py y, Has.dp _ (Has.mono e _ hv) (fine_bare hx), Has.dp _ (Has.mono e _ hu) (fine_bare hy), fine_shaped hx, fine_shaped hy, q⟩
theorem ed_eq (ha : ED c ta es x) (hb : ED c tb es y) (hx : fine x = true) (hy : fine y = true) : ED c (tOp (rEqD c.K) ta tb) es (.bl (eqv x y)) := ed_op ha hb (rd_eq hx hy)
theorem ed_ne (ha : ED c ta es x) (hb : ED c tb es y) (hx : fine x = true) (hy : fine y = true) : ED c (tOp (rNeD c.K) ta tb) es (.bl (!eqv x y)) := ed_op ha hb (rd_ne hx hy)
def isNon : Dt → Bool
  | .non => true
  | _ => false
theorem isNon_of {K : PySem.W.Frag} {P : Hp} {v : V} (h : Has K P v x) : decide (v = .non) = isNon x := by cases h <;> rfl
theorem ed_isN (ha : ED c ta es x) : ED c (tOp (fun x y H Q => y = .non ∧ Q (.bl (decide (x = .non))) H) ta (tC .non)) es (.bl (isNon x)) :=
  ed_op ha ed_non (rd_sc (fun _ => .bl _) fun v u P H _ hv hu Q q => by cases hu; exact ⟨rfl, by rw [isNon_of hv]; exact q⟩)
theorem ed_notN (ha : ED c ta es x) : ED c (tOp (fun x y H Q => y = .non ∧ Q (.bl (!decide (x = .non))) H) ta (tC .non)) es (.bl (!isNon x)) :=
  ed_op ha ed_non (rd_sc (fun _ => .bl _) fun v u P H _ hv hu Q q => by cases hu; exact ⟨rfl, by rw [isNon_of hv]; exact q⟩)
theorem ed_isB (ha : ED c ta es (.bl b)) (hb : ED c tb es (.bl b')) : ED c (tOp rIsB ta tb) es (.bl (decide (b = b'))) :=
  ed_op ha hb (rd_sc (fun _ => .bl _) fun v u P H _ hv hu Q q => by cases hv; cases hu; exact ⟨b, b', rfl, rfl, q⟩)
theorem ed_notB (ha : ED c ta es (.bl b)) (hb : ED c tb es (.bl b')) : ED c (tOp rNotB ta tb) es (.bl (!decide (b = b'))) :=
  ed_op ha hb (rd_sc (fun _ => .bl _) fun v u P H _ hv hu Q q => by cases hv; cases hu; exact ⟨b, b', rfl, rfl, q⟩)
/-! ### truth -/
theorem ed_and (ha : ED c ta es (.bl b)) (hb : b = true → ED c tb es (.bl b')) : ED c (tAndV ta tb) es (.bl (b && b')) := fun σ P H r Q q =>
  ha σ P H r _ fun v P1 H1 z hz r1 e1 h1 => by
    subst hz
    cases h1
    refine ⟨b, rfl, ?_⟩
    cases b with
    | true => exact iteT (hb rfl σ P1 H1 r1 Q fun w P2 H2 z hz r2 e2 h2 => q w P2 H2 z (by rw [hz]; rfl) r2 (e1.trans e2) h2)
    | false => exact iteF (q _ P1 H1 _ rfl r1 e1 (.bl false))
theorem ed_or (ha : ED c ta es (.bl b)) (hb : b = false → ED c tb es (.bl b')) : ED c (tOrV ta tb) es (.bl (b || b')) := fun σ P H r Q q =>
  ha σ P H r _ fun v P1 H1 z hz r1 e1 h1 => by
    subst hz
    cases h1
    refine ⟨b, rfl, ?_⟩
    cases b with
    | true => exact iteT (q _ P1 H1 _ rfl r1 e1 (.bl true))
    | false => exact iteF (hb rfl σ P1 H1 r1 Q fun w P2 H2 z hz r2 e2 h2 => q w P2 H2 z (by rw [hz]; rfl) r2 (e1.trans e2) h2)
theorem ed_not (ha : ED c ta es (.bl b)) : ED c (tNotV ta) es (.bl (!b)) := fun σ P H r Q q =>
  ha σ P H r _ fun v P1 H1 z hz r1 e1 h1 => by
    subst hz
    cases h1
    exact ⟨b, rfl, q _ P1 H1 _ rfl r1 e1 (.bl _)⟩
theorem eb_test (h : ED c te es (.bl b)) : EBd c (tTest te) es b := fun σ P H r Q q => h σ P H r _ fun v P1 H1 z hz r1 e1 h1 => by
  subst hz
  cases h1
  exact ⟨b, rfl, q b P1 H1 rfl r1 e1⟩
theorem eb_B (h : ED c te es (.bl b)) : EBd c (tB te) es b := fun σ P H r Q q => h σ P H r _ fun v P1 H1 z hz r1 e1 h1 => by
  subst hz
  cases h1
  exact ⟨b, rfl, q b P1 H1 rfl r1 e1⟩
theorem eb_and (ha : EBd c tt es b) (hb : b = true → EBd c tu es b') : EBd c (tAnd tt tu) es (b && b') := fun σ P H r Q q =>
  ha σ P H r _ fun a P1 H1 z r1 e1 => by
    subst z
    cases a with
    | true => exact iteT (hb rfl σ P1 H1 r1 Q fun w P2 H2 z r2 e2 => q w P2 H2 (by rw [z]; rfl) r2 (e1.trans e2))
    | false => exact iteF (q _ P1 H1 rfl r1 e1)
theorem eb_or (ha : EBd c tt es b) (hb : b = false → EBd c tu es b') : EBd c (tOr tt tu) es (b || b') := fun σ P H r Q q =>
  ha σ P H r _ fun a P1 H1 z r1 e1 => by
    subst z
    cases a with
    | true => exact iteT (q _ P1 H1 rfl r1 e1)
    | false => exact iteF (hb rfl σ P1 H1 r1 Q fun w P2 H2 z r2 e2 => q w P2 H2 (by rw [z]; rfl) r2 (e1.trans e2))
theorem eb_not (ha : EBd c tt es b) : EBd c (tNot tt) es (!b) := fun σ P H r Q q => ha σ P H r _ fun a P1 H1 z r1 e1 => q _ P1 H1 (by rw [z]) r1 e1
theorem ev_if (h : EBd c tt es b) (h1 : b = true → EV c ta es φ) (h2 : b = false → EV c tb es φ) : EV c (tIf tt ta tb) es φ := fun σ P H r Q q =>
  h σ P H r _ fun a P1 H1 z r1 e1 => by
    subst z
    cases a with
    | true => exact iteT (h1 rfl σ P1 H1 r1 Q fun w P2 H2 z hz r2 e2 => q w P2 H2 z hz r2 (e1.trans e2))
    | false => exact iteF (h2 rfl σ P1 H1 r1 Q fun w P2 H2 z hz r2 e2 => q w P2 H2 z hz r2 (e1.trans e2))
/-- a < b < c -/
theorem ed_chain {r1 r2 : R2} {tc : TE} {z : Dt} (ha : ED c ta es x) (hb : ED c tb es y) (h1 : RD c r1 x y (fun w => w = .bl b)) (hc : b = true → ED c tc es z) (h2 : b = true → RD c r2 y z (fun w => w = .bl b')) : ED c (tChain r1 r2 ta tb tc) es (.bl (b && b')) := fun σ P H r Q q =>
  ha σ P H r _ fun v P1 H1 a hv q1 e1 k1 => hb σ P1 H1 q1 _ fun u P2 H2 a2 hu q2 e2 k2 => by
    subst hv hu
    refine h1 v u P2 H2 q2.ex (Has.mono e2.p _ k1) k2 _ fun w P3 H3 a3 hw g3 k3 => ?_
    subst hw
    cases k3
    refine ⟨b, rfl, ?_⟩
    cases b with
    | false => exact iteF (q _ P3 H3 _ rfl (q2.step g3) ((e1.trans e2).trans (.of g3)) (.bl false))
    | true =>
      refine iteT (hc rfl σ P3 H3 (q2.step g3) _ fun w P4 H4 a4 hw q4 e4 k4 => ?_)
      subst hw
      exact h2 rfl u w P4 H4 q4.ex (Has.mono (g3.p.trans e4.p) _ k2) k4 _ fun w5 P5 H5 a5 h5 g5 k5 => q w5 P5 H5 a5 (by rw [h5]; rfl) (q4.step g5) ((((e1.trans e2).trans (.of g3)).trans e4).trans (.of g5)) k5
/-! ### arguments, displays -/
theorem es_nil : EDs c tNil es [] := fun σ P H r Q q => q [] P H [] rfl r Kp.refl .nil
theorem evs_cons {ρ : List Dt → Prop} (h : EV c te es φ) (hr : EVs c ts es ρ) : EVs c (tCons te ts) es (fun l => ∃ d ds, l = d :: ds ∧ φ d ∧ ρ ds) := fun σ P H r Q q =>
  h σ P H r _ fun v P1 H1 a ha r1 e1 h1 => hr σ P1 H1 r1 _ fun vs P2 H2 l hl r2 e2 h2 => q _ P2 H2 _ ⟨a, l, rfl, ha, hl⟩ r2 (e1.trans e2) (.cons (Has.mono e2.p _ h1) h2)
theorem es_cons (h : ED c te es d) (hr : EDs c ts es ds) : EDs c (tCons te ts) es (d :: ds) := fun σ P H r Q q =>
  evs_cons h hr σ P H r Q fun vs P' H' l ⟨a, l', e, ea, el⟩ => q vs P' H' l (by rw [e, ea, el])
theorem EVs.imp {ρ τ : List Dt → Prop} (h : EVs c ts es ρ) (k : ∀ l, ρ l → τ l) : EVs c ts es τ := fun σ P H r Q q => h σ P H r Q fun v P' H' d e => q v P' H' d (k d e)
/-- a new object at p that goes to the part -/
theorem grow_new {P H : Hp} {p : Addr} {o : HO} (e : Ex P H) (hp : H p = none) : Grow P H (upd P p o) (upd H p o) :=
  ⟨Ex.new (none_back e hp), Ex.new hp, fun a u h => by
    by_cases z : a = p
    · subst z; rw [upd_same] at h ⊢; exact h
    · rw [upd_ne z] at h ⊢; exact e a u h, fun a u h => by
    by_cases z : a = p
    · subst z; exact .inr hp
    · rw [upd_ne z] at h; exact .inl h⟩
/-- .. or stays one's own -/
theorem grow_own {P H : Hp} {p : Addr} {o : HO} (e : Ex P H) (hp : H p = none) : Grow P H P (upd H p o) :=
  ⟨.refl P, Ex.new hp, e.trans (Ex.new hp), fun _ _ h => .inl h⟩
theorem ev_tup {ρ : List Dt → Prop} (h : EVs c ts es ρ) (hl : ∀ l, ρ l → l.length ≤ 100000) : EV c (tTup ts) es (fun z => ∃ l, z = .tup l ∧ ρ l) := fun σ P H r Q q =>
  h σ P H r _ fun vs P1 H1 l hρ r1 e1 h1 => ⟨Evl.sz_of (by rw [h1.len]; exact hl l hρ), fun p hp => by
    have g := grow_new (o := .tup vs) r1.ex hp
    exact q _ _ _ _ ⟨l, rfl, hρ⟩ (r1.step g) (e1.trans (.of g)) (.tup (Evl.st_of upd_same) (HasAll.mono g.p _ h1))⟩
theorem ed_tup (h : EDs c ts es ds) (hl : ds.length ≤ 100000) : ED c (tTup ts) es (.tup ds) := EV.imp (ev_tup h fun _ e => by rw [e]; exact hl) fun z ⟨l, e1, e2⟩ => by rw [e1, e2]
theorem eo_lst {ρ : List Dt → Prop} (h : EVs c ts es ρ) (hl : ∀ l, ρ l → l.length ≤ 100000) : EO c (tLst ts) es ρ := fun σ P H r Q q =>
  h σ P H r _ fun vs P1 H1 l hρ r1 e1 h1 => ⟨Evl.sz_of (by rw [h1.len]; exact hl l hρ), fun p hp => by
    have g := grow_own (o := .lst vs) r1.ex hp
    exact q p P1 _ l hρ (r1.step g) (e1.trans (.of g)) (r1.fresh hp) (e1.n p hp) ⟨.inl (r1.dom p hp), none_back r1.ex hp, vs, upd_same, h1⟩⟩
/-- a list of one's own that is never changed any more is data -/
theorem Rep.give {P H : Hp} {σ : L2.St} {l : Addr} (r : Rep c P H σ es) (hn : l ∉ owns es) (hl : c.H0 l = none) (hP : P l = none) {xs : List V} (hx : H l = some (.lst xs)) : Rep c (upd P l (.lst xs)) H σ es := by
  have key : ∀ {σ : L2.St} {es : List Sv}, l ∉ owns es → Sl c P H σ es → Sl c (upd P l (.lst xs)) H σ es := by
    intro σ es n h
    induction h with
    | nil => exact .nil
    | no _ ih => exact .no (ih n)
    | dat a _ ih => exact .dat (Has.mono (Ex.new hP) _ a) (ih n)
    | own a _ ih =>
      obtain ⟨m1, m2, ys, q, z⟩ := a
      have ne : _ ≠ l := fun e => n (by rw [← e]; exact List.mem_cons_self)
      exact .own ⟨m1, by rw [upd_ne ne]; exact m2, ys, q, HasAll.mono (Ex.new hP) _ z⟩ (ih fun m => n (List.mem_cons_of_mem _ m))
    | hand a _ ih =>
      obtain ⟨ds, k, m1, m2, ys, q, z⟩ := a
      have ne : _ ≠ l := fun e => n (by rw [← e]; exact List.mem_cons_self)
      exact .hand ⟨ds, k, m1, by rw [upd_ne ne]; exact m2, ys, q, HasAll.mono (Ex.new hP) _ z⟩ (ih fun m => n (List.mem_cons_of_mem _ m))
  refine ⟨r.b.trans (Ex.new hP), r.old, r.dom, fun a o h => ?_, fun a o h => ?_, key hn r.sl, r.nd⟩
  · by_cases z : a = l
    · subst z; rw [upd_same] at h; rw [hx]; exact h
    · rw [upd_ne z] at h; exact r.ex a o h
  · by_cases z : a = l
    · subst z; exact .inr hl
    · rw [upd_ne z] at h; exact r.fr a o h
theorem ev_give {ρ : List Dt → Prop} (hm : c.mu = []) (h : EO c te es ρ) : EV c te es (fun z => ∃ l, z = .lst l ∧ ρ l) := fun σ P H r Q q =>
  h σ P H r _ fun l P1 H1 ds hρ r1 e1 hn h0 ⟨m1, m2, xs, hx, hd⟩ => by
    have m0 : c.H0 l = none := m1.elim id fun z => by rw [hm] at z; cases z
    exact q _ _ _ _ ⟨ds, rfl, hρ⟩ (r1.give hn m0 m2 hx) (e1.give h0 m2) (.lst (Evl.sq_of upd_same) (HasAll.mono (Ex.new m2) _ hd))
/-! ### items, lengths -/
theorem atI_has {K : PySem.W.Frag} {P : Hp} {xs : List V} {l : List Dt} {k : Int} {d : Dt} (h : HasAll K P xs l) (e : atI l k = some d) : ∃ v, atI xs k = some v ∧ Has K P v d := by
  unfold atI at e ⊢
  rw [h.len]
  cases q : ixN l.length k with
  | none => rw [q] at e; cases e
  | some n =>
    rw [q] at e
    obtain ⟨v, e1, h1⟩ := h.get (i := n) (d := d) e
    exact ⟨v, e1, h1⟩
theorem rd_ixT {l : List Dt} (e : atI l i = some d) : RD c (rIx c.K) (.tup l) (.int i) (fun z => z = d) := fun v u P H ex hv hu Q q => by
  cases hu
  cases hv with
  | tup s r =>
    obtain ⟨w, e1, h1⟩ := atI_has r e
    exact .inr (.inl ⟨_, _, i, w, rfl, rfl, Evl.ex_t ex s, e1, q w P H d rfl (.refl ex) h1⟩)
theorem rd_ixL {l : List Dt} (e : atI l i = some d) : RD c (rIx c.K) (.lst l) (.int i) (fun z => z = d) := fun v u P H ex hv hu Q q => by
  cases hu
  cases hv with
  | lst s r =>
    obtain ⟨w, e1, h1⟩ := atI_has r e
    exact .inl ⟨_, _, i, w, rfl, rfl, Evl.ex_l ex s, e1, q w P H d rfl (.refl ex) h1⟩
theorem ed_ixT {l : List Dt} (ha : ED c ta es (.tup l)) (hb : ED c tb es (.int i)) (e : atI l i = some d) : ED c (tOp (rIx c.K) ta tb) es d := ed_op ha hb (rd_ixT e)
theorem ed_ixL {l : List Dt} (ha : ED c ta es (.lst l)) (hb : ED c tb es (.int i)) (e : atI l i = some d) : ED c (tOp (rIx c.K) ta tb) es d := ed_op ha hb (rd_ixL e)
/-- an item of a list of one's own -/
theorem ed_ixO {n : Nat} {a : Addr} {l : List Dt} (h : es[n]? = some (.own a l)) (hb : ED c tb es (.int i)) (e : atI l i = some d) : ED c (tOp (rIx c.K) (tVar n) tb) es d := fun σ P H r Q q => by
  refine ⟨_, (r.sl.getO h).1, ?_⟩
  refine hb σ P H r _ fun u P1 H1 z hz r1 e1 h1 => ?_
  subst hz
  cases h1
  obtain ⟨_, _, _, xs, hx, hd⟩ := r1.sl.getO h
  obtain ⟨w, e2, h2⟩ := atI_has hd e
  exact .inl ⟨a, xs, i, w, rfl, rfl, Evl.sq_of hx, e2, q w P1 H1 d rfl r1 e1 h2⟩
def lenD : Dt → Option Nat
  | .lst l => some l.length
  | .tup l => some l.length
  | _ => none
theorem ed_len {n : Nat} (ha : ED c ta es x) (e : lenD x = some n) : ED c (tCB (Evl.rLenS c.K) (tCons ta tNil)) es (.int n) := fun σ P H r Q q =>
  ha σ P H r _ fun v P1 H1 z hz r1 e1 h1 => by
    subst hz
    cases h1 with
    | lst s k =>
      cases Option.some.inj e
      exact ⟨_, _, rfl, .inl (Evl.ex_l r1.ex s), by rw [k.len]; exact q _ P1 H1 _ rfl r1 e1 (.int _)⟩
    | tup s k =>
      cases Option.some.inj e
      exact ⟨_, _, rfl, .inr (Evl.ex_t r1.ex s), by rw [k.len]; exact q _ P1 H1 _ rfl r1 e1 (.int _)⟩
    | _ => cases e
theorem ed_lenO {n : Nat} {a : Addr} {l : List Dt} (h : es[n]? = some (.own a l)) : ED c (tCB (Evl.rLenS c.K) (tCons (tVar n) tNil)) es (.int l.length) := fun σ P H r Q q => by
  obtain ⟨e0, _, _, xs, hx, hd⟩ := r.sl.getO h
  exact ⟨_, e0, a, xs, rfl, .inl (Evl.sq_of hx), by rw [hd.len]; exact q _ P H _ rfl r Kp.refl (.int _)⟩
/-! ### isinstance -/
def tyD : Dt → Option String
  | .non => some "NoneType"
  | .bl _ => some "bool"
  | .int _ => some "int"
  | .str _ => some "str"
  | .lst _ => some "list"
  | .tup _ => some "tuple"
  | .obj _ _ _ => none
theorem Has.ty {K : PySem.W.Frag} {P H : Hp} {v : V} {d : Dt} {n : String} (ex : Ex P H) (h : Has K P v d) (e : tyD d = some n) : TyX K H v (.type n) := by
  cases h with
  | non => cases Option.some.inj e; exact .base .non
  | bl b => cases Option.some.inj e; exact .base (.bl b)
  | int i => cases Option.some.inj e; exact .base (.int i)
  | str s => cases Option.some.inj e; exact .base (.str s)
  | lst s r =>
    cases Option.some.inj e
    rcases Evl.ex_l ex s with (q | ⟨o, q⟩) | ⟨o, its, n, q, z, _⟩
    · exact .base (.lst q)
    · exact .base (.frz q)
    · exact .kList q z
  | tup s r =>
    cases Option.some.inj e
    rcases Evl.ex_t ex s with (q | ⟨o, q⟩) | ⟨o, its, n, q, z, _⟩
    · exact .base (.tup q)
    · exact .fTuple q
    · exact .kTuple q z
  | obj s r => cases e
end
end My
set_option Elab.async false
set_option linter.all false
set_option maxRecDepth 100000
set_option maxHeartbeats 2000000
/-! Calls and statements over slots that are told. -/
namespace My
open PySem L2
open Evl (Ex)

/-! ### promises by data -/
/-- f gives of things that read as ds one that reads as d, R ds d; nothing changes -/
def spD (K : PySem.W.Frag) (R : List Dt → Dt → Prop) : Sp := fun vs H Q _ => ∃ P ds, Ex P H ∧ HasAll K P vs ds ∧ (∃ d, R ds d) ∧
  ∀ v P' H' d, R ds d → Grow P H P' H' → Has K P' v d → Q v H'
/-- .. gives a fresh list of one's own -/
def spO (K : PySem.W.Frag) (R : List Dt → List Dt → Prop) : Sp := fun vs H Q _ => ∃ P ds, Ex P H ∧ HasAll K P vs ds ∧ (∃ l, R ds l) ∧
  ∀ p P' H' xs l, R ds l → Grow P H P' H' → P' p = none → H p = none → H' p = some (.lst xs) → HasAll K P' xs l → Q (.ref p) H'
/-- f changes the hand that it gets first -/
def spH (K : PySem.W.Frag) (R : List Dt → Dt → Prop) : Sp := fun vs H Q _ => ∃ P a us hs ds, vs = .ref a :: us ∧ Ex P H ∧ P a = none ∧ (∃ xs, H a = some (.lst xs) ∧ HasAll K P xs hs) ∧ HandOk hs ∧ HasAll K P us ds ∧ (∃ d, R ds d) ∧
  ∀ v P' H' d xs' hs', R ds d → Ex P P' → (∀ b o, b ≠ a → H b = some o → H' b = some o) → (∀ b, H' b = none → H b = none) → Ex P' H' → (∀ b o, P' b = some o → P b = some o ∨ H b = none) → P' a = none → H' a = some (.lst xs') → HasAll K P' xs' hs' → HandOk hs' → Has K P' v d → Q v H'
/-- .. and gives a fresh list of one's own -/
def spHO (K : PySem.W.Frag) (R : List Dt → List Dt → Prop) : Sp := fun vs H Q _ => ∃ P a us hs ds, vs = .ref a :: us ∧ Ex P H ∧ P a = none ∧ (∃ xs, H a = some (.lst xs) ∧ HasAll K P xs hs) ∧ HandOk hs ∧ HasAll K P us ds ∧ (∃ l, R ds l) ∧
  ∀ p P' H' l ys xs' hs', R ds l → Ex P P' → (∀ b o, b ≠ a → H b = some o → H' b = some o) → (∀ b, H' b = none → H b = none) → Ex P' H' → (∀ b o, P' b = some o → P b = some o ∨ H b = none) → P' a = none → H' a = some (.lst xs') → HasAll K P' xs' hs' → HandOk hs' →
    P' p = none → H p = none → H' p = some (.lst ys) → HasAll K P' ys l → Q (.ref p) H'
section
variable {c : Fr} {es : List Sv} {te ta tb tx : TE} {tt tu : TT} {ts : TA} {d x y : Dt} {ds dd : List Dt} {φ ψ χ : Dt → Prop} {i j : Int} {b b' : Bool} {R : List Dt → Dt → Prop} {E : XK} {dvs : List V}
theorem evs_call {ρ : List Dt → Prop} (h : EVs c ts es ρ) (hd : ∀ P, HasAll c.K P dvs dd) (hR : ∀ l, ρ l → ∃ d, R (l ++ dd) d) : EV c (tCall (spD c.K R) dvs E ts) es (fun d => ∃ l, ρ l ∧ R (l ++ dd) d) := fun σ P H r Q q =>
  h σ P H r _ fun vs P1 H1 l hl r1 e1 h1 => ⟨P1, l ++ dd, r1.ex, h1.append (hd P1), hR l hl, fun v P2 H2 d hr g hv => q v P2 H2 d ⟨l, hl, hr⟩ (r1.step g) (e1.trans (.of g)) hv⟩
/-- the answer is one -/
theorem ed_call (h : EDs c ts es ds) (hR : R ds d) (h1 : ∀ x, R ds x → x = d) : ED c (tCall (spD c.K R) [] E ts) es d :=
  EV.imp (evs_call (dd := []) h (fun _ => .nil) fun l e => ⟨d, by rw [e, List.append_nil]; exact hR⟩) fun x ⟨l, e, z⟩ => by
    rw [e, List.append_nil] at z
    exact h1 x z
theorem ev_call (h : EDs c ts es ds) (hR : ∃ d, R ds d) : EV c (tCall (spD c.K R) [] E ts) es (R ds) :=
  EV.imp (evs_call (dd := []) h (fun _ => .nil) fun l e => by rw [e, List.append_nil]; exact hR) fun x ⟨l, e, z⟩ => by
    rw [e, List.append_nil] at z
    exact z
theorem ed_callD (h : EDs c ts es ds) (hd : ∀ P, HasAll c.K P dvs dd) (hR : R (ds ++ dd) d) (h1 : ∀ x, R (ds ++ dd) x → x = d) : ED c (tCall (spD c.K R) dvs E ts) es d :=
  EV.imp (evs_call (dd := dd) h hd fun l e => ⟨d, by rw [e]; exact hR⟩) fun x ⟨l, e, z⟩ => by
    rw [e] at z
    exact h1 x z
theorem Mine.own_new {P H P' H' : Hp} {p : Addr} {xs : List V} {l : List Dt} (m : c.H0 p = none) (h1 : P' p = none) (h2 : H' p = some (.lst xs)) (h3 : HasAll c.K P' xs l) : Mine c P' H' p l := ⟨.inl m, h1, xs, h2, h3⟩
theorem eo_call {RO : List Dt → List Dt → Prop} (h : EDs c ts es ds) (hR : ∃ l, RO ds l) : EO c (tCall (spO c.K RO) [] E ts) es (RO ds) := fun σ P H r Q q =>
  h σ P H r _ fun vs P1 H1 l hl r1 e1 h1 => ⟨P1, ds, r1.ex, by rw [List.append_nil, ← hl]; exact h1, hR, fun p P2 H2 xs l hr g k1 k2 k3 k4 => q p P2 H2 l hr (r1.step g) (e1.trans (.of g)) (r1.fresh k2) (e1.n p k2) ⟨.inl (r1.dom p k2), k1, xs, k3, k4⟩⟩
/-- the hand's slot behind a draw -/
theorem Sl.hands {P H P' H' : Hp} {a : Addr} {xs : List V} {hs : List Dt} (k1 : Ex P P') (k2 : ∀ b o, b ≠ a → H b = some o → H' b = some o) (k4 : ∀ b o, P' b = some o → P b = some o ∨ H b = none) (k5 : P' a = none) (k6 : H' a = some (.lst xs)) (k7 : HasAll c.K P' xs hs) (k8 : HandOk hs) :
    ∀ {σ : L2.St} {es : List Sv}, (a ∈ owns es → ∃ n : Nat, es[n]? = some (Sv.hand a)) → (owns es).Nodup → Sl c P H σ es → Sl c P' H' σ es := by
  have keep : ∀ {l : Addr} {ds : List Dt}, l ≠ a → Mine c P H l ds → Mine c P' H' l ds := fun {l ds} ne ⟨m1, m2, ys, q, z⟩ => by
    refine ⟨m1, ?_, ys, k2 _ _ ne q, HasAll.mono k1 _ z⟩
    cases e : P' l with
    | none => rfl
    | some o =>
      rcases k4 _ _ e with w | w
      · rw [m2] at w; cases w
      · rw [q] at w; cases w
  intro σ es n nd h
  induction h with
  | nil => exact .nil
  | no _ ih => exact .no (ih (fun m => by
      obtain ⟨k, e⟩ := n m
      cases k with
      | zero => simp at e
      | succ k => exact ⟨k, by simpa using e⟩) nd)
  | dat z _ ih => exact .dat (Has.mono k1 _ z) (ih (fun m => by
      obtain ⟨k, e⟩ := n m
      cases k with
      | zero => simp at e
      | succ k => exact ⟨k, by simpa using e⟩) nd)
  | @own l ds σ es m h ih =>
    have nd' := List.nodup_cons.mp (show (l :: owns es).Nodup from nd)
    have ne : l ≠ a := fun z => by
      subst z
      obtain ⟨k, e⟩ := n List.mem_cons_self
      cases k with
      | zero => simp at e
      | succ k => exact nd'.1 (owns_mem (ds := []) (.inr (by simpa using e)))
    exact .own (keep ne m) (ih (fun m => by
      obtain ⟨k, e⟩ := n (List.mem_cons_of_mem _ m)
      cases k with
      | zero => simp at e
      | succ k => exact ⟨k, by simpa using e⟩) nd'.2)
  | @hand l σ es m h ih =>
    have nd' := List.nodup_cons.mp (show (l :: owns es).Nodup from nd)
    have m0 := m
    obtain ⟨ds, z, m⟩ := m
    have rest := fun (hx : a ∈ owns es → ∃ n : Nat, es[n]? = some (Sv.hand a)) => ih hx nd'.2
    have hx : a ∈ owns es → ∃ n : Nat, es[n]? = some (Sv.hand a) := fun mm => by
      obtain ⟨k, e⟩ := n (List.mem_cons_of_mem _ mm)
      cases k with
      | zero =>
        have e1 := Sv.hand.inj (Option.some.inj e)
        subst e1
        exact (nd'.1 mm).elim
      | succ k => exact ⟨k, by simpa using e⟩
    by_cases ne : l = a
    · subst ne
      exact .hand ⟨hs, k8, m.1, k5, xs, k6, k7⟩ (rest hx)
    · exact .hand ⟨ds, z, keep ne m⟩ (rest hx)
theorem Rep.hands {P H P' H' : Hp} {σ : L2.St} {a : Addr} {n : Nat} {xs : List V} {hs : List Dt} (r : Rep c P H σ es) (hn : es[n]? = some (Sv.hand a)) (k1 : Ex P P') (k2 : ∀ b o, b ≠ a → H b = some o → H' b = some o) (k2' : ∀ b, H' b = none → H b = none) (k3 : Ex P' H') (k4 : ∀ b o, P' b = some o → P b = some o ∨ H b = none)
    (k5 : P' a = none) (k6 : H' a = some (.lst xs)) (k7 : HasAll c.K P' xs hs) (k8 : HandOk hs) : Rep c P' H' σ es := by
  obtain ⟨_, _, _, m1, m2, _⟩ := r.sl.getH hn
  refine ⟨r.b.trans k1, fun b o m h => ?_, fun b h => r.dom b (k2' b h), k3, fun b o h => (k4 b o h).elim (r.fr b o) fun z => .inr (r.dom b z), r.sl.hands k1 k2 k4 k5 k6 k7 k8 (fun _ => ⟨n, hn⟩) r.nd, r.nd⟩
  have ne : b ≠ a := fun z => by
    subst z
    rcases m1 with q | q
    · rw [q] at h; cases h
    · exact m q
  exact k2 b o ne (r.old b o m h)
theorem hands_mem : ∀ {es : List Sv} {n : Nat} {a : Addr}, es[n]? = some (Sv.hand a) → a ∈ handsOf es
  | [], _, _, e => by simp at e
  | s :: es, 0, a, e => by
    cases Option.some.inj e
    exact List.mem_cons_self
  | s :: es, n + 1, a, e => by
    have q := hands_mem (es := es) (n := n) (a := a) (by simpa using e)
    cases s with
    | hand _ => exact List.mem_cons_of_mem _ q
    | no => exact q
    | dat _ => exact q
    | own _ _ => exact q
theorem ev_callH {n : Nat} {a : Addr} {ρ : List Dt → Prop} (hn : es[n]? = some (Sv.hand a)) (h : EVs c ts es ρ) (hR : ∀ l, ρ l → ∃ d, R l d) : EV c (tCall (spH c.K R) [] E (tCons (tVar n) ts)) es (fun d => ∃ l, ρ l ∧ R l d) := fun σ P H r Q q => by
  refine ⟨_, (r.sl.getH hn).1, ?_⟩
  refine h σ P H r _ fun vs P1 H1 l hl r1 e1 h1 => ?_
  obtain ⟨_, hs, ok, m1, m2, xs, hx, hd⟩ := r1.sl.getH hn
  refine ⟨P1, a, vs, hs, l, by rw [List.append_nil], r1.ex, m2, ⟨xs, hx, hd⟩, ok, h1, hR l hl, fun v P2 H2 d xs2 hs2 hr k1 k2 k2' k3 k4 k5 k6 k7 k8 k9 => ?_⟩
  exact q v P2 H2 d ⟨l, hl, hr⟩ (r1.hands hn k1 k2 k2' k3 k4 k5 k6 k7 k8) (e1.trans ⟨k1, fun b o n h => k2 b o (fun z => n (by rw [z]; exact hands_mem hn)) h, k2', k4⟩) k9
theorem eo_callH {n : Nat} {a : Addr} {ρ : List Dt → Prop} {RO : List Dt → List Dt → Prop} (hn : es[n]? = some (Sv.hand a)) (h : EVs c ts es ρ) (hR : ∀ l, ρ l → ∃ d, RO l d) : EO c (tCall (spHO c.K RO) [] E (tCons (tVar n) ts)) es (fun d => ∃ l, ρ l ∧ RO l d) := fun σ P H r Q q => by
  refine ⟨_, (r.sl.getH hn).1, ?_⟩
  refine h σ P H r _ fun vs P1 H1 l hl r1 e1 h1 => ?_
  obtain ⟨_, hs, ok, m1, m2, xs, hx, hd⟩ := r1.sl.getH hn
  refine ⟨P1, a, vs, hs, l, by rw [List.append_nil], r1.ex, m2, ⟨xs, hx, hd⟩, ok, h1, hR l hl, fun p P2 H2 d ys xs2 hs2 hr k1 k2 k2' k3 k4 k5 k6 k7 k8 j1 j2 j3 j4 => ?_⟩
  exact q p P2 H2 d ⟨l, hl, hr⟩ (r1.hands hn k1 k2 k2' k3 k4 k5 k6 k7 k8) (e1.trans ⟨k1, fun b o n h => k2 b o (fun z => n (by rw [z]; exact hands_mem hn)) h, k2', k4⟩) (r1.fresh j2) (e1.n p j2) ⟨.inl (r1.dom p j2), j1, ys, j3, j4⟩
/-! ### isinstance -/
def isB (t n : String) : Bool := (kitB t n).getD false
theorem ed_isi {t n : String} (ha : ED c ta es x) (e : tyD x = some t) (k : (kitB t n).isSome = true) : ED c (tCB (rIsi c.K) (tCons ta (tCons (tC (.ty n)) tNil))) es (.bl (isB t n)) := fun σ P H r Q q =>
  ha σ P H r _ fun v P1 H1 z hz r1 e1 h1 => by
    subst hz
    refine ⟨v, .ty n, .type t, .type n, isB t n, rfl, .ty n, h1.ty r1.ex e, kit_ty ?_, q _ P1 H1 _ rfl r1 e1 (.bl _)⟩
    unfold isB
    cases w : kitB t n with
    | none => rw [w] at k; cases k
    | some b => rfl
theorem ed_isi2 {t n m : String} (ha : ED c ta es x) (e : tyD x = some t) (k : (kitB t n).isSome = true) (k' : (kitB t m).isSome = true) :
    ED c (tCB (rIsiT c.K) (tCons ta (tCons (tTup (tCons (tC (.ty n)) (tCons (tC (.ty m)) tNil))) tNil))) es (.bl (isB t n || isB t m)) := fun σ P H r Q q =>
  ha σ P H r _ fun v P1 H1 z hz r1 e1 h1 => by
    subst hz
    refine ⟨by show 2 ≤ sizeLine; decide, fun p hp => ?_⟩
    have g := grow_own (o := .tup [.ty n, .ty m]) r1.ex hp
    refine ⟨v, p, [.ty n, .ty m], .type t, [.type n, .type m], isB t n || isB t m, rfl, upd_same, .cons (.ty n) (.cons (.ty m) .nil), h1.ty (r1.step g).ex e, ?_, q _ P1 _ _ rfl (r1.step g) (e1.trans (.of g)) (.bl _)⟩
    have one : ∀ {n : String}, (kitB t n).isSome = true → PySem.W.kitOne c.K (.type t) (.type n) = some (isB t n) := fun {n} k => kit_ty (by
      unfold isB
      cases w : kitB t n with
      | none => rw [w] at k; cases k
      | some b => rfl)
    refine kitAny_cons (one k) (fun h0 => kitAny_cons (one k') (fun h1 => by rw [h0, h1]; exact kitAny_nil) fun h1 => by rw [h0, h1]; rfl) fun h0 => by rw [h0]; rfl
/-! ### numbers by built-ins -/
theorem ed_gcd (ha : ED c ta es (.int i)) (hb : ED c tb es (.int j)) : ED c (tCB rGcd (tCons ta (tCons tb tNil))) es (.int ((Nat.gcd i.natAbs j.natAbs : Nat) : Int)) := fun σ P H r Q q =>
  ha σ P H r _ fun v P1 H1 z hz r1 e1 h1 => hb σ P1 H1 r1 _ fun u P2 H2 z2 hz2 r2 e2 h2 => by
    subst hz hz2
    cases h1
    cases h2
    exact ⟨i, j, rfl, q _ P2 H2 _ rfl r2 (e1.trans e2) (.int _)⟩
theorem ed_int1 (ha : ED c ta es (.int i)) : ED c (tCB (fun xs H Q => (∃ i, xs = [.int i] ∧ Q (.int i) H) ∨ ∃ k, xs = [.bl k] ∧ Q (.int (if k then 1 else 0)) H) (tCons ta tNil)) es (.int i) := fun σ P H r Q q =>
  ha σ P H r _ fun v P1 H1 z hz r1 e1 h1 => by
    subst hz
    cases h1
    exact .inl ⟨i, rfl, q _ P1 H1 _ rfl r1 e1 (.int _)⟩
theorem ei_int1 {α : Int → Prop} (ha : EV c ta es (IsI α)) : EV c (tCB (fun xs H Q => (∃ i, xs = [.int i] ∧ Q (.int i) H) ∨ ∃ k, xs = [.bl k] ∧ Q (.int (if k then 1 else 0)) H) (tCons ta tNil)) es (IsI α) := fun σ P H r Q q =>
  ha σ P H r _ fun v P1 H1 z ⟨i, hz, hα⟩ r1 e1 h1 => by
    subst hz
    cases h1
    exact .inl ⟨i, rfl, q _ P1 H1 _ ⟨i, rfl, hα⟩ r1 e1 (.int _)⟩
theorem ed_abs (ha : ED c ta es (.int i)) : ED c (tCB (fun xs H Q => ∃ i, xs = [.int i] ∧ Q (.int (if i < 0 then -i else i)) H) (tCons ta tNil)) es (.int (if i < 0 then -i else i)) := fun σ P H r Q q =>
  ha σ P H r _ fun v P1 H1 z hz r1 e1 h1 => by
    subst hz
    cases h1
    exact ⟨i, rfl, q _ P1 H1 _ rfl r1 e1 (.int _)⟩
theorem ed_strI (ha : ED c ta es (.int i)) (hi : i.natAbs.log2 < 1920) : ED c (tCB (fun xs H Q => ∃ i, xs = [.int i] ∧ i.natAbs.log2 < 1920 ∧ Q (.str (toString i)) H) (tCons ta tNil)) es (.str (toString i)) := fun σ P H r Q q =>
  ha σ P H r _ fun v P1 H1 z hz r1 e1 h1 => by
    subst hz
    cases h1
    exact ⟨i, rfl, hi, q _ P1 H1 _ rfl r1 e1 (.str _)⟩
end
/-! ### statements -/
/-- from slots told by es the word k holds -/
def Cont (c : Fr) (k : L2.St → Hp → Prop) (es : List Sv) : Prop := ∀ σ P H, Rep c P H σ es → k σ H
/-- what is handed back reads as d, nothing else has changed -/
def RetD (c : Fr) (k : VK) (φ : Dt → Prop) : Prop := ∀ v P H σ es d, φ d → Rep c P H σ es → Has c.K P v d → k v H
section
variable {c : Fr} {es es' : List Sv} {te ta tb tx : TE} {tt : TT} {t u w : TS} {ts : TA} {d x y : Dt} {ds : List Dt} {φ ψ χ : Dt → Prop} {i j : Int} {b : Bool} {D : Ends} {n m : Nat}
theorem Cont.any {k : L2.St → Hp → Prop} (h : ∀ es', Cont c k es') : Cont c k es := h es
theorem c_seq (h : Cont c (t { D with nx := u D }) es) : Cont c (tSeq t u D) es := h
theorem c_next (h : Cont c D.nx es) : Cont c (tNext D) es := h
theorem c_asgV (h : EV c te es φ) (k : ∀ d, φ d → Cont c D.nx (es.set n (.dat d))) : Cont c (tAsg te (gName n) D) es := fun σ P H r =>
  h σ P H r _ fun v P1 H1 d hd r1 e1 h1 => k d hd _ P1 H1 (r1.put n h1)
theorem c_asg (h : ED c te es d) (k : Cont c D.nx (es.set n (.dat d))) : Cont c (tAsg te (gName n) D) es := c_asgV h fun _ e => by rw [e]; exact k
theorem c_asgO {ρ : List Dt → Prop} (h : EO c te es ρ) (k : ∀ l ds, ρ ds → Cont c D.nx (es.set n (.own l ds))) : Cont c (tAsg te (gName n) D) es := fun σ P H r =>
  h σ P H r _ fun l P1 H1 ds hd r1 e1 hn _ m => k l ds hd _ P1 H1 (r1.putO n m hn)
theorem c_par {m : Nat} (h : EDs c ts es [x, y]) (k : Cont c D.nx ((es.set n (.dat x)).set m (.dat y))) : Cont c (tPar n m ts D) es := fun σ P H r =>
  h σ P H r _ fun vs P1 H1 l hl r1 e1 h1 => by
    subst hl
    cases h1 with
    | cons a h1 =>
      cases h1 with
      | cons b h1 =>
        cases h1
        exact ⟨_, _, rfl, k _ P1 H1 ((r1.put n a).put m b)⟩
/-- a, b = e -/
theorem c_unpack {m : Nat} (h : ED c te es (.tup [x, y])) (k : Cont c D.nx ((es.set n (.dat x)).set m (.dat y))) : Cont c (tAsg te (gTup c.K 2 (gCons (gName n) (gCons (gName m) gNil))) D) es := fun σ P H r =>
  h σ P H r _ fun v P1 H1 l hl r1 e1 h1 => by
    subst hl
    cases h1 with
    | tup s h1 =>
      cases h1 with
      | cons a h1 =>
        cases h1 with
        | cons b h1 =>
          cases h1
          exact ⟨_, _, rfl, Evl.ex_t r1.ex s, rfl, _, _, rfl, _, _, rfl, rfl, k _ P1 H1 ((r1.put n a).put m b)⟩
theorem c_unpackL {m : Nat} (h : ED c te es (.lst [x, y])) (k : Cont c D.nx ((es.set n (.dat x)).set m (.dat y))) : Cont c (tAsg te (gLst c.K 2 (gCons (gName n) (gCons (gName m) gNil))) D) es := fun σ P H r =>
  h σ P H r _ fun v P1 H1 l hl r1 e1 h1 => by
    subst hl
    cases h1 with
    | lst s h1 =>
      cases h1 with
      | cons a h1 =>
        cases h1 with
        | cons b h1 =>
          cases h1
          exact ⟨_, _, rfl, Evl.ex_l r1.ex s, rfl, _, _, rfl, _, _, rfl, rfl, k _ P1 H1 ((r1.put n a).put m b)⟩
theorem c_aug {f : Int → Int → Int} (h0 : es[n]? = some (.dat (.int i))) (h : ED c te es (.int j)) (k : Cont c D.nx (es.set n (.dat (.int (f i j))))) : Cont c (tAug n te (ipI f) D) es := fun σ P H r => by
  obtain ⟨v, e, z⟩ := r.sl.get h0
  cases z
  exact ⟨_, e, h σ P H r _ fun v P1 H1 d hd r1 e1 h1 => by
    subst hd
    cases h1
    exact ⟨i, j, rfl, rfl, k _ P1 H1 (r1.put n (.int _))⟩⟩
theorem c_if (h : EBd c tt es b) (h1 : b = true → Cont c (t D) es) (h2 : b = false → Cont c (u D) es) : Cont c (tIfS tt t u D) es := fun σ P H r =>
  h σ P H r _ fun a P1 H1 z r1 e1 => by
    subst z
    cases a with
    | true => exact iteT (h1 rfl _ P1 H1 r1)
    | false => exact iteF (h2 rfl _ P1 H1 r1)
theorem c_retV (h : EV c te es φ) (k : RetD c D.rt φ) : Cont c (tRet te D) es := fun σ P H r => h σ P H r _ fun v P1 H1 d hd r1 e1 h1 => k v P1 H1 _ _ d hd r1 h1
theorem c_ret (h : ED c te es d) (k : RetD c D.rt (fun x => x = d)) : Cont c (tRet te D) es := c_retV h k
theorem RetD.imp (k : RetD c D.rt φ) (h : ∀ x, ψ x → φ x) : RetD c D.rt ψ := fun v P H σ es d e r z => k v P H σ es d (h d e) r z
theorem c_drop (h : EV c te es φ) (k : Cont c D.nx es) : Cont c (tDrop te D) es := fun σ P H r => h σ P H r _ fun v P1 H1 d hd r1 e1 h1 => k _ P1 H1 r1
theorem c_brk (k : Cont c D.bk es) : Cont c (tBreak D) es := k
theorem c_cont (k : Cont c D.ct es) : Cont c (tCont D) es := k
/-- xs.append(e), xs one's own -/
theorem c_app {l : Addr} (h0 : es[n]? = some (.own l ds)) (h : EV c te es φ) (hz : ds.length < 100000) (k : ∀ d, φ d → Cont c D.nx (es.set n (.own l (ds ++ [d])))) :
    Cont c (tDrop (tBM c.K "list" rAppend (tVar n) (tCons te tNil)) D) es := fun σ P H r => by
  obtain ⟨e0, _, _, xs, hx, hd⟩ := r.sl.getO h0
  refine ⟨_, e0, .inl ⟨rfl, xs, Evl.sq_of hx⟩, h σ P H r _ fun v P1 H1 d hφ r1 e1 h1 => ?_⟩
  obtain ⟨_, _, _, ys, hy, hd⟩ := r1.sl.getO h0
  exact ⟨l, ys, v, rfl, rfl, hy, Evl.sz_lt (by rw [hd.len]; exact hz), k d hφ _ P1 _ (r1.change h0 (hd.append (.cons h1 .nil)))⟩
/-- xs[j] = e -/
theorem c_set {l : Addr} {j : Nat} (h0 : es[n]? = some (.own l ds)) (h : EV c te es φ) (hj : ED c tb es (.int (j : Int))) (hl : j < ds.length) (k : ∀ d, φ d → Cont c D.nx (es.set n (.own l (ds.set j d)))) :
    Cont c (tAsg te (gSub (tVar n) tb rSetL) D) es := fun σ P H r =>
  h σ P H r _ fun v P1 H1 d hφ r1 e1 h1 => by
    refine ⟨_, (r1.sl.getO h0).1, ?_⟩
    refine hj σ P1 H1 r1 _ fun u P2 H2 z hz r2 e2 h2 => ?_
    subst hz
    cases h2
    obtain ⟨_, _, _, ys, hy, hd⟩ := r2.sl.getO h0
    exact ⟨l, ys, _, j, rfl, rfl, hy, Evl.ixN_nat (by rw [hd.len]; exact hl), k d hφ _ P2 _ (r2.change h0 (hd.set j (Has.mono e2.p _ h1)))⟩
/-! loops -/
/-- the word of a loop: the slots are told by some es with I k es -/
inductive Turn (c : Fr) (I : Nat → List Sv → Prop) (k : Nat) (σ : L2.St) (H : Hp) : Prop
  | mk (P : Hp) (es : List Sv) (h : I k es) (r : Rep c P H σ es)
theorem c_turn {I : Nat → List Sv → Prop} {k : Nat} (h : I k es) : Cont c (Turn c I k) es := fun σ P H r => ⟨P, es, h, r⟩
theorem c_rng1 {I : Nat → List Sv → Prop} (h : ED c ta es (.int i)) (hb : 0 ≤ i ∧ i ≤ 1000000) (h0 : I 0 es)
    (hs : ∀ (k : Nat) es, (k : Int) < i → I k es → Cont c (u { D with nx := Turn c I (k + 1), ct := Turn c I (k + 1), bk := D.nx }) (es.set n (.dat (.int k)))) (hd : ∀ es, I i.toNat es → Cont c D.nx es) :
    Cont c (tFor (iRng1 (tCons ta tNil)) (gName n) u D) es := fun σ P H r =>
  h σ P H r _ fun v P1 H1 z hz r1 e1 h1 => by
    subst hz
    cases h1
    refine ⟨i, rfl, by omega, by omega, for_range (lo := 0) (n := i.toNat) (fun k => Turn c I k) ⟨P1, es, h0, r1⟩ (fun k σ H hk ⟨P, es, hI, r⟩ => ?_) fun σ H ⟨P, es, hI, r⟩ => hd es hI _ P H r⟩
    have e0 : (0 : Int) + (k : Int) = (k : Int) := Int.zero_add _
    rw [e0]
    exact hs k es (by omega) hI _ P H (r.put n (.int _))
theorem c_rng2 {I : Nat → List Sv → Prop} (h : EDs c ts es [.int i, .int j]) (hb : -1000000 ≤ i ∧ i ≤ 1000000 ∧ -1000000 ≤ j ∧ j ≤ 1000000) (h0 : I 0 es)
    (hs : ∀ (k : Nat) es, i + (k : Int) < j → I k es → Cont c (u { D with nx := Turn c I (k + 1), ct := Turn c I (k + 1), bk := D.nx }) (es.set n (.dat (.int (i + k))))) (hd : ∀ es, I (j - i).toNat es → Cont c D.nx es) :
    Cont c (tFor (iRng2 ts) (gName n) u D) es := fun σ P H r =>
  h σ P H r _ fun v P1 H1 z hz r1 e1 h1 => by
    subst hz
    cases h1 with
    | cons a h1 =>
      cases h1 with
      | cons b h1 =>
        cases h1
        cases a
        cases b
        exact ⟨i, j, rfl, ⟨by omega, by omega, by omega, by omega⟩, for_range (lo := i) (n := (j - i).toNat) (fun k => Turn c I k) ⟨P1, es, h0, r1⟩ (fun k σ H hk ⟨P, es, hI, r⟩ =>
          hs k es (by omega) hI _ P H (r.put n (.int _))) fun σ H ⟨P, es, hI, r⟩ => hd es hI _ P H r⟩
end
end My
set_option Elab.async false
set_option linter.all false
set_option maxRecDepth 100000
set_option maxHeartbeats 2000000
/-! Loops and comprehensions over whatever is walked, by data. -/
namespace My
open PySem L2
open Evl (Ex)
abbrev Fr.at (c : Fr) (P : Hp) : Fr := ⟨c.K, c.mu, P, c.H0⟩
/-- what is told later is told of the entry -/
def Low (c : Fr) (P1 : Hp) : Prop := ∀ {P H σ es}, Rep (c.at P1) P H σ es → Rep c P H σ es
section
variable {c : Fr} {es es' : List Sv} {P H P1 H1 : Hp} {σ : L2.St} {k : L2.St → Hp → Prop} {kv : VK} {φ : Dt → Prop}
theorem Sl.at : ∀ {σ : L2.St} {es : List Sv}, Sl c P H σ es → Sl (c.at P1) P H σ es
  | _, _, .nil => .nil
  | _, _, .no h => .no h.at
  | _, _, .dat a h => .dat a h.at
  | _, _, .own a h => .own a h.at
  | _, _, .hand a h => .hand a h.at
theorem Sl.back : ∀ {σ : L2.St} {es : List Sv}, Sl (c.at P1) P H σ es → Sl c P H σ es
  | _, _, .nil => .nil
  | _, _, .no h => .no h.back
  | _, _, .dat a h => .dat a h.back
  | _, _, .own a h => .own a h.back
  | _, _, .hand a h => .hand a h.back
theorem Rep.at (r : Rep c P H σ es) : Rep (c.at P) P H σ es := ⟨.refl P, r.old, r.dom, r.ex, fun _ _ h => .inl h, r.sl.at, r.nd⟩
theorem Rep.low {σ1 : L2.St} {es1 : List Sv} (r : Rep c P1 H1 σ1 es1) : Low c P1 := fun q =>
  ⟨r.b.trans q.b, q.old, q.dom, q.ex, fun a o h => (q.fr a o h).elim (fun z => r.fr a o z) .inr, q.sl.back, q.nd⟩
theorem Rep.up {P2 : Hp} (r : Rep c P H σ es) (L : Ex P1 P) (hf : ∀ a o, P a = some o → P1 a = some o ∨ c.H0 a = none) : Rep (c.at P1) P H σ es := ⟨L, r.old, r.dom, r.ex, hf, r.sl.at, r.nd⟩
theorem Cont.low (L : Low c P1) (h : Cont c k es) : Cont (c.at P1) k es := fun σ P H r => h σ P H (L r)
theorem RetD.low (L : Low c P1) (h : RetD c kv φ) : RetD (c.at P1) kv φ := fun v P H σ es d e r z => h v P H σ es d e (L r) z
end
/-- what a target does with a thing that reads as x; vs: the slots that it sets -/
def TgD (c : Fr) (g : TG) (f : List Sv → List Sv) (vs : List Nat) (x : Dt) : Prop := ∀ v P H σ es (Q : L2.St → Hp → Prop), Rep c P H σ es → Has c.K P v x → (∀ σ', wipe σ' vs = wipe σ vs → Rep c P H σ' (f es) → Q σ' H) → g v σ H Q
section
variable {c : Fr} {es : List Sv} {x y z : Dt} {n m q : Nat}
theorem wipe_get {σ : L2.St} : ∀ {vs : List Nat} {i : Nat}, (wipe σ vs)[i]? = if i ∈ vs then (σ[i]?).map (fun _ => none) else σ[i]?
  | [], i => by rw [if_neg List.not_mem_nil] <;> rfl
  | v :: vs, i => by
    show ((wipe σ vs).set v none)[i]? = _
    rw [List.getElem?_set, wipe_get (vs := vs) (i := i), wipe_length]
    by_cases e : v = i
    · subst e
      rw [if_pos rfl, if_pos List.mem_cons_self]
      by_cases h : v < σ.length
      · rw [if_pos h, List.getElem?_eq_getElem h] <;> rfl
      · rw [if_neg h, List.getElem?_eq_none (by omega)] <;> rfl
    · rw [if_neg e]
      by_cases h : i ∈ vs
      · rw [if_pos h, if_pos (List.mem_cons_of_mem _ h)]
      · rw [if_neg h, if_neg fun z => (List.mem_cons.mp z).elim (fun z => e z.symm) h]
theorem wipe_mem {σ : L2.St} {vs : List Nat} {n : Nat} {o : Option V} (h : n ∈ vs) : wipe (σ.set n o) vs = wipe σ vs := by
  apply List.ext_getElem?
  intro i
  rw [wipe_get, wipe_get]
  by_cases hi : i ∈ vs
  · rw [if_pos hi, if_pos hi, List.getElem?_set]
    by_cases e : n = i
    · subst e
      rw [if_pos rfl]
      by_cases hl : n < σ.length
      · rw [if_pos hl, List.getElem?_eq_getElem hl] <;> rfl
      · rw [if_neg hl, List.getElem?_eq_none (by omega)]
    · rw [if_neg e]
  · rw [if_neg hi, if_neg hi, List.getElem?_set_ne fun e => hi (by rw [← e]; exact h)]
theorem tg_name : TgD c (gName n) (fun es => es.set n (.dat x)) [n] x := fun v P H σ es Q r h q => q _ (wipe_mem List.mem_cons_self) (r.put n h)
theorem tg_two : TgD c (gTup c.K 2 (gCons (gName n) (gCons (gName m) gNil))) (fun es => (es.set n (.dat x)).set m (.dat y)) [n, m] (.tup [x, y]) := fun v P H σ es Q r h q => by
  cases h with
  | tup s h1 =>
    cases h1 with
    | cons a h1 =>
      cases h1 with
      | cons b h1 =>
        cases h1
        exact ⟨_, _, rfl, Evl.ex_t r.ex s, rfl, _, _, rfl, _, _, rfl, rfl, q _ (by rw [wipe_mem (by simp), wipe_mem (by simp)]) ((r.put n a).put m b)⟩
/-- i, (a, b) -/
theorem tg_pair {y1 y2 : Dt} : TgD c (gTup c.K 2 (gCons (gName n) (gCons (gTup c.K 2 (gCons (gName m) (gCons (gName q) gNil))) gNil))) (fun es => ((es.set n (.dat x)).set m (.dat y1)).set q (.dat y2)) [n, m, q] (.tup [x, .tup [y1, y2]]) := fun v P H σ es Q r h k => by
  cases h with
  | tup s h1 =>
    cases h1 with
    | cons a h1 =>
      cases h1 with
      | cons b h1 =>
        cases h1
        cases b with
        | tup s2 h2 =>
          cases h2 with
          | cons b1 h2 =>
            cases h2 with
            | cons b2 h2 =>
              cases h2
              refine ⟨_, _, rfl, Evl.ex_t r.ex s, rfl, _, _, rfl, _, _, rfl, ⟨_, _, rfl, Evl.ex_t r.ex s2, rfl, _, _, rfl, _, _, rfl, rfl, rfl, ?_⟩⟩
              refine k _ ?_ (((r.put n a).put m b1).put q b2)
              rw [wipe_mem (by simp), wipe_mem (by simp), wipe_mem (by simp)]
end
theorem wipe_wipe {σ : L2.St} {vs : List Nat} : wipe (wipe σ vs) vs = wipe σ vs := by
  apply List.ext_getElem?
  intro i
  rw [wipe_get, wipe_get]
  by_cases hi : i ∈ vs
  · rw [if_pos hi, if_pos hi]
    cases σ[i]? <;> rfl
  · rw [if_neg hi, if_neg hi]
/-- what wi walks: things that read as the items of l, one after the other -/
def WI (c : Fr) (wi : TI) (es : List Sv) (l : List Dt) : Prop :=
  ∀ σ P H, Rep c P H σ es → ∀ R : It → Hp → Prop, (∀ J P1 H1 G Y, Rep c P1 H1 σ es → Kp es P H P1 H1 → Walk J l.length G Y → (∀ P' H', Ex P1 P' → Ex P' H' → G H') →
    (∀ i P' H' x H'', i < l.length → Ex P1 P' → Ex P' H' → Y i H' x H'' → ∃ P'' d, Grow P' H' P'' H'' ∧ l[i]? = some d ∧ Has c.K P'' x d) → R J H1) → wi σ H R
/-- a list or a tuple, walked -/
def iSeq (K : PySem.W.Frag) (tl : TE) : TI := fun σ H R => tl σ H fun x H1 => ∃ a, x = .ref a ∧ (((∃ xs, SqL K H1 a xs) ∧ R (Itl K a) H1) ∨ ((∃ xs, SqT K H1 a xs) ∧ R (Itt K a) H1))
def itemsD : Dt → Option (List Dt)
  | .lst l => some l
  | .tup l => some l
  | _ => none
section
variable {c : Fr} {es : List Sv} {ta te : TE} {ts : TA} {x d : Dt} {l : List Dt} {wi : TI} {g : TG} {u : TS} {D : Ends} {i j : Int} {n : Nat}
theorem wi_seq (h : ED c ta es x) (hx : itemsD x = some l) : WI c (iSeq c.K ta) es l := fun σ P H r R q =>
  h σ P H r _ fun v P1 H1 z hz r1 e1 h1 => by
    subst hz
    have yat : ∀ {xs : List V}, HasAll c.K P1 xs l → ∀ i P' H' x H'', i < l.length → Ex P1 P' → Ex P' H' → YAt xs i H' x H'' → ∃ P'' d, Grow P' H' P'' H'' ∧ l[i]? = some d ∧ Has c.K P'' x d := fun {xs} ha i P' H' x H'' hi a b y => by
      obtain ⟨rfl, e⟩ := y
      obtain ⟨d, e2, hd⟩ := ha.get' e
      exact ⟨P', d, .refl b, e2, Has.mono a _ hd⟩
    cases h1 with
    | lst s ha =>
      cases Option.some.inj hx
      exact ⟨_, rfl, .inl ⟨⟨_, Evl.ex_l r1.ex s⟩, q _ P1 H1 _ _ r1 e1 (by rw [← ha.len]; exact walk_list) (fun P' H' a b => Evl.ex_l (a.trans b) s) (yat ha)⟩⟩
    | tup s ha =>
      cases Option.some.inj hx
      exact ⟨_, rfl, .inr ⟨⟨_, Evl.ex_t r1.ex s⟩, q _ P1 H1 _ _ r1 e1 (by rw [← ha.len]; exact walk_tup) (fun P' H' a b => Evl.ex_t (a.trans b) s) (yat ha)⟩⟩
    | _ => cases hx
theorem wi_enum (h : ED c ta es (.lst l)) : WI c (iEnum c.K (tCons ta tNil)) es (l.mapIdx fun k y => .tup [.int k, y]) := fun σ P H r R q =>
  h σ P H r _ fun v P1 H1 z hz r1 e1 h1 => by
    subst hz
    cases h1 with
    | lst s ha =>
      refine ⟨_, _, rfl, Evl.ex_l r1.ex s, q _ P1 H1 _ _ r1 e1 (by rw [List.length_mapIdx, ← ha.len]; exact walk_enum) (fun P' H' a b => Evl.ex_l (a.trans b) s) fun i P' H' x H'' hi a b y => ?_⟩
      obtain ⟨T, x1, x2, rfl, nT, rfl, e2, e3⟩ := y
      obtain ⟨d, e4, hd⟩ := ha.get' e3
      have g := grow_new (o := .tup [x1, x2]) b nT
      refine ⟨_, .tup [.int i, d], g, by rw [List.getElem?_mapIdx, e4] <;> rfl, ?_⟩
      cases Option.some.inj e2
      exact .tup (Evl.st_of upd_same) (.cons (.int _) (.cons (Has.mono (a.trans g.p) _ hd) .nil))
def intsL (lo : Int) (n : Nat) : List Dt := (List.range n).map fun k => .int (lo + (k : Nat))
theorem intsL_len {lo : Int} {n : Nat} : (intsL lo n).length = n := by
  unfold intsL
  rw [List.length_map, List.length_range]
theorem intsL_get {lo : Int} {n k : Nat} (h : k < n) : (intsL lo n)[k]? = some (.int (lo + (k : Nat))) := by
  unfold intsL
  rw [List.getElem?_map, List.getElem?_range h] <;> rfl
theorem wi_rng1 (h : ED c ta es (.int i)) (hb : -1000000000 ≤ i ∧ i ≤ 1000000000) : WI c (iRng1 (tCons ta tNil)) es (intsL 0 i.toNat) := fun σ P H r R q =>
  h σ P H r _ fun v P1 H1 z hz r1 e1 h1 => by
    subst hz
    cases h1
    refine ⟨i, rfl, by omega, by omega, q _ P1 H1 _ _ r1 e1 (by rw [intsL_len]; exact walk_range) (fun _ _ _ _ => trivial) fun k P' H' x H'' hk a b y => ?_⟩
    rw [intsL_len] at hk
    obtain ⟨rfl, rfl⟩ := y
    exact ⟨P', _, .refl b, intsL_get hk, .int _⟩
theorem wi_rng2 (h : EDs c ts es [.int i, .int j]) (hb : -1000000000 ≤ i ∧ i ≤ 1000000000 ∧ -1000000000 ≤ j ∧ j ≤ 1000000000) : WI c (iRng2 ts) es (intsL i (j - i).toNat) := fun σ P H r R q =>
  h σ P H r _ fun v P1 H1 z hz r1 e1 h1 => by
    subst hz
    cases h1 with
    | cons a h1 =>
      cases h1 with
      | cons b h1 =>
        cases h1
        cases a
        cases b
        refine ⟨i, j, rfl, ⟨by omega, by omega, by omega, by omega⟩, q _ P1 H1 _ _ r1 e1 (by rw [intsL_len]; exact walk_range) (fun _ _ _ _ => trivial) fun k P' H' x H'' hk a b y => ?_⟩
        rw [intsL_len] at hk
        obtain ⟨rfl, rfl⟩ := y
        exact ⟨P', _, .refl b, intsL_get hk, .int _⟩
/-! loops -/
theorem c_for {I : Nat → List Sv → Prop} {f : Dt → List Sv → List Sv} {vs : List Nat} (h : WI c wi es l) (h0 : I 0 es) (hg : ∀ P y, y ∈ l → TgD (c.at P) g (f y) vs y)
    (hs : ∀ P1, Low c P1 → ∀ k y es, l[k]? = some y → I k es → Cont (c.at P1) (u { D with nx := Turn (c.at P1) I (k + 1), ct := Turn (c.at P1) I (k + 1), bk := D.nx }) (f y es)) (hd : ∀ es, I l.length es → Cont c D.nx es) :
    Cont c (tFor wi g u D) es := fun σ P H r =>
  h σ P H r _ fun J P1 H1 G Y r1 e1 w hG hY => by
    have L : Low c P1 := r1.low
    refine for_it w (fun k => Turn (c.at P1) I k) ⟨P1, es, h0, r1.at⟩ (fun k σ H hk ⟨P, es, hI, r⟩ => hG P H r.b r.ex) (fun k x σ H H' hk ⟨P, es, hI, r⟩ y => ?_) fun σ H ⟨P, es, hI, r⟩ => hd es hI _ P H (L r)
    obtain ⟨P', d, g', e, hx⟩ := hY k P H x H' hk r.b r.ex y
    exact hg P1 d (List.mem_of_getElem? e) x P' H' σ es _ (r.step g') hx fun σ' _ r' => hs P1 L k d es e hI _ P' H' r'
end
/-! comprehensions -/
def wipeE (es : List Sv) : List Nat → List Sv
  | [] => es
  | v :: vs => (wipeE es vs).set v .no
theorem Rep.wipe {c : Fr} {es : List Sv} {P H : Hp} {σ : L2.St} (r : Rep c P H σ es) : ∀ vs : List Nat, Rep c P H (wipe σ vs) (wipeE es vs)
  | [] => r
  | v :: vs => (r.wipe vs).drop v
section
variable {c : Fr} {es : List Sv} {te : TE} {tt : TT} {l : List Dt} {wi : TI} {g : TG}
theorem eo_lc {f : Dt → List Sv → List Sv} {vs : List Nat} {p : Dt → Bool} {fn : Dt → Dt} (hh : handsOf es = []) (h : WI c wi es l) (hl : l.length ≤ 1000000) (hg : ∀ P y, y ∈ l → TgD (c.at P) g (f y) vs y)
    (hf : ∀ y ∈ l, handsOf (f y (wipeE es vs)) = []) (ht : ∀ P, Low c P → ∀ y ∈ l, EBd (c.at P) tt (f y (wipeE es vs)) (p y)) (he : ∀ P, Low c P → ∀ y ∈ l, p y = true → ED (c.at P) te (f y (wipeE es vs)) (fn y)) :
    EO c (tLc wi g tt te vs) es (fun r => r = (l.filter p).map fn) := fun σ P H r Q q =>
  h σ P H r _ fun J P1 H1 G Y r1 e1 w hG hY => fun a ha => by
    have L : Low c P1 := r1.low
    have na := r1.fresh ha
    let Pv : Nat → Hp → Prop := fun i H => ∃ P xs, Rep (c.at P1) P H σ es ∧ Kp es P1 H1 P H ∧ P a = none ∧ H a = some (.lst xs) ∧ HasAll c.K P xs (((l.take i).filter p).map fn)
    have g0 := grow_own (o := .lst []) r1.ex ha
    refine lc_it w Pv ⟨P1, [], r1.at.step g0, .of g0, none_back r1.ex ha, upd_same, .nil⟩ (fun i H _ ⟨P, xs, r, _⟩ => hG P H r.b r.ex) (fun i x H H' hi ⟨P, xs, r, eH, hPa, hHa, hd⟩ y => ?_) fun H ⟨P, xs, r, eH, hPa, hHa, hd⟩ => ?_
    · obtain ⟨P', d, g', e, hx⟩ := hY i P H x H' hi r.b r.ex y
      have hm : d ∈ l := List.mem_of_getElem? e
      have r2 := r.step g'
      have tk : l.take (i + 1) = l.take i ++ [d] := by rw [List.take_add_one, e] <;> rfl
      refine hg P1 d hm x P' H' _ _ _ (r2.wipe vs) hx fun σ' hw r3 => ⟨by rw [hw]; exact wipe_wipe, ?_⟩
      refine ht P1 L d hm σ' P' H' r3 _ fun b P3 H3 hb r4 k4 => ?_
      have hands : ∀ {b : Addr}, b ∉ handsOf (f d (wipeE es vs)) := fun {b} => by rw [hf d hm]; exact List.not_mem_nil
      have hPa' : P' a = none := by
        cases z : P' a with
        | none => rfl
        | some o =>
          rcases g'.f _ _ z with z | z
          · rw [hPa] at z; cases z
          · rw [hHa] at z; cases z
      have hHa' := g'.h _ _ hHa
      subst hb
      cases hp : p d with
      | false =>
        refine iteF ?_
        have g4 := k4.grow (hf d hm) r4.ex
        have r5 := r2.step g4
        refine ⟨P3, xs, r5, (eH.trans (.of g')).trans (.of g4), ?_, g4.h _ _ hHa', ?_⟩
        · cases z : P3 a with
          | none => rfl
          | some o =>
            rcases g4.f _ _ z with z | z
            · rw [hPa'] at z; cases z
            · rw [hHa'] at z; cases z
        · rw [tk, List.filter_append, List.filter_cons, if_neg (by rw [hp]; decide), List.filter_nil, List.append_nil]
          exact HasAll.mono (g'.p.trans g4.p) _ hd
      | true =>
        refine iteT ?_
        refine he P1 L d hm hp σ' P3 H3 r4 _ fun v P4 H4 dv hv r6 k6 hx6 => ?_
        subst hv
        have g4 := k4.grow (hf d hm) r4.ex
        have g6 := k6.grow (hf d hm) r6.ex
        have g7 := g4.trans g6
        have hPa4 : P4 a = none := by
          cases z : P4 a with
          | none => rfl
          | some o =>
            rcases g7.f _ _ z with z | z
            · rw [hPa'] at z; cases z
            · rw [hHa'] at z; cases z
        have hHa4 := g7.h _ _ hHa'
        have hd4 := HasAll.mono (g'.p.trans g7.p) _ hd
        have len : xs.length ≤ l.length := by
          rw [hd.len, List.length_map]
          exact Nat.le_trans (List.length_filter_le _ _) (by rw [List.length_take]; omega)
        refine ⟨xs, hHa4, Nat.lt_of_le_of_lt (Nat.le_trans len hl) (by decide), P4, xs ++ [v], ?_, ?_, hPa4, upd_same, ?_⟩
        · have r7 := r2.step g7
          exact ⟨r7.b, fun b o m h => by
            by_cases z : b = a
            · subst z
              have q1 := r1.dom b ha
              rw [show (c.at P1).H0 b = c.H0 b from rfl, q1] at h; cases h
            · rw [upd_ne z]; exact r7.old b o m h, fun b h => by
            by_cases z : b = a
            · subst z; rw [upd_same] at h; cases h
            · rw [upd_ne z] at h; exact r7.dom b h, fun b o h => by
            by_cases z : b = a
            · subst z; rw [hPa4] at h; cases h
            · rw [upd_ne z]; exact r7.ex b o h, r7.fr, r7.sl.turn hPa4 na, r7.nd⟩
        · exact ((eH.trans (.of g')).trans (.of g7)).put ha
        · rw [tk, List.filter_append, List.filter_cons, if_pos hp, List.filter_nil, List.map_append]
          exact hd4.append (.cons hx6 .nil)
    · have et : l.take l.length = l := List.take_length
      rw [et] at hd
      have r' := L r
      exact q a P H _ rfl r' (e1.trans eH) na (e1.n a ha) ⟨.inl (r1.dom a ha), hPa, xs, hHa, hd⟩
end
end My
set_option Elab.async false
set_option linter.all false
set_option maxRecDepth 100000
set_option maxHeartbeats 2000000
/-! Defs by their names; division by any number; what is raised, by data. -/
namespace My
open PySem L2
open Evl (Ex)
/-! ### a def that a name of the module stands for -/
structure Fd (P : Program) (w : World) (K : PySem.W.Frag) (mg : Str → Option Value) (base : Heap) (k : Nat) (x : Str) (ps : List Str) (dvs : List V) (sp : Sp) : Prop where
  ex : ∃ f fd ds, FnOk P w K mg base (L2.CX P w) k f fd ps sp ∧ Binds K fd ps ds ∧ Vals dvs ds ∧ mg x = some (.ref f) ∧ PySem.W.keepIn K (.ref f) = true
section
variable {X : Cx} {k : Nat} {x : Str} {ps : List Str} {sp : Sp} {dvs : List V} {p pos : Pos} {e : Expr} {es : List Expr} {t : TA}
theorem pe_fd (C : Fd X.prog X.w X.K X.mg X.base k x ps dvs sp) (hr : Room k X.A) (ha : PA X (e :: es) t) (hg : Gl X x := by rfl) (hdb : (x == ("__debug__" : Str)) = false := by decide) (he : starEach (e :: es) X.env = (false, eval e X.env) :: starEach es X.env := by rfl)
    (hpl : (backTo pos (starEach es X.env)).any (·.1) = false := by rfl) : PE X (.Call (.Name x p) (e :: es) [] pos) (tCall sp dvs E0 t) := by
  obtain ⟨f, fd, ds, F, hb, hd, hm, hk⟩ := C.ex
  exact pe_call F hr hg hm hk hb hd passL ha hdb he hpl
/-- .. that may raise, W is wished for -/
theorem pe_fdS (C : Fd X.prog X.w X.K X.mg X.base k x ps [] sp) (hr : Room k X.A) {W : WX} (tk : Takes X W) (ha : PA X (e :: es) t) (hg : Gl X x := by rfl) (hdb : (x == ("__debug__" : Str)) = false := by decide)
    (he : starEach (e :: es) X.env = (false, eval e X.env) :: starEach es X.env := by rfl) (hpl : (backTo pos (starEach es X.env)).any (·.1) = false := by rfl) : PE X (.Call (.Name x p) (e :: es) [] pos) (tCallS sp (WE W) t) := by
  obtain ⟨f, fd, ds, F, hb, hd, hm, hk⟩ := C.ex
  cases hd
  exact pe_callS F hr hg hm hk hb (fun σ => passAt tk σ) ha hdb he hpl
end
/-! ### a list or a tuple, walked -/
theorem pi_seq {X : Cx} {tg l : Expr} {tl : TE} (hl : PE X l tl) : PI X tg l (iSeq X.K tl) := by
  refine ⟨fun pins s σ H R I h => ?_⟩
  refine thn (hl.run pins s σ H _ I h) fun v s1 hh => ?_
  obtain ⟨x, H1, I1, r1, a, rfl, z⟩ := hh
  obtain rfl : v = Value.ref a := r1
  have nw : ∀ b ∈ [s1.heap.objs.size], FpOk X pins H1 b := fun b hb => by
    obtain rfl : b = s1.heap.objs.size := by simpa using hb
    exact I1.fpOk (Nat.le_refl _) (I1.hok.fresh (Nat.le_refl _))
  rcases z with ⟨⟨xs, hq⟩, q⟩ | ⟨⟨xs, hq⟩, q⟩
  · obtain ⟨its, rv, pl, hz⟩ := I1.list hq
    exact wpAny_pyIter_list pl.isList ⟨s1.heap.objs.size, [s1.heap.objs.size], _, _, H1, rfl, I1.kept (t' := s1.toks) fun b o e => Heap.get?_push_of_some _ e, turn_list a _, ⟨_, Heap.get?_push_size _ rfl, rfl, rfl⟩, nw, q⟩
  · obtain ⟨its, rv, pl, hz⟩ := I1.tuple hq
    exact wpAny_pyIter_tuple (show s1.heap.IsTuple a its.toArray from pl) ⟨s1.heap.objs.size, [s1.heap.objs.size], _, _, H1, rfl, I1.kept (t' := s1.toks) fun b o e => Heap.get?_push_of_some _ e, turn_tuple a _, ⟨_, Heap.get?_push_size _ rfl, rfl, rfl⟩, nw, q⟩
/-! ### division by whatever is not 0 -/
def CDivA (_ j : Int) : Prop := j ≠ 0 ∧ j.natAbs.log2 < 9000
theorem op_fdivA {X : Cx} : OpR X (binaryOp .FloorDiv) (rI CDivA fun i j => .int (i.fdiv j)) := opI fun i j _ _ _ _ _ hc q => PyProof.Rows.floordiv_int hc.1 q (.inl (PyProof.noPylong_of_log2 hc.2))
theorem cdivA {i j : Int} {b : Nat} (h : j ≠ 0) (hb : j.natAbs < 2 ^ b) (h0 : 0 < b) (h9 : b ≤ 9000) : CDivA i j := ⟨h, Nat.lt_of_lt_of_le (PySem.Flt.log2_lt_of h0 hb) h9⟩
/-! ### what is raised -/
inductive Out where
  | ok (d : Dt)
  | ex (C : Addr) (ns : List Str) (ds : List Dt)
/-- R ds o: of things that read as ds comes o -/
def spX (K : PySem.W.Frag) (R : List Dt → Out → Prop) : Sp := fun vs H Q E => ∃ P ds, Ex P H ∧ HasAll K P vs ds ∧ (∃ o, R ds o) ∧
  (∀ v P' H' d, R ds (.ok d) → Grow P H P' H' → Has K P' v d → Q v H') ∧
  (∀ dx P' H' C fs fd, R ds (.ex C (fs.map (·.1)) fd) → Grow P H P' H' → H dx = none → P' dx = none → H' dx = some (.xd fs) → HasAll K P' (fs.map (·.2)) fd → E (.ref C) (some dx) H')
/-- the wish of a def's own way out -/
def XtD (c : Fr) (E : XK) (R : Out → Prop) : Prop := ∀ dx P H σ es C fs fd, R (.ex C (fs.map (·.1)) fd) → Rep c P H σ es → c.H0 dx = none → P dx = none → H dx = some (.xd fs) → HasAll c.K P (fs.map (·.2)) fd → E (.ref C) (some dx) H
section
variable {c : Fr} {es : List Sv} {te ta tb tx : TE} {tt tu : TT} {ts : TA} {d x y : Dt} {ds dd : List Dt} {R : List Dt → Out → Prop} {dvs : List V} {D : Ends} {E : XK} {C : Addr} {f : Str}
/-- a call that surely comes back -/
theorem ed_callX (h : EDs c ts es ds) (hd : ∀ P, HasAll c.K P dvs dd) (hR : R (ds ++ dd) (.ok d)) (h1 : ∀ o, R (ds ++ dd) o → o = .ok d) : ED c (tCall (spX c.K R) dvs E ts) es d := fun σ P H r Q q =>
  h σ P H r _ fun vs P1 H1 l hl r1 e1 k1 => by
    subst hl
    refine ⟨P1, l ++ dd, r1.ex, k1.append (hd P1), ⟨_, hR⟩, fun v P2 H2 x hr g hv => ?_, fun dx P2 H2 C fs fd hr _ _ _ _ _ => by cases h1 _ hr⟩
    cases h1 _ hr
    exact q v P2 H2 _ rfl (r1.step g) (e1.trans (.of g)) hv
/-- the __init__ of an error with one field -/
def spIni1 (K : PySem.W.Frag) (C : Addr) (f : Str) : Sp := fun vs H Q _ => ∃ (a : Addr) (v : V), vs = [.ref a, v] ∧ H a = some (exo a C none) ∧ ∀ dx, H dx = none → dx ≠ a → Q .non (upd (upd H dx (exd dx [(f, v)])) a (exo a C (some dx)))
def spIni2 (K : PySem.W.Frag) (C : Addr) (f g : Str) : Sp := fun vs H Q _ => ∃ (a : Addr) (v u : V), vs = [.ref a, v, u] ∧ H a = some (exo a C none) ∧
  ∀ dx, H dx = none → dx ≠ a → Q .non (upd (upd (upd H dx (exd dx [(f, v)])) a (exo a C (some dx))) dx (exd dx [(g, u), (f, v)]))
/-- raise C(e) -/
theorem c_raise1 {Ro : Out → Prop} {ns : List Str} (h : EDs c ts es [x]) (hk : XtD c E Ro) (hR : Ro (.ex C [f] [x])) (hn : ns = [f]) : Cont c ((fun (_ : Ends) σ H => tMkO C (spIni1 c.K C f) [] ts σ H fun cls d H' => E cls d H') D) es := fun σ P H r =>
  h σ P H r _ fun vs P1 H1 l hl r1 e1 k1 => by
    subst hl
    cases k1 with
    | @cons v _ _ _ kx k1 =>
      cases k1
      refine ⟨by show 1 ≤ 1000; decide, fun a ha => ⟨a, v, rfl, upd_same, fun dx hdx ne => ⟨rfl, dx, [(f, v)], upd_same, ?_, ?_, ?_⟩⟩⟩
      · rw [upd_ne ne, upd_same]
      · rw [upd_ne ne] at hdx; exact hdx
      · have hd0 : H1 dx = none := by rw [upd_ne ne] at hdx; exact hdx
        have e : upd (del (upd (upd (upd H1 a (exo a C none)) dx (exd dx [(f, v)])) a (exo a C (some dx))) a) dx (.xd [(f, v)]) = upd H1 dx (.xd [(f, v)]) := by
          funext b
          by_cases z : b = dx
          · subst z; rw [upd_same, upd_same]
          · rw [upd_ne z, upd_ne z]
            by_cases z2 : b = a
            · subst z2; rw [del_same, ha]
            · rw [del_ne z2, upd_ne z2, upd_ne z, upd_ne z2]
        rw [e]
        have g := grow_own (o := .xd [(f, v)]) r1.ex hd0
        exact hk dx P1 _ σ es C [(f, v)] [x] hR (r1.step g) (r1.dom dx hd0) (none_back r1.ex hd0) upd_same (.cons kx .nil)
end
end My
set_option Elab.async false
set_option linter.all false
set_option maxRecDepth 100000
set_option maxHeartbeats 2000000
/-! Calls by keywords, texts, tuples one behind the other, copies. -/
namespace My
open PySem L2
open Evl (Ex)
structure Fk (P : Program) (w : World) (K : PySem.W.Frag) (mg : Str → Option Value) (base : Heap) (k : Nat) (x : Str) (ps ks : List Str) (gV : List V → List V → List V) (sp : Sp) : Prop where
  ex : ∃ f fd g, FnOk P w K mg base (L2.CX P w) k f fd ps sp ∧ KBinds K fd ps ks g gV ∧ mg x = some (.ref f) ∧ PySem.W.keepIn K (.ref f) = true
section
variable {X : Cx} {k : Nat} {x : Str} {ps ks : List Str} {sp : Sp} {gV : List V → List V → List V} {p pos : Pos} {e : Expr} {es : List Expr} {kws : List Keyword} {t tk : TA}
theorem pe_fk (C : Fk X.prog X.w X.K X.mg X.base k x ps ks gV sp) (hr : Room k X.A) (ha : PA X (e :: es) t) (hkw : PK X kws tk) (hg : Gl X x := by rfl) (hall : (backToKw pos (keywordEach kws X.env)).all (·.1.isSome) = true := by rfl)
    (hks : (backToKw pos (keywordEach kws X.env)).filterMap (·.1) = ks := by rfl) (hdb : (x == ("__debug__" : Str)) = false := by decide) (he : starEach (e :: es) X.env = (false, eval e X.env) :: starEach es X.env := by rfl)
    (hpl : ((backTo pos (starEach (e :: es) X.env)).any (·.1) || (backToKw pos (keywordEach kws X.env)).any (·.1.isNone)) = false := by rfl) : PE X (.Call (.Name x p) (e :: es) kws pos) (tCallK sp gV E0 t tk) := by
  obtain ⟨f, fd, g, F, hb, hm, hk⟩ := C.ex
  exact pe_callK F hr hg hm hk hb passL ha hkw hall hks hdb he hpl
/-- texts one behind the other -/
def rAddS : R2 := fun x y H Q => ∃ i j, x = .str i ∧ y = .str j ∧ i.length + j.length ≤ sizeLine ∧ Q (.str (i ++ j)) H
theorem op_addS {X : Cx} : OpR X (binaryOp .Add) rAddS := op_add_str
def tJoin (ts : List TE) : TE := fun σ H Q => tJs ts Str.empty σ H fun out H1 => Q (.str out) H1
def rTupleOf (K : PySem.W.Frag) : List V → Hp → VK → Prop := fun xs H Q => ∃ p ys, xs = [.ref p] ∧ ((SqL K H p ys ∧ ∀ l, H l = none → Q (.ref l) (upd H l (.tup ys))) ∨ (SqT K H p ys ∧ Q (.ref p) H))
end
section
variable {c : Fr} {es : List Sv} {te ta tb tx : TE} {tt tu : TT} {ts : TA} {d x y : Dt} {ds dd : List Dt} {R : List Dt → Dt → Prop} {i j : Int} {a b : Str}
theorem ed_addS (ha : ED c ta es (.str a)) (hb : ED c tb es (.str b)) (h : a.length + b.length ≤ 100000) : ED c (tOp rAddS ta tb) es (.str (a ++ b)) :=
  ed_op ha hb (rd_sc (fun _ => .str _) fun v u P H _ hv hu Q q => by cases hv; cases hu; exact ⟨a, b, rfl, rfl, Evl.sz_of h, q⟩)
theorem ed_fmtI (h : ED c te es (.int i)) (hi : i.natAbs.log2 < 1920) : ED c (tFmt te) es (.str (toString i)) := fun σ P H r Q q => h σ P H r _ fun v P1 H1 z hz r1 e1 h1 => by
  subst hz
  cases h1
  exact .inr ⟨i, rfl, hi, q _ P1 H1 _ rfl r1 e1 (.str _)⟩
theorem ed_fmtS (h : ED c te es (.str a)) (hi : a.length ≤ 100000) : ED c (tFmt te) es (.str a) := fun σ P H r Q q => h σ P H r _ fun v P1 H1 z hz r1 e1 h1 => by
  subst hz
  cases h1
  exact .inl ⟨a, rfl, Evl.sz_of hi, q _ P1 H1 _ rfl r1 e1 (.str _)⟩
/-- three parts of an f-string -/
theorem ed_join3 {t1 t2 t3 : TE} {a1 a2 a3 : Str} (h1 : ED c t1 es (.str a1)) (h2 : ED c t2 es (.str a2)) (h3 : ED c t3 es (.str a3)) (hl : a1.length + a2.length + a3.length ≤ 100000) : ED c (tJoin [t1, t2, t3]) es (.str (((Str.empty ++ a1) ++ a2) ++ a3)) := fun σ P H r Q q =>
  h1 σ P H r _ fun v P1 H1 z hz r1 e1 k1 => by
    subst hz
    cases k1
    refine ⟨a1, rfl, Evl.sz_of (by rw [Str.length_append]; show 0 + _ ≤ _; omega), h2 σ P1 H1 r1 _ fun v P2 H2 z hz r2 e2 k2 => ?_⟩
    subst hz
    cases k2
    refine ⟨a2, rfl, Evl.sz_of (by rw [Str.length_append, Str.length_append]; show 0 + _ + _ ≤ _; omega), h3 σ P2 H2 r2 _ fun v P3 H3 z hz r3 e3 k3 => ?_⟩
    subst hz
    cases k3
    exact ⟨a3, rfl, Evl.sz_of (by rw [Str.length_append, Str.length_append, Str.length_append]; show 0 + _ + _ + _ ≤ _; omega), q _ P3 H3 _ rfl r3 ((e1.trans e2).trans e3) (.str _)⟩
/-- tuple + tuple -/
theorem ed_catT {l m : List Dt} (ha : ED c ta es (.tup l)) (hb : ED c tb es (.tup m)) (h1 : l ≠ []) (h2 : m ≠ []) (hl : l.length + m.length ≤ 100000) : ED c (tOp (rCatT c.K) ta tb) es (.tup (l ++ m)) :=
  ed_op ha hb fun v u P H e hv hu Q q => by
    cases hv with
    | @tup _ xs _ s k =>
      cases hu with
      | @tup _ ys _ s2 k2 =>
        refine ⟨_, _, _, _, rfl, rfl, Evl.ex_t e s, Evl.ex_t e s2, fun z => ?_, Evl.sz_of (by rw [k.len, k2.len]; exact hl), fun z => ?_, fun _ p hp => ?_⟩
        · rw [z] at k
          cases k
          exact h1 rfl
        · rw [z] at k2
          cases k2
          exact (h2 rfl).elim
        · have g := grow_new (o := .tup (xs ++ ys)) e hp
          exact q _ _ _ _ rfl g (.tup (Evl.st_of upd_same) ((HasAll.mono g.p _ k).append (HasAll.mono g.p _ k2)))
/-- list(x), a fresh one -/
theorem eo_list {l : List Dt} (ha : ED c ta es x) (hx : itemsD x = some l) : EO c (tCB (Evl.rListS c.K) (tCons ta tNil)) es (fun r => r = l) := fun σ P H r Q q =>
  ha σ P H r _ fun v P1 H1 z hz r1 e1 h1 => by
    subst hz
    cases h1 with
    | @lst _ xs _ s k =>
      cases Option.some.inj hx
      refine ⟨_, _, rfl, .inl (Evl.ex_l r1.ex s), fun p hp => ?_⟩
      have g := grow_own (o := .lst xs) r1.ex hp
      exact q p P1 _ _ rfl (r1.step g) (e1.trans (.of g)) (r1.fresh hp) (e1.n p hp) ⟨.inl (r1.dom p hp), none_back r1.ex hp, _, upd_same, k⟩
    | @tup _ xs _ s k =>
      cases Option.some.inj hx
      refine ⟨_, _, rfl, .inr (Evl.ex_t r1.ex s), fun p hp => ?_⟩
      have g := grow_own (o := .lst xs) r1.ex hp
      exact q p P1 _ _ rfl (r1.step g) (e1.trans (.of g)) (r1.fresh hp) (e1.n p hp) ⟨.inl (r1.dom p hp), none_back r1.ex hp, _, upd_same, k⟩
    | _ => cases hx
/-- tuple(x) -/
theorem ed_tupleOf {l : List Dt} (ha : ED c ta es x) (hx : itemsD x = some l) : ED c (tCB (rTupleOf c.K) (tCons ta tNil)) es (.tup l) := fun σ P H r Q q =>
  ha σ P H r _ fun v P1 H1 z hz r1 e1 h1 => by
    subst hz
    cases h1 with
    | @lst _ xs _ s k =>
      cases Option.some.inj hx
      refine ⟨_, _, rfl, .inl ⟨Evl.ex_l r1.ex s, fun p hp => ?_⟩⟩
      have g := grow_new (o := .tup xs) r1.ex hp
      exact q _ _ _ _ rfl (r1.step g) (e1.trans (.of g)) (.tup (Evl.st_of upd_same) (HasAll.mono g.p _ k))
    | tup s k =>
      cases Option.some.inj hx
      exact ⟨_, _, rfl, .inr ⟨Evl.ex_t r1.ex s, q _ P1 H1 _ rfl r1 e1 (.tup s k)⟩⟩
    | _ => cases hx
/-- a list of one's own is data from here on -/
theorem c_give {k : L2.St → Hp → Prop} {n : Nat} {l : Addr} (hn : es[n]? = some (.own l ds)) (hm : c.mu = []) (h : Cont c k (es.set n (.dat (.lst ds)))) : Cont c k es := fun σ P H r => by
  obtain ⟨e0, m1, m2, xs, hx, hd⟩ := r.sl.getO hn
  have m0 : c.H0 l = none := m1.elim id fun z => by rw [hm] at z; cases z
  have r1 := r.drop (o := none) n
  have nl : l ∉ owns (es.set n .no) := by
    have key : ∀ {es : List Sv} {n : Nat}, (owns es).Nodup → es[n]? = some (.own l ds) → l ∉ owns (es.set n .no) := by
      intro es
      induction es with
      | nil => intro n _ e; simp at e
      | cons s es ih =>
        intro n nd e
        cases n with
        | zero =>
          cases Option.some.inj e
          exact (List.nodup_cons.mp nd).1
        | succ n =>
          have e' : es[n]? = some (.own l ds) := by simpa using e
          cases s with
          | no => exact ih nd e'
          | dat _ => exact ih nd e'
          | own a _ =>
            have nd' := List.nodup_cons.mp (show (a :: owns es).Nodup from nd)
            intro m
            rcases List.mem_cons.mp (show l ∈ a :: owns (es.set n .no) from m) with z | z
            · exact nd'.1 (by rw [← z]; exact owns_mem (.inl e'))
            · exact ih nd'.2 e' z
          | hand a =>
            have nd' := List.nodup_cons.mp (show (a :: owns es).Nodup from nd)
            intro m
            rcases List.mem_cons.mp (show l ∈ a :: owns (es.set n .no) from m) with z | z
            · exact nd'.1 (by rw [← z]; exact owns_mem (ds := ds) (.inl e'))
            · exact ih nd'.2 e' z
    exact key r.nd hn
  have r2 := r1.give nl m0 m2 hx
  have r3 := r2.put n (v := .ref l) (d := .lst ds) (.lst (Evl.sq_of upd_same) (HasAll.mono (Ex.new m2) _ hd))
  rw [List.set_set, List.set_set] at r3
  have e1 : σ.set n (some (.ref l)) = σ := by
    obtain ⟨hl, hv⟩ := List.getElem?_eq_some_iff.mp e0
    rw [← hv]
    exact List.set_getElem_self hl
  rw [e1] at r3
  exact h σ _ H r3
/-- .. a hand -/
theorem c_hand {k : L2.St → Hp → Prop} {n : Nat} {l : Addr} (hn : es[n]? = some (.own l ds)) (hk : HandOk ds) (h : Cont c k (es.set n (.hand l))) : Cont c k es := fun σ P H r => by
  have key : ∀ {σ : L2.St} {es : List Sv} {n : Nat}, Sl c P H σ es → es[n]? = some (.own l ds) → Sl c P H σ (es.set n (.hand l)) ∧ owns (es.set n (.hand l)) = owns es := by
    intro σ es n s
    induction s generalizing n with
    | nil => intro e; simp at e
    | no s ih =>
      intro e
      cases n with
      | zero => simp at e
      | succ n =>
        obtain ⟨a, b⟩ := ih (n := n) (by simpa using e)
        exact ⟨.no a, b⟩
    | dat z s ih =>
      intro e
      cases n with
      | zero => simp at e
      | succ n =>
        obtain ⟨a, b⟩ := ih (n := n) (by simpa using e)
        exact ⟨.dat z a, b⟩
    | own z s ih =>
      intro e
      cases n with
      | zero =>
        obtain ⟨e1, e2⟩ := Sv.own.inj (Option.some.inj e)
        subst e1 e2
        exact ⟨.hand ⟨_, hk, z⟩ s, rfl⟩
      | succ n =>
        obtain ⟨a, b⟩ := ih (n := n) (by simpa using e)
        exact ⟨.own z a, congrArg (List.cons _) b⟩
    | hand z s ih =>
      intro e
      cases n with
      | zero => simp at e
      | succ n =>
        obtain ⟨a, b⟩ := ih (n := n) (by simpa using e)
        exact ⟨.hand z a, congrArg (List.cons _) b⟩
  obtain ⟨s, ow⟩ := key r.sl hn
  exact h σ P H ⟨r.b, r.old, r.dom, r.ex, r.fr, s, by rw [ow]; exact r.nd⟩
end
end My
set_option Elab.async false
set_option linter.all false
set_option maxRecDepth 100000
set_option maxHeartbeats 2000000
/-! From what a body does to data, to the def's promise. -/
namespace My
open PySem PySem.Spec PyProof.Rows L2
open Evl (Ex)
theorem sl_nos {c : Fr} {P H : Hp} : ∀ n : Nat, Sl c P H (List.replicate n none) (List.replicate n .no)
  | 0 => .nil
  | n + 1 => .no (sl_nos n)
theorem sl_start {c : Fr} {P H : Hp} {n : Nat} : ∀ {ds : List Dt} {vs : List V}, HasAll c.K P vs ds → Sl c P H (vs.map some ++ List.replicate n none) (ds.map Sv.dat ++ List.replicate n .no)
  | [], _, h => by cases h; exact sl_nos n
  | d :: ds, _, h => by
    cases h with
    | cons a b => exact .dat a (sl_start b)
theorem owns_start (n : Nat) : ∀ ds : List Dt, owns (ds.map Sv.dat ++ List.replicate n .no) = []
  | [] => by
    show owns (List.replicate n .no) = []
    induction n with
    | zero => rfl
    | succ n ih => exact ih
  | _ :: ds => owns_start n ds
/-- the slots at the entry -/
abbrev args (ds : List Dt) (n : Nat) : List Sv := ds.map Sv.dat ++ List.replicate n .no
theorem rep_start {K : PySem.W.Frag} {P H : Hp} {ds : List Dt} {vs : List V} {n : Nat} (e : Ex P H) (h : HasAll K P vs ds) : Rep ⟨K, [], P, H⟩ P H (vs.map some ++ List.replicate n none) (args ds n) :=
  ⟨.refl P, fun _ _ _ h => h, fun _ h => h, e, fun _ _ h => .inl h, sl_start h, by rw [owns_start]; exact List.nodup_nil⟩
theorem start_eq {N : List Str} {vs : List V} {n : Nat} (h : N.length = vs.length + n) : L2.start N vs = vs.map some ++ List.replicate n none := by
  unfold L2.start
  rw [h, Nat.add_sub_cancel_left]
section
variable {P : Program} {w : World} {K : PySem.W.Frag} {mg : Str → Option Value} {base : Heap} {x : Str} {st : Stmt} {N ps : List Str} {m n : Nat} {R : List Dt → Dt → Prop} {RO : List Dt → List Dt → Prop} {RX : List Dt → Out → Prop} {fd : FuncData} {da : List V} {kw : List (Str × V)} {f : Addr} {t : TS} {tx : XK → TS}
/-- what the generator shows of a body -/
abbrev Drv (P : Program) (w : World) (K : PySem.W.Frag) (mg : Str → Option Value) (base : Heap) (x : Str) (st : Stmt) (N : List Str) (m : Nat) (t : XK → TS) : Prop :=
  ∀ (f : Addr) (cdv : Value) (A : Around) (outer : List Env) (s : Shared) (H : Hp) (E : XK), Room m (A.deeper (envOfC x (defScope st) s.heap.objs.size f cdv)) → PSs (cxOf (L2.CX P w) P w K mg base N x (defScope st) f cdv A outer s H E) (defBody st) (t E)
theorem fnD (F : FunD K x x (defArgs st) (defBody st) (defScope st) da kw f fd) (S : FnScope N ps (defScope st)) (hN : N.length = ps.length + n) (hl : ∀ ds d, R ds d → ds.length = ps.length) (drv : Drv P w K mg base x st N m fun _ => t)
    (sem : ∀ (P0 H0 : Hp) (D : Ends) (ds : List Dt), (∃ d, R ds d) → RetD ⟨K, [], P0, H0⟩ D.rt (R ds) → Cont ⟨K, [], P0, H0⟩ (t D) (args ds n)) : FnOk P w K mg base (L2.CX P w) (m + 1) f fd ps (spD K R) := by
  refine F.ok S (fun vs H Q E h => ?_) (fun cdv A outer s H vs Q E hr h => ⟨t, drv _ _ _ _ _ _ _ hr, ?_⟩)
  · obtain ⟨P, ds, e, ha, ⟨d, hd⟩, _⟩ := h
    rw [ha.len, hl ds d hd]
  · obtain ⟨P, ds, e, ha, ⟨d, hd⟩, q⟩ := h
    rw [start_eq (n := n) (by rw [hN, ha.len, hl ds d hd])]
    exact sem P H _ ds ⟨d, hd⟩ (fun v P' H' σ es x hx r hv => q v P' H' x hx (r.grow rfl) hv) _ P H (rep_start e ha)
theorem fnX (F : FunD K x x (defArgs st) (defBody st) (defScope st) da kw f fd) (S : FnScope N ps (defScope st)) (hN : N.length = ps.length + n) (hl : ∀ ds d, RX ds d → ds.length = ps.length) (drv : Drv P w K mg base x st N m tx)
    (sem : ∀ (P0 H0 : Hp) (D : Ends) (E : XK) (ds : List Dt), (∃ d, RX ds d) → RetD ⟨K, [], P0, H0⟩ D.rt (fun d => RX ds (.ok d)) → XtD ⟨K, [], P0, H0⟩ E (RX ds) → Cont ⟨K, [], P0, H0⟩ (tx E D) (args ds n)) : FnOk P w K mg base (L2.CX P w) (m + 1) f fd ps (spX K RX) := by
  refine F.ok S (fun vs H Q E h => ?_) (fun cdv A outer s H vs Q E hr h => ⟨tx E, drv _ _ _ _ _ _ _ hr, ?_⟩)
  · obtain ⟨P, ds, e, ha, ⟨d, hd⟩, _⟩ := h
    rw [ha.len, hl ds d hd]
  · obtain ⟨P, ds, e, ha, ⟨d, hd⟩, q, qx⟩ := h
    rw [start_eq (n := n) (by rw [hN, ha.len, hl ds d hd])]
    exact sem P H _ E ds ⟨d, hd⟩ (fun v P' H' σ es x hx r hv => q v P' H' x hx (r.grow rfl) hv) (fun dx P' H' σ es C fs fd hx r h0 h1 h2 h3 => qx dx P' H' C fs fd hx (r.grow rfl) h0 h1 h2 h3) _ P H (rep_start e ha)
/-- a fresh list handed back -/
def RetO (c : Fr) (k : VK) (ρ : List Dt → Prop) : Prop := ∀ l P H σ es ds, ρ ds → Rep c P H σ es → l ∉ owns es → c.H0 l = none → Mine c P H l ds → k (.ref l) H
theorem fnO (F : FunD K x x (defArgs st) (defBody st) (defScope st) da kw f fd) (S : FnScope N ps (defScope st)) (hN : N.length = ps.length + n) (hl : ∀ ds d, RO ds d → ds.length = ps.length) (drv : Drv P w K mg base x st N m fun _ => t)
    (sem : ∀ (P0 H0 : Hp) (D : Ends) (ds : List Dt), (∃ d, RO ds d) → RetO ⟨K, [], P0, H0⟩ D.rt (RO ds) → Cont ⟨K, [], P0, H0⟩ (t D) (args ds n)) : FnOk P w K mg base (L2.CX P w) (m + 1) f fd ps (spO K RO) := by
  refine F.ok S (fun vs H Q E h => ?_) (fun cdv A outer s H vs Q E hr h => ⟨t, drv _ _ _ _ _ _ _ hr, ?_⟩)
  · obtain ⟨P, ds, e, ha, ⟨d, hd⟩, _⟩ := h
    rw [ha.len, hl ds d hd]
  · obtain ⟨P, ds, e, ha, ⟨d, hd⟩, q⟩ := h
    rw [start_eq (n := n) (by rw [hN, ha.len, hl ds d hd])]
    exact sem P H _ ds ⟨d, hd⟩ (fun l P' H' σ es x hx r hn h0 ⟨_, m2, xs, m3, m4⟩ => q l P' H' xs x hx (r.grow rfl) m2 h0 m3 m4) _ P H (rep_start e ha)
/-- behind a def that changes its hand -/
def RetH (c : Fr) (a : Addr) (k : VK) (φ : Dt → Prop) : Prop := ∀ v P H d hs, φ d → Ex c.P0 P → (∀ b o, b ≠ a → c.H0 b = some o → H b = some o) → (∀ b, H b = none → c.H0 b = none) → Ex P H → (∀ b o, P b = some o → c.P0 b = some o ∨ c.H0 b = none) → HandOk hs → Mine c P H a hs → Has c.K P v d → k v H
theorem RetH.of {c : Fr} {a : Addr} {k : VK} {φ : Dt → Prop} {v : V} {P H : Hp} {d : Dt} {σ : L2.St} {es : List Sv} {i : Nat} {hs : List Dt} (h : RetH c a k φ) (hm : c.mu = [a]) (hd : φ d) (r : Rep c P H σ es) (e : es[i]? = some (.own a hs)) (ho : HandOk hs) (hv : Has c.K P v d) : k v H :=
  h v P H d hs hd r.b (fun b o ne q => r.old b o (by rw [hm]; simpa using ne) q) r.dom r.ex r.fr ho (r.sl.getO e).2 hv
theorem RetH.ofH {c : Fr} {a : Addr} {k : VK} {φ : Dt → Prop} {v : V} {P H : Hp} {d : Dt} {σ : L2.St} {es : List Sv} {i : Nat} (h : RetH c a k φ) (hm : c.mu = [a]) (hd : φ d) (r : Rep c P H σ es) (e : es[i]? = some (Sv.hand a)) (hv : Has c.K P v d) : k v H := by
  obtain ⟨_, hs, ok, mine⟩ := r.sl.getH e
  exact h v P H d hs hd r.b (fun b o ne q => r.old b o (by rw [hm]; simpa using ne) q) r.dom r.ex r.fr ok mine hv
theorem fnH (F : FunD K x x (defArgs st) (defBody st) (defScope st) da kw f fd) (S : FnScope N ps (defScope st)) (hN : N.length = ps.length + n) (hl : ∀ ds d, R ds d → ds.length + 1 = ps.length) (drv : Drv P w K mg base x st N m fun _ => t)
    (sem : ∀ (P0 H0 : Hp) (a : Addr) (D : Ends) (ds : List Dt), (∃ d, R ds d) → RetH ⟨K, [a], P0, H0⟩ a D.rt (R ds) → Cont ⟨K, [a], P0, H0⟩ (t D) (.hand a :: args ds n)) : FnOk P w K mg base (L2.CX P w) (m + 1) f fd ps (spH K R) := by
  refine F.ok S (fun vs H Q E h => ?_) (fun cdv A outer s H vs Q E hr h => ⟨t, drv _ _ _ _ _ _ _ hr, ?_⟩)
  · obtain ⟨P, a, us, hs, ds, rfl, e, _, _, _, ha, ⟨d, hd⟩, _⟩ := h
    rw [List.length_cons, ha.len, hl ds d hd]
  · obtain ⟨P, a, us, hs, ds, rfl, e, hPa, ⟨xs, hx, hxs⟩, ok, ha, ⟨d, hd⟩, q⟩ := h
    rw [start_eq (n := n) (by rw [hN, List.length_cons, ha.len, hl ds d hd])]
    refine sem P H a _ ds ⟨d, hd⟩ (fun v P' H' x hs' hx b k1 k2 k3 k4 ok' ⟨_, m2, ys, m3, m4⟩ hv => q v P' H' x ys hs' hx b k1 k2 k3 k4 m2 m3 m4 ok' hv) _ P H ?_
    exact ⟨.refl P, fun _ _ _ h => h, fun _ h => h, e, fun _ _ h => .inl h, .hand ⟨hs, ok, .inr (List.mem_singleton.mpr rfl), hPa, xs, hx, hxs⟩ (sl_start ha), by
      show (a :: owns (args ds n)).Nodup
      rw [owns_start]
      exact List.nodup_cons.mpr ⟨List.not_mem_nil, List.nodup_nil⟩⟩
end
/-! ### a name's def -/
theorem fdN {P : Program} {w : World} {K : PySem.W.Frag} {mg : Str → Option Value} {base : Heap} {x : Str} {st : Stmt} {ps : List Str} {k : Nat} {sp : Sp} {fd : FuncData} {f : Addr} (F : FunD K x x (defArgs st) (defBody st) (defScope st) [] [] f fd) (hm : mg x = some (.ref f)) (ok : FnOk P w K mg base (L2.CX P w) k f fd ps sp)
    (h : ∀ (kV doc pm : Value) (an : Option Addr) (cdv ct : Value) (us : List Value), us.length = ps.length → bindArgs (PySem.W.fnOf x x (defArgs st) (defBody st) (defScope st) .none kV doc pm an cdv ct) ⟨us, []⟩ = pure (ps.zip us)) : Fd P w K mg base k x ps [] sp :=
  ⟨f, fd, [], ok, F.bindsN h, .nil, hm, F.kp⟩
theorem c_retO {c : Fr} {te : TE} {es : List Sv} {ρ : List Dt → Prop} {D : Ends} (h : EO c te es ρ) (k : RetO c D.rt ρ) : Cont c (tRet te D) es := fun σ P H r =>
  h σ P H r _ fun l P1 H1 ds hd r1 e1 hn h0 m => k l P1 H1 σ es ds hd r1 hn (r.dom l h0) m
/-- the list in a slot handed back -/
theorem c_retO' {c : Fr} {es : List Sv} {ρ : List Dt → Prop} {D : Ends} {n : Nat} {l : Addr} {ds : List Dt} (hn : es[n]? = some (.own l ds)) (hm : c.mu = []) (hd : ρ ds) (k : ∀ P H, Mine c P H l ds → Rep c P H [] [] → c.H0 l = none → D.rt (.ref l) H) : Cont c (tRet (tVar n) D) es := fun σ P H r => by
  obtain ⟨e0, m⟩ := r.sl.getO hn
  exact ⟨_, e0, k P H m ⟨r.b, r.old, r.dom, r.ex, r.fr, .nil, List.nodup_nil⟩ (m.1.elim id fun z => by rw [hm] at z; cases z)⟩
theorem RetO.slot {c : Fr} {es : List Sv} {ρ : List Dt → Prop} {D : Ends} {n : Nat} {l : Addr} {ds : List Dt} (k : RetO c D.rt ρ) (hn : es[n]? = some (.own l ds)) (hm : c.mu = []) (hd : ρ ds) : Cont c (tRet (tVar n) D) es :=
  c_retO' hn hm hd fun P H m r h0 => k l P H [] [] ds hd r List.not_mem_nil h0 m
end My
set_option Elab.async false
set_option linter.all false
set_option maxRecDepth 100000
set_option maxHeartbeats 2000000
/-! Statements followed by others. -/
namespace My
open PySem PySem.Spec PyProof.Rows L2
open Evl (Ex)
section
variable {c : Fr} {es es' : List Sv} {te ta tb tx : TE} {tt : TT} {t u w : TS} {ts : TA} {d x y : Dt} {ds : List Dt} {φ ψ χ : Dt → Prop} {i j : Int} {b : Bool} {D : Ends} {n m : Nat}
theorem s_when (h : EBd c tt es b) (h1 : b = true → Cont c (t { D with nx := u D }) es) (h2 : b = false → Cont c (u D) es) : Cont c (tSeq (tIfS tt t tNext) u D) es := c_seq (c_if h h1 h2)
theorem s_if (h : EBd c tt es b) (h1 : b = true → Cont c (t { D with nx := u D }) es) (h2 : b = false → Cont c (w { D with nx := u D }) es) : Cont c (tSeq (tIfS tt t w) u D) es := c_seq (c_if h h1 h2)
theorem s_if3 (h : EBd c tt es b) (hr : Cont c (u D) es) (h1 : Cont c (u D) es → b = true → Cont c (t { D with nx := u D }) es) (h2 : Cont c (u D) es → b = false → Cont c (w { D with nx := u D }) es) : Cont c (tSeq (tIfS tt t w) u D) es := c_seq (c_if h (h1 hr) (h2 hr))
theorem s_ifA (h : EBd c tt es b) (hd : b = true → ED c te es d) (h1 : b = true → Cont c (u D) (es.set n (.dat d))) (h2 : b = false → Cont c (u D) es) : Cont c (tSeq (tIfS tt (tAsg te (gName n)) tNext) u D) es := c_seq (c_if h (fun z => c_asg (hd z) (h1 z)) h2)
theorem s_asgV (h : EV c te es φ) (k : ∀ d, φ d → Cont c (u D) (es.set n (.dat d))) : Cont c (tSeq (tAsg te (gName n)) u D) es := c_seq (c_asgV h k)
theorem s_asg (h : ED c te es d) (k : Cont c (u D) (es.set n (.dat d))) : Cont c (tSeq (tAsg te (gName n)) u D) es := c_seq (c_asg h k)
theorem s_asgO {ρ : List Dt → Prop} (h : EO c te es ρ) (k : ∀ l ds, ρ ds → Cont c (u D) (es.set n (.own l ds))) : Cont c (tSeq (tAsg te (gName n)) u D) es := c_seq (c_asgO h k)
theorem s_par (h : EDs c ts es [x, y]) (k : Cont c (u D) ((es.set n (.dat x)).set m (.dat y))) : Cont c (tSeq (tPar n m ts) u D) es := c_seq (c_par h k)
theorem s_unpack (h : ED c te es (.tup [x, y])) (k : Cont c (u D) ((es.set n (.dat x)).set m (.dat y))) : Cont c (tSeq (tAsg te (gTup c.K 2 (gCons (gName n) (gCons (gName m) gNil)))) u D) es := c_seq (c_unpack h k)
theorem s_drop (h : EV c te es φ) (k : Cont c (u D) es) : Cont c (tSeq (tDrop te) u D) es := c_seq (c_drop h k)
theorem s_app {l : Addr} (h0 : es[n]? = some (.own l ds)) (h : EV c te es φ) (hz : ds.length < 100000) (k : ∀ d, φ d → Cont c (u D) (es.set n (.own l (ds ++ [d])))) : Cont c (tSeq (tDrop (tBM c.K "list" rAppend (tVar n) (tCons te tNil))) u D) es := c_seq (c_app h0 h hz k)
theorem s_for {I : Nat → List Sv → Prop} {l : List Dt} {wi : TI} {g : TG} {f : Dt → List Sv → List Sv} {vs : List Nat} (h : WI c wi es l) (h0 : I 0 es) (hg : ∀ P y, y ∈ l → TgD (c.at P) g (f y) vs y)
    (hs : ∀ P1, Low c P1 → ∀ k y es, l[k]? = some y → I k es → Cont (c.at P1) (w { D with nx := Turn (c.at P1) I (k + 1), ct := Turn (c.at P1) I (k + 1), bk := u D }) (f y es)) (hd : ∀ es, I l.length es → Cont c (u D) es) :
    Cont c (tSeq (tFor wi g w) u D) es := c_seq (c_for h h0 hg hs hd)
theorem c_turn' {I : Nat → List Sv → Prop} {k' : L2.St → Hp → Prop} {k : Nat} (e : k' = Turn c I k) (h : I k es) : Cont c k' es := e ▸ c_turn h
end
end My
set_option Elab.async false
set_option linter.all false
set_option maxRecDepth 100000
set_option maxHeartbeats 2000000
/-! Hands as lists of one's own, what is caught. -/
namespace My
open PySem PySem.Spec PyProof.Rows L2
open Evl (Ex)
section
variable {c : Fr} {es es' : List Sv} {te ta tb tx : TE} {tt : TT} {t u w : TS} {ts : TA} {d x y : Dt} {ds : List Dt} {φ ψ χ : Dt → Prop} {i j : Int} {b : Bool} {D : Ends} {n m : Nat}
theorem eb_yes : EBd c tYes es true := fun σ P H r Q q => q true P H rfl r Kp.refl
theorem c_own {k : L2.St → Hp → Prop} {n : Nat} {l : Addr} (hn : es[n]? = some (.hand l)) (h : ∀ ds, HandOk ds → Cont c k (es.set n (.own l ds))) : Cont c k es := fun σ P H r => by
  have key : ∀ {σ : L2.St} {es : List Sv} {n : Nat}, Sl c P H σ es → es[n]? = some (.hand l) → ∃ ds, HandOk ds ∧ Sl c P H σ (es.set n (.own l ds)) ∧ owns (es.set n (.own l ds)) = owns es := by
    intro σ es n s
    induction s generalizing n with
    | nil => intro e; simp at e
    | no s ih =>
      intro e
      cases n with
      | zero => simp at e
      | succ n =>
        obtain ⟨ds, k, a, b⟩ := ih (n := n) (by simpa using e)
        exact ⟨ds, k, .no a, b⟩
    | dat z s ih =>
      intro e
      cases n with
      | zero => simp at e
      | succ n =>
        obtain ⟨ds, k, a, b⟩ := ih (n := n) (by simpa using e)
        exact ⟨ds, k, .dat z a, b⟩
    | own z s ih =>
      intro e
      cases n with
      | zero => simp at e
      | succ n =>
        obtain ⟨ds, k, a, b⟩ := ih (n := n) (by simpa using e)
        exact ⟨ds, k, .own z a, congrArg (List.cons _) b⟩
    | hand z s ih =>
      intro e
      cases n with
      | zero =>
        have e1 := Sv.hand.inj (Option.some.inj e)
        subst e1
        obtain ⟨ds, k, z⟩ := z
        exact ⟨ds, k, .own z s, rfl⟩
      | succ n =>
        obtain ⟨ds, k, a, b⟩ := ih (n := n) (by simpa using e)
        exact ⟨ds, k, .hand z a, congrArg (List.cons _) b⟩
  obtain ⟨ds, k, s, ow⟩ := key r.sl hn
  exact h ds k σ P H ⟨r.b, r.old, r.dom, r.ex, r.fr, s, by rw [ow]; exact r.nd⟩
theorem c_retH {a : Addr} {hs : List Dt} (h : EV c te es φ) (k : RetH c a D.rt φ) (hm : c.mu = [a]) (e : es[n]? = some (.own a hs)) (ho : HandOk hs) : Cont c (tRet te D) es := fun σ P H r =>
  h σ P H r _ fun v P1 H1 d hd r1 e1 hv => k.of hm hd r1 e ho hv
theorem s_set {l : Addr} {j : Nat} (h0 : es[n]? = some (.own l ds)) (h : EV c te es φ) (hj : ED c tb es (.int (j : Int))) (hl : j < ds.length) (k : ∀ d, φ d → Cont c (u D) (es.set n (.own l (ds.set j d)))) :
    Cont c (tSeq (tAsg te (gSub (tVar n) tb rSetL)) u D) es := c_seq (c_set h0 h hj hl k)
/-! what is caught -/
theorem pairs_one {f : Str} {fs : List (Str × V)} (h : fs.map (·.1) = [f]) : ∃ v, fs = [(f, v)] := by
  match fs, h with
  | [(_, v)], h =>
    have e := (List.cons.inj h).1
    exact ⟨v, by rw [← e]⟩
  | [], h => cases h
  | _ :: _ :: _, h => cases h
section
variable {R : List Dt → Out → Prop} {C : Addr} {f : Str} {i : Nat} {Wout : WX}
theorem x_suite {a : Addr} {P H : Hp} {σ : L2.St} {dx : Addr} {v : V} (hi : i < es.length) (r : Rep c P H σ es) (hx : H dx = some (.xd [(f, v)])) (hv : Has c.K P v d) (k : Cont c D.nx (((es.set i .no).set n (.dat d)).set i .no)) :
    tAsg (tXf a (.ref C) (some dx) C f (tVar i)) (gName n) { nx := fun σ' H' => D.nx (σ'.set i none) H', rt := D.rt, bk := fun σ' H' => D.bk (σ'.set i none) H', ct := fun σ' H' => D.ct (σ'.set i none) H' } (σ.set i (some (.ref a))) H := by
  refine ⟨.ref a, ?_, rfl, rfl, dx, _, v, rfl, hx, ?_, ?_⟩
  · rw [List.getElem?_set_self (by rw [r.sl.len]; exact hi)]
  · show ([(f, v)] : List (Str × V)).lookup f = some v
    rw [List.lookup_cons, beq_self_eq_true]
  · exact k _ P H (((r.drop i).put n hv).drop i)
theorem c_tryD (h : EDs c ts es ds) (hi : i < es.length) (hm : PySem.W.exmOne c.K (.ref C) (.ref C) = some true) (hR : ∃ o, R ds o) (hok : ∀ d, R ds (.ok d) → Cont c D.nx es)
    (hex : ∀ C' ns fd, R ds (.ex C' ns fd) → C' = C ∧ ns = [f] ∧ ∃ d, fd = [d] ∧ Cont c D.nx (((es.set i .no).set n (.dat d)).set i .no)) :
    Cont c ((fun D σ H => (fun W => tDrop (tCallS (spX c.K R) (WE W) ts)) (wAs c.K (.ref C) i (fun a cls d => tAsg (tXf a cls d C f (tVar i)) (gName n)) Wout D) D σ H) D) es := fun σ P H r =>
  h σ P H r _ fun vs P1 H1 l hl r1 e1 h1 => by
    subst hl
    refine ⟨P1, l, r1.ex, h1, hR, fun v P2 H2 d hr g hv => hok d hr _ P2 H2 (r1.step g), fun dx P2 H2 C' fs fd hr g h0 hP hx hf => ?_⟩
    obtain ⟨rfl, hn, d, rfl, k⟩ := hex _ _ _ hr
    obtain ⟨v, rfl⟩ := pairs_one hn
    cases hf with
    | cons hv _ => exact ⟨true, hm, fun _ a ha => x_suite hi (r1.step g) hx hv k, fun z => by cases z⟩
theorem c_tryA (h : EDs c ts es ds) (hi : i < es.length) (hm : PySem.W.exmOne c.K (.ref C) (.ref C) = some true) (hR : ∃ o, R ds o) (hok : ∀ d, R ds (.ok d) → Cont c D.nx (es.set m (.dat d)))
    (hex : ∀ C' ns fd, R ds (.ex C' ns fd) → C' = C ∧ ns = [f] ∧ ∃ d, fd = [d] ∧ Cont c D.nx (((es.set i .no).set n (.dat d)).set i .no)) :
    Cont c ((fun D σ H => (fun W => tAsg (tCallS (spX c.K R) (WE W) ts) (gName m)) (wAs c.K (.ref C) i (fun a cls d => tAsg (tXf a cls d C f (tVar i)) (gName n)) Wout D) D σ H) D) es := fun σ P H r =>
  h σ P H r _ fun vs P1 H1 l hl r1 e1 h1 => by
    subst hl
    refine ⟨P1, l, r1.ex, h1, hR, fun v P2 H2 d hr g hv => hok d hr _ P2 H2 ((r1.step g).put m hv), fun dx P2 H2 C' fs fd hr g h0 hP hx hf => ?_⟩
    obtain ⟨rfl, hn, d, rfl, k⟩ := hex _ _ _ hr
    obtain ⟨v, rfl⟩ := pairs_one hn
    cases hf with
    | cons hv _ => exact ⟨true, hm, fun _ a ha => x_suite hi (r1.step g) hx hv k, fun z => by cases z⟩
end
end
end My
set_option Elab.async false
set_option linter.all false
set_option maxRecDepth 100000
set_option maxHeartbeats 2000000
/-! What is known of drawn numbers. -/
namespace My
open PySem PySem.Spec PyProof.Rows L2
open Evl (Ex)
section
variable {c : Fr} {es es' : List Sv} {te ta tb tx : TE} {tt tu : TT} {t u w : TS} {ts : TA} {d x y : Dt} {ds : List Dt} {φ ψ χ : Dt → Prop} {i j : Int} {b : Bool} {D : Ends} {n m : Nat} {α β : Int → Prop}
theorem c_rng1V {I : Int → Nat → List Sv → Prop} (h : EV c ta es (IsI α)) (hb : ∀ i, α i → 0 ≤ i ∧ i ≤ 1000000) (h0 : ∀ i, α i → I i 0 es)
    (hs : ∀ i, α i → ∀ (k : Nat) es, (k : Int) < i → I i k es → Cont c (u { D with nx := Turn c (I i) (k + 1), ct := Turn c (I i) (k + 1), bk := D.nx }) (es.set n (.dat (.int k)))) (hd : ∀ i, α i → ∀ es, I i i.toNat es → Cont c D.nx es) :
    Cont c (tFor (iRng1 (tCons ta tNil)) (gName n) u D) es := fun σ P H r =>
  h σ P H r _ fun v P1 H1 z ⟨i, hz, hα⟩ r1 e1 h1 => by
    subst hz
    cases h1
    have hb := hb i hα
    refine ⟨i, rfl, by omega, by omega, for_range (lo := 0) (n := i.toNat) (fun k => Turn c (I i) k) ⟨P1, es, h0 i hα, r1⟩ (fun k σ H hk ⟨P, es, hI, r⟩ => ?_) fun σ H ⟨P, es, hI, r⟩ => hd i hα es hI _ P H r⟩
    have e0 : (0 : Int) + (k : Int) = (k : Int) := Int.zero_add _
    rw [e0]
    exact hs i hα k es (by omega) hI _ P H (r.put n (.int _))
theorem ev_ixT {l : List Dt} (ha : ED c ta es (.tup l)) (hb : EV c tb es (IsI α)) (h : ∀ z, α z → ∃ d, atI l z = some d ∧ φ d) : EV c (tOp (rIx c.K) ta tb) es φ :=
  ev_op ha hb fun x y e ⟨z, ez, az⟩ => by
    subst e ez
    obtain ⟨d, e1, hd⟩ := h z az
    exact fun v u P H ex hv hu Q q => rd_ixT e1 v u P H ex hv hu Q fun w P' H' k hk => q w P' H' k (by rw [hk]; exact hd)
theorem c_ifV {ρ : Bool → Prop} (h : EB c tt es ρ) (h1 : ρ true → Cont c (t D) es) (h2 : ρ false → Cont c (u D) es) : Cont c (tIfS tt t u D) es := fun σ P H r =>
  h σ P H r _ fun a P1 H1 z r1 e1 => by
    cases a with
    | true => exact iteT (h1 z _ P1 H1 r1)
    | false => exact iteF (h2 z _ P1 H1 r1)
theorem eb_andV {ρ : Bool → Prop} (ha : EBd c tt es b) (hb : b = true → EB c tu es ρ) : EB c (tAnd tt tu) es (fun r => r = true → b = true) := fun σ P H r Q q =>
  ha σ P H r _ fun a P1 H1 z r1 e1 => by
    subst z
    cases a with
    | true => exact iteT (hb rfl σ P1 H1 r1 Q fun w P2 H2 z r2 e2 => q w P2 H2 (fun _ => rfl) r2 (e1.trans e2))
    | false => exact iteF (q _ P1 H1 (fun z => by cases z) r1 e1)
theorem eb_eqV (ha : EV c ta es (IsI α)) (hb : EV c tb es (IsI β)) : EB c (tTest (tOp (rEqD c.K) ta tb)) es (fun _ => True) := fun σ P H r Q q =>
  (ev_op (χ := fun d => ∃ b, d = .bl b) ha hb fun x y ⟨i, ei, _⟩ ⟨j, ej, _⟩ => by
    subst ei ej
    exact fun v u P H ex hv hu Q q => rd_eq (x := .int i) (y := .int j) rfl rfl v u P H ex hv hu Q fun w P' H' k hk => q w P' H' k ⟨_, hk⟩) σ P H r _ fun v P1 H1 d ⟨b, e⟩ r1 e1 h1 => by
    subst e
    cases h1
    exact ⟨b, rfl, q b P1 H1 trivial r1 e1⟩
theorem s_ifV {ρ : Bool → Prop} (h : EB c tt es ρ) (h1 : ρ true → Cont c (t { D with nx := u D }) es) (h2 : ρ false → Cont c (w { D with nx := u D }) es) : Cont c (tSeq (tIfS tt t w) u D) es := c_seq (c_ifV h h1 h2)
theorem ed_lst (hm : c.mu = []) (h : EDs c ts es ds) (hl : ds.length ≤ 100000) : ED c (tLst ts) es (.lst ds) :=
  EV.imp (ev_give hm (eo_lst h fun l e => by rw [e]; exact hl)) fun z ⟨l, e1, e2⟩ => by rw [e1, e2]
theorem atI_ex {l : List Dt} (h1 : -(l.length : Int) ≤ i) (h2 : i < l.length) : ∃ d, d ∈ l ∧ atI l i = some d := by
  unfold atI ixN
  by_cases h : 0 ≤ i
  · rw [if_pos h, if_pos h2]
    have : i.toNat < l.length := by omega
    exact ⟨l[i.toNat], List.getElem_mem this, List.getElem?_eq_getElem this⟩
  · rw [if_neg h, if_pos h1]
    have : (i + l.length).toNat < l.length := by omega
    exact ⟨l[(i + l.length).toNat], List.getElem_mem this, List.getElem?_eq_getElem this⟩
theorem ed_notBd {b b' : Bool} (ha : ED c ta es (.bl b)) (h : b = b') : EBd c (tTest (tOp rNotB ta (tC (.bl b')))) es false :=
  EBd.is (eb_test (ed_notB ha ed_bl)) (by rw [decide_eq_true h] <;> rfl)
theorem ed_isBd {b b' : Bool} (ha : ED c ta es (.bl b)) (h : b = b') : ED c (tOp rIsB ta (tC (.bl b'))) es (.bl true) :=
  ED.is (ed_isB ha ed_bl) (by rw [decide_eq_true h] <;> rfl)
end
end My
set_option Elab.async false
set_option linter.all false
set_option maxRecDepth 100000
set_option maxHeartbeats 2000000
/-! What the head looks up of an error's class. -/
namespace My
open PySem PySem.Spec PyProof.Rows L2
def mroB (C : Addr) : List Value → Bool
  | .ref C' :: bm => decide (C' = C) && PySem.HandSPX.refsVE bm
  | _ => false
def slB : List (Option Value) → Bool
  | [_, _, _, _, k4, _] => decide (k4 = some (.builtin "ValueError.__new__"))
  | _ => false
def oexO (C : Addr) (o : Obj) : Bool := match o.cls with
  | .type c => decide (c = "type") && (match o.data with
    | .cls cd => cd.hasDict && (!cd.hasDel && (mroB C cd.mro && slB o.slots.toList))
    | _ => false)
  | _ => false
def oexB (K : PySem.W.Frag) (C : Addr) : Bool := (match K.lookup C with
  | some o => oexO C o
  | none => false) && (decide (PySem.W.findIn K (.ref C) "__setattr__" = some (some (.builtin "object.__setattr__"))) && (decide (PySem.W.subIn K (.ref C) (.type "BaseException") = some true) && (decide (PySem.W.typeIn K (.ref C) = some (.type "type")) && PySem.W.keepIn K (.ref C))))
theorem oexO_ok {C : Addr} {o : Obj} (h : oexO C o = true) : ∃ nm q N bs bm sn sub ab col dd k0 k1 k2 k3 k5, o = excClassObj nm q C N bs bm true sn sub ab col dd k0 k1 k2 k3 k5 "ValueError.__new__" ∧ PySem.HandSPX.refsVE bm = true := by
  obtain ⟨oc, od, dt, ⟨sl⟩⟩ := o
  cases oc with
  | type c =>
    cases dt with
    | cls cd =>
      obtain ⟨nm, bs, mro, ns, q, hd, sn, sub, ab, col, del⟩ := cd
      obtain ⟨h1, h⟩ := He.ba (show (decide (c = "type") && (hd && (!del && (mroB C mro && slB sl)))) = true from h)
      obtain ⟨h2, h⟩ := He.ba h
      obtain ⟨h3, h⟩ := He.ba h
      obtain ⟨h4, h5⟩ := He.ba h
      have h1 := of_decide_eq_true h1
      subst h1 h2
      cases del with
      | true => cases h3
      | false =>
        cases mro with
        | nil => cases h4
        | cons m bm =>
          cases m with
          | ref C' =>
            obtain ⟨h6, h7⟩ := He.ba (show (decide (C' = C) && PySem.HandSPX.refsVE bm) = true from h4)
            have h6 := of_decide_eq_true h6
            subst h6
            match sl, h5 with
            | [k0, k1, k2, k3, k4, k5], h5 =>
              have h5 : k4 = some (.builtin "ValueError.__new__") := of_decide_eq_true h5
              subst h5
              exact ⟨nm, q, ns, bs, bm, sn, sub, ab, col, od, k0, k1, k2, k3, k5, rfl, h7⟩
          | _ => cases h4
    | _ => cases (He.ba (show (decide (c = "type") && false) = true from h)).2
  | _ => cases h
theorem oexB_ok {K : PySem.W.Frag} {C : Addr} (h : oexB K C = true) : OexC K C := by
  obtain ⟨h1, h⟩ := He.ba h
  obtain ⟨h2, h⟩ := He.ba h
  obtain ⟨h3, h⟩ := He.ba h
  obtain ⟨h4, h5⟩ := He.ba h
  refine ⟨?_, of_decide_eq_true h2, of_decide_eq_true h3, of_decide_eq_true h4, h5⟩
  cases e : K.lookup C with
  | none => rw [e] at h1; cases h1
  | some o =>
    rw [e] at h1
    obtain ⟨nm, q, N, bs, bm, sn, sub, ab, col, dd, k0, k1, k2, k3, k5, rfl, hb⟩ := oexO_ok h1
    exact ⟨nm, q, N, bs, bm, sn, sub, ab, col, dd, k0, k1, k2, k3, k5, rfl, hb⟩
end My
set_option Elab.async false
set_option linter.all false
set_option maxRecDepth 100000
set_option maxHeartbeats 2000000
/-! Ratios: the mathematics. -/
namespace My
open PySem L2
def ratD (q : Rat) : Dt := .tup [.int q.num, .int q.den]
theorem den_pos (q : Rat) : (0 : Int) < q.den := by have := q.den_nz; omega
theorem divInt_of (q : Rat) : Rat.divInt q.num q.den = q := Rat.num_divInt_den q
/-- the part in common, with the sign of the bottom -/
def partOf (a b : Int) : Int := if b < 0 then -((Nat.gcd a.natAbs b.natAbs : Nat) : Int) else ((Nat.gcd a.natAbs b.natAbs : Nat) : Int)
theorem gcd_pos {a b : Int} (h : b ≠ 0) : 0 < Nat.gcd a.natAbs b.natAbs := Nat.gcd_pos_of_pos_right _ (by omega)
theorem partOf_ne {a b : Int} (h : b ≠ 0) : partOf a b ≠ 0 := by
  have := gcd_pos (a := a) h
  unfold partOf
  split <;> omega
theorem low_num {a b : Int} (h : b ≠ 0) : a.fdiv (partOf a b) = (Rat.divInt a b).num := by
  have g := gcd_pos (a := a) h
  have e : b.gcd a = Nat.gcd a.natAbs b.natAbs := Nat.gcd_comm _ _
  rw [Rat.num_divInt, e]
  unfold partOf
  by_cases hb : b < 0
  · rw [if_pos hb, Int.sign_eq_neg_one_of_neg hb]
    have := Int.neg_fdiv_neg (-a) ((Nat.gcd a.natAbs b.natAbs : Nat) : Int)
    rw [Int.neg_neg] at this
    rw [this, Int.fdiv_eq_ediv_of_nonneg _ (by omega)]
    congr 1
    omega
  · rw [if_neg hb, Int.sign_eq_one_of_pos (by omega), Int.fdiv_eq_ediv_of_nonneg _ (by omega), Int.one_mul]
theorem low_den {a b : Int} (h : b ≠ 0) : b.fdiv (partOf a b) = ((Rat.divInt a b).den : Int) := by
  have g := gcd_pos (a := a) h
  have e : b.gcd a = Nat.gcd a.natAbs b.natAbs := Nat.gcd_comm _ _
  rw [Rat.den_divInt, if_neg h, e]
  unfold partOf
  by_cases hb : b < 0
  · rw [if_pos hb]
    have := Int.neg_fdiv_neg (-b) ((Nat.gcd a.natAbs b.natAbs : Nat) : Int)
    rw [Int.neg_neg] at this
    rw [this, Int.fdiv_eq_ediv_of_nonneg _ (by omega), Int.natCast_ediv]
    congr 1
    omega
  · rw [if_neg hb, Int.fdiv_eq_ediv_of_nonneg _ (by omega), Int.natCast_ediv]
    congr 1
    omega
/-! sizes -/
def Sz (n : Nat) (x : Int) : Prop := x.natAbs < 2 ^ n
theorem Sz.mono {n m : Nat} {x : Int} (h : Sz n x) (e : n ≤ m) : Sz m x := Nat.lt_of_lt_of_le h (Nat.pow_le_pow_right (by decide) e)
theorem Sz.mul {n m : Nat} {x y : Int} (h : Sz n x) (k : Sz m y) : Sz (n + m) (x * y) := wide_lt h k
theorem Sz.add {n : Nat} {x y : Int} (h : Sz n x) (k : Sz n y) : Sz (n + 1) (x + y) := by
  unfold Sz at *
  have := Int.natAbs_add_le x y
  rw [Nat.pow_succ]
  omega
theorem Sz.sub {n : Nat} {x y : Int} (h : Sz n x) (k : Sz n y) : Sz (n + 1) (x - y) := by
  unfold Sz at *
  have := Int.natAbs_add_le x (-y)
  rw [Int.natAbs_neg] at this
  rw [Nat.pow_succ]
  have e : x - y = x + -y := Int.sub_eq_add_neg
  rw [e]
  omega
theorem Sz.neg {n : Nat} {x : Int} (h : Sz n x) : Sz n (-x) := by
  unfold Sz at *
  rw [Int.natAbs_neg]
  exact h
/-- a ratio of numbers below 2 ^ n -/
structure SzR (n : Nat) (q : Rat) : Prop where
  num : Sz n q.num
  den : Sz n q.den
theorem SzR.mono {n m : Nat} {q : Rat} (h : SzR n q) (e : n ≤ m) : SzR m q := ⟨h.num.mono e, h.den.mono e⟩
theorem div_le {a : Int} {g : Nat} (hg : 0 < g) : (a / (g : Int)).natAbs ≤ a.natAbs := Int.natAbs_ediv_le_natAbs a g
theorem SzR.of {n : Nat} {a b : Int} (h : b ≠ 0) (ha : Sz n a) (hb : Sz n b) : SzR n (Rat.divInt a b) := by
  have g := gcd_pos (a := a) h
  have e : b.gcd a = Nat.gcd a.natAbs b.natAbs := Nat.gcd_comm _ _
  constructor
  · rw [Rat.num_divInt, e]
    unfold Sz at *
    refine Nat.lt_of_le_of_lt (div_le g) ?_
    rw [Int.natAbs_mul]
    have : b.sign.natAbs ≤ 1 := by
      rw [Int.natAbs_sign_of_ne_zero h]
      exact Nat.le_refl 1
    refine Nat.lt_of_le_of_lt (Nat.mul_le_mul_right _ this) ?_
    rw [Nat.one_mul]
    exact ha
  · rw [Rat.den_divInt, if_neg h]
    unfold Sz at *
    have : (((b.natAbs / b.gcd a : Nat) : Int)).natAbs = b.natAbs / b.gcd a := Int.natAbs_natCast _
    rw [this]
    exact Nat.lt_of_le_of_lt (Nat.div_le_self _ _) hb
theorem sz_ok {n m : Nat} {x y : Int} (h : Sz n x) (k : Sz m y) (e : n + m ≤ 900000) : CMulW x y := by
  have h' := h.mono (show n ≤ n + 1 by omega)
  have k' := k.mono (show m ≤ m + 1 by omega)
  exact wide_mul h' k' (by omega) (by omega) (by omega)
theorem sz_div {n : Nat} {x y : Int} (h0 : y ≠ 0) (h : Sz n y) (e : n ≤ 8000) : CDivA x y := cdivA h0 (h.mono (show n ≤ n + 1 by omega)) (by omega) (by omega)
theorem sz_part {n : Nat} {a b : Int} (h0 : b ≠ 0) (h : Sz n b) : Sz n (partOf a b) := by
  have : Nat.gcd a.natAbs b.natAbs ≤ b.natAbs := Nat.gcd_le_right _ (by omega)
  unfold Sz partOf at *
  split
  · rw [Int.natAbs_neg, Int.natAbs_natCast]
    omega
  · rw [Int.natAbs_natCast]
    omega
end My
set_option Elab.async false
set_option linter.all false
set_option maxRecDepth 100000
set_option maxHeartbeats 2000000
/-! k01: the text by places, what each def promises. -/
namespace K01
open PySem PySem.Spec PyProof.Rows L2 My
abbrev PW := PySem.Challenge.pw_neverbare_k01_whole_ratios_reckoned
def top (i : Nat) : Stmt := PW.main.body.getD i (.Pass ⟨0, 0, 0, 0⟩)
/-! ### promises -/
def Lim (d : Dt) : Prop := d = .non ∨ ∃ l, d = .int l
def lowOk : Dt → Int → Bool
  | .int l, i => decide (l ≤ i)
  | _, _ => true
def highOk : Dt → Int → Bool
  | .int h, i => decide (i ≤ h)
  | _, _ => true
def wholeB (x lo hi : Dt) : Bool := match x with
  | .int i => lowOk lo i && highOk hi i
  | _ => false
def Kin (d : Dt) : Prop := (tyD d).isSome = true
def R_is_whole (ds : List Dt) (d : Dt) : Prop := ∃ x lo hi, ds = [x, lo, hi] ∧ Kin x ∧ Lim lo ∧ Lim hi ∧ d = .bl (wholeB x lo hi)
def sp_is_whole (K : PySem.W.Frag) : Sp := spD K R_is_whole
def ratioB : Dt → Bool
  | .tup [.int a, .int b] => decide (1 ≤ b) && decide (Nat.gcd a.natAbs b.natAbs = 1)
  | _ => false
def Kins (x : Dt) : Prop := Kin x ∧ ∀ l, x = .tup l → ∀ y ∈ l, Kin y
def R_is_ratio (ds : List Dt) (d : Dt) : Prop := ∃ x, ds = [x] ∧ Kins x ∧ d = .bl (ratioB x)
def sp_is_ratio (K : PySem.W.Frag) : Sp := spD K R_is_ratio
def R_lowest (ds : List Dt) (d : Dt) : Prop := ∃ a b : Int, ds = [.int a, .int b] ∧ b ≠ 0 ∧ Sz 5000 a ∧ Sz 5000 b ∧ d = ratD (Rat.divInt a b)
def sp_u_lowest (K : PySem.W.Frag) : Sp := spD K R_lowest
def SzD (x : Dt) : Prop := ∀ a, x = .int a → Sz 5000 a
def makeO (C : Addr) (x y : Dt) : Out := match x with
  | .int a => (match y with
    | .int b => if b = 0 then .ex C ["what"] [.str "bottom"] else .ok (ratD (Rat.divInt a b))
    | _ => .ex C ["what"] [.str "bottom"])
  | _ => .ex C ["what"] [.str "top"]
def R_make_ratio (C : Addr) (ds : List Dt) (o : Out) : Prop := ∃ x y, ds = [x, y] ∧ Kin x ∧ Kin y ∧ SzD x ∧ SzD y ∧ o = makeO C x y
def sp_make_ratio (K : PySem.W.Frag) : Sp := spX K (R_make_ratio (He.ga K "BadRatio"))
def R_two (f : Rat → Rat → Dt) (ds : List Dt) (d : Dt) : Prop := ∃ p q, ds = [ratD p, ratD q] ∧ SzR 2000 p ∧ SzR 2000 q ∧ d = f p q
def sp_plus (K : PySem.W.Frag) : Sp := spD K (R_two fun p q => ratD (p + q))
def sp_minus (K : PySem.W.Frag) : Sp := spD K (R_two fun p q => ratD (p - q))
def sp_times (K : PySem.W.Frag) : Sp := spD K (R_two fun p q => ratD (p * q))
def overO (C : Addr) (p q : Rat) : Out := if q.num = 0 then .ex C ["what"] [.str "zero"] else .ok (ratD (Rat.divInt (p.num * q.den) (p.den * q.num)))
def R_over (C : Addr) (ds : List Dt) (o : Out) : Prop := ∃ p q, ds = [ratD p, ratD q] ∧ SzR 2000 p ∧ SzR 2000 q ∧ o = overO C p q
def sp_over (K : PySem.W.Frag) : Sp := spX K (R_over (He.ga K "BadRatio"))
def R_negative (ds : List Dt) (d : Dt) : Prop := ∃ p, ds = [ratD p] ∧ d = ratD (-p)
def sp_negative (K : PySem.W.Frag) : Sp := spD K R_negative
def cmpI (p q : Rat) : Int := if p.num * q.den < q.num * p.den then -1 else if q.num * p.den < p.num * q.den then 1 else 0
def sp_compare (K : PySem.W.Frag) : Sp := spD K (R_two fun p q => .int (cmpI p q))
def R_sum_of (ds : List Dt) (d : Dt) : Prop := ∃ (x : Dt) (l : List Rat), ds = [x] ∧ itemsD x = some (l.map ratD) ∧ l.length ≤ 10 ∧ (∀ q ∈ l, SzR 100 q) ∧ d = ratD (l.foldl (· + ·) 0)
def sp_sum_of (K : PySem.W.Frag) : Sp := spD K R_sum_of
def lessR (p q : Rat) : Bool := decide (p.num * q.den < q.num * p.den)
def leastR (p : Rat) (l : List Rat) : Rat := l.foldl (fun b q => if lessR q b then q else b) p
def greatR (p : Rat) (l : List Rat) : Rat := l.foldl (fun b q => if lessR b q then q else b) p
def R_pick (f : Rat → List Rat → Rat) (ds : List Dt) (d : Dt) : Prop := ∃ (x : Dt) (p : Rat) (l : List Rat), ds = [x] ∧ itemsD x = some ((p :: l).map ratD) ∧ (∀ q ∈ p :: l, SzR 100 q) ∧ (p :: l).length ≤ 10 ∧ d = ratD (f p (p :: l))
def sp_least_of (K : PySem.W.Frag) : Sp := spD K (R_pick leastR)
def sp_greatest_of (K : PySem.W.Frag) : Sp := spD K (R_pick greatR)
def R_floor_of (ds : List Dt) (d : Dt) : Prop := ∃ q, ds = [ratD q] ∧ SzR 2000 q ∧ d = .int (q.num / q.den)
def sp_floor_of (K : PySem.W.Frag) : Sp := spD K R_floor_of
def R_broken_of (ds : List Dt) (d : Dt) : Prop := ∃ q, ds = [ratD q] ∧ d = .tup [.int (q.num % q.den), .int q.den]
def sp_broken_of (K : PySem.W.Frag) : Sp := spD K R_broken_of
def ratText (q : Rat) : Str := if (q.den : Int) = 1 then toString q.num else (toString q.num ++ "/") ++ toString (q.den : Int)
def R_ratio_text (ds : List Dt) (d : Dt) : Prop := ∃ q, ds = [ratD q] ∧ SzR 1900 q ∧ d = .str (ratText q)
def sp_ratio_text (K : PySem.W.Frag) : Sp := spD K R_ratio_text
/-! the law's own -/
def R_mix (ds : List Dt) (d : Dt) : Prop := ∃ n t : Int, ds = [.int n, .int t] ∧ 0 ≤ n ∧ n < 2147483648 ∧ 0 ≤ t ∧ t < 1000 ∧ ∃ z : Int, 0 ≤ z ∧ d = .int z
def sp_u_law_mix (K : PySem.W.Frag) : Sp := spD K R_mix
def R_hand (ds : List Dt) (l : List Dt) : Prop := ∃ ns : List Int, ds = [.lst (ns.map Dt.int)] ∧ ns.length ≤ 63 ∧ HandOk l
def sp_u_law_hand (K : PySem.W.Frag) : Sp := spO K R_hand
def R_draw (ds : List Dt) (d : Dt) : Prop := ∃ m : Int, ds = [.int m] ∧ 0 < m ∧ m < 2 ^ 64 ∧ ∃ z : Int, 0 ≤ z ∧ z < m ∧ d = .int z
def sp_u_law_draw (K : PySem.W.Frag) : Sp := spH K R_draw
/-- 10 ^ 80 -/
def Few (x : Int) : Prop := x.natAbs < 10 ^ 80
def R_part (ds : List Dt) (d : Dt) : Prop := ∃ a b : Int, ds = [.int a, .int b] ∧ Few b ∧ d = .int ((Nat.gcd a.natAbs b.natAbs : Nat) : Int)
def sp_u_law_part (K : PySem.W.Frag) : Sp := spD K R_part
def R_lratio (ds : List Dt) (d : Dt) : Prop := ∃ a b : Int, ds = [.int a, .int b] ∧ b ≠ 0 ∧ Few b ∧ d = ratD (Rat.divInt a b)
def sp_u_law_ratio (K : PySem.W.Frag) : Sp := spD K R_lratio
def R_same (ds : List Dt) (d : Dt) : Prop := ∃ (q : Rat) (a b : Int), ds = [ratD q, .int a, .int b] ∧ b ≠ 0 ∧ Few b ∧ d = .bl (decide (q = Rat.divInt a b))
def sp_u_law_same_ratio (K : PySem.W.Frag) : Sp := spD K R_same
def isIntB : Dt → Bool
  | .int _ => true
  | _ => false
def R_whole (ds : List Dt) (d : Dt) : Prop := ∃ x, ds = [x] ∧ Kin x ∧ d = .bl (isIntB x)
def sp_u_law_whole (K : PySem.W.Frag) : Sp := spD K R_whole
def wordO : Out → Dt
  | .ok _ => .str "let"
  | .ex _ _ [x] => x
  | .ex _ _ _ => .non
def R_refused (ds : List Dt) (d : Dt) : Prop := ∃ x y, ds = [x, y] ∧ Kin x ∧ Kin y ∧ SzD x ∧ SzD y ∧ d = wordO (makeO 0 x y)
def sp_u_law_refused (K : PySem.W.Frag) : Sp := spD K R_refused
def R_lover (ds : List Dt) (d : Dt) : Prop := ∃ p q, ds = [ratD p, ratD q] ∧ SzR 2000 p ∧ SzR 2000 q ∧ d = (if q.num = 0 then .str "zero" else ratD (Rat.divInt (p.num * q.den) (p.den * q.num)))
def sp_u_law_over (K : PySem.W.Frag) : Sp := spD K R_lover
def Num (a b : Int) : Prop := Sz 60 a ∧ b ≠ 0 ∧ Sz 30 b
def R_pair (ds : List Dt) (d : Dt) : Prop := ∃ a b e f : Int, ds = [.int a, .int b, .int e, .int f] ∧ Num a b ∧ Num e f ∧ d = .bl true
def sp_u_law_pair (K : PySem.W.Frag) : Sp := spD K R_pair
def R_many (ds : List Dt) (d : Dt) : Prop := ∃ l : List (Int × Int), ds = [.lst (l.map fun p => .tup [.int p.1, .int p.2])] ∧ l ≠ [] ∧ l.length ≤ 8 ∧ (∀ p ∈ l, Num p.1 p.2) ∧ d = .bl true
def sp_u_law_many (K : PySem.W.Frag) : Sp := spD K R_many
def R_law (ds : List Dt) (d : Dt) : Prop := ∃ ns : List Int, ds = [.lst (ns.map Dt.int)] ∧ ns.length ≤ 63 ∧ d = .bl true
def sp_law (K : PySem.W.Frag) : Sp := spD K R_law
/-! ### levels -/
def kw_is_whole (vs zs : List V) : List V := match vs, zs with
  | [u], [h, l] => [u, l, h]
  | _, _ => []
abbrev l_is_whole := 1
abbrev l_is_ratio := 2
abbrev l_u_lowest := 1
abbrev l_make_ratio := 3
abbrev l_plus := 2
abbrev l_minus := 2
abbrev l_times := 2
abbrev l_over := 3
abbrev l_negative := 1
abbrev l_compare := 1
abbrev l_sum_of := 3
abbrev l_least_of := 2
abbrev l_greatest_of := 2
abbrev l_floor_of := 1
abbrev l_broken_of := 1
abbrev l_ratio_text := 1
abbrev l_u_law_mix := 1
abbrev l_u_law_hand := 1
abbrev l_u_law_draw := 2
abbrev l_u_law_part := 1
abbrev l_u_law_ratio := 2
abbrev l_u_law_same_ratio := 3
abbrev l_u_law_whole := 1
abbrev l_u_law_refused := 4
abbrev l_u_law_over := 4
abbrev l_u_law_pair := 5
abbrev l_u_law_many := 4
abbrev l_law := 6
abbrev m_is_whole := 0
abbrev m_is_ratio := 1
abbrev m_u_lowest := 0
abbrev m_make_ratio := 2
abbrev m_plus := 1
abbrev m_minus := 1
abbrev m_times := 1
abbrev m_over := 2
abbrev m_negative := 0
abbrev m_compare := 0
abbrev m_sum_of := 2
abbrev m_least_of := 1
abbrev m_greatest_of := 1
abbrev m_floor_of := 0
abbrev m_broken_of := 0
abbrev m_ratio_text := 0
abbrev m_u_law_mix := 0
abbrev m_u_law_hand := 0
abbrev m_u_law_draw := 1
abbrev m_u_law_part := 0
abbrev m_u_law_ratio := 1
abbrev m_u_law_same_ratio := 2
abbrev m_u_law_whole := 0
abbrev m_u_law_refused := 3
abbrev m_u_law_over := 3
abbrev m_u_law_pair := 4
abbrev m_u_law_many := 3
abbrev m_law := 5
/-! ### what the top has left -/
structure Txt (P : Program) (w : World) (K : PySem.W.Frag) (mg : Str → Option Value) (base : Heap) : Prop where
  b_abs : mg "abs" = none
  b_bool : mg "bool" = none
  b_enumerate : mg "enumerate" = none
  b_int : mg "int" = none
  b_isinstance : mg "isinstance" = none
  b_len : mg "len" = none
  b_list : mg "list" = none
  b_range : mg "range" = none
  b_str : mg "str" = none
  b_tuple : mg "tuple" = none
  g_gcd : mg "gcd" = some (.builtin "math.gcd")
  g_BadRatio : mg "BadRatio" = some (.ref (He.ga K "BadRatio"))
  g_ZERO : mg "ZERO" = some (.ref (He.ga K "ZERO"))
  g_ONE : mg "ONE" = some (.ref (He.ga K "ONE"))
  g_HALF : mg "HALF" = some (.ref (He.ga K "HALF"))
  z_ZERO : ∀ H, SqT K H (He.ga K "ZERO") [.int 0, .int 1]
  z_ONE : ∀ H, SqT K H (He.ga K "ONE") [.int 1, .int 1]
  z_HALF : ∀ H, SqT K H (He.ga K "HALF") [.int 1, .int 2]
  oex : OexC K (He.ga K "BadRatio")
  ini : ∃ fI fd, PySem.W.findIn K (.ref (He.ga K "BadRatio")) "__init__" = some (some (.ref fI)) ∧ PySem.W.typeIn K (.ref fI) = some (.type "function") ∧
    FnOk P w K mg base (L2.CX P w) 1 fI fd ["self", "what"] (spIni1 K (He.ga K "BadRatio") "what") ∧ Binds K fd ["self", "what"] []
  xf_BadRatio : XfC K (He.ga K "BadRatio")
  no_BadRatio_what : PySem.W.findIn K (.ref (He.ga K "BadRatio")) "what" = some none
  exm : PySem.W.exmOne K (.ref (He.ga K "BadRatio")) (.ref (He.ga K "BadRatio")) = some true
theorem Txt.mk_BadRatio {X : Cx} (T : Txt X.prog X.w X.K X.mg X.base) (hr : Room 2 X.A) {p pos : Pos} {e : Expr} {ta : TA} (ha : PA X [e] ta) (hg : Gl X "BadRatio" := by rfl)
    (he : starEach [e] X.env = (false, eval e X.env) :: starEach [] X.env := by rfl) (hpl : (backTo pos (starEach [] X.env)).any (·.1) = false := by rfl) :
    PMk X (.Call (.Name "BadRatio" p) [e] [] pos) (tMkO (He.ga X.K "BadRatio") (spIni1 X.K (He.ga X.K "BadRatio") "what") [] ta) := by
  obtain ⟨fI, fd, h1, h2, F, hb⟩ := T.ini
  exact pmk_oex T.oex h1 h2 F hr hb .nil passL hg T.g_BadRatio ha (by decide) he hpl
end K01
set_option Elab.async false
set_option linter.all false
set_option maxRecDepth 100000
set_option maxHeartbeats 4000000
namespace K01
open PySem PySem.Spec PyProof.Rows L2 My
abbrev s_is_whole : Stmt := top 8
abbrev N_is_whole : List Str := ["thing", "low", "high"]
theorem sc_is_whole : FnScope N_is_whole ["thing", "low", "high"] (defScope s_is_whole) := ⟨rfl, rfl, rfl, by decide +kernel, rfl, by decide +kernel, by decide +kernel⟩
def t_is_whole (K : PySem.W.Frag) : TS :=
  (tSeq (tIfS (tOr (tNot (tB (tCB (rIsi K) (tCons (tVar 0) (tCons (tC (.ty "int")) tNil))))) (tB (tCB (rIsi K) (tCons (tVar 0) (tCons (tC (.ty "bool")) tNil))))) (tRet (tC (.bl false))) tNext)
    (tSeq (tIfS (tAnd (tTest (tOp (fun x y H Q => y = .non ∧ Q (.bl (!decide (x = .non))) H) (tVar 1) (tC .non))) (tTest (tOp (rI0 fun i j => .bl (decide (i < j))) (tVar 0) (tVar 1)))) (tRet (tC (.bl false))) tNext)
    (tRet (tOrV (tOp (fun x y H Q => y = .non ∧ Q (.bl (decide (x = .non))) H) (tVar 2) (tC .non)) (tOp (rI0 fun i j => .bl (decide (i ≤ j))) (tVar 0) (tVar 2))))))
theorem d_is_whole {P : Program} {w : World} {K : PySem.W.Frag} {mg : Str → Option Value} {base : Heap} {f : Addr} {cdv : Value} {A : Around} {outer : List Env} {s : Shared} {H : Hp} {E : XK} (T : Txt P w K mg base)
    (hr : Room m_is_whole (A.deeper (envOfC "is_whole" (defScope s_is_whole) s.heap.objs.size f cdv))) :
    PSs (cxOf (L2.CX P w) P w K mg base N_is_whole "is_whole" (defScope s_is_whole) f cdv A outer s H E) (defBody s_is_whole) (t_is_whole K) :=
  (pss_cons (ps_if (PW.pt (pw_or (pt_not (pt_val (pe_callB call_isi (by rfl) T.b_isinstance (by decide +kernel) (pa_cons (pv 0) (pa_cons (pe_bltn (u := .type "int") (by rfl) T.b_int (by decide +kernel) (by rfl)) pa_nil))))) (pw_or1 (pt_val (pe_callB call_isi (by rfl) T.b_isinstance (by decide +kernel) (pa_cons (pv 0) (pa_cons (pe_bltn (u := .type "bool") (by rfl) T.b_bool (by decide +kernel) (by rfl)) pa_nil))))))) (pss_one (ps_ret pe_bl)) pss_nil)
    (pss_cons (ps_if (PW.pt (pw_and (pt_cmpR op_notN (pv 1) pe_non (nomark _)) (pw_and1 (pt_cmpR op_lt (pv 0) (pv 1) (nomark _))))) (pss_one (ps_ret pe_bl)) pss_nil)
    (pss_one (ps_ret (pe_or (pe_cmpR op_isN (pv 2) pe_non (nomark _)) (pe_one (pe_cmpR op_le (pv 0) (pv 2) (nomark _))))))))

abbrev s_is_ratio : Stmt := top 9
abbrev N_is_ratio : List Str := ["thing", "top", "bottom"]
theorem sc_is_ratio : FnScope N_is_ratio ["thing"] (defScope s_is_ratio) := ⟨rfl, rfl, rfl, by decide +kernel, rfl, by decide +kernel, by decide +kernel⟩
def t_is_ratio (K : PySem.W.Frag) : TS :=
  (tSeq (tIfS (tOr (tNot (tB (tCB (rIsi K) (tCons (tVar 0) (tCons (tC (.ty "tuple")) tNil))))) (tTest (tOp (rNeD K) (tCB (Evl.rLenS K) (tCons (tVar 0) tNil)) (tC (.int 2))))) (tRet (tC (.bl false))) tNext)
    (tSeq (tAsg (tVar 0) (gTup K 2 (gCons (gName 1) (gCons (gName 2) gNil))))
    (tRet (tAndV (tCall (sp_is_whole K) [.non, .non] E0 (tCons (tVar 1) tNil)) (tAndV (tCall (sp_is_whole K) [.non] E0 (tCons (tVar 2) (tCons (tC (.int 1)) tNil))) (tOp (rEqD K) (tCB rGcd (tCons (tVar 1) (tCons (tVar 2) tNil))) (tC (.int 1))))))))
theorem d_is_ratio {P : Program} {w : World} {K : PySem.W.Frag} {mg : Str → Option Value} {base : Heap} {f : Addr} {cdv : Value} {A : Around} {outer : List Env} {s : Shared} {H : Hp} {E : XK} (T : Txt P w K mg base) (C_is_whole_1 : Fd P w K mg base l_is_whole "is_whole" ["thing", "low", "high"] [.non, .non] (sp_is_whole K)) (C_is_whole_2 : Fd P w K mg base l_is_whole "is_whole" ["thing", "low", "high"] [.non] (sp_is_whole K))
    (hr : Room m_is_ratio (A.deeper (envOfC "is_ratio" (defScope s_is_ratio) s.heap.objs.size f cdv))) :
    PSs (cxOf (L2.CX P w) P w K mg base N_is_ratio "is_ratio" (defScope s_is_ratio) f cdv A outer s H E) (defBody s_is_ratio) (t_is_ratio K) :=
  (pss_cons (ps_if (PW.pt (pw_or (pt_not (pt_val (pe_callB call_isi (by rfl) T.b_isinstance (by decide +kernel) (pa_cons (pv 0) (pa_cons (pe_bltn (u := .type "tuple") (by rfl) T.b_tuple (by decide +kernel) (by rfl)) pa_nil))))) (pw_or1 (pt_cmpR (op_neD hr.units) (pe_callB call_len_seq (by rfl) T.b_len (by decide +kernel) (pa_cons (pv 0) pa_nil)) pe_int (nomark _))))) (pss_one (ps_ret pe_bl)) pss_nil)
    (pss_cons (ps_asg (pv 0) (pg_tup (by rfl) (pgs_cons (pg_name (i := 1) sc_is_ratio.nd (by rfl) (Or.inl rfl)) (pgs_cons (pg_name (i := 2) sc_is_ratio.nd (by rfl) (Or.inl rfl)) pgs_nil))))
    (pss_one (ps_ret (pe_and (pe_fd C_is_whole_1 (hr.mono (by decide)) (pa_cons (pv 1) pa_nil)) (pe_and (pe_fd C_is_whole_2 (hr.mono (by decide)) (pa_cons (pv 2) (pa_cons pe_int pa_nil))) (pe_one (pe_cmpR (op_eqD hr.units) (pe_callBfun cr_gcd (by rfl) T.g_gcd (pa_cons (pv 1) (pa_cons (pv 2) pa_nil))) pe_int (nomark _)))))))))

abbrev s_u_lowest : Stmt := top 10
abbrev N_u_lowest : List Str := ["top", "bottom", "part"]
theorem sc_u_lowest : FnScope N_u_lowest ["top", "bottom"] (defScope s_u_lowest) := ⟨rfl, rfl, rfl, by decide +kernel, rfl, by decide +kernel, by decide +kernel⟩
def t_u_lowest (K : PySem.W.Frag) : TS :=
  (tSeq (tAsg (tCB rGcd (tCons (tVar 0) (tCons (tVar 1) tNil))) (gName 2))
    (tSeq (tIfS (tTest (tOp (rI0 fun i j => .bl (decide (i < j))) (tVar 1) (tC (.int 0)))) (tAsg (tUn (rU fun i => .int (-i)) (tVar 2)) (gName 2)) tNext)
    (tRet (tTup (tCons (tOp (rI CDivA fun i j => .int (i.fdiv j)) (tVar 0) (tVar 2)) (tCons (tOp (rI CDivA fun i j => .int (i.fdiv j)) (tVar 1) (tVar 2)) tNil))))))
theorem d_u_lowest {P : Program} {w : World} {K : PySem.W.Frag} {mg : Str → Option Value} {base : Heap} {f : Addr} {cdv : Value} {A : Around} {outer : List Env} {s : Shared} {H : Hp} {E : XK} (T : Txt P w K mg base)
    (hr : Room m_u_lowest (A.deeper (envOfC "_lowest" (defScope s_u_lowest) s.heap.objs.size f cdv))) :
    PSs (cxOf (L2.CX P w) P w K mg base N_u_lowest "_lowest" (defScope s_u_lowest) f cdv A outer s H E) (defBody s_u_lowest) (t_u_lowest K) :=
  (pss_cons (ps_set (i := 2) sc_u_lowest.nd (by rfl) (Or.inl rfl) (pe_callBfun cr_gcd (by rfl) T.g_gcd (pa_cons (pv 0) (pa_cons (pv 1) pa_nil))))
    (pss_cons (ps_if (pt_cmpR op_lt (pv 1) pe_int (nomark _)) (pss_one (ps_set (i := 2) sc_u_lowest.nd (by rfl) (Or.inl rfl) (pe_un un_neg (pv 2)))) pss_nil)
    (pss_one (ps_ret (pe_tup (pa_cons (pe_op op_fdivA (pv 0) (pv 2)) (pa_cons (pe_op op_fdivA (pv 1) (pv 2)) pa_nil)))))))

abbrev s_make_ratio : Stmt := top 11
abbrev N_make_ratio : List Str := ["top", "bottom"]
theorem sc_make_ratio : FnScope N_make_ratio ["top", "bottom"] (defScope s_make_ratio) := ⟨rfl, rfl, rfl, by decide +kernel, rfl, by decide +kernel, by decide +kernel⟩
def t_make_ratio (K : PySem.W.Frag) (E : XK) : TS :=
  (tSeq (tIfS (tNot (tB (tCall (sp_is_whole K) [.non, .non] E0 (tCons (tVar 0) tNil)))) (fun (_ : Ends) σ H => tMkO (He.ga K "BadRatio") (spIni1 K (He.ga K "BadRatio") "what") [] (tCons (tC (.str "top")) tNil) σ H fun cls d H2 => E cls d H2) tNext)
    (tSeq (tIfS (tOr (tNot (tB (tCall (sp_is_whole K) [.non, .non] E0 (tCons (tVar 1) tNil)))) (tTest (tOp (rEqD K) (tVar 1) (tC (.int 0))))) (fun (_ : Ends) σ H => tMkO (He.ga K "BadRatio") (spIni1 K (He.ga K "BadRatio") "what") [] (tCons (tC (.str "bottom")) tNil) σ H fun cls d H2 => E cls d H2) tNext)
    (tRet (tCall (sp_u_lowest K) [] E0 (tCons (tVar 0) (tCons (tVar 1) tNil))))))
theorem d_make_ratio {P : Program} {w : World} {K : PySem.W.Frag} {mg : Str → Option Value} {base : Heap} {f : Addr} {cdv : Value} {A : Around} {outer : List Env} {s : Shared} {H : Hp} {E : XK} (T : Txt P w K mg base) (C_is_whole_1 : Fd P w K mg base l_is_whole "is_whole" ["thing", "low", "high"] [.non, .non] (sp_is_whole K)) (C_u_lowest : Fd P w K mg base l_u_lowest "_lowest" ["top", "bottom"] [] (sp_u_lowest K))
    (hr : Room m_make_ratio (A.deeper (envOfC "make_ratio" (defScope s_make_ratio) s.heap.objs.size f cdv))) :
    PSs (cxOf (L2.CX P w) P w K mg base N_make_ratio "make_ratio" (defScope s_make_ratio) f cdv A outer s H E) (defBody s_make_ratio) (t_make_ratio K E) :=
  (pss_cons (ps_if (pt_not (pt_val (pe_fd C_is_whole_1 (hr.mono (by decide)) (pa_cons (pv 0) pa_nil)))) (pss_one (ps_raise rfl (takes_of rfl rfl rfl rfl) (T.mk_BadRatio (hr.mono (by decide)) (pa_cons pe_str pa_nil)))) pss_nil)
    (pss_cons (ps_if (PW.pt (pw_or (pt_not (pt_val (pe_fd C_is_whole_1 (hr.mono (by decide)) (pa_cons (pv 1) pa_nil)))) (pw_or1 (pt_cmpR (op_eqD hr.units) (pv 1) pe_int (nomark _))))) (pss_one (ps_raise rfl (takes_of rfl rfl rfl rfl) (T.mk_BadRatio (hr.mono (by decide)) (pa_cons pe_str pa_nil)))) pss_nil)
    (pss_one (ps_ret (pe_fd C_u_lowest (hr.mono (by decide)) (pa_cons (pv 0) (pa_cons (pv 1) pa_nil)))))))

abbrev s_plus : Stmt := top 12
abbrev N_plus : List Str := ["one", "other"]
theorem sc_plus : FnScope N_plus ["one", "other"] (defScope s_plus) := ⟨rfl, rfl, rfl, by decide +kernel, rfl, by decide +kernel, by decide +kernel⟩
def t_plus (K : PySem.W.Frag) : TS :=
  (tRet (tCall (sp_u_lowest K) [] E0 (tCons (tOp (rI0 fun i j => .int (i + j)) (tOp (rI CMulW fun i j => .int (i * j)) (tOp (rIx K) (tVar 0) (tC (.int 0))) (tOp (rIx K) (tVar 1) (tC (.int 1)))) (tOp (rI CMulW fun i j => .int (i * j)) (tOp (rIx K) (tVar 1) (tC (.int 0))) (tOp (rIx K) (tVar 0) (tC (.int 1))))) (tCons (tOp (rI CMulW fun i j => .int (i * j)) (tOp (rIx K) (tVar 0) (tC (.int 1))) (tOp (rIx K) (tVar 1) (tC (.int 1)))) tNil))))
theorem d_plus {P : Program} {w : World} {K : PySem.W.Frag} {mg : Str → Option Value} {base : Heap} {f : Addr} {cdv : Value} {A : Around} {outer : List Env} {s : Shared} {H : Hp} {E : XK} (T : Txt P w K mg base) (C_u_lowest : Fd P w K mg base l_u_lowest "_lowest" ["top", "bottom"] [] (sp_u_lowest K))
    (hr : Room m_plus (A.deeper (envOfC "plus" (defScope s_plus) s.heap.objs.size f cdv))) :
    PSs (cxOf (L2.CX P w) P w K mg base N_plus "plus" (defScope s_plus) f cdv A outer s H E) (defBody s_plus) (t_plus K) :=
  (pss_one (ps_ret (pe_fd C_u_lowest (hr.mono (by decide)) (pa_cons (pe_op op_add (pe_op op_mulW (pe_ix ix_seq (pv 0) pe_int (fun _ _ => rfl)) (pe_ix ix_seq (pv 1) pe_int (fun _ _ => rfl))) (pe_op op_mulW (pe_ix ix_seq (pv 1) pe_int (fun _ _ => rfl)) (pe_ix ix_seq (pv 0) pe_int (fun _ _ => rfl)))) (pa_cons (pe_op op_mulW (pe_ix ix_seq (pv 0) pe_int (fun _ _ => rfl)) (pe_ix ix_seq (pv 1) pe_int (fun _ _ => rfl))) pa_nil)))))

abbrev s_minus : Stmt := top 13
abbrev N_minus : List Str := ["one", "other"]
theorem sc_minus : FnScope N_minus ["one", "other"] (defScope s_minus) := ⟨rfl, rfl, rfl, by decide +kernel, rfl, by decide +kernel, by decide +kernel⟩
def t_minus (K : PySem.W.Frag) : TS :=
  (tRet (tCall (sp_u_lowest K) [] E0 (tCons (tOp (rI0 fun i j => .int (i - j)) (tOp (rI CMulW fun i j => .int (i * j)) (tOp (rIx K) (tVar 0) (tC (.int 0))) (tOp (rIx K) (tVar 1) (tC (.int 1)))) (tOp (rI CMulW fun i j => .int (i * j)) (tOp (rIx K) (tVar 1) (tC (.int 0))) (tOp (rIx K) (tVar 0) (tC (.int 1))))) (tCons (tOp (rI CMulW fun i j => .int (i * j)) (tOp (rIx K) (tVar 0) (tC (.int 1))) (tOp (rIx K) (tVar 1) (tC (.int 1)))) tNil))))
theorem d_minus {P : Program} {w : World} {K : PySem.W.Frag} {mg : Str → Option Value} {base : Heap} {f : Addr} {cdv : Value} {A : Around} {outer : List Env} {s : Shared} {H : Hp} {E : XK} (T : Txt P w K mg base) (C_u_lowest : Fd P w K mg base l_u_lowest "_lowest" ["top", "bottom"] [] (sp_u_lowest K))
    (hr : Room m_minus (A.deeper (envOfC "minus" (defScope s_minus) s.heap.objs.size f cdv))) :
    PSs (cxOf (L2.CX P w) P w K mg base N_minus "minus" (defScope s_minus) f cdv A outer s H E) (defBody s_minus) (t_minus K) :=
  (pss_one (ps_ret (pe_fd C_u_lowest (hr.mono (by decide)) (pa_cons (pe_op op_sub (pe_op op_mulW (pe_ix ix_seq (pv 0) pe_int (fun _ _ => rfl)) (pe_ix ix_seq (pv 1) pe_int (fun _ _ => rfl))) (pe_op op_mulW (pe_ix ix_seq (pv 1) pe_int (fun _ _ => rfl)) (pe_ix ix_seq (pv 0) pe_int (fun _ _ => rfl)))) (pa_cons (pe_op op_mulW (pe_ix ix_seq (pv 0) pe_int (fun _ _ => rfl)) (pe_ix ix_seq (pv 1) pe_int (fun _ _ => rfl))) pa_nil)))))

abbrev s_times : Stmt := top 14
abbrev N_times : List Str := ["one", "other"]
theorem sc_times : FnScope N_times ["one", "other"] (defScope s_times) := ⟨rfl, rfl, rfl, by decide +kernel, rfl, by decide +kernel, by decide +kernel⟩
def t_times (K : PySem.W.Frag) : TS :=
  (tRet (tCall (sp_u_lowest K) [] E0 (tCons (tOp (rI CMulW fun i j => .int (i * j)) (tOp (rIx K) (tVar 0) (tC (.int 0))) (tOp (rIx K) (tVar 1) (tC (.int 0)))) (tCons (tOp (rI CMulW fun i j => .int (i * j)) (tOp (rIx K) (tVar 0) (tC (.int 1))) (tOp (rIx K) (tVar 1) (tC (.int 1)))) tNil))))
theorem d_times {P : Program} {w : World} {K : PySem.W.Frag} {mg : Str → Option Value} {base : Heap} {f : Addr} {cdv : Value} {A : Around} {outer : List Env} {s : Shared} {H : Hp} {E : XK} (T : Txt P w K mg base) (C_u_lowest : Fd P w K mg base l_u_lowest "_lowest" ["top", "bottom"] [] (sp_u_lowest K))
    (hr : Room m_times (A.deeper (envOfC "times" (defScope s_times) s.heap.objs.size f cdv))) :
    PSs (cxOf (L2.CX P w) P w K mg base N_times "times" (defScope s_times) f cdv A outer s H E) (defBody s_times) (t_times K) :=
  (pss_one (ps_ret (pe_fd C_u_lowest (hr.mono (by decide)) (pa_cons (pe_op op_mulW (pe_ix ix_seq (pv 0) pe_int (fun _ _ => rfl)) (pe_ix ix_seq (pv 1) pe_int (fun _ _ => rfl))) (pa_cons (pe_op op_mulW (pe_ix ix_seq (pv 0) pe_int (fun _ _ => rfl)) (pe_ix ix_seq (pv 1) pe_int (fun _ _ => rfl))) pa_nil)))))

abbrev s_over : Stmt := top 15
abbrev N_over : List Str := ["one", "other"]
theorem sc_over : FnScope N_over ["one", "other"] (defScope s_over) := ⟨rfl, rfl, rfl, by decide +kernel, rfl, by decide +kernel, by decide +kernel⟩
def t_over (K : PySem.W.Frag) (E : XK) : TS :=
  (tSeq (tIfS (tTest (tOp (rEqD K) (tOp (rIx K) (tVar 1) (tC (.int 0))) (tC (.int 0)))) (fun (_ : Ends) σ H => tMkO (He.ga K "BadRatio") (spIni1 K (He.ga K "BadRatio") "what") [] (tCons (tC (.str "zero")) tNil) σ H fun cls d H2 => E cls d H2) tNext)
    (tRet (tCall (sp_u_lowest K) [] E0 (tCons (tOp (rI CMulW fun i j => .int (i * j)) (tOp (rIx K) (tVar 0) (tC (.int 0))) (tOp (rIx K) (tVar 1) (tC (.int 1)))) (tCons (tOp (rI CMulW fun i j => .int (i * j)) (tOp (rIx K) (tVar 0) (tC (.int 1))) (tOp (rIx K) (tVar 1) (tC (.int 0)))) tNil)))))
theorem d_over {P : Program} {w : World} {K : PySem.W.Frag} {mg : Str → Option Value} {base : Heap} {f : Addr} {cdv : Value} {A : Around} {outer : List Env} {s : Shared} {H : Hp} {E : XK} (T : Txt P w K mg base) (C_u_lowest : Fd P w K mg base l_u_lowest "_lowest" ["top", "bottom"] [] (sp_u_lowest K))
    (hr : Room m_over (A.deeper (envOfC "over" (defScope s_over) s.heap.objs.size f cdv))) :
    PSs (cxOf (L2.CX P w) P w K mg base N_over "over" (defScope s_over) f cdv A outer s H E) (defBody s_over) (t_over K E) :=
  (pss_cons (ps_if (pt_cmpR (op_eqD hr.units) (pe_ix ix_seq (pv 1) pe_int (fun _ _ => rfl)) pe_int (nomark _)) (pss_one (ps_raise rfl (takes_of rfl rfl rfl rfl) (T.mk_BadRatio (hr.mono (by decide)) (pa_cons pe_str pa_nil)))) pss_nil)
    (pss_one (ps_ret (pe_fd C_u_lowest (hr.mono (by decide)) (pa_cons (pe_op op_mulW (pe_ix ix_seq (pv 0) pe_int (fun _ _ => rfl)) (pe_ix ix_seq (pv 1) pe_int (fun _ _ => rfl))) (pa_cons (pe_op op_mulW (pe_ix ix_seq (pv 0) pe_int (fun _ _ => rfl)) (pe_ix ix_seq (pv 1) pe_int (fun _ _ => rfl))) pa_nil))))))

abbrev s_negative : Stmt := top 16
abbrev N_negative : List Str := ["one"]
theorem sc_negative : FnScope N_negative ["one"] (defScope s_negative) := ⟨rfl, rfl, rfl, by decide +kernel, rfl, by decide +kernel, by decide +kernel⟩
def t_negative (K : PySem.W.Frag) : TS :=
  (tRet (tTup (tCons (tUn (rU fun i => .int (-i)) (tOp (rIx K) (tVar 0) (tC (.int 0)))) (tCons (tOp (rIx K) (tVar 0) (tC (.int 1))) tNil))))
theorem d_negative {P : Program} {w : World} {K : PySem.W.Frag} {mg : Str → Option Value} {base : Heap} {f : Addr} {cdv : Value} {A : Around} {outer : List Env} {s : Shared} {H : Hp} {E : XK} (T : Txt P w K mg base)
    (hr : Room m_negative (A.deeper (envOfC "negative" (defScope s_negative) s.heap.objs.size f cdv))) :
    PSs (cxOf (L2.CX P w) P w K mg base N_negative "negative" (defScope s_negative) f cdv A outer s H E) (defBody s_negative) (t_negative K) :=
  (pss_one (ps_ret (pe_tup (pa_cons (pe_un un_neg (pe_ix ix_seq (pv 0) pe_int (fun _ _ => rfl))) (pa_cons (pe_ix ix_seq (pv 0) pe_int (fun _ _ => rfl)) pa_nil)))))

abbrev s_compare : Stmt := top 17
abbrev N_compare : List Str := ["one", "other", "left", "right"]
theorem sc_compare : FnScope N_compare ["one", "other"] (defScope s_compare) := ⟨rfl, rfl, rfl, by decide +kernel, rfl, by decide +kernel, by decide +kernel⟩
def t_compare (K : PySem.W.Frag) : TS :=
  (tSeq (tAsg (tOp (rI CMulW fun i j => .int (i * j)) (tOp (rIx K) (tVar 0) (tC (.int 0))) (tOp (rIx K) (tVar 1) (tC (.int 1)))) (gName 2))
    (tSeq (tAsg (tOp (rI CMulW fun i j => .int (i * j)) (tOp (rIx K) (tVar 1) (tC (.int 0))) (tOp (rIx K) (tVar 0) (tC (.int 1)))) (gName 3))
    (tSeq (tIfS (tTest (tOp (rI0 fun i j => .bl (decide (i < j))) (tVar 2) (tVar 3))) (tRet (tUn (rU fun i => .int (-i)) (tC (.int 1)))) tNext)
    (tSeq (tIfS (tTest (tOp (rI0 fun i j => .bl (decide (j < i))) (tVar 2) (tVar 3))) (tRet (tC (.int 1))) tNext)
    (tRet (tC (.int 0)))))))
theorem d_compare {P : Program} {w : World} {K : PySem.W.Frag} {mg : Str → Option Value} {base : Heap} {f : Addr} {cdv : Value} {A : Around} {outer : List Env} {s : Shared} {H : Hp} {E : XK} (T : Txt P w K mg base)
    (hr : Room m_compare (A.deeper (envOfC "compare" (defScope s_compare) s.heap.objs.size f cdv))) :
    PSs (cxOf (L2.CX P w) P w K mg base N_compare "compare" (defScope s_compare) f cdv A outer s H E) (defBody s_compare) (t_compare K) :=
  (pss_cons (ps_set (i := 2) sc_compare.nd (by rfl) (Or.inl rfl) (pe_op op_mulW (pe_ix ix_seq (pv 0) pe_int (fun _ _ => rfl)) (pe_ix ix_seq (pv 1) pe_int (fun _ _ => rfl))))
    (pss_cons (ps_set (i := 3) sc_compare.nd (by rfl) (Or.inl rfl) (pe_op op_mulW (pe_ix ix_seq (pv 1) pe_int (fun _ _ => rfl)) (pe_ix ix_seq (pv 0) pe_int (fun _ _ => rfl))))
    (pss_cons (ps_if (pt_cmpR op_lt (pv 2) (pv 3) (nomark _)) (pss_one (ps_ret (pe_un un_neg pe_int))) pss_nil)
    (pss_cons (ps_if (pt_cmpR op_gt (pv 2) (pv 3) (nomark _)) (pss_one (ps_ret pe_int)) pss_nil)
    (pss_one (ps_ret pe_int))))))

abbrev s_sum_of : Stmt := top 18
abbrev N_sum_of : List Str := ["ratios", "total", "ratio"]
theorem sc_sum_of : FnScope N_sum_of ["ratios"] (defScope s_sum_of) := ⟨rfl, rfl, rfl, by decide +kernel, rfl, by decide +kernel, by decide +kernel⟩
def t_sum_of (K : PySem.W.Frag) : TS :=
  (tSeq (tAsg (tC (.ref (He.ga K "ZERO"))) (gName 1))
    (tSeq (tFor (iSeq K (tVar 0)) (gName 2) (tAsg (tCall (sp_plus K) [] E0 (tCons (tVar 1) (tCons (tVar 2) tNil))) (gName 1)))
    (tRet (tVar 1))))
theorem d_sum_of {P : Program} {w : World} {K : PySem.W.Frag} {mg : Str → Option Value} {base : Heap} {f : Addr} {cdv : Value} {A : Around} {outer : List Env} {s : Shared} {H : Hp} {E : XK} (T : Txt P w K mg base) (C_plus : Fd P w K mg base l_plus "plus" ["one", "other"] [] (sp_plus K))
    (hr : Room m_sum_of (A.deeper (envOfC "sum_of" (defScope s_sum_of) s.heap.objs.size f cdv))) :
    PSs (cxOf (L2.CX P w) P w K mg base N_sum_of "sum_of" (defScope s_sum_of) f cdv A outer s H E) (defBody s_sum_of) (t_sum_of K) :=
  (pss_cons (ps_set (i := 1) sc_sum_of.nd (by rfl) (Or.inl rfl) (pe_glob (by rfl) T.g_ZERO (by rfl)))
    (pss_cons (ps_for (passes_of rfl) rfl (pi_seq (pv 0)) (pg_name (i := 2) sc_sum_of.nd (by rfl) (Or.inl rfl)) (pss_one (ps_set (i := 1) sc_sum_of.nd (by rfl) (Or.inl rfl) (pe_fd C_plus (hr.mono (by decide)) (pa_cons (pv 1) (pa_cons (pv 2) pa_nil))))))
    (pss_one (ps_ret (pv 1)))))

abbrev s_least_of : Stmt := top 19
abbrev N_least_of : List Str := ["ratios", "best", "ratio"]
theorem sc_least_of : FnScope N_least_of ["ratios"] (defScope s_least_of) := ⟨rfl, rfl, rfl, by decide +kernel, rfl, by decide +kernel, by decide +kernel⟩
def t_least_of (K : PySem.W.Frag) : TS :=
  (tSeq (tAsg (tOp (rIx K) (tVar 0) (tC (.int 0))) (gName 1))
    (tSeq (tFor (iSeq K (tVar 0)) (gName 2) (tIfS (tTest (tOp (rI0 fun i j => .bl (decide (i < j))) (tCall (sp_compare K) [] E0 (tCons (tVar 2) (tCons (tVar 1) tNil))) (tC (.int 0)))) (tAsg (tVar 2) (gName 1)) tNext))
    (tRet (tVar 1))))
theorem d_least_of {P : Program} {w : World} {K : PySem.W.Frag} {mg : Str → Option Value} {base : Heap} {f : Addr} {cdv : Value} {A : Around} {outer : List Env} {s : Shared} {H : Hp} {E : XK} (T : Txt P w K mg base) (C_compare : Fd P w K mg base l_compare "compare" ["one", "other"] [] (sp_compare K))
    (hr : Room m_least_of (A.deeper (envOfC "least_of" (defScope s_least_of) s.heap.objs.size f cdv))) :
    PSs (cxOf (L2.CX P w) P w K mg base N_least_of "least_of" (defScope s_least_of) f cdv A outer s H E) (defBody s_least_of) (t_least_of K) :=
  (pss_cons (ps_set (i := 1) sc_least_of.nd (by rfl) (Or.inl rfl) (pe_ix ix_seq (pv 0) pe_int (fun _ _ => rfl)))
    (pss_cons (ps_for (passes_of rfl) rfl (pi_seq (pv 0)) (pg_name (i := 2) sc_least_of.nd (by rfl) (Or.inl rfl)) (pss_one (ps_if (pt_cmpR op_lt (pe_fd C_compare (hr.mono (by decide)) (pa_cons (pv 2) (pa_cons (pv 1) pa_nil))) pe_int (nomark _)) (pss_one (ps_set (i := 1) sc_least_of.nd (by rfl) (Or.inl rfl) (pv 2))) pss_nil)))
    (pss_one (ps_ret (pv 1)))))

abbrev s_greatest_of : Stmt := top 20
abbrev N_greatest_of : List Str := ["ratios", "best", "ratio"]
theorem sc_greatest_of : FnScope N_greatest_of ["ratios"] (defScope s_greatest_of) := ⟨rfl, rfl, rfl, by decide +kernel, rfl, by decide +kernel, by decide +kernel⟩
def t_greatest_of (K : PySem.W.Frag) : TS :=
  (tSeq (tAsg (tOp (rIx K) (tVar 0) (tC (.int 0))) (gName 1))
    (tSeq (tFor (iSeq K (tVar 0)) (gName 2) (tIfS (tTest (tOp (rI0 fun i j => .bl (decide (j < i))) (tCall (sp_compare K) [] E0 (tCons (tVar 2) (tCons (tVar 1) tNil))) (tC (.int 0)))) (tAsg (tVar 2) (gName 1)) tNext))
    (tRet (tVar 1))))
theorem d_greatest_of {P : Program} {w : World} {K : PySem.W.Frag} {mg : Str → Option Value} {base : Heap} {f : Addr} {cdv : Value} {A : Around} {outer : List Env} {s : Shared} {H : Hp} {E : XK} (T : Txt P w K mg base) (C_compare : Fd P w K mg base l_compare "compare" ["one", "other"] [] (sp_compare K))
    (hr : Room m_greatest_of (A.deeper (envOfC "greatest_of" (defScope s_greatest_of) s.heap.objs.size f cdv))) :
    PSs (cxOf (L2.CX P w) P w K mg base N_greatest_of "greatest_of" (defScope s_greatest_of) f cdv A outer s H E) (defBody s_greatest_of) (t_greatest_of K) :=
  (pss_cons (ps_set (i := 1) sc_greatest_of.nd (by rfl) (Or.inl rfl) (pe_ix ix_seq (pv 0) pe_int (fun _ _ => rfl)))
    (pss_cons (ps_for (passes_of rfl) rfl (pi_seq (pv 0)) (pg_name (i := 2) sc_greatest_of.nd (by rfl) (Or.inl rfl)) (pss_one (ps_if (pt_cmpR op_gt (pe_fd C_compare (hr.mono (by decide)) (pa_cons (pv 2) (pa_cons (pv 1) pa_nil))) pe_int (nomark _)) (pss_one (ps_set (i := 1) sc_greatest_of.nd (by rfl) (Or.inl rfl) (pv 2))) pss_nil)))
    (pss_one (ps_ret (pv 1)))))

abbrev s_floor_of : Stmt := top 21
abbrev N_floor_of : List Str := ["one"]
theorem sc_floor_of : FnScope N_floor_of ["one"] (defScope s_floor_of) := ⟨rfl, rfl, rfl, by decide +kernel, rfl, by decide +kernel, by decide +kernel⟩
def t_floor_of (K : PySem.W.Frag) : TS :=
  (tRet (tOp (rI CDivA fun i j => .int (i.fdiv j)) (tOp (rIx K) (tVar 0) (tC (.int 0))) (tOp (rIx K) (tVar 0) (tC (.int 1)))))
theorem d_floor_of {P : Program} {w : World} {K : PySem.W.Frag} {mg : Str → Option Value} {base : Heap} {f : Addr} {cdv : Value} {A : Around} {outer : List Env} {s : Shared} {H : Hp} {E : XK} (T : Txt P w K mg base)
    (hr : Room m_floor_of (A.deeper (envOfC "floor_of" (defScope s_floor_of) s.heap.objs.size f cdv))) :
    PSs (cxOf (L2.CX P w) P w K mg base N_floor_of "floor_of" (defScope s_floor_of) f cdv A outer s H E) (defBody s_floor_of) (t_floor_of K) :=
  (pss_one (ps_ret (pe_op op_fdivA (pe_ix ix_seq (pv 0) pe_int (fun _ _ => rfl)) (pe_ix ix_seq (pv 0) pe_int (fun _ _ => rfl)))))

abbrev s_broken_of : Stmt := top 22
abbrev N_broken_of : List Str := ["one"]
theorem sc_broken_of : FnScope N_broken_of ["one"] (defScope s_broken_of) := ⟨rfl, rfl, rfl, by decide +kernel, rfl, by decide +kernel, by decide +kernel⟩
def t_broken_of (K : PySem.W.Frag) : TS :=
  (tRet (tTup (tCons (tOp (rI (fun _ j => 0 < j) fun i j => .int (i % j)) (tOp (rIx K) (tVar 0) (tC (.int 0))) (tOp (rIx K) (tVar 0) (tC (.int 1)))) (tCons (tOp (rIx K) (tVar 0) (tC (.int 1))) tNil))))
theorem d_broken_of {P : Program} {w : World} {K : PySem.W.Frag} {mg : Str → Option Value} {base : Heap} {f : Addr} {cdv : Value} {A : Around} {outer : List Env} {s : Shared} {H : Hp} {E : XK} (T : Txt P w K mg base)
    (hr : Room m_broken_of (A.deeper (envOfC "broken_of" (defScope s_broken_of) s.heap.objs.size f cdv))) :
    PSs (cxOf (L2.CX P w) P w K mg base N_broken_of "broken_of" (defScope s_broken_of) f cdv A outer s H E) (defBody s_broken_of) (t_broken_of K) :=
  (pss_one (ps_ret (pe_tup (pa_cons (pe_op op_mod (pe_ix ix_seq (pv 0) pe_int (fun _ _ => rfl)) (pe_ix ix_seq (pv 0) pe_int (fun _ _ => rfl))) (pa_cons (pe_ix ix_seq (pv 0) pe_int (fun _ _ => rfl)) pa_nil)))))

abbrev s_ratio_text : Stmt := top 23
abbrev N_ratio_text : List Str := ["one"]
theorem sc_ratio_text : FnScope N_ratio_text ["one"] (defScope s_ratio_text) := ⟨rfl, rfl, rfl, by decide +kernel, rfl, by decide +kernel, by decide +kernel⟩
def t_ratio_text (K : PySem.W.Frag) : TS :=
  (tSeq (tIfS (tTest (tOp (rEqD K) (tOp (rIx K) (tVar 0) (tC (.int 1))) (tC (.int 1)))) (tRet (tCB (fun xs H Q => ∃ i, xs = [.int i] ∧ i.natAbs.log2 < 1920 ∧ Q (.str (toString i)) H) (tCons (tOp (rIx K) (tVar 0) (tC (.int 0))) tNil))) tNext)
    (tRet (tJoin [(tFmt (tOp (rIx K) (tVar 0) (tC (.int 0)))), (tC (.str "/")), (tFmt (tOp (rIx K) (tVar 0) (tC (.int 1))))])))
theorem d_ratio_text {P : Program} {w : World} {K : PySem.W.Frag} {mg : Str → Option Value} {base : Heap} {f : Addr} {cdv : Value} {A : Around} {outer : List Env} {s : Shared} {H : Hp} {E : XK} (T : Txt P w K mg base)
    (hr : Room m_ratio_text (A.deeper (envOfC "ratio_text" (defScope s_ratio_text) s.heap.objs.size f cdv))) :
    PSs (cxOf (L2.CX P w) P w K mg base N_ratio_text "ratio_text" (defScope s_ratio_text) f cdv A outer s H E) (defBody s_ratio_text) (t_ratio_text K) :=
  (pss_cons (ps_if (pt_cmpR (op_eqD hr.units) (pe_ix ix_seq (pv 0) pe_int (fun _ _ => rfl)) pe_int (nomark _)) (pss_one (ps_ret (pe_callTy call_str_int (by rfl) T.b_str (by decide +kernel) (pa_cons (pe_ix ix_seq (pv 0) pe_int (fun _ _ => rfl)) pa_nil)))) pss_nil)
    (pss_one (ps_ret (pe_joined (.cons (pe_fmt (pe_ix ix_seq (pv 0) pe_int (fun _ _ => rfl))) (.cons pe_str (.cons (pe_fmt (pe_ix ix_seq (pv 0) pe_int (fun _ _ => rfl))) .nil)))))))

abbrev s_u_law_mix : Stmt := top 25
abbrev N_u_law_mix : List Str := ["_law_number", "_law_turn", "_law_once", "_law_twice"]
theorem sc_u_law_mix : FnScope N_u_law_mix ["_law_number", "_law_turn"] (defScope s_u_law_mix) := ⟨rfl, rfl, rfl, by decide +kernel, rfl, by decide +kernel, by decide +kernel⟩
def t_u_law_mix (K : PySem.W.Frag) : TS :=
  (tSeq (tAsg (tOp (rI (fun _ j => 0 < j) fun i j => .int (i % j)) (tCB (fun xs H Q => (∃ i, xs = [.int i] ∧ Q (.int i) H) ∨ ∃ k, xs = [.bl k] ∧ Q (.int (if k then 1 else 0)) H) (tCons (tOp (rI0 fun i j => .int (i + j)) (tOp (rI0 fun i j => .int (i + j)) (tOp (rI CMulW fun i j => .int (i * j)) (tVar 0) (tC (.int 48271))) (tOp (rI CMulW fun i j => .int (i * j)) (tVar 1) (tC (.int 16807)))) (tC (.int 11))) tNil)) (tC (.int 2147483647))) (gName 2))
    (tSeq (tAsg (tOp (rI (fun _ j => 0 < j) fun i j => .int (i % j)) (tCB (fun xs H Q => (∃ i, xs = [.int i] ∧ Q (.int i) H) ∨ ∃ k, xs = [.bl k] ∧ Q (.int (if k then 1 else 0)) H) (tCons (tOp (rI0 fun i j => .int (i + j)) (tOp (rI0 fun i j => .int (i + j)) (tOp (rI CMulW fun i j => .int (i * j)) (tVar 2) (tVar 2)) (tOp (rI CMulW fun i j => .int (i * j)) (tOp (rI CDivA fun i j => .int (i.fdiv j)) (tVar 2) (tC (.int 127))) (tC (.int 40692)))) (tOp (rI CMulW fun i j => .int (i * j)) (tVar 1) (tC (.int 69621)))) tNil)) (tC (.int 2147483399))) (gName 3))
    (tRet (tOp (rI CDivA fun i j => .int (i.fdiv j)) (tOp (rI (fun _ j => 0 < j) fun i j => .int (i % j)) (tCB (fun xs H Q => (∃ i, xs = [.int i] ∧ Q (.int i) H) ∨ ∃ k, xs = [.bl k] ∧ Q (.int (if k then 1 else 0)) H) (tCons (tOp (rI0 fun i j => .int (i + j)) (tOp (rI CDivA fun i j => .int (i.fdiv j)) (tOp (rI CMulW fun i j => .int (i * j)) (tVar 3) (tVar 3)) (tC (.int 1009))) (tVar 2)) tNil)) (tC (.int 2147483563))) (tC (.int 16))))))
theorem d_u_law_mix {P : Program} {w : World} {K : PySem.W.Frag} {mg : Str → Option Value} {base : Heap} {f : Addr} {cdv : Value} {A : Around} {outer : List Env} {s : Shared} {H : Hp} {E : XK} (T : Txt P w K mg base)
    (hr : Room m_u_law_mix (A.deeper (envOfC "_law_mix" (defScope s_u_law_mix) s.heap.objs.size f cdv))) :
    PSs (cxOf (L2.CX P w) P w K mg base N_u_law_mix "_law_mix" (defScope s_u_law_mix) f cdv A outer s H E) (defBody s_u_law_mix) (t_u_law_mix K) :=
  (pss_cons (ps_set (i := 2) sc_u_law_mix.nd (by rfl) (Or.inl rfl) (pe_op op_mod (pe_callTy call_int1 (by rfl) T.b_int (by decide +kernel) (pa_cons (pe_op op_add (pe_op op_add (pe_op op_mulW (pv 0) pe_int) (pe_op op_mulW (pv 1) pe_int)) pe_int) pa_nil)) pe_int))
    (pss_cons (ps_set (i := 3) sc_u_law_mix.nd (by rfl) (Or.inl rfl) (pe_op op_mod (pe_callTy call_int1 (by rfl) T.b_int (by decide +kernel) (pa_cons (pe_op op_add (pe_op op_add (pe_op op_mulW (pv 2) (pv 2)) (pe_op op_mulW (pe_op op_fdivA (pv 2) pe_int) pe_int)) (pe_op op_mulW (pv 1) pe_int)) pa_nil)) pe_int))
    (pss_one (ps_ret (pe_op op_fdivA (pe_op op_mod (pe_callTy call_int1 (by rfl) T.b_int (by decide +kernel) (pa_cons (pe_op op_add (pe_op op_fdivA (pe_op op_mulW (pv 3) (pv 3)) pe_int) (pv 2)) pa_nil)) pe_int) pe_int)))))

abbrev s_u_law_hand : Stmt := top 26
abbrev N_u_law_hand : List Str := ["_law_script", "_law_total", "_law_k", "_law_cell"]
theorem sc_u_law_hand : FnScope N_u_law_hand ["_law_script"] (defScope s_u_law_hand) := ⟨rfl, rfl, rfl, by decide +kernel, rfl, by decide +kernel, by decide +kernel⟩
def t_u_law_hand (K : PySem.W.Frag) : TS :=
  (tSeq (tAsg (tC (.int 0)) (gName 1))
    (tSeq (tFor (iEnum K (tCons (tVar 0) tNil)) (gTup K 2 (gCons (gName 2) (gCons (gName 3) gNil))) (tAsg (tOp (rI (fun _ j => 0 < j) fun i j => .int (i % j)) (tCB (fun xs H Q => (∃ i, xs = [.int i] ∧ Q (.int i) H) ∨ ∃ k, xs = [.bl k] ∧ Q (.int (if k then 1 else 0)) H) (tCons (tOp (rI0 fun i j => .int (i + j)) (tOp (rI CMul fun i j => .int (i * j)) (tVar 1) (tC (.int 31))) (tOp (rI CMul fun i j => .int (i * j)) (tCB (fun xs H Q => (∃ i, xs = [.int i] ∧ Q (.int i) H) ∨ ∃ k, xs = [.bl k] ∧ Q (.int (if k then 1 else 0)) H) (tCons (tVar 3) tNil)) (tOp (rI0 fun i j => .int (i + j)) (tVar 2) (tC (.int 7))))) tNil)) (tC (.int 2147483629))) (gName 1)))
    (tRet (tLst (tCons (tLc (iSeq K (tVar 0)) (gName 3) tYes (tCB (fun xs H Q => ∃ i, xs = [.int i] ∧ Q (.int (if i < 0 then -i else i)) H) (tCons (tCB (fun xs H Q => (∃ i, xs = [.int i] ∧ Q (.int i) H) ∨ ∃ k, xs = [.bl k] ∧ Q (.int (if k then 1 else 0)) H) (tCons (tVar 3) tNil)) tNil)) [3]) (tCons (tC (.int 0)) (tCons (tC (.int 0)) (tCons (tVar 1) tNil))))))))
theorem d_u_law_hand {P : Program} {w : World} {K : PySem.W.Frag} {mg : Str → Option Value} {base : Heap} {f : Addr} {cdv : Value} {A : Around} {outer : List Env} {s : Shared} {H : Hp} {E : XK} (T : Txt P w K mg base)
    (hr : Room m_u_law_hand (A.deeper (envOfC "_law_hand" (defScope s_u_law_hand) s.heap.objs.size f cdv))) :
    PSs (cxOf (L2.CX P w) P w K mg base N_u_law_hand "_law_hand" (defScope s_u_law_hand) f cdv A outer s H E) (defBody s_u_law_hand) (t_u_law_hand K) :=
  (pss_cons (ps_set (i := 1) sc_u_law_hand.nd (by rfl) (Or.inl rfl) pe_int)
    (pss_cons (ps_for (passes_of rfl) rfl (pi_enum (by rfl) T.b_enumerate (pa_cons (pv 0) pa_nil)) (pg_tup (by rfl) (pgs_cons (pg_name (i := 2) sc_u_law_hand.nd (by rfl) (Or.inl rfl)) (pgs_cons (pg_name (i := 3) sc_u_law_hand.nd (by rfl) (Or.inl rfl)) pgs_nil))) (pss_one (ps_set (i := 1) sc_u_law_hand.nd (by rfl) (Or.inl rfl) (pe_op op_mod (pe_callTy call_int1 (by rfl) T.b_int (by decide +kernel) (pa_cons (pe_op op_add (pe_op op_mul (pv 1) pe_int) (pe_op op_mul (pe_callTy call_int1 (by rfl) T.b_int (by decide +kernel) (pa_cons (pv 3) pa_nil)) (pe_op op_add (pv 2) pe_int))) pa_nil)) pe_int))))
    (pss_one (ps_ret (pe_lst (pa_cons (pe_lc (own := [("_law_cell", 3)]) (g := (gName 3)) (by rfl) sc_u_law_hand.nd (pi_seq (pv 0)) (blkOk_by (own := [("_law_cell", 3)]) (N := N_u_law_hand) (sc := defScope s_u_law_hand) (by decide +kernel)) (fun _ _ _ _ _ => (pg_name (i := 3) sc_u_law_hand.nd (by rfl) (Or.inl rfl))) (fun _ _ _ _ _ => pts_nil) (fun _ _ _ _ _ => (pe_callB call_abs (by rfl) T.b_abs (by decide +kernel) (pa_cons (pe_callTy call_int1 (by rfl) T.b_int (by decide +kernel) (pa_cons (pv 3) pa_nil)) pa_nil)))) (pa_cons pe_int (pa_cons pe_int (pa_cons (pv 1) pa_nil)))))))))

abbrev s_u_law_draw : Stmt := top 27
abbrev N_u_law_draw : List Str := ["_law_hand_here", "_law_many_here", "_law_cell", "_law_rest"]
theorem sc_u_law_draw : FnScope N_u_law_draw ["_law_hand_here", "_law_many_here"] (defScope s_u_law_draw) := ⟨rfl, rfl, rfl, by decide +kernel, rfl, by decide +kernel, by decide +kernel⟩
def t_u_law_draw (K : PySem.W.Frag) : TS :=
  (tSeq (tIfS (tAnd (tTest (tOp (rEqD K) (tOp (rIx K) (tVar 0) (tC (.int 2))) (tC (.int 0)))) (tTest (tOp (rI0 fun i j => .bl (decide (i < j))) (tOp (rIx K) (tVar 0) (tC (.int 1))) (tCB (Evl.rLenS K) (tCons (tOp (rIx K) (tVar 0) (tC (.int 0))) tNil))))) (tSeq (tAsg (tOp (rIx K) (tOp (rIx K) (tVar 0) (tC (.int 0))) (tOp (rIx K) (tVar 0) (tC (.int 1)))) (gName 2))
    (tSeq (tAsg (tOp (rI0 fun i j => .int (i + j)) (tOp (rIx K) (tVar 0) (tC (.int 1))) (tC (.int 1))) (gSub (tVar 0) (tC (.int 1)) rSetL))
    (tSeq (tIfS (tTest (tOp (rI0 fun i j => .bl (decide (i < j))) (tVar 2) (tOp (rI CPow fun i j => .int (i ^ j.toNat)) (tC (.int 10)) (tC (.int 18))))) (tRet (tOp (rI (fun _ j => 0 < j) fun i j => .int (i % j)) (tCB (fun xs H Q => (∃ i, xs = [.int i] ∧ Q (.int i) H) ∨ ∃ k, xs = [.bl k] ∧ Q (.int (if k then 1 else 0)) H) (tCons (tCall (sp_u_law_mix K) [] E0 (tCons (tOp (rI (fun _ j => 0 < j) fun i j => .int (i % j)) (tCB (fun xs H Q => (∃ i, xs = [.int i] ∧ Q (.int i) H) ∨ ∃ k, xs = [.bl k] ∧ Q (.int (if k then 1 else 0)) H) (tCons (tVar 2) tNil)) (tC (.int 2147483647))) (tCons (tOp (rIx K) (tVar 0) (tC (.int 1))) tNil))) tNil)) (tVar 1))) tNext)
    (tAsg (tVar 2) (gSub (tVar 0) (tC (.int 2)) rSetL))))) tNext)
    (tSeq (tIfS (tTest (tOp (rI0 fun i j => .bl (decide (j < i))) (tOp (rIx K) (tVar 0) (tC (.int 2))) (tC (.int 0)))) (tSeq (tAsg (tOp (rIx K) (tVar 0) (tC (.int 2))) (gName 3))
    (tSeq (tAsg (tOp (rI CDivA fun i j => .int (i.fdiv j)) (tVar 3) (tVar 1)) (gSub (tVar 0) (tC (.int 2)) rSetL))
    (tRet (tOp (rI (fun _ j => 0 < j) fun i j => .int (i % j)) (tCB (fun xs H Q => (∃ i, xs = [.int i] ∧ Q (.int i) H) ∨ ∃ k, xs = [.bl k] ∧ Q (.int (if k then 1 else 0)) H) (tCons (tVar 3) tNil)) (tVar 1))))) tNext)
    (tSeq (tAsg (tOp (rI (fun _ j => 0 < j) fun i j => .int (i % j)) (tCB (fun xs H Q => (∃ i, xs = [.int i] ∧ Q (.int i) H) ∨ ∃ k, xs = [.bl k] ∧ Q (.int (if k then 1 else 0)) H) (tCons (tOp (rI0 fun i j => .int (i + j)) (tOp (rIx K) (tVar 0) (tC (.int 3))) (tC (.int 1))) tNil)) (tC (.int 2147483629))) (gSub (tVar 0) (tC (.int 3)) rSetL))
    (tRet (tOp (rI (fun _ j => 0 < j) fun i j => .int (i % j)) (tCB (fun xs H Q => (∃ i, xs = [.int i] ∧ Q (.int i) H) ∨ ∃ k, xs = [.bl k] ∧ Q (.int (if k then 1 else 0)) H) (tCons (tCall (sp_u_law_mix K) [] E0 (tCons (tOp (rIx K) (tVar 0) (tC (.int 3))) (tCons (tOp (rIx K) (tVar 0) (tC (.int 1))) tNil))) tNil)) (tVar 1))))))
theorem d_u_law_draw {P : Program} {w : World} {K : PySem.W.Frag} {mg : Str → Option Value} {base : Heap} {f : Addr} {cdv : Value} {A : Around} {outer : List Env} {s : Shared} {H : Hp} {E : XK} (T : Txt P w K mg base) (C_u_law_mix : Fd P w K mg base l_u_law_mix "_law_mix" ["_law_number", "_law_turn"] [] (sp_u_law_mix K))
    (hr : Room m_u_law_draw (A.deeper (envOfC "_law_draw" (defScope s_u_law_draw) s.heap.objs.size f cdv))) :
    PSs (cxOf (L2.CX P w) P w K mg base N_u_law_draw "_law_draw" (defScope s_u_law_draw) f cdv A outer s H E) (defBody s_u_law_draw) (t_u_law_draw K) :=
  (pss_cons (ps_if (PW.pt (pw_and (pt_cmpR (op_eqD hr.units) (pe_ix ix_seq (pv 0) pe_int (fun _ _ => rfl)) pe_int (nomark _)) (pw_and1 (pt_cmpR op_lt (pe_ix ix_seq (pv 0) pe_int (fun _ _ => rfl)) (pe_callB call_len_seq (by rfl) T.b_len (by decide +kernel) (pa_cons (pe_ix ix_seq (pv 0) pe_int (fun _ _ => rfl)) pa_nil)) (nomark _))))) (pss_cons (ps_set (i := 2) sc_u_law_draw.nd (by rfl) (Or.inl rfl) (pe_ix ix_seq (pe_ix ix_seq (pv 0) pe_int (fun _ _ => rfl)) (pe_ix ix_seq (pv 0) pe_int (fun _ _ => rfl)) (fun _ _ => rfl)))
    (pss_cons (ps_asg (pe_op op_add (pe_ix ix_seq (pv 0) pe_int (fun _ _ => rfl)) pe_int) (pg_sub (pv 0) pe_int set_list))
    (pss_cons (ps_if (pt_cmpR op_lt (pv 2) (pe_op op_pow pe_int pe_int) (nomark _)) (pss_one (ps_ret (pe_op op_mod (pe_callTy call_int1 (by rfl) T.b_int (by decide +kernel) (pa_cons (pe_fd C_u_law_mix (hr.mono (by decide)) (pa_cons (pe_op op_mod (pe_callTy call_int1 (by rfl) T.b_int (by decide +kernel) (pa_cons (pv 2) pa_nil)) pe_int) (pa_cons (pe_ix ix_seq (pv 0) pe_int (fun _ _ => rfl)) pa_nil))) pa_nil)) (pv 1)))) pss_nil)
    (pss_one (ps_asg (pv 2) (pg_sub (pv 0) pe_int set_list)))))) pss_nil)
    (pss_cons (ps_if (pt_cmpR op_gt (pe_ix ix_seq (pv 0) pe_int (fun _ _ => rfl)) pe_int (nomark _)) (pss_cons (ps_set (i := 3) sc_u_law_draw.nd (by rfl) (Or.inl rfl) (pe_ix ix_seq (pv 0) pe_int (fun _ _ => rfl)))
    (pss_cons (ps_asg (pe_op op_fdivA (pv 3) (pv 1)) (pg_sub (pv 0) pe_int set_list))
    (pss_one (ps_ret (pe_op op_mod (pe_callTy call_int1 (by rfl) T.b_int (by decide +kernel) (pa_cons (pv 3) pa_nil)) (pv 1)))))) pss_nil)
    (pss_cons (ps_asg (pe_op op_mod (pe_callTy call_int1 (by rfl) T.b_int (by decide +kernel) (pa_cons (pe_op op_add (pe_ix ix_seq (pv 0) pe_int (fun _ _ => rfl)) pe_int) pa_nil)) pe_int) (pg_sub (pv 0) pe_int set_list))
    (pss_one (ps_ret (pe_op op_mod (pe_callTy call_int1 (by rfl) T.b_int (by decide +kernel) (pa_cons (pe_fd C_u_law_mix (hr.mono (by decide)) (pa_cons (pe_ix ix_seq (pv 0) pe_int (fun _ _ => rfl)) (pa_cons (pe_ix ix_seq (pv 0) pe_int (fun _ _ => rfl)) pa_nil))) pa_nil)) (pv 1)))))))

abbrev s_u_law_part : Stmt := top 28
abbrev N_u_law_part : List Str := ["_law_a", "_law_b", "_law_step"]
theorem sc_u_law_part : FnScope N_u_law_part ["_law_a", "_law_b"] (defScope s_u_law_part) := ⟨rfl, rfl, rfl, by decide +kernel, rfl, by decide +kernel, by decide +kernel⟩
def t_u_law_part (K : PySem.W.Frag) : TS :=
  (tSeq (tAsg (tCB (fun xs H Q => ∃ i, xs = [.int i] ∧ Q (.int (if i < 0 then -i else i)) H) (tCons (tVar 0) tNil)) (gName 0))
    (tSeq (tAsg (tCB (fun xs H Q => ∃ i, xs = [.int i] ∧ Q (.int (if i < 0 then -i else i)) H) (tCons (tVar 1) tNil)) (gName 1))
    (tSeq (tFor (iRng1 (tCons (tC (.int 400)) tNil)) (gName 2) (tSeq (tIfS (tTest (tOp (rEqD K) (tVar 1) (tC (.int 0)))) tBreak tNext)
    (tPar 0 1 (tCons (tVar 1) (tCons (tOp (rI (fun _ j => 0 < j) fun i j => .int (i % j)) (tCB (fun xs H Q => (∃ i, xs = [.int i] ∧ Q (.int i) H) ∨ ∃ k, xs = [.bl k] ∧ Q (.int (if k then 1 else 0)) H) (tCons (tVar 0) tNil)) (tVar 1)) tNil)))))
    (tRet (tVar 0)))))
theorem d_u_law_part {P : Program} {w : World} {K : PySem.W.Frag} {mg : Str → Option Value} {base : Heap} {f : Addr} {cdv : Value} {A : Around} {outer : List Env} {s : Shared} {H : Hp} {E : XK} (T : Txt P w K mg base)
    (hr : Room m_u_law_part (A.deeper (envOfC "_law_part" (defScope s_u_law_part) s.heap.objs.size f cdv))) :
    PSs (cxOf (L2.CX P w) P w K mg base N_u_law_part "_law_part" (defScope s_u_law_part) f cdv A outer s H E) (defBody s_u_law_part) (t_u_law_part K) :=
  (pss_cons (ps_set (i := 0) sc_u_law_part.nd (by rfl) (Or.inl rfl) (pe_callB call_abs (by rfl) T.b_abs (by decide +kernel) (pa_cons (pv 0) pa_nil)))
    (pss_cons (ps_set (i := 1) sc_u_law_part.nd (by rfl) (Or.inl rfl) (pe_callB call_abs (by rfl) T.b_abs (by decide +kernel) (pa_cons (pv 1) pa_nil)))
    (pss_cons (ps_for (passes_of rfl) rfl (pi_range1 (by rfl) T.b_range (pa_cons pe_int pa_nil)) (pg_name (i := 2) sc_u_law_part.nd (by rfl) (Or.inl rfl)) (pss_cons (ps_if (pt_cmpR (op_eqD hr.units) (pv 1) pe_int (nomark _)) (pss_one ps_break) pss_nil)
    (pss_one (ps_par (by rfl) sc_u_law_part.nd (by rfl) (by rfl) (by decide) (by rfl) (by rfl) (pa_cons (pv 1) (pa_cons (pe_op op_mod (pe_callTy call_int1 (by rfl) T.b_int (by decide +kernel) (pa_cons (pv 0) pa_nil)) (pv 1)) pa_nil)) (by rfl)))))
    (pss_one (ps_ret (pv 0))))))

abbrev s_u_law_ratio : Stmt := top 29
abbrev N_u_law_ratio : List Str := ["_law_top", "_law_bottom", "_law_part_here"]
theorem sc_u_law_ratio : FnScope N_u_law_ratio ["_law_top", "_law_bottom"] (defScope s_u_law_ratio) := ⟨rfl, rfl, rfl, by decide +kernel, rfl, by decide +kernel, by decide +kernel⟩
def t_u_law_ratio (K : PySem.W.Frag) : TS :=
  (tSeq (tIfS (tTest (tOp (rI0 fun i j => .bl (decide (i < j))) (tVar 1) (tC (.int 0)))) (tSeq (tAsg (tUn (rU fun i => .int (-i)) (tVar 0)) (gName 0))
    (tAsg (tUn (rU fun i => .int (-i)) (tVar 1)) (gName 1))) tNext)
    (tSeq (tAsg (tCall (sp_u_law_part K) [] E0 (tCons (tVar 0) (tCons (tVar 1) tNil))) (gName 2))
    (tRet (tTup (tCons (tOp (rI CDivA fun i j => .int (i.fdiv j)) (tVar 0) (tVar 2)) (tCons (tOp (rI CDivA fun i j => .int (i.fdiv j)) (tVar 1) (tVar 2)) tNil))))))
theorem d_u_law_ratio {P : Program} {w : World} {K : PySem.W.Frag} {mg : Str → Option Value} {base : Heap} {f : Addr} {cdv : Value} {A : Around} {outer : List Env} {s : Shared} {H : Hp} {E : XK} (T : Txt P w K mg base) (C_u_law_part : Fd P w K mg base l_u_law_part "_law_part" ["_law_a", "_law_b"] [] (sp_u_law_part K))
    (hr : Room m_u_law_ratio (A.deeper (envOfC "_law_ratio" (defScope s_u_law_ratio) s.heap.objs.size f cdv))) :
    PSs (cxOf (L2.CX P w) P w K mg base N_u_law_ratio "_law_ratio" (defScope s_u_law_ratio) f cdv A outer s H E) (defBody s_u_law_ratio) (t_u_law_ratio K) :=
  (pss_cons (ps_if (pt_cmpR op_lt (pv 1) pe_int (nomark _)) (pss_cons (ps_set (i := 0) sc_u_law_ratio.nd (by rfl) (Or.inl rfl) (pe_un un_neg (pv 0)))
    (pss_one (ps_set (i := 1) sc_u_law_ratio.nd (by rfl) (Or.inl rfl) (pe_un un_neg (pv 1))))) pss_nil)
    (pss_cons (ps_set (i := 2) sc_u_law_ratio.nd (by rfl) (Or.inl rfl) (pe_fd C_u_law_part (hr.mono (by decide)) (pa_cons (pv 0) (pa_cons (pv 1) pa_nil))))
    (pss_one (ps_ret (pe_tup (pa_cons (pe_op op_fdivA (pv 0) (pv 2)) (pa_cons (pe_op op_fdivA (pv 1) (pv 2)) pa_nil)))))))

abbrev s_u_law_same_ratio : Stmt := top 30
abbrev N_u_law_same_ratio : List Str := ["_law_told", "_law_top", "_law_bottom", "_law_number"]
theorem sc_u_law_same_ratio : FnScope N_u_law_same_ratio ["_law_told", "_law_top", "_law_bottom"] (defScope s_u_law_same_ratio) := ⟨rfl, rfl, rfl, by decide +kernel, rfl, by decide +kernel, by decide +kernel⟩
def t_u_law_same_ratio (K : PySem.W.Frag) : TS :=
  (tSeq (tIfS (tOr (tNot (tB (tCB (rIsi K) (tCons (tVar 0) (tCons (tC (.ty "tuple")) tNil))))) (tTest (tOp (rNeD K) (tCB (Evl.rLenS K) (tCons (tVar 0) tNil)) (tC (.int 2))))) (tRet (tC (.bl false))) tNext)
    (tSeq (tFor (iSeq K (tVar 0)) (gName 3) (tIfS (tOr (tNot (tB (tCB (rIsi K) (tCons (tVar 3) (tCons (tC (.ty "int")) tNil))))) (tB (tCB (rIsi K) (tCons (tVar 3) (tCons (tC (.ty "bool")) tNil))))) (tRet (tC (.bl false))) tNext))
    (tRet (tOp (rEqD K) (tVar 0) (tCall (sp_u_law_ratio K) [] E0 (tCons (tVar 1) (tCons (tVar 2) tNil)))))))
theorem d_u_law_same_ratio {P : Program} {w : World} {K : PySem.W.Frag} {mg : Str → Option Value} {base : Heap} {f : Addr} {cdv : Value} {A : Around} {outer : List Env} {s : Shared} {H : Hp} {E : XK} (T : Txt P w K mg base) (C_u_law_ratio : Fd P w K mg base l_u_law_ratio "_law_ratio" ["_law_top", "_law_bottom"] [] (sp_u_law_ratio K))
    (hr : Room m_u_law_same_ratio (A.deeper (envOfC "_law_same_ratio" (defScope s_u_law_same_ratio) s.heap.objs.size f cdv))) :
    PSs (cxOf (L2.CX P w) P w K mg base N_u_law_same_ratio "_law_same_ratio" (defScope s_u_law_same_ratio) f cdv A outer s H E) (defBody s_u_law_same_ratio) (t_u_law_same_ratio K) :=
  (pss_cons (ps_if (PW.pt (pw_or (pt_not (pt_val (pe_callB call_isi (by rfl) T.b_isinstance (by decide +kernel) (pa_cons (pv 0) (pa_cons (pe_bltn (u := .type "tuple") (by rfl) T.b_tuple (by decide +kernel) (by rfl)) pa_nil))))) (pw_or1 (pt_cmpR (op_neD hr.units) (pe_callB call_len_seq (by rfl) T.b_len (by decide +kernel) (pa_cons (pv 0) pa_nil)) pe_int (nomark _))))) (pss_one (ps_ret pe_bl)) pss_nil)
    (pss_cons (ps_for (passes_of rfl) rfl (pi_seq (pv 0)) (pg_name (i := 3) sc_u_law_same_ratio.nd (by rfl) (Or.inl rfl)) (pss_one (ps_if (PW.pt (pw_or (pt_not (pt_val (pe_callB call_isi (by rfl) T.b_isinstance (by decide +kernel) (pa_cons (pv 3) (pa_cons (pe_bltn (u := .type "int") (by rfl) T.b_int (by decide +kernel) (by rfl)) pa_nil))))) (pw_or1 (pt_val (pe_callB call_isi (by rfl) T.b_isinstance (by decide +kernel) (pa_cons (pv 3) (pa_cons (pe_bltn (u := .type "bool") (by rfl) T.b_bool (by decide +kernel) (by rfl)) pa_nil))))))) (pss_one (ps_ret pe_bl)) pss_nil)))
    (pss_one (ps_ret (pe_cmpR (op_eqD hr.units) (pv 0) (pe_fd C_u_law_ratio (hr.mono (by decide)) (pa_cons (pv 1) (pa_cons (pv 2) pa_nil))) (nomark _))))))

abbrev s_u_law_whole : Stmt := top 31
abbrev N_u_law_whole : List Str := ["_law_thing"]
theorem sc_u_law_whole : FnScope N_u_law_whole ["_law_thing"] (defScope s_u_law_whole) := ⟨rfl, rfl, rfl, by decide +kernel, rfl, by decide +kernel, by decide +kernel⟩
def t_u_law_whole (K : PySem.W.Frag) : TS :=
  (tRet (tAndV (tCB (rIsi K) (tCons (tVar 0) (tCons (tC (.ty "int")) tNil))) (tNotV (tCB (rIsi K) (tCons (tVar 0) (tCons (tC (.ty "bool")) tNil))))))
theorem d_u_law_whole {P : Program} {w : World} {K : PySem.W.Frag} {mg : Str → Option Value} {base : Heap} {f : Addr} {cdv : Value} {A : Around} {outer : List Env} {s : Shared} {H : Hp} {E : XK} (T : Txt P w K mg base)
    (hr : Room m_u_law_whole (A.deeper (envOfC "_law_whole" (defScope s_u_law_whole) s.heap.objs.size f cdv))) :
    PSs (cxOf (L2.CX P w) P w K mg base N_u_law_whole "_law_whole" (defScope s_u_law_whole) f cdv A outer s H E) (defBody s_u_law_whole) (t_u_law_whole K) :=
  (pss_one (ps_ret (pe_and (pe_callB call_isi (by rfl) T.b_isinstance (by decide +kernel) (pa_cons (pv 0) (pa_cons (pe_bltn (u := .type "int") (by rfl) T.b_int (by decide +kernel) (by rfl)) pa_nil))) (pe_one (pe_not (pe_callB call_isi (by rfl) T.b_isinstance (by decide +kernel) (pa_cons (pv 0) (pa_cons (pe_bltn (u := .type "bool") (by rfl) T.b_bool (by decide +kernel) (by rfl)) pa_nil))))))))

abbrev s_u_law_refused : Stmt := top 32
abbrev N_u_law_refused : List Str := ["_law_top", "_law_bottom", "_law_word", "e"]
theorem sc_u_law_refused : FnScope N_u_law_refused ["_law_top", "_law_bottom"] (defScope s_u_law_refused) := ⟨rfl, rfl, rfl, by decide +kernel, rfl, by decide +kernel, by decide +kernel⟩
def t_u_law_refused (K : PySem.W.Frag) : TS :=
  (tSeq (tAsg (tC (.str "let")) (gName 2))
    (tSeq (fun D σ H => (fun W => (tDrop (tCallS (sp_make_ratio K) (WE W) (tCons (tVar 0) (tCons (tVar 1) tNil))))) (wAs K (.ref (He.ga K "BadRatio")) 3 (fun a cls d => (tAsg (tXf a cls d (He.ga K "BadRatio") "what" (tVar 3)) (gName 2))) (fun _ _ _ _ => False) D) D σ H)
    (tRet (tVar 2))))
theorem d_u_law_refused {P : Program} {w : World} {K : PySem.W.Frag} {mg : Str → Option Value} {base : Heap} {f : Addr} {cdv : Value} {A : Around} {outer : List Env} {s : Shared} {H : Hp} {E : XK} (T : Txt P w K mg base) (C_make_ratio : Fd P w K mg base l_make_ratio "make_ratio" ["top", "bottom"] [] (sp_make_ratio K))
    (hr : Room m_u_law_refused (A.deeper (envOfC "_law_refused" (defScope s_u_law_refused) s.heap.objs.size f cdv))) :
    PSs (cxOf (L2.CX P w) P w K mg base N_u_law_refused "_law_refused" (defScope s_u_law_refused) f cdv A outer s H E) (defBody s_u_law_refused) (t_u_law_refused K) :=
  (pss_cons (ps_set (i := 2) sc_u_law_refused.nd (by rfl) (Or.inl rfl) pe_str)
    (pss_cons (ps_try_as (i := 3) rfl rfl sc_u_law_refused.nd (by rfl) (by rfl) ⟨by rfl, by decide, .inl T.g_BadRatio⟩ takes0 (fun W pn xe tk hp => (pss_one (ps_expr (pe_fdS C_make_ratio (hr.mono (by decide)) tk (pa_cons (pv 0) (pa_cons (pv 1) pa_nil)))))) (fun a oe cls d pn hz hf => (pss_one (ps_set (i := 2) sc_u_law_refused.nd (by rfl) (Or.inl rfl) (pe_xf T.xf_BadRatio T.no_BadRatio_what hz hf (pv 3))))))
    (pss_one (ps_ret (pv 2)))))

abbrev s_u_law_over : Stmt := top 33
abbrev N_u_law_over : List Str := ["_law_one", "_law_other", "_law_told", "e"]
theorem sc_u_law_over : FnScope N_u_law_over ["_law_one", "_law_other"] (defScope s_u_law_over) := ⟨rfl, rfl, rfl, by decide +kernel, rfl, by decide +kernel, by decide +kernel⟩
def t_u_law_over (K : PySem.W.Frag) : TS :=
  (tSeq (tAsg (tC .non) (gName 2))
    (tSeq (fun D σ H => (fun W => (tAsg (tCallS (sp_over K) (WE W) (tCons (tVar 0) (tCons (tVar 1) tNil))) (gName 2))) (wAs K (.ref (He.ga K "BadRatio")) 3 (fun a cls d => (tAsg (tXf a cls d (He.ga K "BadRatio") "what" (tVar 3)) (gName 2))) (fun _ _ _ _ => False) D) D σ H)
    (tRet (tVar 2))))
theorem d_u_law_over {P : Program} {w : World} {K : PySem.W.Frag} {mg : Str → Option Value} {base : Heap} {f : Addr} {cdv : Value} {A : Around} {outer : List Env} {s : Shared} {H : Hp} {E : XK} (T : Txt P w K mg base) (C_over : Fd P w K mg base l_over "over" ["one", "other"] [] (sp_over K))
    (hr : Room m_u_law_over (A.deeper (envOfC "_law_over" (defScope s_u_law_over) s.heap.objs.size f cdv))) :
    PSs (cxOf (L2.CX P w) P w K mg base N_u_law_over "_law_over" (defScope s_u_law_over) f cdv A outer s H E) (defBody s_u_law_over) (t_u_law_over K) :=
  (pss_cons (ps_set (i := 2) sc_u_law_over.nd (by rfl) (Or.inl rfl) pe_non)
    (pss_cons (ps_try_as (i := 3) rfl rfl sc_u_law_over.nd (by rfl) (by rfl) ⟨by rfl, by decide, .inl T.g_BadRatio⟩ takes0 (fun W pn xe tk hp => (pss_one (ps_set (i := 2) sc_u_law_over.nd (by rfl) (Or.inl rfl) (pe_fdS C_over (hr.mono (by decide)) tk (pa_cons (pv 0) (pa_cons (pv 1) pa_nil)))))) (fun a oe cls d pn hz hf => (pss_one (ps_set (i := 2) sc_u_law_over.nd (by rfl) (Or.inl rfl) (pe_xf T.xf_BadRatio T.no_BadRatio_what hz hf (pv 3))))))
    (pss_one (ps_ret (pv 2)))))

abbrev s_u_law_pair : Stmt := top 34
abbrev N_u_law_pair : List Str := ["_law_a", "_law_b", "_law_c", "_law_d", "_law_one", "_law_other", "_law_sign", "_law_due", "_law_down", "_law_text"]
theorem sc_u_law_pair : FnScope N_u_law_pair ["_law_a", "_law_b", "_law_c", "_law_d"] (defScope s_u_law_pair) := ⟨rfl, rfl, rfl, by decide +kernel, rfl, by decide +kernel, by decide +kernel⟩
def t_u_law_pair (K : PySem.W.Frag) : TS :=
  (tSeq (tAsg (tCall (sp_make_ratio K) [] E0 (tCons (tVar 0) (tCons (tVar 1) tNil))) (gName 4))
    (tSeq (tAsg (tCall (sp_make_ratio K) [] E0 (tCons (tVar 2) (tCons (tVar 3) tNil))) (gName 5))
    (tSeq (tIfS (tOr (tNot (tB (tCall (sp_u_law_same_ratio K) [] E0 (tCons (tVar 4) (tCons (tVar 0) (tCons (tVar 1) tNil)))))) (tNot (tB (tCall (sp_u_law_same_ratio K) [] E0 (tCons (tVar 5) (tCons (tVar 2) (tCons (tVar 3) tNil))))))) (tRet (tC (.bl false))) tNext)
    (tSeq (tIfS (tOr (tNot (tB (tCall (sp_u_law_same_ratio K) [] E0 (tCons (tCall (sp_plus K) [] E0 (tCons (tVar 4) (tCons (tVar 5) tNil))) (tCons (tOp (rI0 fun i j => .int (i + j)) (tOp (rI CMulW fun i j => .int (i * j)) (tVar 0) (tVar 3)) (tOp (rI CMulW fun i j => .int (i * j)) (tVar 2) (tVar 1))) (tCons (tOp (rI CMulW fun i j => .int (i * j)) (tVar 1) (tVar 3)) tNil)))))) (tNot (tB (tCall (sp_u_law_same_ratio K) [] E0 (tCons (tCall (sp_minus K) [] E0 (tCons (tVar 4) (tCons (tVar 5) tNil))) (tCons (tOp (rI0 fun i j => .int (i - j)) (tOp (rI CMulW fun i j => .int (i * j)) (tVar 0) (tVar 3)) (tOp (rI CMulW fun i j => .int (i * j)) (tVar 2) (tVar 1))) (tCons (tOp (rI CMulW fun i j => .int (i * j)) (tVar 1) (tVar 3)) tNil))))))) (tRet (tC (.bl false))) tNext)
    (tSeq (tIfS (tOr (tNot (tB (tCall (sp_u_law_same_ratio K) [] E0 (tCons (tCall (sp_times K) [] E0 (tCons (tVar 4) (tCons (tVar 5) tNil))) (tCons (tOp (rI CMulW fun i j => .int (i * j)) (tVar 0) (tVar 2)) (tCons (tOp (rI CMulW fun i j => .int (i * j)) (tVar 1) (tVar 3)) tNil)))))) (tNot (tB (tCall (sp_u_law_same_ratio K) [] E0 (tCons (tCall (sp_negative K) [] E0 (tCons (tVar 4) tNil)) (tCons (tUn (rU fun i => .int (-i)) (tVar 0)) (tCons (tVar 1) tNil))))))) (tRet (tC (.bl false))) tNext)
    (tSeq (tIfS (tTest (tOp (rEqD K) (tVar 2) (tC (.int 0)))) (tIfS (tTest (tOp (rNeD K) (tCall (sp_u_law_over K) [] E0 (tCons (tVar 4) (tCons (tVar 5) tNil))) (tC (.str "zero")))) (tRet (tC (.bl false))) tNext) (tIfS (tNot (tB (tCall (sp_u_law_same_ratio K) [] E0 (tCons (tCall (sp_u_law_over K) [] E0 (tCons (tVar 4) (tCons (tVar 5) tNil))) (tCons (tOp (rI CMulW fun i j => .int (i * j)) (tVar 0) (tVar 3)) (tCons (tOp (rI CMulW fun i j => .int (i * j)) (tVar 1) (tVar 2)) tNil)))))) (tRet (tC (.bl false))) tNext))
    (tSeq (tAsg (tOp (rI CMulW fun i j => .int (i * j)) (tOp (rI CMulW fun i j => .int (i * j)) (tOp (rI0 fun i j => .int (i - j)) (tOp (rI CMulW fun i j => .int (i * j)) (tVar 0) (tVar 3)) (tOp (rI CMulW fun i j => .int (i * j)) (tVar 2) (tVar 1))) (tVar 1)) (tVar 3)) (gName 6))
    (tSeq (tAsg (tIf (tTest (tOp (rEqD K) (tVar 6) (tC (.int 0)))) (tC (.int 0)) (tIf (tTest (tOp (rI0 fun i j => .bl (decide (j < i))) (tVar 6) (tC (.int 0)))) (tC (.int 1)) (tUn (rU fun i => .int (-i)) (tC (.int 1))))) (gName 7))
    (tSeq (tIfS (tOr (tTest (tOp (rNeD K) (tCall (sp_compare K) [] E0 (tCons (tVar 4) (tCons (tVar 5) tNil))) (tVar 7))) (tOr (tTest (tOp (rNeD K) (tCall (sp_compare K) [] E0 (tCons (tVar 5) (tCons (tVar 4) tNil))) (tUn (rU fun i => .int (-i)) (tVar 7)))) (tTest (tOp (rNeD K) (tCall (sp_compare K) [] E0 (tCons (tVar 4) (tCons (tVar 4) tNil))) (tC (.int 0)))))) (tRet (tC (.bl false))) tNext)
    (tSeq (tAsg (tCall (sp_floor_of K) [] E0 (tCons (tVar 4) tNil)) (gName 8))
    (tSeq (tIfS (tOr (tNot (tB (tCall (sp_u_law_whole K) [] E0 (tCons (tVar 8) tNil)))) (tNot (tTest (tChain (rI0 fun i j => .bl (decide (i ≤ j))) (rI0 fun i j => .bl (decide (i < j))) (tOp (rI CMulW fun i j => .int (i * j)) (tVar 8) (tOp (rIx K) (tVar 4) (tC (.int 1)))) (tOp (rIx K) (tVar 4) (tC (.int 0))) (tOp (rI CMulW fun i j => .int (i * j)) (tOp (rI0 fun i j => .int (i + j)) (tVar 8) (tC (.int 1))) (tOp (rIx K) (tVar 4) (tC (.int 1)))))))) (tRet (tC (.bl false))) tNext)
    (tSeq (tIfS (tNot (tB (tCall (sp_u_law_same_ratio K) [] E0 (tCons (tCall (sp_broken_of K) [] E0 (tCons (tVar 4) tNil)) (tCons (tOp (rI0 fun i j => .int (i - j)) (tOp (rIx K) (tVar 4) (tC (.int 0))) (tOp (rI CMulW fun i j => .int (i * j)) (tVar 8) (tOp (rIx K) (tVar 4) (tC (.int 1))))) (tCons (tOp (rIx K) (tVar 4) (tC (.int 1))) tNil)))))) (tRet (tC (.bl false))) tNext)
    (tSeq (tAsg (tIf (tTest (tOp (rEqD K) (tOp (rIx K) (tVar 4) (tC (.int 1))) (tC (.int 1)))) (tCB (fun xs H Q => ∃ i, xs = [.int i] ∧ i.natAbs.log2 < 1920 ∧ Q (.str (toString i)) H) (tCons (tOp (rIx K) (tVar 4) (tC (.int 0))) tNil)) (tOp rAddS (tOp rAddS (tCB (fun xs H Q => ∃ i, xs = [.int i] ∧ i.natAbs.log2 < 1920 ∧ Q (.str (toString i)) H) (tCons (tOp (rIx K) (tVar 4) (tC (.int 0))) tNil)) (tC (.str "/"))) (tCB (fun xs H Q => ∃ i, xs = [.int i] ∧ i.natAbs.log2 < 1920 ∧ Q (.str (toString i)) H) (tCons (tOp (rIx K) (tVar 4) (tC (.int 1))) tNil)))) (gName 9))
    (tRet (tOp (rEqD K) (tCall (sp_ratio_text K) [] E0 (tCons (tVar 4) tNil)) (tVar 9))))))))))))))))
theorem d_u_law_pair {P : Program} {w : World} {K : PySem.W.Frag} {mg : Str → Option Value} {base : Heap} {f : Addr} {cdv : Value} {A : Around} {outer : List Env} {s : Shared} {H : Hp} {E : XK} (T : Txt P w K mg base) (C_make_ratio : Fd P w K mg base l_make_ratio "make_ratio" ["top", "bottom"] [] (sp_make_ratio K)) (C_u_law_same_ratio : Fd P w K mg base l_u_law_same_ratio "_law_same_ratio" ["_law_told", "_law_top", "_law_bottom"] [] (sp_u_law_same_ratio K)) (C_plus : Fd P w K mg base l_plus "plus" ["one", "other"] [] (sp_plus K)) (C_minus : Fd P w K mg base l_minus "minus" ["one", "other"] [] (sp_minus K)) (C_times : Fd P w K mg base l_times "times" ["one", "other"] [] (sp_times K)) (C_negative : Fd P w K mg base l_negative "negative" ["one"] [] (sp_negative K)) (C_u_law_over : Fd P w K mg base l_u_law_over "_law_over" ["_law_one", "_law_other"] [] (sp_u_law_over K)) (C_compare : Fd P w K mg base l_compare "compare" ["one", "other"] [] (sp_compare K)) (C_floor_of : Fd P w K mg base l_floor_of "floor_of" ["one"] [] (sp_floor_of K)) (C_u_law_whole : Fd P w K mg base l_u_law_whole "_law_whole" ["_law_thing"] [] (sp_u_law_whole K)) (C_broken_of : Fd P w K mg base l_broken_of "broken_of" ["one"] [] (sp_broken_of K)) (C_ratio_text : Fd P w K mg base l_ratio_text "ratio_text" ["one"] [] (sp_ratio_text K))
    (hr : Room m_u_law_pair (A.deeper (envOfC "_law_pair" (defScope s_u_law_pair) s.heap.objs.size f cdv))) :
    PSs (cxOf (L2.CX P w) P w K mg base N_u_law_pair "_law_pair" (defScope s_u_law_pair) f cdv A outer s H E) (defBody s_u_law_pair) (t_u_law_pair K) :=
  (pss_cons (ps_set (i := 4) sc_u_law_pair.nd (by rfl) (Or.inl rfl) (pe_fd C_make_ratio (hr.mono (by decide)) (pa_cons (pv 0) (pa_cons (pv 1) pa_nil))))
    (pss_cons (ps_set (i := 5) sc_u_law_pair.nd (by rfl) (Or.inl rfl) (pe_fd C_make_ratio (hr.mono (by decide)) (pa_cons (pv 2) (pa_cons (pv 3) pa_nil))))
    (pss_cons (ps_if (PW.pt (pw_or (pt_not (pt_val (pe_fd C_u_law_same_ratio (hr.mono (by decide)) (pa_cons (pv 4) (pa_cons (pv 0) (pa_cons (pv 1) pa_nil)))))) (pw_or1 (pt_not (pt_val (pe_fd C_u_law_same_ratio (hr.mono (by decide)) (pa_cons (pv 5) (pa_cons (pv 2) (pa_cons (pv 3) pa_nil))))))))) (pss_one (ps_ret pe_bl)) pss_nil)
    (pss_cons (ps_if (PW.pt (pw_or (pt_not (pt_val (pe_fd C_u_law_same_ratio (hr.mono (by decide)) (pa_cons (pe_fd C_plus (hr.mono (by decide)) (pa_cons (pv 4) (pa_cons (pv 5) pa_nil))) (pa_cons (pe_op op_add (pe_op op_mulW (pv 0) (pv 3)) (pe_op op_mulW (pv 2) (pv 1))) (pa_cons (pe_op op_mulW (pv 1) (pv 3)) pa_nil)))))) (pw_or1 (pt_not (pt_val (pe_fd C_u_law_same_ratio (hr.mono (by decide)) (pa_cons (pe_fd C_minus (hr.mono (by decide)) (pa_cons (pv 4) (pa_cons (pv 5) pa_nil))) (pa_cons (pe_op op_sub (pe_op op_mulW (pv 0) (pv 3)) (pe_op op_mulW (pv 2) (pv 1))) (pa_cons (pe_op op_mulW (pv 1) (pv 3)) pa_nil))))))))) (pss_one (ps_ret pe_bl)) pss_nil)
    (pss_cons (ps_if (PW.pt (pw_or (pt_not (pt_val (pe_fd C_u_law_same_ratio (hr.mono (by decide)) (pa_cons (pe_fd C_times (hr.mono (by decide)) (pa_cons (pv 4) (pa_cons (pv 5) pa_nil))) (pa_cons (pe_op op_mulW (pv 0) (pv 2)) (pa_cons (pe_op op_mulW (pv 1) (pv 3)) pa_nil)))))) (pw_or1 (pt_not (pt_val (pe_fd C_u_law_same_ratio (hr.mono (by decide)) (pa_cons (pe_fd C_negative (hr.mono (by decide)) (pa_cons (pv 4) pa_nil)) (pa_cons (pe_un un_neg (pv 0)) (pa_cons (pv 1) pa_nil))))))))) (pss_one (ps_ret pe_bl)) pss_nil)
    (pss_cons (ps_if (pt_cmpR (op_eqD hr.units) (pv 2) pe_int (nomark _)) (pss_one (ps_if (pt_cmpR (op_neD hr.units) (pe_fd C_u_law_over (hr.mono (by decide)) (pa_cons (pv 4) (pa_cons (pv 5) pa_nil))) pe_str (nomark _)) (pss_one (ps_ret pe_bl)) pss_nil)) (pss_one (ps_if (pt_not (pt_val (pe_fd C_u_law_same_ratio (hr.mono (by decide)) (pa_cons (pe_fd C_u_law_over (hr.mono (by decide)) (pa_cons (pv 4) (pa_cons (pv 5) pa_nil))) (pa_cons (pe_op op_mulW (pv 0) (pv 3)) (pa_cons (pe_op op_mulW (pv 1) (pv 2)) pa_nil)))))) (pss_one (ps_ret pe_bl)) pss_nil)))
    (pss_cons (ps_set (i := 6) sc_u_law_pair.nd (by rfl) (Or.inl rfl) (pe_op op_mulW (pe_op op_mulW (pe_op op_sub (pe_op op_mulW (pv 0) (pv 3)) (pe_op op_mulW (pv 2) (pv 1))) (pv 1)) (pv 3)))
    (pss_cons (ps_set (i := 7) sc_u_law_pair.nd (by rfl) (Or.inl rfl) (pe_ifExp (pt_cmpR (op_eqD hr.units) (pv 6) pe_int (nomark _)) pe_int (pe_ifExp (pt_cmpR op_gt (pv 6) pe_int (nomark _)) pe_int (pe_un un_neg pe_int))))
    (pss_cons (ps_if (PW.pt (pw_or (pt_cmpR (op_neD hr.units) (pe_fd C_compare (hr.mono (by decide)) (pa_cons (pv 4) (pa_cons (pv 5) pa_nil))) (pv 7) (nomark _)) (pw_or (pt_cmpR (op_neD hr.units) (pe_fd C_compare (hr.mono (by decide)) (pa_cons (pv 5) (pa_cons (pv 4) pa_nil))) (pe_un un_neg (pv 7)) (nomark _)) (pw_or1 (pt_cmpR (op_neD hr.units) (pe_fd C_compare (hr.mono (by decide)) (pa_cons (pv 4) (pa_cons (pv 4) pa_nil))) pe_int (nomark _)))))) (pss_one (ps_ret pe_bl)) pss_nil)
    (pss_cons (ps_set (i := 8) sc_u_law_pair.nd (by rfl) (Or.inl rfl) (pe_fd C_floor_of (hr.mono (by decide)) (pa_cons (pv 4) pa_nil)))
    (pss_cons (ps_if (PW.pt (pw_or (pt_not (pt_val (pe_fd C_u_law_whole (hr.mono (by decide)) (pa_cons (pv 8) pa_nil)))) (pw_or1 (pt_not (pt_chain op_le op_lt (pe_op op_mulW (pv 8) (pe_ix ix_seq (pv 4) pe_int (fun _ _ => rfl))) (pe_ix ix_seq (pv 4) pe_int (fun _ _ => rfl)) (pe_op op_mulW (pe_op op_add (pv 8) pe_int) (pe_ix ix_seq (pv 4) pe_int (fun _ _ => rfl)))))))) (pss_one (ps_ret pe_bl)) pss_nil)
    (pss_cons (ps_if (pt_not (pt_val (pe_fd C_u_law_same_ratio (hr.mono (by decide)) (pa_cons (pe_fd C_broken_of (hr.mono (by decide)) (pa_cons (pv 4) pa_nil)) (pa_cons (pe_op op_sub (pe_ix ix_seq (pv 4) pe_int (fun _ _ => rfl)) (pe_op op_mulW (pv 8) (pe_ix ix_seq (pv 4) pe_int (fun _ _ => rfl)))) (pa_cons (pe_ix ix_seq (pv 4) pe_int (fun _ _ => rfl)) pa_nil)))))) (pss_one (ps_ret pe_bl)) pss_nil)
    (pss_cons (ps_set (i := 9) sc_u_law_pair.nd (by rfl) (Or.inl rfl) (pe_ifExp (pt_cmpR (op_eqD hr.units) (pe_ix ix_seq (pv 4) pe_int (fun _ _ => rfl)) pe_int (nomark _)) (pe_callTy call_str_int (by rfl) T.b_str (by decide +kernel) (pa_cons (pe_ix ix_seq (pv 4) pe_int (fun _ _ => rfl)) pa_nil)) (pe_op op_addS (pe_op op_addS (pe_callTy call_str_int (by rfl) T.b_str (by decide +kernel) (pa_cons (pe_ix ix_seq (pv 4) pe_int (fun _ _ => rfl)) pa_nil)) pe_str) (pe_callTy call_str_int (by rfl) T.b_str (by decide +kernel) (pa_cons (pe_ix ix_seq (pv 4) pe_int (fun _ _ => rfl)) pa_nil)))))
    (pss_one (ps_ret (pe_cmpR (op_eqD hr.units) (pe_fd C_ratio_text (hr.mono (by decide)) (pa_cons (pv 4) pa_nil)) (pv 9) (nomark _)))))))))))))))))

abbrev s_u_law_many : Stmt := top 35
abbrev N_u_law_many : List Str := ["_law_row", "_law_told", "_law_top", "_law_bottom", "_law_low", "_law_high", "_law_one", "_law_kept"]
theorem sc_u_law_many : FnScope N_u_law_many ["_law_row"] (defScope s_u_law_many) := ⟨rfl, rfl, rfl, by decide +kernel, rfl, by decide +kernel, by decide +kernel⟩
def t_u_law_many (K : PySem.W.Frag) : TS :=
  (tSeq (tAsg (tLc (iSeq K (tVar 0)) (gTup K 2 (gCons (gName 2) (gCons (gName 3) gNil))) tYes (tCall (sp_make_ratio K) [] E0 (tCons (tVar 2) (tCons (tVar 3) tNil))) [2, 3]) (gName 1))
    (tSeq (tAsg (tTup (tCons (tC (.int 0)) (tCons (tC (.int 1)) tNil))) (gTup K 2 (gCons (gName 2) (gCons (gName 3) gNil))))
    (tSeq (tAsg (tOp (rIx K) (tVar 1) (tC (.int 0))) (gName 4))
    (tSeq (tAsg (tOp (rIx K) (tVar 1) (tC (.int 0))) (gName 5))
    (tSeq (tFor (iSeq K (tVar 1)) (gName 6) (tSeq (tAsg (tCall (sp_u_law_ratio K) [] E0 (tCons (tOp (rI0 fun i j => .int (i + j)) (tOp (rI CMulW fun i j => .int (i * j)) (tVar 2) (tOp (rIx K) (tVar 6) (tC (.int 1)))) (tOp (rI CMulW fun i j => .int (i * j)) (tOp (rIx K) (tVar 6) (tC (.int 0))) (tVar 3))) (tCons (tOp (rI CMulW fun i j => .int (i * j)) (tVar 3) (tOp (rIx K) (tVar 6) (tC (.int 1)))) tNil))) (gTup K 2 (gCons (gName 2) (gCons (gName 3) gNil))))
    (tSeq (tIfS (tTest (tOp (rI0 fun i j => .bl (decide (i < j))) (tOp (rI CMulW fun i j => .int (i * j)) (tOp (rIx K) (tVar 6) (tC (.int 0))) (tOp (rIx K) (tVar 4) (tC (.int 1)))) (tOp (rI CMulW fun i j => .int (i * j)) (tOp (rIx K) (tVar 4) (tC (.int 0))) (tOp (rIx K) (tVar 6) (tC (.int 1)))))) (tAsg (tVar 6) (gName 4)) tNext)
    (tIfS (tTest (tOp (rI0 fun i j => .bl (decide (j < i))) (tOp (rI CMulW fun i j => .int (i * j)) (tOp (rIx K) (tVar 6) (tC (.int 0))) (tOp (rIx K) (tVar 5) (tC (.int 1)))) (tOp (rI CMulW fun i j => .int (i * j)) (tOp (rIx K) (tVar 5) (tC (.int 0))) (tOp (rIx K) (tVar 6) (tC (.int 1)))))) (tAsg (tVar 6) (gName 5)) tNext))))
    (tSeq (tAsg (tCB (Evl.rListS K) (tCons (tVar 1) tNil)) (gName 7))
    (tSeq (tIfS (tOr (tNot (tB (tCall (sp_u_law_same_ratio K) [] E0 (tCons (tCall (sp_sum_of K) [] E0 (tCons (tVar 1) tNil)) (tCons (tVar 2) (tCons (tVar 3) tNil)))))) (tTest (tOp (rNeD K) (tCall (sp_sum_of K) [] E0 (tCons (tLst tNil) tNil)) (tTup (tCons (tC (.int 0)) (tCons (tC (.int 1)) tNil)))))) (tRet (tC (.bl false))) tNext)
    (tRet (tAndV (tOp (rEqD K) (tCall (sp_least_of K) [] E0 (tCons (tVar 1) tNil)) (tVar 4)) (tAndV (tOp (rEqD K) (tCall (sp_greatest_of K) [] E0 (tCons (tCB (rTupleOf K) (tCons (tVar 1) tNil)) tNil)) (tVar 5)) (tOp (rEqD K) (tVar 1) (tVar 7))))))))))))
theorem d_u_law_many {P : Program} {w : World} {K : PySem.W.Frag} {mg : Str → Option Value} {base : Heap} {f : Addr} {cdv : Value} {A : Around} {outer : List Env} {s : Shared} {H : Hp} {E : XK} (T : Txt P w K mg base) (C_make_ratio : Fd P w K mg base l_make_ratio "make_ratio" ["top", "bottom"] [] (sp_make_ratio K)) (C_u_law_ratio : Fd P w K mg base l_u_law_ratio "_law_ratio" ["_law_top", "_law_bottom"] [] (sp_u_law_ratio K)) (C_u_law_same_ratio : Fd P w K mg base l_u_law_same_ratio "_law_same_ratio" ["_law_told", "_law_top", "_law_bottom"] [] (sp_u_law_same_ratio K)) (C_sum_of : Fd P w K mg base l_sum_of "sum_of" ["ratios"] [] (sp_sum_of K)) (C_least_of : Fd P w K mg base l_least_of "least_of" ["ratios"] [] (sp_least_of K)) (C_greatest_of : Fd P w K mg base l_greatest_of "greatest_of" ["ratios"] [] (sp_greatest_of K))
    (hr : Room m_u_law_many (A.deeper (envOfC "_law_many" (defScope s_u_law_many) s.heap.objs.size f cdv))) :
    PSs (cxOf (L2.CX P w) P w K mg base N_u_law_many "_law_many" (defScope s_u_law_many) f cdv A outer s H E) (defBody s_u_law_many) (t_u_law_many K) :=
  (pss_cons (ps_setLc (i := 1) (own := [("_law_top", 2), ("_law_bottom", 3)]) (g := (gTup K 2 (gCons (gName 2) (gCons (gName 3) gNil)))) (by rfl) sc_u_law_many.nd (by rfl) (by rfl) (sw_true rfl rfl rfl (by decide +kernel)) (pi_seq (pv 0)) (blkOk_by (own := [("_law_top", 2), ("_law_bottom", 3)]) (N := N_u_law_many) (sc := defScope s_u_law_many) (by decide +kernel)) (fun _ _ _ _ _ => (pg_tup (by rfl) (pgs_cons (pg_name (i := 2) sc_u_law_many.nd (by rfl) (Or.inl rfl)) (pgs_cons (pg_name (i := 3) sc_u_law_many.nd (by rfl) (Or.inl rfl)) pgs_nil)))) (fun _ _ _ _ _ => pts_nil) (fun _ _ _ _ _ => (pe_fd C_make_ratio (hr.mono (by decide)) (pa_cons (pv 2) (pa_cons (pv 3) pa_nil)))))
    (pss_cons (ps_asg (pe_tup (pa_cons pe_int (pa_cons pe_int pa_nil))) (pg_tup (by rfl) (pgs_cons (pg_name (i := 2) sc_u_law_many.nd (by rfl) (Or.inl rfl)) (pgs_cons (pg_name (i := 3) sc_u_law_many.nd (by rfl) (Or.inl rfl)) pgs_nil))))
    (pss_cons (ps_set (i := 4) sc_u_law_many.nd (by rfl) (Or.inl rfl) (pe_ix ix_seq (pv 1) pe_int (fun _ _ => rfl)))
    (pss_cons (ps_set (i := 5) sc_u_law_many.nd (by rfl) (Or.inl rfl) (pe_ix ix_seq (pv 1) pe_int (fun _ _ => rfl)))
    (pss_cons (ps_for (passes_of rfl) rfl (pi_seq (pv 1)) (pg_name (i := 6) sc_u_law_many.nd (by rfl) (Or.inl rfl)) (pss_cons (ps_asg (pe_fd C_u_law_ratio (hr.mono (by decide)) (pa_cons (pe_op op_add (pe_op op_mulW (pv 2) (pe_ix ix_seq (pv 6) pe_int (fun _ _ => rfl))) (pe_op op_mulW (pe_ix ix_seq (pv 6) pe_int (fun _ _ => rfl)) (pv 3))) (pa_cons (pe_op op_mulW (pv 3) (pe_ix ix_seq (pv 6) pe_int (fun _ _ => rfl))) pa_nil))) (pg_tup (by rfl) (pgs_cons (pg_name (i := 2) sc_u_law_many.nd (by rfl) (Or.inl rfl)) (pgs_cons (pg_name (i := 3) sc_u_law_many.nd (by rfl) (Or.inl rfl)) pgs_nil))))
    (pss_cons (ps_if (pt_cmpR op_lt (pe_op op_mulW (pe_ix ix_seq (pv 6) pe_int (fun _ _ => rfl)) (pe_ix ix_seq (pv 4) pe_int (fun _ _ => rfl))) (pe_op op_mulW (pe_ix ix_seq (pv 4) pe_int (fun _ _ => rfl)) (pe_ix ix_seq (pv 6) pe_int (fun _ _ => rfl))) (nomark _)) (pss_one (ps_set (i := 4) sc_u_law_many.nd (by rfl) (Or.inl rfl) (pv 6))) pss_nil)
    (pss_one (ps_if (pt_cmpR op_gt (pe_op op_mulW (pe_ix ix_seq (pv 6) pe_int (fun _ _ => rfl)) (pe_ix ix_seq (pv 5) pe_int (fun _ _ => rfl))) (pe_op op_mulW (pe_ix ix_seq (pv 5) pe_int (fun _ _ => rfl)) (pe_ix ix_seq (pv 6) pe_int (fun _ _ => rfl))) (nomark _)) (pss_one (ps_set (i := 5) sc_u_law_many.nd (by rfl) (Or.inl rfl) (pv 6))) pss_nil)))))
    (pss_cons (ps_set (i := 7) sc_u_law_many.nd (by rfl) (Or.inl rfl) (pe_callTy call_list_of (by rfl) T.b_list (by decide +kernel) (pa_cons (pv 1) pa_nil)))
    (pss_cons (ps_if (PW.pt (pw_or (pt_not (pt_val (pe_fd C_u_law_same_ratio (hr.mono (by decide)) (pa_cons (pe_fd C_sum_of (hr.mono (by decide)) (pa_cons (pv 1) pa_nil)) (pa_cons (pv 2) (pa_cons (pv 3) pa_nil)))))) (pw_or1 (pt_cmpR (op_neD hr.units) (pe_fd C_sum_of (hr.mono (by decide)) (pa_cons (pe_lst pa_nil) pa_nil)) (pe_tup (pa_cons pe_int (pa_cons pe_int pa_nil))) (nomark _))))) (pss_one (ps_ret pe_bl)) pss_nil)
    (pss_one (ps_ret (pe_and (pe_cmpR (op_eqD hr.units) (pe_fd C_least_of (hr.mono (by decide)) (pa_cons (pv 1) pa_nil)) (pv 4) (nomark _)) (pe_and (pe_cmpR (op_eqD hr.units) (pe_fd C_greatest_of (hr.mono (by decide)) (pa_cons (pe_callTy call_tuple_of (by rfl) T.b_tuple (by decide +kernel) (pa_cons (pv 1) pa_nil)) pa_nil)) (pv 5) (nomark _)) (pe_one (pe_cmpR (op_eqD hr.units) (pv 1) (pv 7) (nomark _))))))))))))))

abbrev s_law : Stmt := top 36
abbrev N_law : List Str := ["_law_script", "_law_hand_here", "_law_row", "_law_k", "_law_scale", "_law_top", "_law_bottom", "_law_a", "_law_b", "_law_c", "_law_d", "_law_odd", "_law_good", "_law_wrong", "_law_thing"]
theorem sc_law : FnScope N_law ["_law_script"] (defScope s_law) := ⟨rfl, rfl, rfl, by decide +kernel, rfl, by decide +kernel, by decide +kernel⟩
def t_law (K : PySem.W.Frag) : TS :=
  (tSeq (tAsg (tCall (sp_u_law_hand K) [] E0 (tCons (tVar 0) tNil)) (gName 1))
    (tSeq (tAsg (tLst tNil) (gName 2))
    (tSeq (tFor (iRng1 (tCons (tOp (rI0 fun i j => .int (i + j)) (tC (.int 2)) (tCall (sp_u_law_draw K) [] E0 (tCons (tVar 1) (tCons (tC (.int 7)) tNil)))) tNil)) (gName 3) (tSeq (tAsg (tOp (rIx K) (tTup (tCons (tC (.int 9)) (tCons (tC (.int 9)) (tCons (tC (.int 40)) (tCons (tOp (rI CPow fun i j => .int (i ^ j.toNat)) (tC (.int 10)) (tC (.int 9))) tNil))))) (tCall (sp_u_law_draw K) [] E0 (tCons (tVar 1) (tCons (tC (.int 4)) tNil)))) (gName 4))
    (tSeq (tAsg (tOp (rI0 fun i j => .int (i - j)) (tCall (sp_u_law_draw K) [] E0 (tCons (tVar 1) (tCons (tOp (rI0 fun i j => .int (i + j)) (tOp (rI CMulW fun i j => .int (i * j)) (tC (.int 2)) (tVar 4)) (tC (.int 1))) tNil))) (tVar 4)) (gName 5))
    (tSeq (tAsg (tOp (rI CMulW fun i j => .int (i * j)) (tOp (rI0 fun i j => .int (i + j)) (tC (.int 1)) (tCall (sp_u_law_draw K) [] E0 (tCons (tVar 1) (tCons (tVar 4) tNil)))) (tOp (rI0 fun i j => .int (i - j)) (tC (.int 1)) (tOp (rI CMulW fun i j => .int (i * j)) (tC (.int 2)) (tCall (sp_u_law_draw K) [] E0 (tCons (tVar 1) (tCons (tC (.int 2)) tNil)))))) (gName 6))
    (tSeq (tIfS (tAnd (tTest (tOp (rI0 fun i j => .bl (decide (j < i))) (tVar 4) (tC (.int 40)))) (tTest (tOp (rEqD K) (tCall (sp_u_law_draw K) [] E0 (tCons (tVar 1) (tCons (tC (.int 2)) tNil))) (tC (.int 1))))) (tAsg (tOp (rI0 fun i j => .int (i + j)) (tOp (rI CMulW fun i j => .int (i * j)) (tVar 5) (tOp (rI CPow fun i j => .int (i ^ j.toNat)) (tC (.int 10)) (tC (.int 9)))) (tCall (sp_u_law_draw K) [] E0 (tCons (tVar 1) (tCons (tOp (rI CPow fun i j => .int (i ^ j.toNat)) (tC (.int 10)) (tC (.int 9))) tNil)))) (gName 5)) tNext)
    (tDrop (tBM K "list" rAppend (tVar 2) (tCons (tTup (tCons (tVar 5) (tCons (tVar 6) tNil))) tNil))))))))
    (tSeq (tFor (iRng1 (tCons (tCB (Evl.rLenS K) (tCons (tVar 2) tNil)) tNil)) (gName 3) (tSeq (tAsg (tOp (rIx K) (tVar 2) (tVar 3)) (gTup K 2 (gCons (gName 7) (gCons (gName 8) gNil))))
    (tSeq (tAsg (tOp (rIx K) (tVar 2) (tOp (rI0 fun i j => .int (i - j)) (tVar 3) (tC (.int 1)))) (gTup K 2 (gCons (gName 9) (gCons (gName 10) gNil))))
    (tIfS (tNot (tB (tCall (sp_u_law_pair K) [] E0 (tCons (tVar 7) (tCons (tVar 8) (tCons (tVar 9) (tCons (tVar 10) tNil))))))) (tRet (tC (.bl false))) tNext))))
    (tSeq (tIfS (tNot (tB (tCall (sp_u_law_many K) [] E0 (tCons (tVar 2) tNil)))) (tRet (tC (.bl false))) tNext)
    (tSeq (tIfS (tOr (tTest (tOp (rNeD K) (tTup (tCons (tC (.ref (He.ga K "ZERO"))) (tCons (tC (.ref (He.ga K "ONE"))) (tCons (tC (.ref (He.ga K "HALF"))) tNil)))) (tTup (tCons (tTup (tCons (tC (.int 0)) (tCons (tC (.int 1)) tNil))) (tCons (tTup (tCons (tC (.int 1)) (tCons (tC (.int 1)) tNil))) (tCons (tTup (tCons (tC (.int 1)) (tCons (tC (.int 2)) tNil))) tNil)))))) (tTest (tOp (rNeD K) (tCall (sp_make_ratio K) [.int 1] E0 (tCons (tOp (rIx K) (tOp (rIx K) (tVar 2) (tC (.int 0))) (tC (.int 0))) tNil)) (tTup (tCons (tOp (rIx K) (tOp (rIx K) (tVar 2) (tC (.int 0))) (tC (.int 0))) (tCons (tC (.int 1)) tNil)))))) (tRet (tC (.bl false))) tNext)
    (tSeq (tAsg (tOp (rIx K) (tVar 2) (tC (.int 0))) (gTup K 2 (gCons (gName 5) (gCons (gName 6) gNil))))
    (tSeq (tAsg (tOp (rIx K) (tTup (tCons (tC (.bl true)) (tCons (tC .non) (tCons (tC (.str "2")) (tCons (tTup (tCons (tC (.int 1)) (tCons (tC (.int 1)) tNil))) (tCons (tLst (tCons (tC (.int 3)) tNil)) tNil)))))) (tCall (sp_u_law_draw K) [] E0 (tCons (tVar 1) (tCons (tC (.int 5)) tNil)))) (gName 11))
    (tSeq (tIfS (tOr (tTest (tOp (rNeD K) (tCall (sp_u_law_refused K) [] E0 (tCons (tVar 11) (tCons (tVar 6) tNil))) (tC (.str "top")))) (tOr (tTest (tOp (rNeD K) (tCall (sp_u_law_refused K) [] E0 (tCons (tVar 11) (tCons (tC (.int 0)) tNil))) (tC (.str "top")))) (tTest (tOp (rNeD K) (tCall (sp_u_law_refused K) [] E0 (tCons (tVar 5) (tCons (tVar 11) tNil))) (tC (.str "bottom")))))) (tRet (tC (.bl false))) tNext)
    (tSeq (tIfS (tOr (tTest (tOp (rNeD K) (tCall (sp_u_law_refused K) [] E0 (tCons (tVar 5) (tCons (tC (.int 0)) tNil))) (tC (.str "bottom")))) (tTest (tOp (rNeD K) (tCall (sp_u_law_refused K) [] E0 (tCons (tVar 5) (tCons (tUn (rU fun i => .int (-i)) (tC (.int 1))) tNil))) (tC (.str "let"))))) (tRet (tC (.bl false))) tNext)
    (tSeq (tAsg (tCall (sp_make_ratio K) [] E0 (tCons (tVar 5) (tCons (tVar 6) tNil))) (gName 12))
    (tSeq (tIfS (tOr (tTest (tOp rNotB (tCall (sp_is_ratio K) [] E0 (tCons (tVar 12) tNil)) (tC (.bl true)))) (tOr (tTest (tOp rNotB (tCall (sp_is_ratio K) [] E0 (tCons (tLst (tCons (tOp (rIx K) (tVar 12) (tC (.int 0))) (tCons (tOp (rIx K) (tVar 12) (tC (.int 1))) tNil))) tNil)) (tC (.bl false)))) (tTest (tOp rNotB (tCall (sp_is_ratio K) [] E0 (tCons (tVar 5) tNil)) (tC (.bl false)))))) (tRet (tC (.bl false))) tNext)
    (tSeq (tAsg (tLst (tCons (tTup (tCons (tOp (rI CMulW fun i j => .int (i * j)) (tOp (rIx K) (tVar 12) (tC (.int 0))) (tC (.int 2))) (tCons (tOp (rI CMulW fun i j => .int (i * j)) (tOp (rIx K) (tVar 12) (tC (.int 1))) (tC (.int 2))) tNil))) (tCons (tTup (tCons (tOp (rIx K) (tVar 12) (tC (.int 0))) (tCons (tUn (rU fun i => .int (-i)) (tOp (rIx K) (tVar 12) (tC (.int 1)))) tNil))) (tCons (tTup (tCons (tOp (rIx K) (tVar 12) (tC (.int 0))) (tCons (tC (.int 0)) tNil))) (tCons (tTup (tCons (tOp (rIx K) (tVar 12) (tC (.int 0))) tNil)) (tCons (tOp (rCatT K) (tVar 12) (tTup (tCons (tC (.int 1)) tNil))) (tCons (tTup (tCons (tOp (rIx K) (tVar 12) (tC (.int 0))) (tCons (tC (.bl true)) tNil))) (tCons (tTup (tCons (tC (.bl false)) (tCons (tC (.int 1)) tNil))) (tCons (tC .non) (tCons (tC (.str "1")) (tCons (tTup (tCons (tC (.int 0)) (tCons (tC (.int 2)) tNil))) tNil))))))))))) (gName 13))
    (tSeq (tFor (iSeq K (tVar 13)) (gName 14) (tIfS (tTest (tOp rNotB (tCall (sp_is_ratio K) [] E0 (tCons (tVar 14) tNil)) (tC (.bl false)))) (tRet (tC (.bl false))) tNext))
    (tSeq (tIfS (tOr (tTest (tOp rNotB (tCall (sp_is_whole K) [.non, .non] E0 (tCons (tVar 11) tNil)) (tC (.bl false)))) (tOr (tTest (tOp rNotB (tCall (sp_is_whole K) [.non, .non] E0 (tCons (tVar 5) tNil)) (tC (.bl true)))) (tOr (tTest (tOp rNotB (tCall (sp_is_whole K) [.non] E0 (tCons (tVar 5) (tCons (tVar 5) tNil))) (tC (.bl true)))) (tTest (tOp rNotB (tCall (sp_is_whole K) [.non] E0 (tCons (tVar 5) (tCons (tOp (rI0 fun i j => .int (i + j)) (tVar 5) (tC (.int 1))) tNil))) (tC (.bl false))))))) (tRet (tC (.bl false))) tNext)
    (tRet (tAndV (tOp rIsB (tCall (sp_is_whole K) [] E0 (tCons (tVar 5) (tCons (tC .non) (tCons (tVar 5) tNil)))) (tC (.bl true))) (tAndV (tOp rIsB (tCall (sp_is_whole K) [] E0 (tCons (tVar 5) (tCons (tC .non) (tCons (tOp (rI0 fun i j => .int (i - j)) (tVar 5) (tC (.int 1))) tNil)))) (tC (.bl false))) (tOp rIsB (tCallK (sp_is_whole K) kw_is_whole E0 (tCons (tVar 5) tNil) (tCons (tVar 5) (tCons (tOp (rI0 fun i j => .int (i - j)) (tVar 5) (tOp (rI CMulW fun i j => .int (i * j)) (tVar 6) (tVar 6))) tNil))) (tC (.bl true)))))))))))))))))))))
theorem d_law {P : Program} {w : World} {K : PySem.W.Frag} {mg : Str → Option Value} {base : Heap} {f : Addr} {cdv : Value} {A : Around} {outer : List Env} {s : Shared} {H : Hp} {E : XK} (T : Txt P w K mg base) (C_is_whole_kw : Fk P w K mg base l_is_whole "is_whole" ["thing", "low", "high"] ["high", "low"] kw_is_whole (sp_is_whole K)) (C_u_law_hand : Fd P w K mg base l_u_law_hand "_law_hand" ["_law_script"] [] (sp_u_law_hand K)) (C_u_law_draw : Fd P w K mg base l_u_law_draw "_law_draw" ["_law_hand_here", "_law_many_here"] [] (sp_u_law_draw K)) (C_u_law_pair : Fd P w K mg base l_u_law_pair "_law_pair" ["_law_a", "_law_b", "_law_c", "_law_d"] [] (sp_u_law_pair K)) (C_u_law_many : Fd P w K mg base l_u_law_many "_law_many" ["_law_row"] [] (sp_u_law_many K)) (C_make_ratio_1 : Fd P w K mg base l_make_ratio "make_ratio" ["top", "bottom"] [.int 1] (sp_make_ratio K)) (C_u_law_refused : Fd P w K mg base l_u_law_refused "_law_refused" ["_law_top", "_law_bottom"] [] (sp_u_law_refused K)) (C_make_ratio : Fd P w K mg base l_make_ratio "make_ratio" ["top", "bottom"] [] (sp_make_ratio K)) (C_is_ratio : Fd P w K mg base l_is_ratio "is_ratio" ["thing"] [] (sp_is_ratio K)) (C_is_whole_1 : Fd P w K mg base l_is_whole "is_whole" ["thing", "low", "high"] [.non, .non] (sp_is_whole K)) (C_is_whole_2 : Fd P w K mg base l_is_whole "is_whole" ["thing", "low", "high"] [.non] (sp_is_whole K)) (C_is_whole : Fd P w K mg base l_is_whole "is_whole" ["thing", "low", "high"] [] (sp_is_whole K))
    (hr : Room m_law (A.deeper (envOfC "law" (defScope s_law) s.heap.objs.size f cdv))) :
    PSs (cxOf (L2.CX P w) P w K mg base N_law "law" (defScope s_law) f cdv A outer s H E) (defBody s_law) (t_law K) :=
  (pss_cons (ps_set (i := 1) sc_law.nd (by rfl) (Or.inl rfl) (pe_fd C_u_law_hand (hr.mono (by decide)) (pa_cons (pv 0) pa_nil)))
    (pss_cons (ps_set (i := 2) sc_law.nd (by rfl) (Or.inl rfl) (pe_lst pa_nil))
    (pss_cons (ps_for (passes_of rfl) rfl (pi_range1 (by rfl) T.b_range (pa_cons (pe_op op_add pe_int (pe_fd C_u_law_draw (hr.mono (by decide)) (pa_cons (pv 1) (pa_cons pe_int pa_nil)))) pa_nil)) (pg_name (i := 3) sc_law.nd (by rfl) (Or.inl rfl)) (pss_cons (ps_set (i := 4) sc_law.nd (by rfl) (Or.inl rfl) (pe_ix ix_seq (pe_tup (pa_cons pe_int (pa_cons pe_int (pa_cons pe_int (pa_cons (pe_op op_pow pe_int pe_int) pa_nil))))) (pe_fd C_u_law_draw (hr.mono (by decide)) (pa_cons (pv 1) (pa_cons pe_int pa_nil))) (fun _ _ => rfl)))
    (pss_cons (ps_set (i := 5) sc_law.nd (by rfl) (Or.inl rfl) (pe_op op_sub (pe_fd C_u_law_draw (hr.mono (by decide)) (pa_cons (pv 1) (pa_cons (pe_op op_add (pe_op op_mulW pe_int (pv 4)) pe_int) pa_nil))) (pv 4)))
    (pss_cons (ps_set (i := 6) sc_law.nd (by rfl) (Or.inl rfl) (pe_op op_mulW (pe_op op_add pe_int (pe_fd C_u_law_draw (hr.mono (by decide)) (pa_cons (pv 1) (pa_cons (pv 4) pa_nil)))) (pe_op op_sub pe_int (pe_op op_mulW pe_int (pe_fd C_u_law_draw (hr.mono (by decide)) (pa_cons (pv 1) (pa_cons pe_int pa_nil)))))))
    (pss_cons (ps_if (PW.pt (pw_and (pt_cmpR op_gt (pv 4) pe_int (nomark _)) (pw_and1 (pt_cmpR (op_eqD hr.units) (pe_fd C_u_law_draw (hr.mono (by decide)) (pa_cons (pv 1) (pa_cons pe_int pa_nil))) pe_int (nomark _))))) (pss_one (ps_set (i := 5) sc_law.nd (by rfl) (Or.inl rfl) (pe_op op_add (pe_op op_mulW (pv 5) (pe_op op_pow pe_int pe_int)) (pe_fd C_u_law_draw (hr.mono (by decide)) (pa_cons (pv 1) (pa_cons (pe_op op_pow pe_int pe_int) pa_nil)))))) pss_nil)
    (pss_one (ps_expr (pe_bm PySem.F.plainAttrs_list PySem.F.slot_list_append PySem.F.type_list_append mt_append (pv 2) (pa_cons (pe_tup (pa_cons (pv 5) (pa_cons (pv 6) pa_nil))) pa_nil)))))))))
    (pss_cons (ps_for (passes_of rfl) rfl (pi_range1 (by rfl) T.b_range (pa_cons (pe_callB call_len_seq (by rfl) T.b_len (by decide +kernel) (pa_cons (pv 2) pa_nil)) pa_nil)) (pg_name (i := 3) sc_law.nd (by rfl) (Or.inl rfl)) (pss_cons (ps_asg (pe_ix ix_seq (pv 2) (pv 3) (fun _ _ => rfl)) (pg_tup (by rfl) (pgs_cons (pg_name (i := 7) sc_law.nd (by rfl) (Or.inl rfl)) (pgs_cons (pg_name (i := 8) sc_law.nd (by rfl) (Or.inl rfl)) pgs_nil))))
    (pss_cons (ps_asg (pe_ix ix_seq (pv 2) (pe_op op_sub (pv 3) pe_int) (fun _ _ => rfl)) (pg_tup (by rfl) (pgs_cons (pg_name (i := 9) sc_law.nd (by rfl) (Or.inl rfl)) (pgs_cons (pg_name (i := 10) sc_law.nd (by rfl) (Or.inl rfl)) pgs_nil))))
    (pss_one (ps_if (pt_not (pt_val (pe_fd C_u_law_pair (hr.mono (by decide)) (pa_cons (pv 7) (pa_cons (pv 8) (pa_cons (pv 9) (pa_cons (pv 10) pa_nil))))))) (pss_one (ps_ret pe_bl)) pss_nil)))))
    (pss_cons (ps_if (pt_not (pt_val (pe_fd C_u_law_many (hr.mono (by decide)) (pa_cons (pv 2) pa_nil)))) (pss_one (ps_ret pe_bl)) pss_nil)
    (pss_cons (ps_if (PW.pt (pw_or (pt_cmpR (op_neD hr.units) (pe_tup (pa_cons (pe_glob (by rfl) T.g_ZERO (by rfl)) (pa_cons (pe_glob (by rfl) T.g_ONE (by rfl)) (pa_cons (pe_glob (by rfl) T.g_HALF (by rfl)) pa_nil)))) (pe_tup (pa_cons (pe_tup (pa_cons pe_int (pa_cons pe_int pa_nil))) (pa_cons (pe_tup (pa_cons pe_int (pa_cons pe_int pa_nil))) (pa_cons (pe_tup (pa_cons pe_int (pa_cons pe_int pa_nil))) pa_nil)))) (nomark _)) (pw_or1 (pt_cmpR (op_neD hr.units) (pe_fd C_make_ratio_1 (hr.mono (by decide)) (pa_cons (pe_ix ix_seq (pe_ix ix_seq (pv 2) pe_int (fun _ _ => rfl)) pe_int (fun _ _ => rfl)) pa_nil)) (pe_tup (pa_cons (pe_ix ix_seq (pe_ix ix_seq (pv 2) pe_int (fun _ _ => rfl)) pe_int (fun _ _ => rfl)) (pa_cons pe_int pa_nil))) (nomark _))))) (pss_one (ps_ret pe_bl)) pss_nil)
    (pss_cons (ps_asg (pe_ix ix_seq (pv 2) pe_int (fun _ _ => rfl)) (pg_tup (by rfl) (pgs_cons (pg_name (i := 5) sc_law.nd (by rfl) (Or.inl rfl)) (pgs_cons (pg_name (i := 6) sc_law.nd (by rfl) (Or.inl rfl)) pgs_nil))))
    (pss_cons (ps_set (i := 11) sc_law.nd (by rfl) (Or.inl rfl) (pe_ix ix_seq (pe_tup (pa_cons pe_bl (pa_cons pe_non (pa_cons pe_str (pa_cons (pe_tup (pa_cons pe_int (pa_cons pe_int pa_nil))) (pa_cons (pe_lst (pa_cons pe_int pa_nil)) pa_nil)))))) (pe_fd C_u_law_draw (hr.mono (by decide)) (pa_cons (pv 1) (pa_cons pe_int pa_nil))) (fun _ _ => rfl)))
    (pss_cons (ps_if (PW.pt (pw_or (pt_cmpR (op_neD hr.units) (pe_fd C_u_law_refused (hr.mono (by decide)) (pa_cons (pv 11) (pa_cons (pv 6) pa_nil))) pe_str (nomark _)) (pw_or (pt_cmpR (op_neD hr.units) (pe_fd C_u_law_refused (hr.mono (by decide)) (pa_cons (pv 11) (pa_cons pe_int pa_nil))) pe_str (nomark _)) (pw_or1 (pt_cmpR (op_neD hr.units) (pe_fd C_u_law_refused (hr.mono (by decide)) (pa_cons (pv 5) (pa_cons (pv 11) pa_nil))) pe_str (nomark _)))))) (pss_one (ps_ret pe_bl)) pss_nil)
    (pss_cons (ps_if (PW.pt (pw_or (pt_cmpR (op_neD hr.units) (pe_fd C_u_law_refused (hr.mono (by decide)) (pa_cons (pv 5) (pa_cons pe_int pa_nil))) pe_str (nomark _)) (pw_or1 (pt_cmpR (op_neD hr.units) (pe_fd C_u_law_refused (hr.mono (by decide)) (pa_cons (pv 5) (pa_cons (pe_un un_neg pe_int) pa_nil))) pe_str (nomark _))))) (pss_one (ps_ret pe_bl)) pss_nil)
    (pss_cons (ps_set (i := 12) sc_law.nd (by rfl) (Or.inl rfl) (pe_fd C_make_ratio (hr.mono (by decide)) (pa_cons (pv 5) (pa_cons (pv 6) pa_nil))))
    (pss_cons (ps_if (PW.pt (pw_or (pt_cmpR op_notBl (pe_fd C_is_ratio (hr.mono (by decide)) (pa_cons (pv 12) pa_nil)) pe_bl (nomark _)) (pw_or (pt_cmpR op_notBl (pe_fd C_is_ratio (hr.mono (by decide)) (pa_cons (pe_lst (pa_cons (pe_ix ix_seq (pv 12) pe_int (fun _ _ => rfl)) (pa_cons (pe_ix ix_seq (pv 12) pe_int (fun _ _ => rfl)) pa_nil))) pa_nil)) pe_bl (nomark _)) (pw_or1 (pt_cmpR op_notBl (pe_fd C_is_ratio (hr.mono (by decide)) (pa_cons (pv 5) pa_nil)) pe_bl (nomark _)))))) (pss_one (ps_ret pe_bl)) pss_nil)
    (pss_cons (ps_set (i := 13) sc_law.nd (by rfl) (Or.inl rfl) (pe_lst (pa_cons (pe_tup (pa_cons (pe_op op_mulW (pe_ix ix_seq (pv 12) pe_int (fun _ _ => rfl)) pe_int) (pa_cons (pe_op op_mulW (pe_ix ix_seq (pv 12) pe_int (fun _ _ => rfl)) pe_int) pa_nil))) (pa_cons (pe_tup (pa_cons (pe_ix ix_seq (pv 12) pe_int (fun _ _ => rfl)) (pa_cons (pe_un un_neg (pe_ix ix_seq (pv 12) pe_int (fun _ _ => rfl))) pa_nil))) (pa_cons (pe_tup (pa_cons (pe_ix ix_seq (pv 12) pe_int (fun _ _ => rfl)) (pa_cons pe_int pa_nil))) (pa_cons (pe_tup (pa_cons (pe_ix ix_seq (pv 12) pe_int (fun _ _ => rfl)) pa_nil)) (pa_cons (pe_op op_catT (pv 12) (pe_tup (pa_cons pe_int pa_nil))) (pa_cons (pe_tup (pa_cons (pe_ix ix_seq (pv 12) pe_int (fun _ _ => rfl)) (pa_cons pe_bl pa_nil))) (pa_cons (pe_tup (pa_cons pe_bl (pa_cons pe_int pa_nil))) (pa_cons pe_non (pa_cons pe_str (pa_cons (pe_tup (pa_cons pe_int (pa_cons pe_int pa_nil))) pa_nil))))))))))))
    (pss_cons (ps_for (passes_of rfl) rfl (pi_seq (pv 13)) (pg_name (i := 14) sc_law.nd (by rfl) (Or.inl rfl)) (pss_one (ps_if (pt_cmpR op_notBl (pe_fd C_is_ratio (hr.mono (by decide)) (pa_cons (pv 14) pa_nil)) pe_bl (nomark _)) (pss_one (ps_ret pe_bl)) pss_nil)))
    (pss_cons (ps_if (PW.pt (pw_or (pt_cmpR op_notBl (pe_fd C_is_whole_1 (hr.mono (by decide)) (pa_cons (pv 11) pa_nil)) pe_bl (nomark _)) (pw_or (pt_cmpR op_notBl (pe_fd C_is_whole_1 (hr.mono (by decide)) (pa_cons (pv 5) pa_nil)) pe_bl (nomark _)) (pw_or (pt_cmpR op_notBl (pe_fd C_is_whole_2 (hr.mono (by decide)) (pa_cons (pv 5) (pa_cons (pv 5) pa_nil))) pe_bl (nomark _)) (pw_or1 (pt_cmpR op_notBl (pe_fd C_is_whole_2 (hr.mono (by decide)) (pa_cons (pv 5) (pa_cons (pe_op op_add (pv 5) pe_int) pa_nil))) pe_bl (nomark _))))))) (pss_one (ps_ret pe_bl)) pss_nil)
    (pss_one (ps_ret (pe_and (pe_cmpR op_isBl (pe_fd C_is_whole (hr.mono (by decide)) (pa_cons (pv 5) (pa_cons pe_non (pa_cons (pv 5) pa_nil)))) pe_bl (nomark _)) (pe_and (pe_cmpR op_isBl (pe_fd C_is_whole (hr.mono (by decide)) (pa_cons (pv 5) (pa_cons pe_non (pa_cons (pe_op op_sub (pv 5) pe_int) pa_nil)))) pe_bl (nomark _)) (pe_one (pe_cmpR op_isBl (pe_fk C_is_whole_kw (hr.mono (by decide)) (pa_cons (pv 5) pa_nil) (pk_cons (pv 5) (pk_cons (pe_op op_sub (pv 5) (pe_op op_mulW (pv 6) (pv 6))) pk_nil))) pe_bl (nomark _))))))))))))))))))))))

end K01
set_option Elab.async false
set_option linter.all false
set_option maxRecDepth 100000
set_option maxHeartbeats 4000000
namespace K01
open PySem PySem.Spec PyProof.Rows L2 My
local macro_rules | `(tactic| walk_at "ed") => `(tactic| first
  | exact ed_int | exact ed_bl | exact ed_str | exact ed_non
  | exact ed_var rfl
  | (apply ed_I0; (focus walk_at "ed"); (focus walk_at "ed"))
  | (apply ed_B0; (focus walk_at "ed"); (focus walk_at "ed"))
  | (apply ed_neg; (focus walk_at "ed"))
  | (apply ed_ixT; (focus walk_at "ed"); (focus walk_at "ed"); (focus rfl))
  | (apply ed_ixL; (focus walk_at "ed"); (focus walk_at "ed"); (focus rfl))
  | (apply ed_ixO; (focus rfl); (focus walk_at "ed"); (focus rfl))
  | (apply ed_len; (focus walk_at "ed"); (focus rfl))
  | (apply ed_lenO; (focus rfl))
  | (apply ed_tup; (focus walk_at "ed"); (focus (simp only [List.length_cons, List.length_nil]; decide)))
  | (apply ed_eq; (focus walk_at "ed"); (focus walk_at "ed"); (focus rfl); (focus rfl))
  | (apply ed_ne; (focus walk_at "ed"); (focus walk_at "ed"); (focus rfl); (focus rfl))
  | (apply ed_isN; (focus walk_at "ed"))
  | (apply ed_notN; (focus walk_at "ed"))
  | (apply ed_isB; (focus walk_at "ed"); (focus walk_at "ed"))
  | (apply ed_notB; (focus walk_at "ed"); (focus walk_at "ed"))
  | (apply ed_isi; (focus walk_at "ed"); (focus first | rfl | assumption); (focus decide +kernel))
  | (apply ed_isi2; (focus walk_at "ed"); (focus first | rfl | assumption); (focus decide +kernel); (focus decide +kernel))
  | (apply ed_not; (focus walk_at "ed"))
  | (apply ed_int1; (focus walk_at "ed"))
  | (apply ed_abs; (focus walk_at "ed"))
  | (apply ed_gcd; (focus walk_at "ed"); (focus walk_at "ed"))
  | exact es_nil
  | (apply es_cons; (focus walk_at "ed"); (focus walk_at "ed"))
  | (apply eb_test; (focus walk_at "ed"))
  | (apply eb_B; (focus walk_at "ed"))
  | (apply eb_not; (focus walk_at "ed")))
theorem isB_self {t : String} : isB t t = true := by
  unfold isB kitB
  rw [if_pos (by simp)]
  rfl
theorem kin_some {x : Dt} (h : Kin x) : ∃ t, tyD x = some t := Option.isSome_iff_exists.mp h
/-- what isinstance says -/
def isK (x : Dt) (n : String) : Bool := match tyD x with
  | some t => isB t n
  | none => false
theorem kit_some {t n : String} (ht : t ∈ ["NoneType", "bool", "int", "str", "list", "tuple"]) (hn : n ∈ ["int", "bool", "tuple", "list", "str"]) : (kitB t n).isSome = true := by
  have key : (["NoneType", "bool", "int", "str", "list", "tuple"].all fun t => ["int", "bool", "tuple", "list", "str"].all fun n => (kitB t n).isSome) = true := by decide +kernel
  exact List.all_eq_true.mp (List.all_eq_true.mp key t ht) n hn
theorem ty_mem {x : Dt} {t : String} (h : tyD x = some t) : t ∈ ["NoneType", "bool", "int", "str", "list", "tuple"] := by
  cases x with
  | obj _ _ _ => cases h
  | _ => cases Option.some.inj h <;> decide
theorem ed_isK {c : Fr} {es : List Sv} {ta : TE} {x : Dt} {n : String} (ha : ED c ta es x) (hx : Kin x) (hn : n ∈ ["int", "bool", "tuple", "list", "str"]) : ED c (tCB (rIsi c.K) (tCons ta (tCons (tC (.ty n)) tNil))) es (.bl (isK x n)) := by
  obtain ⟨t, e⟩ := kin_some hx
  have q := ed_isi (n := n) ha e (kit_some (ty_mem e) hn)
  have z : isK x n = isB t n := by
    unfold isK
    rw [e]
  rw [z]
  exact q
theorem isK_int (x : Dt) : (!isK x "int" || isK x "bool") = !isIntB x := by
  cases x with
  | obj _ _ _ => rfl
  | non => exact (by decide +kernel : (!isB "NoneType" "int" || isB "NoneType" "bool") = true)
  | bl _ => exact (by decide +kernel : (!isB "bool" "int" || isB "bool" "bool") = true)
  | int _ => exact (by decide +kernel : (!isB "int" "int" || isB "int" "bool") = false)
  | str _ => exact (by decide +kernel : (!isB "str" "int" || isB "str" "bool") = true)
  | lst _ => exact (by decide +kernel : (!isB "list" "int" || isB "list" "bool") = true)
  | tup _ => exact (by decide +kernel : (!isB "tuple" "int" || isB "tuple" "bool") = true)
theorem isK_whole (x : Dt) : (isK x "int" && !isK x "bool") = isIntB x := by
  cases x with
  | obj _ _ _ => rfl
  | non => exact (by decide +kernel : (isB "NoneType" "int" && !isB "NoneType" "bool") = false)
  | bl _ => exact (by decide +kernel : (isB "bool" "int" && !isB "bool" "bool") = false)
  | int _ => exact (by decide +kernel : (isB "int" "int" && !isB "int" "bool") = true)
  | str _ => exact (by decide +kernel : (isB "str" "int" && !isB "str" "bool") = false)
  | lst _ => exact (by decide +kernel : (isB "list" "int" && !isB "list" "bool") = false)
  | tup _ => exact (by decide +kernel : (isB "tuple" "int" && !isB "tuple" "bool") = false)
def isTup : Dt → Bool
  | .tup _ => true
  | _ => false
theorem isK_tuple (x : Dt) : isK x "tuple" = isTup x := by
  cases x with
  | obj _ _ _ => rfl
  | non => exact (by decide +kernel : (isB "NoneType" "tuple") = false)
  | bl _ => exact (by decide +kernel : (isB "bool" "tuple") = false)
  | int _ => exact (by decide +kernel : (isB "int" "tuple") = false)
  | str _ => exact (by decide +kernel : (isB "str" "tuple") = false)
  | lst _ => exact (by decide +kernel : (isB "list" "tuple") = false)
  | tup _ => exact (by decide +kernel : (isB "tuple" "tuple") = true)
section
variable {c : Fr} {D : Ends}
theorem sem_is_whole {x lo hi : Dt} (hx : Kin x) (hlo : Lim lo) (hhi : Lim hi) (k : RetD c D.rt (fun d => d = .bl (wholeB x lo hi))) : Cont c (t_is_whole c.K D) [.dat x, .dat lo, .dat hi] := by
  refine s_when (b := !isIntB x) ?_ (fun h => ?_) (fun h => ?_)
  · rw [← isK_int]
    exact eb_or (eb_not (eb_B (ed_isK (ed_var rfl) hx (by decide)))) fun _ => eb_B (ed_isK (ed_var rfl) hx (by decide))
  · refine c_ret ?_ k
    have : wholeB x lo hi = false := by
      cases x <;> first | rfl | (cases h)
    rw [this]
    exact ed_bl
  · cases x with
    | int i =>
      refine s_when (b := !lowOk lo i) ?_ (fun h => ?_) (fun h => ?_)
      · rcases hlo with rfl | ⟨l, rfl⟩
        · exact EBd.is (eb_and (b := false) (b' := false) (eb_test (ed_notN (x := .non) (ed_var rfl))) fun z => by cases z) rfl
        · refine EBd.is (eb_and (b := true) (b' := decide (i < l)) (eb_test (ed_notN (x := .int l) (ed_var rfl))) fun _ => eb_test (ed_B0 (ed_var rfl) (ed_var rfl))) ?_
          show decide (i < l) = !decide (l ≤ i)
          by_cases z : l ≤ i
          · rw [decide_eq_true z, decide_eq_false (by omega)] <;> rfl
          · rw [decide_eq_false z, decide_eq_true (by omega)] <;> rfl
      · refine c_ret ?_ k
        have : wholeB (.int i) lo hi = false := by
          show (lowOk lo i && highOk hi i) = false
          cases q : lowOk lo i with
          | false => rfl
          | true => rw [q] at h; cases h
        rw [this]
        exact ed_bl
      · refine c_ret ?_ k
        have e1 : lowOk lo i = true := by
          cases q : lowOk lo i with
          | true => rfl
          | false => rw [q] at h; cases h
        have : wholeB (.int i) lo hi = highOk hi i := by
          show (lowOk lo i && highOk hi i) = highOk hi i
          rw [e1] <;> rfl
        rw [this]
        rcases hhi with rfl | ⟨l, rfl⟩
        · exact ED.is (ed_or (b := true) (b' := true) (ed_isN (x := .non) (ed_var rfl)) fun z => by cases z) rfl
        · exact ED.is (ed_or (b := false) (b' := decide (i ≤ l)) (ed_isN (x := .int l) (ed_var rfl)) fun _ => ed_B0 (ed_var rfl) (ed_var rfl)) rfl
    | _ => cases h
end
end K01
set_option Elab.async false
set_option linter.all false
set_option maxRecDepth 100000
set_option maxHeartbeats 4000000
namespace K01
open PySem PySem.Spec PyProof.Rows L2 My
local macro_rules | `(tactic| walk_at "ed") => `(tactic| first
  | exact ed_int | exact ed_bl | exact ed_str | exact ed_non
  | exact ed_var rfl
  | (apply ed_I0; (focus walk_at "ed"); (focus walk_at "ed"))
  | (apply ed_B0; (focus walk_at "ed"); (focus walk_at "ed"))
  | (apply ed_neg; (focus walk_at "ed"))
  | (apply ed_ixT; (focus walk_at "ed"); (focus walk_at "ed"); (focus rfl))
  | (apply ed_ixL; (focus walk_at "ed"); (focus walk_at "ed"); (focus rfl))
  | (apply ed_ixO; (focus rfl); (focus walk_at "ed"); (focus rfl))
  | (apply ed_len; (focus walk_at "ed"); (focus rfl))
  | (apply ed_lenO; (focus rfl))
  | (apply ed_tup; (focus walk_at "ed"); (focus (simp only [List.length_cons, List.length_nil]; decide)))
  | (apply ed_eq; (focus walk_at "ed"); (focus walk_at "ed"); (focus rfl); (focus rfl))
  | (apply ed_ne; (focus walk_at "ed"); (focus walk_at "ed"); (focus rfl); (focus rfl))
  | (apply ed_isN; (focus walk_at "ed"))
  | (apply ed_notN; (focus walk_at "ed"))
  | (apply ed_isB; (focus walk_at "ed"); (focus walk_at "ed"))
  | (apply ed_notB; (focus walk_at "ed"); (focus walk_at "ed"))
  | (apply ed_isi; (focus walk_at "ed"); (focus first | rfl | assumption); (focus decide +kernel))
  | (apply ed_isi2; (focus walk_at "ed"); (focus first | rfl | assumption); (focus decide +kernel); (focus decide +kernel))
  | (apply ed_not; (focus walk_at "ed"))
  | (apply ed_int1; (focus walk_at "ed"))
  | (apply ed_abs; (focus walk_at "ed"))
  | (apply ed_gcd; (focus walk_at "ed"); (focus walk_at "ed"))
  | exact es_nil
  | (apply es_cons; (focus walk_at "ed"); (focus walk_at "ed"))
  | (apply eb_test; (focus walk_at "ed"))
  | (apply eb_B; (focus walk_at "ed"))
  | (apply eb_not; (focus walk_at "ed")))
section
variable {c : Fr} {D : Ends}
theorem sem_lowest {a b : Int} (hb : b ≠ 0) (ha : Sz 5000 a) (hs : Sz 5000 b) (k : RetD c D.rt (fun d => d = ratD (Rat.divInt a b))) : Cont c (t_u_lowest c.K D) [.dat (.int a), .dat (.int b), .no] := by
  refine s_asg (by walk_at "ed") ?_
  have fin : Cont c (tRet (tTup (tCons (tOp (rI CDivA fun i j => .int (i.fdiv j)) (tVar 0) (tVar 2)) (tCons (tOp (rI CDivA fun i j => .int (i.fdiv j)) (tVar 1) (tVar 2)) tNil))) D) [.dat (.int a), .dat (.int b), .dat (.int (partOf a b))] := by
    refine c_ret ?_ k
    have hp := sz_div (x := a) (partOf_ne (a := a) hb) (sz_part hb hs) (by decide)
    have hq := sz_div (x := b) (partOf_ne (a := a) hb) (sz_part hb hs) (by decide)
    have e : ratD (Rat.divInt a b) = .tup [.int (a.fdiv (partOf a b)), .int (b.fdiv (partOf a b))] := by
      rw [low_num hb, low_den hb] <;> rfl
    rw [e]
    exact ed_tup (es_cons (ed_I (ed_var rfl) (ed_var rfl) hp) (es_cons (ed_I (ed_var rfl) (ed_var rfl) hq) es_nil)) (by show 2 ≤ 100000; decide)
  refine s_when (b := decide (b < 0)) (by walk_at "ed") (fun h => ?_) (fun h => ?_)
  · refine c_asg (by walk_at "ed") ?_
    have e : partOf a b = -((Nat.gcd a.natAbs b.natAbs : Nat) : Int) := if_pos (of_decide_eq_true h)
    rw [e] at fin
    exact fin
  · have e : partOf a b = ((Nat.gcd a.natAbs b.natAbs : Nat) : Int) := if_neg (of_decide_eq_false h)
    rw [e] at fin
    exact fin
theorem den_ne (q : Rat) : (q.den : Int) ≠ 0 := by have := den_pos q; omega
theorem ed_low {es : List Sv} {ta tb : TE} {a b : Int} {q : Rat} {E : XK} (ha : ED c ta es (.int a)) (hb : ED c tb es (.int b)) (h0 : b ≠ 0) (h1 : Sz 5000 a) (h2 : Sz 5000 b) (e : Rat.divInt a b = q) : ED c (tCall (sp_u_lowest c.K) [] E (tCons ta (tCons tb tNil))) es (ratD q) :=
  e ▸ ed_call (es_cons ha (es_cons hb es_nil)) ⟨a, b, rfl, h0, h1, h2, rfl⟩ fun x ⟨a', b', e', _, _, _, ex⟩ => by
    have h := List.cons.inj e'
    have h' := List.cons.inj h.2
    rw [ex, Dt.int.inj h.1, Dt.int.inj h'.1]
theorem ix0 {es : List Sv} {n : Nat} {q : Rat} (h : es[n]? = some (.dat (ratD q))) : ED c (tOp (rIx c.K) (tVar n) (tC (.int 0))) es (.int q.num) := ed_ixT (ed_var h) ed_int rfl
theorem ix1 {es : List Sv} {n : Nat} {q : Rat} (h : es[n]? = some (.dat (ratD q))) : ED c (tOp (rIx c.K) (tVar n) (tC (.int 1))) es (.int q.den) := ed_ixT (ed_var h) ed_int rfl
theorem ed_mul {es : List Sv} {ta tb : TE} {i j : Int} {n m : Nat} (ha : ED c ta es (.int i)) (hb : ED c tb es (.int j)) (hi : Sz n i) (hj : Sz m j) (h : n + m ≤ 900000) : ED c (tOp (rI CMulW fun i j => .int (i * j)) ta tb) es (.int (i * j)) := ed_I ha hb (sz_ok hi hj h)
theorem sem_plus {p q : Rat} (hp : SzR 2000 p) (hq : SzR 2000 q) (k : RetD c D.rt (fun d => d = ratD (p + q))) : Cont c (t_plus c.K D) [.dat (ratD p), .dat (ratD q)] := by
  refine c_ret ?_ k
  refine ed_low (ed_I0 (ed_mul (ix0 rfl) (ix1 rfl) hp.num hq.den (by decide)) (ed_mul (ix0 rfl) (ix1 rfl) hq.num hp.den (by decide))) (ed_mul (ix1 rfl) (ix1 rfl) hp.den hq.den (by decide)) (Int.mul_ne_zero (den_ne p) (den_ne q)) ?_ ?_ ?_
  · exact ((hp.num.mul hq.den).add (hq.num.mul hp.den)).mono (by decide)
  · exact (hp.den.mul hq.den).mono (by decide)
  · rw [← Rat.divInt_add_divInt _ _ (den_ne p) (den_ne q), divInt_of, divInt_of]
theorem sem_minus {p q : Rat} (hp : SzR 2000 p) (hq : SzR 2000 q) (k : RetD c D.rt (fun d => d = ratD (p - q))) : Cont c (t_minus c.K D) [.dat (ratD p), .dat (ratD q)] := by
  refine c_ret ?_ k
  refine ed_low (ed_I0 (ed_mul (ix0 rfl) (ix1 rfl) hp.num hq.den (by decide)) (ed_mul (ix0 rfl) (ix1 rfl) hq.num hp.den (by decide))) (ed_mul (ix1 rfl) (ix1 rfl) hp.den hq.den (by decide)) (Int.mul_ne_zero (den_ne p) (den_ne q)) ?_ ?_ ?_
  · exact ((hp.num.mul hq.den).sub (hq.num.mul hp.den)).mono (by decide)
  · exact (hp.den.mul hq.den).mono (by decide)
  · rw [← Rat.divInt_sub_divInt _ _ (den_ne p) (den_ne q), divInt_of, divInt_of]
theorem sem_times {p q : Rat} (hp : SzR 2000 p) (hq : SzR 2000 q) (k : RetD c D.rt (fun d => d = ratD (p * q))) : Cont c (t_times c.K D) [.dat (ratD p), .dat (ratD q)] := by
  refine c_ret ?_ k
  refine ed_low (ed_mul (ix0 rfl) (ix0 rfl) hp.num hq.num (by decide)) (ed_mul (ix1 rfl) (ix1 rfl) hp.den hq.den (by decide)) (Int.mul_ne_zero (den_ne p) (den_ne q)) ?_ ?_ ?_
  · exact (hp.num.mul hq.num).mono (by decide)
  · exact (hp.den.mul hq.den).mono (by decide)
  · rw [← Rat.divInt_mul_divInt, divInt_of, divInt_of]
theorem sem_negative {p : Rat} (k : RetD c D.rt (fun d => d = ratD (-p))) : Cont c (t_negative c.K D) [.dat (ratD p)] := by
  refine c_ret ?_ k
  have e : ratD (-p) = .tup [.int (-p.num), .int p.den] := rfl
  rw [e]
  exact ed_tup (es_cons (ed_neg (ix0 rfl)) (es_cons (ix1 rfl) es_nil)) (by show 2 ≤ 100000; decide)
theorem sem_compare {p q : Rat} (hp : SzR 2000 p) (hq : SzR 2000 q) (k : RetD c D.rt (fun d => d = .int (cmpI p q))) : Cont c (t_compare c.K D) [.dat (ratD p), .dat (ratD q), .no, .no] := by
  refine s_asg (ed_mul (ix0 rfl) (ix1 rfl) hp.num hq.den (by decide)) ?_
  refine s_asg (ed_mul (ix0 rfl) (ix1 rfl) hq.num hp.den (by decide)) ?_
  refine s_when (b := decide (p.num * q.den < q.num * p.den)) (by walk_at "ed") (fun h => ?_) (fun h => ?_)
  · refine c_ret ?_ k
    have e : cmpI p q = -1 := if_pos (of_decide_eq_true h)
    rw [e]
    exact ed_neg ed_int
  · have h1 := of_decide_eq_false h
    refine s_when (b := decide (q.num * p.den < p.num * q.den)) (by walk_at "ed") (fun h => ?_) (fun h => ?_)
    · refine c_ret ?_ k
      have e : cmpI p q = 1 := (if_neg h1).trans (if_pos (of_decide_eq_true h))
      rw [e]
      exact ed_int
    · refine c_ret ?_ k
      have e : cmpI p q = 0 := (if_neg h1).trans (if_neg (of_decide_eq_false h))
      rw [e]
      exact ed_int
theorem sem_floor_of {q : Rat} (hq : SzR 2000 q) (k : RetD c D.rt (fun d => d = .int (q.num / q.den))) : Cont c (t_floor_of c.K D) [.dat (ratD q)] := by
  refine c_ret ?_ k
  rw [← Int.fdiv_eq_ediv_of_nonneg _ (Int.le_of_lt (den_pos q))]
  exact ed_I (ix0 rfl) (ix1 rfl) (sz_div (den_ne q) hq.den (by decide))
theorem sem_broken_of {q : Rat} (k : RetD c D.rt (fun d => d = .tup [.int (q.num % q.den), .int q.den])) : Cont c (t_broken_of c.K D) [.dat (ratD q)] := by
  refine c_ret ?_ k
  exact ed_tup (es_cons (ed_I (ix0 rfl) (ix1 rfl) (den_pos q)) (es_cons (ix1 rfl) es_nil)) (by show 2 ≤ 100000; decide)
end
end K01
set_option Elab.async false
set_option linter.all false
set_option maxRecDepth 100000
set_option maxHeartbeats 4000000
namespace K01
open PySem PySem.Spec PyProof.Rows L2 My
local macro_rules | `(tactic| walk_at "ed") => `(tactic| first
  | exact ed_int | exact ed_bl | exact ed_str | exact ed_non
  | exact ed_var rfl
  | (apply ed_I0; (focus walk_at "ed"); (focus walk_at "ed"))
  | (apply ed_B0; (focus walk_at "ed"); (focus walk_at "ed"))
  | (apply ed_neg; (focus walk_at "ed"))
  | (apply ed_ixT; (focus walk_at "ed"); (focus walk_at "ed"); (focus rfl))
  | (apply ed_ixL; (focus walk_at "ed"); (focus walk_at "ed"); (focus rfl))
  | (apply ed_ixO; (focus rfl); (focus walk_at "ed"); (focus rfl))
  | (apply ed_len; (focus walk_at "ed"); (focus rfl))
  | (apply ed_lenO; (focus rfl))
  | (apply ed_tup; (focus walk_at "ed"); (focus (simp only [List.length_cons, List.length_nil]; decide)))
  | (apply ed_eq; (focus walk_at "ed"); (focus walk_at "ed"); (focus rfl); (focus rfl))
  | (apply ed_ne; (focus walk_at "ed"); (focus walk_at "ed"); (focus rfl); (focus rfl))
  | (apply ed_isN; (focus walk_at "ed"))
  | (apply ed_notN; (focus walk_at "ed"))
  | (apply ed_isB; (focus walk_at "ed"); (focus walk_at "ed"))
  | (apply ed_notB; (focus walk_at "ed"); (focus walk_at "ed"))
  | (apply ed_isi; (focus walk_at "ed"); (focus first | rfl | assumption); (focus decide +kernel))
  | (apply ed_isi2; (focus walk_at "ed"); (focus first | rfl | assumption); (focus decide +kernel); (focus decide +kernel))
  | (apply ed_not; (focus walk_at "ed"))
  | (apply ed_int1; (focus walk_at "ed"))
  | (apply ed_abs; (focus walk_at "ed"))
  | (apply ed_gcd; (focus walk_at "ed"); (focus walk_at "ed"))
  | exact es_nil
  | (apply es_cons; (focus walk_at "ed"); (focus walk_at "ed"))
  | (apply eb_test; (focus walk_at "ed"))
  | (apply eb_B; (focus walk_at "ed"))
  | (apply eb_not; (focus walk_at "ed")))
theorem fine_str {a : Str} (h : PyData.strOk a = true) : fine (.str a) = true := by
  unfold fine SeqAt.shaped
  show (true && (PyData.canLay0 (.str a) && decide _)) = true
  rw [PyData.canLay0, h]
  rfl
theorem ok_of (s : String) : PyData.strOk (Str.ofString s) = true := by
  unfold PyData.strOk
  rw [Str.ofString_eq_toList]
  simp only [List.all_toArray, List.all_map, List.all_eq_true]
  intro ch _
  have h := ch.valid
  have : ch.val.toNat < 0x110000 := by
    rcases h with h | h
    · exact Nat.lt_trans h (by decide)
    · exact h.2
  simpa using this
theorem ok_app {a b : Str} (h : PyData.strOk a = true) (k : PyData.strOk b = true) : PyData.strOk (a ++ b) = true := by
  unfold PyData.strOk at *
  rw [Str.cps_append, Array.all_append, h, k]
  rfl
theorem text_len {n : Nat} {i : Int} (h : Sz n i) (h0 : 0 < n) : (Str.ofString (toString i)).length ≤ n + 1 := by
  have h2 : 2 ^ n ≤ 10 ^ n := Nat.pow_le_pow_left (by decide) n
  have h3 : (10 : Int) ^ n = ((10 ^ n : Nat) : Int) := by rw [Int.natCast_pow] <;> rfl
  unfold Sz at h
  by_cases z : i < 0
  · rw [len_text_neg z]
    have := toString_length_le (v := 0 - i) (by omega) h0 (by rw [h3]; omega)
    omega
  · have := toString_length_le (v := i) (by omega) h0 (by rw [h3]; omega)
    omega
theorem sz_log {n : Nat} {i : Int} (h : Sz n i) (h0 : 0 < n) : i.natAbs.log2 < n := PySem.Flt.log2_lt_of h0 h
section
variable {c : Fr} {D : Ends} {E : XK} {es : List Sv} {ta tb : TE} {x y : Dt} {p q : Rat}
theorem ed_whole0 (h : ED c ta es x) (hx : Kin x) : ED c (tCall (sp_is_whole c.K) [.non, .non] E (tCons ta tNil)) es (.bl (isIntB x)) :=
  ED.is (ed_callD (dd := [.non, .non]) (d := .bl (wholeB x .non .non)) (es_cons h es_nil) (fun _ => .cons .non (.cons .non .nil)) ⟨x, .non, .non, rfl, hx, .inl rfl, .inl rfl, rfl⟩ fun y ⟨a, b, d, e, _, _, _, ey⟩ => by
    have e' : [x, .non, .non] = [a, b, d] := e
    cases e'
    exact ey) (by cases x <;> rfl)
theorem ed_whole1 {l : Dt} (h : ED c ta es x) (hl : ED c tb es l) (hx : Kin x) (hL : Lim l) : ED c (tCall (sp_is_whole c.K) [.non] E (tCons ta (tCons tb tNil))) es (.bl (wholeB x l .non)) :=
  ed_callD (dd := [.non]) (es_cons h (es_cons hl es_nil)) (fun _ => .cons .non .nil) ⟨x, l, .non, rfl, hx, hL, .inl rfl, rfl⟩ fun y ⟨a, b, d, e, _, _, _, ey⟩ => by
    have e' : [x, l, .non] = [a, b, d] := e
    cases e'
    exact ey
theorem ed_whole2 {l u : Dt} {tx : TE} (h : ED c ta es x) (hl : ED c tb es l) (hu : ED c tx es u) (hx : Kin x) (hL : Lim l) (hU : Lim u) : ED c (tCall (sp_is_whole c.K) [] E (tCons ta (tCons tb (tCons tx tNil)))) es (.bl (wholeB x l u)) :=
  ed_call (es_cons h (es_cons hl (es_cons hu es_nil))) ⟨x, l, u, rfl, hx, hL, hU, rfl⟩ fun y ⟨a, b, d, e, _, _, _, ey⟩ => by
    cases e
    exact ey
def gcdB : Dt → Dt → Bool
  | .int a, .int b => decide (Nat.gcd a.natAbs b.natAbs = 1)
  | _, _ => false
theorem ratioB_two (y z : Dt) : ratioB (.tup [y, z]) = (isIntB y && (wholeB z (.int 1) .non && gcdB y z)) := by
  cases y with
  | int a => cases z with
    | int b =>
      show (decide (1 ≤ b) && _) = (true && ((decide (1 ≤ b) && true) && _))
      rw [Bool.and_true, Bool.true_and] <;> rfl
    | _ => rfl
  | _ => rfl
theorem eqv_int (i j : Int) : eqv (.int i) (.int j) = decide (i = j) := rfl
theorem sem_is_ratio (hx : Kins x) (k : RetD c D.rt (fun d => d = .bl (ratioB x))) : Cont c (t_is_ratio c.K D) [.dat x, .no, .no] := by
  obtain ⟨hk, hs⟩ := hx
  cases ht : isTup x with
  | false =>
    refine s_when (b := true) (EBd.is (eb_or (b := true) (b' := true) (EBd.is (eb_not (eb_B (ed_isK (ed_var rfl) hk (by decide)))) (by rw [isK_tuple, ht] <;> rfl)) fun z => by cases z) rfl) (fun _ => ?_) fun z => by cases z
    refine c_ret ?_ k
    have e : ratioB x = false := by cases x <;> first | rfl | cases ht
    rw [e]
    exact ed_bl
  | true =>
    obtain ⟨l, rfl⟩ : ∃ l, x = .tup l := by
      cases x with
      | tup l => exact ⟨l, rfl⟩
      | _ => cases ht
    refine s_when (b := !decide ((l.length : Int) = 2)) (EBd.is (eb_or (b := false) (b' := !decide ((l.length : Int) = 2)) (EBd.is (eb_not (eb_B (ed_isK (ed_var rfl) hk (by decide)))) (by rw [isK_tuple] <;> rfl)) fun _ => eb_test (ed_ne (ed_len (ed_var rfl) rfl) ed_int rfl rfl)) rfl) (fun h => ?_) fun h => ?_
    · refine c_ret ?_ k
      have e : ratioB (.tup l) = false := by
        have h' : ¬ (l.length : Int) = 2 := fun z => by rw [decide_eq_true z] at h; cases h
        match l with
        | [] => rfl
        | [y] =>
          unfold ratioB
          split
          · rename_i e; cases e
          · rfl
        | [_, _] => exact (h' rfl).elim
        | _ :: _ :: _ :: _ =>
          unfold ratioB
          split
          · rename_i e; cases e
          · rfl
      rw [e]
      exact ed_bl
    · have h' : (l.length : Int) = 2 := Decidable.byContradiction fun z => by rw [decide_eq_false z] at h; cases h
      obtain ⟨y, z, rfl⟩ : ∃ y z, l = [y, z] := by
        match l, h' with
        | [y, z], _ => exact ⟨y, z, rfl⟩
        | [], h => exact absurd h (by decide)
        | [_], h => rw [List.length_cons, List.length_nil] at h; omega
        | _ :: _ :: _ :: _, h => rw [List.length_cons, List.length_cons, List.length_cons] at h; omega
      refine s_unpack (ed_var rfl) ?_
      refine c_ret ?_ k
      rw [ratioB_two]
      refine ed_and (ed_whole0 (ed_var rfl) (hs _ rfl y List.mem_cons_self)) fun h1 => ?_
      refine ed_and (ed_whole1 (ed_var rfl) ed_int (hs _ rfl z (List.mem_cons_of_mem _ List.mem_cons_self)) (.inr ⟨1, rfl⟩)) fun h2 => ?_
      cases y with
      | int a =>
        cases z with
        | int b =>
          have e : gcdB (.int a) (.int b) = eqv (.int ((Nat.gcd a.natAbs b.natAbs : Nat) : Int)) (.int 1) := by
            rw [eqv_int]
            show decide (Nat.gcd a.natAbs b.natAbs = 1) = _
            by_cases g : Nat.gcd a.natAbs b.natAbs = 1
            · rw [decide_eq_true g, decide_eq_true (by omega)]
            · rw [decide_eq_false g, decide_eq_false (by omega)]
          rw [e]
          exact ed_eq (ed_gcd (ed_var rfl) (ed_var rfl)) ed_int rfl rfl
        | _ => cases h2
      | _ => cases h1
theorem sem_make_ratio (hx : Kin x) (hy : Kin y) (sx : SzD x) (sy : SzD y) (k : RetD c D.rt (fun d => makeO (He.ga c.K "BadRatio") x y = .ok d)) (kx : XtD c E (fun o => o = makeO (He.ga c.K "BadRatio") x y)) : Cont c (t_make_ratio c.K E D) [.dat x, .dat y] := by
  refine s_when (b := !isIntB x) (eb_not (eb_B (ed_whole0 (ed_var rfl) hx))) (fun h => ?_) fun h => ?_
  · refine c_raise1 (D := D) (es_cons ed_str es_nil) kx ?_ (ns := ["what"]) rfl
    cases x <;> first | rfl | cases h
  · cases x with
    | int a =>
      refine s_when (b := !isIntB y || eqv y (.int 0)) ?_ (fun h => ?_) fun h => ?_
      · cases y with
        | int b => exact eb_or (eb_not (eb_B (ed_whole0 (ed_var rfl) hy))) fun _ => eb_test (ed_eq (ed_var rfl) ed_int rfl rfl)
        | _ => exact EBd.is (eb_or (b := true) (b' := true) (eb_not (eb_B (ed_whole0 (ed_var rfl) hy))) fun z => by cases z) rfl
      · refine c_raise1 (D := D) (es_cons ed_str es_nil) kx ?_ (ns := ["what"]) rfl
        cases y with
        | int b =>
          have e : b = 0 := of_decide_eq_true h
          subst e
          rfl
        | _ => rfl
      · cases y with
        | int b =>
          have e : b ≠ 0 := of_decide_eq_false h
          have eo : makeO (He.ga c.K "BadRatio") (.int a) (.int b) = .ok (ratD (Rat.divInt a b)) := if_neg e
          refine c_ret (ed_low (ed_var rfl) (ed_var rfl) e (sx a rfl) (sy b rfl) rfl) (RetD.imp k fun d z => ?_)
          rw [z, eo]
        | _ => cases h
    | _ => cases h
theorem sem_over (hp : SzR 2000 p) (hq : SzR 2000 q) (k : RetD c D.rt (fun d => overO (He.ga c.K "BadRatio") p q = .ok d)) (kx : XtD c E (fun o => o = overO (He.ga c.K "BadRatio") p q)) : Cont c (t_over c.K E D) [.dat (ratD p), .dat (ratD q)] := by
  refine s_when (b := decide (q.num = 0)) (eb_test (ed_eq (ix0 rfl) ed_int rfl rfl)) (fun h => ?_) fun h => ?_
  · refine c_raise1 (D := D) (es_cons ed_str es_nil) kx ?_ (ns := ["what"]) rfl
    have e : overO (He.ga c.K "BadRatio") p q = .ex _ ["what"] [.str "zero"] := if_pos (of_decide_eq_true h)
    rw [e]
  · have h' : q.num ≠ 0 := of_decide_eq_false h
    have e : overO (He.ga c.K "BadRatio") p q = .ok _ := if_neg h'
    refine c_ret ?_ (RetD.imp k fun d z => by rw [z]; exact e)
    refine ed_low (ed_mul (ix0 rfl) (ix1 rfl) hp.num hq.den (by decide)) (ed_mul (ix1 rfl) (ix0 rfl) hp.den hq.num (by decide)) (Int.mul_ne_zero (den_ne p) h') ?_ ?_ rfl
    · exact (hp.num.mul hq.den).mono (by decide)
    · exact (hp.den.mul hq.num).mono (by decide)
theorem sz_add {n m : Nat} (hp : SzR n p) (hq : SzR m q) : SzR (n + m + 1) (p + q) := by
  have e : p + q = Rat.divInt (p.num * q.den + q.num * p.den) (p.den * q.den) := by rw [← Rat.divInt_add_divInt _ _ (den_ne p) (den_ne q), divInt_of, divInt_of]
  rw [e]
  refine .of (Int.mul_ne_zero (den_ne p) (den_ne q)) ?_ ((hp.den.mul hq.den).mono (by omega))
  exact Sz.add (hp.num.mul hq.den) ((hq.num.mul hp.den).mono (by omega))
def sumTo (l : List Rat) (k : Nat) : Rat := (l.take k).foldl (· + ·) 0
theorem take_get {α : Type} {l : List α} {k : Nat} {a : α} (h : l[k]? = some a) : l.take (k + 1) = l.take k ++ [a] := by rw [List.take_add_one, h] <;> rfl
theorem sum_step {l : List Rat} {k : Nat} {a : Rat} (h : l[k]? = some a) : sumTo l (k + 1) = sumTo l k + a := by
  unfold sumTo
  rw [take_get h, List.foldl_append] <;> rfl
theorem ratD_inj {p q : Rat} (h : ratD p = ratD q) : p = q := by
  have h1 := List.cons.inj (Dt.tup.inj h)
  have h2 := List.cons.inj h1.2
  exact Rat.ext (Dt.int.inj h1.1) (Int.ofNat.inj (Dt.int.inj h2.1))
theorem ed_two {f : Rat → Rat → Dt} (ha : ED c ta es (ratD p)) (hb : ED c tb es (ratD q)) (hp : SzR 2000 p) (hq : SzR 2000 q) : ED c (tCall (spD c.K (R_two f)) [] E (tCons ta (tCons tb tNil))) es (f p q) :=
  ed_call (es_cons ha (es_cons hb es_nil)) ⟨p, q, rfl, hp, hq, rfl⟩ fun y ⟨a, b, e, _, _, ey⟩ => by
    have e1 := ratD_inj (List.cons.inj e).1
    have e2 := ratD_inj (List.cons.inj (List.cons.inj e).2).1
    rw [ey, e1, e2]
theorem sz_zero : SzR (1 + 101 * 0) 0 := ⟨show (0 : Nat) < 2 ^ 1 by decide, show (1 : Nat) < 2 ^ 1 by decide⟩
theorem sem_sum_of {l : List Rat} (hz : ∀ H, SqT c.K H (He.ga c.K "ZERO") [.int 0, .int 1]) (hx : itemsD x = some (l.map ratD)) (hl : l.length ≤ 10) (hs : ∀ q ∈ l, SzR 100 q) (k : RetD c D.rt (fun d => d = ratD (l.foldl (· + ·) 0))) : Cont c (t_sum_of c.K D) [.dat x, .no, .no] := by
  refine s_asg (d := ratD 0) (ed_c fun P => .tup (hz P) (.cons (.int 0) (.cons (.int 1) .nil))) ?_
  refine s_for (I := fun k es => SzR (1 + 101 * k) (sumTo l k) ∧ ∃ s, es = [.dat x, .dat (ratD (sumTo l k)), s]) (f := fun y es => es.set 2 (.dat y)) (wi_seq (ed_var rfl) hx) ⟨sz_zero, _, rfl⟩ (fun P y _ => tg_name) (fun P1 L k y es e ⟨h1, s, h2⟩ => ?_) fun es ⟨_, s, h2⟩ => ?_
  · subst h2
    obtain ⟨q, e1, rfl⟩ : ∃ q, l[k]? = some q ∧ ratD q = y := by
      rw [List.getElem?_map] at e
      exact Option.map_eq_some_iff.mp e
    have hk : k < l.length := (List.getElem?_eq_some_iff.mp e1).1
    have hq := hs q (List.mem_of_getElem? e1)
    refine c_asg (ed_two (ed_var rfl) (ed_var rfl) (h1.mono (by omega)) (hq.mono (by decide))) (c_turn' rfl ⟨?_, ?_⟩)
    · rw [sum_step e1]
      exact (sz_add h1 hq).mono (by omega)
    · rw [sum_step e1]
      exact ⟨_, rfl⟩
  · subst h2
    refine c_ret (ED.is (ed_var rfl) ?_) k
    rw [List.length_map]
    unfold sumTo
    rw [List.take_length]
theorem cmp_lt : decide (cmpI p q < 0) = lessR p q := by
  unfold cmpI lessR
  by_cases h : p.num * q.den < q.num * p.den
  · rw [if_pos h, decide_eq_true h] <;> rfl
  · rw [if_neg h, decide_eq_false h]
    split <;> rfl
theorem cmp_gt : decide (0 < cmpI p q) = lessR q p := by
  unfold cmpI lessR
  by_cases h : p.num * q.den < q.num * p.den
  · rw [if_pos h, decide_eq_false (by omega : ¬ q.num * p.den < p.num * q.den)] <;> rfl
  · rw [if_neg h]
    by_cases g : q.num * p.den < p.num * q.den
    · rw [if_pos g, decide_eq_true g] <;> rfl
    · rw [if_neg g, decide_eq_false g] <;> rfl
def pickTo (f : Rat → Rat → Rat) (p : Rat) (l : List Rat) (k : Nat) : Rat := (l.take k).foldl f p
theorem pick_step {f : Rat → Rat → Rat} {l : List Rat} {k : Nat} {a : Rat} (h : l[k]? = some a) : pickTo f p l (k + 1) = f (pickTo f p l k) a := by
  unfold pickTo
  rw [take_get h, List.foldl_append] <;> rfl
theorem items_at {l : List Dt} {i : Nat} {d : Dt} (hx : itemsD x = some l) (h : ED c ta es x) (e : l[i]? = some d) : ED c (tOp (rIx c.K) ta (tC (.int i))) es d := by
  have e2 : atI l (i : Int) = some d := by
    unfold atI
    rw [Evl.ixN_nat (List.getElem?_eq_some_iff.mp e).1]
    exact e
  cases x with
  | lst m => cases Option.some.inj hx; exact ed_ixL h ed_int e2
  | tup m => cases Option.some.inj hx; exact ed_ixT h ed_int e2
  | _ => cases hx
theorem sem_least_of {l : List Rat} (hx : itemsD x = some ((p :: l).map ratD)) (hs : ∀ q ∈ p :: l, SzR 100 q) (k : RetD c D.rt (fun d => d = ratD (leastR p (p :: l)))) : Cont c (t_least_of c.K D) [.dat x, .no, .no] := by
  refine s_asg (items_at (i := 0) hx (ed_var rfl) rfl) ?_
  refine s_for (I := fun k es => SzR 100 (pickTo (fun b q => if lessR q b then q else b) p (p :: l) k) ∧ ∃ s, es = [.dat x, .dat (ratD (pickTo (fun b q => if lessR q b then q else b) p (p :: l) k)), s]) (f := fun y es => es.set 2 (.dat y)) (wi_seq (ed_var rfl) hx) ⟨hs p List.mem_cons_self, _, rfl⟩ (fun P y _ => tg_name) (fun P1 L k y es e ⟨h1, s, h2⟩ => ?_) fun es ⟨_, s, h2⟩ => ?_
  · subst h2
    obtain ⟨q, e1, rfl⟩ : ∃ q, (p :: l)[k]? = some q ∧ ratD q = y := by
      rw [List.getElem?_map] at e
      exact Option.map_eq_some_iff.mp e
    have hq := hs q (List.mem_of_getElem? e1)
    refine c_if (b := lessR q (pickTo (fun b q => if lessR q b then q else b) p (p :: l) k)) (EBd.is (eb_test (ed_B0 (ed_two (ed_var rfl) (ed_var rfl) (hq.mono (by decide)) (h1.mono (by decide))) ed_int)) cmp_lt) (fun h => ?_) fun h => ?_
    · refine c_asg (ed_var rfl) (c_turn' rfl ?_)
      rw [pick_step e1, if_pos h]
      exact ⟨hq, _, rfl⟩
    · refine c_next (c_turn' rfl ?_)
      rw [pick_step e1, if_neg (by rw [h]; decide)]
      exact ⟨h1, _, rfl⟩
  · subst h2
    refine c_ret (ED.is (ed_var rfl) ?_) k
    rw [List.length_map]
    unfold pickTo leastR
    rw [List.take_length]
theorem sem_greatest_of {l : List Rat} (hx : itemsD x = some ((p :: l).map ratD)) (hs : ∀ q ∈ p :: l, SzR 100 q) (k : RetD c D.rt (fun d => d = ratD (greatR p (p :: l)))) : Cont c (t_greatest_of c.K D) [.dat x, .no, .no] := by
  refine s_asg (items_at (i := 0) hx (ed_var rfl) rfl) ?_
  refine s_for (I := fun k es => SzR 100 (pickTo (fun b q => if lessR b q then q else b) p (p :: l) k) ∧ ∃ s, es = [.dat x, .dat (ratD (pickTo (fun b q => if lessR b q then q else b) p (p :: l) k)), s]) (f := fun y es => es.set 2 (.dat y)) (wi_seq (ed_var rfl) hx) ⟨hs p List.mem_cons_self, _, rfl⟩ (fun P y _ => tg_name) (fun P1 L k y es e ⟨h1, s, h2⟩ => ?_) fun es ⟨_, s, h2⟩ => ?_
  · subst h2
    obtain ⟨q, e1, rfl⟩ : ∃ q, (p :: l)[k]? = some q ∧ ratD q = y := by
      rw [List.getElem?_map] at e
      exact Option.map_eq_some_iff.mp e
    have hq := hs q (List.mem_of_getElem? e1)
    refine c_if (b := lessR (pickTo (fun b q => if lessR b q then q else b) p (p :: l) k) q) (EBd.is (eb_test (ed_B0 (ed_two (ed_var rfl) (ed_var rfl) (hq.mono (by decide)) (h1.mono (by decide))) ed_int)) cmp_gt) (fun h => ?_) fun h => ?_
    · refine c_asg (ed_var rfl) (c_turn' rfl ?_)
      rw [pick_step e1, if_pos h]
      exact ⟨hq, _, rfl⟩
    · refine c_next (c_turn' rfl ?_)
      rw [pick_step e1, if_neg (by rw [h]; decide)]
      exact ⟨h1, _, rfl⟩
  · subst h2
    refine c_ret (ED.is (ed_var rfl) ?_) k
    rw [List.length_map]
    unfold pickTo greatR
    rw [List.take_length]
theorem sem_ratio_text (hq : SzR 1900 q) (k : RetD c D.rt (fun d => d = .str (ratText q))) : Cont c (t_ratio_text c.K D) [.dat (ratD q)] := by
  refine s_when (b := decide ((q.den : Int) = 1)) (eb_test (ed_eq (ix1 rfl) ed_int rfl rfl)) (fun h => ?_) fun h => ?_
  · refine c_ret ?_ k
    have e : ratText q = Str.ofString (toString q.num) := if_pos (of_decide_eq_true h)
    rw [e]
    exact ed_strI (ix0 rfl) (Nat.lt_trans (sz_log hq.num (by decide)) (by decide))
  · refine c_ret ?_ k
    have e : ratText q = ((Str.empty ++ Str.ofString (toString q.num)) ++ Str.ofString "/") ++ Str.ofString (toString (q.den : Int)) := (if_neg (of_decide_eq_false h)).trans (by rw [Str.empty_append] <;> rfl)
    rw [e]
    have l1 := text_len hq.num (by decide)
    have l2 := text_len hq.den (by decide)
    have l3 : (Str.ofString "/").length = 1 := by decide +kernel
    exact ed_join3 (ed_fmtI (ix0 rfl) (Nat.lt_trans (sz_log hq.num (by decide)) (by decide))) ed_str (ed_fmtI (ix1 rfl) (Nat.lt_trans (sz_log hq.den (by decide)) (by decide))) (by omega)
end
end K01
set_option Elab.async false
set_option linter.all false
set_option maxRecDepth 100000
set_option maxHeartbeats 4000000
namespace K01
open PySem PySem.Spec PyProof.Rows L2 My
local macro_rules | `(tactic| walk_at "ed") => `(tactic| first
  | exact ed_int | exact ed_bl | exact ed_str | exact ed_non
  | exact ed_var rfl
  | (apply ed_I0; (focus walk_at "ed"); (focus walk_at "ed"))
  | (apply ed_B0; (focus walk_at "ed"); (focus walk_at "ed"))
  | (apply ed_neg; (focus walk_at "ed"))
  | (apply ed_ixT; (focus walk_at "ed"); (focus walk_at "ed"); (focus rfl))
  | (apply ed_ixL; (focus walk_at "ed"); (focus walk_at "ed"); (focus rfl))
  | (apply ed_ixO; (focus rfl); (focus walk_at "ed"); (focus rfl))
  | (apply ed_len; (focus walk_at "ed"); (focus rfl))
  | (apply ed_lenO; (focus rfl))
  | (apply ed_tup; (focus walk_at "ed"); (focus (simp only [List.length_cons, List.length_nil]; decide)))
  | (apply ed_eq; (focus walk_at "ed"); (focus walk_at "ed"); (focus rfl); (focus rfl))
  | (apply ed_ne; (focus walk_at "ed"); (focus walk_at "ed"); (focus rfl); (focus rfl))
  | (apply ed_isN; (focus walk_at "ed"))
  | (apply ed_notN; (focus walk_at "ed"))
  | (apply ed_isB; (focus walk_at "ed"); (focus walk_at "ed"))
  | (apply ed_notB; (focus walk_at "ed"); (focus walk_at "ed"))
  | (apply ed_isi; (focus walk_at "ed"); (focus first | rfl | assumption); (focus decide +kernel))
  | (apply ed_isi2; (focus walk_at "ed"); (focus first | rfl | assumption); (focus decide +kernel); (focus decide +kernel))
  | (apply ed_not; (focus walk_at "ed"))
  | (apply ed_int1; (focus walk_at "ed"))
  | (apply ed_abs; (focus walk_at "ed"))
  | (apply ed_gcd; (focus walk_at "ed"); (focus walk_at "ed"))
  | exact es_nil
  | (apply es_cons; (focus walk_at "ed"); (focus walk_at "ed"))
  | (apply eb_test; (focus walk_at "ed"))
  | (apply eb_B; (focus walk_at "ed"))
  | (apply eb_not; (focus walk_at "ed")))
def fibA : Nat → Nat → Nat → Nat
  | 0, a, _ => a
  | n + 1, a, b => fibA n b (a + b)
theorem fib_step : ∀ n a b, fibA (n + 2) a b = fibA (n + 1) a b + fibA n a b
  | 0, a, b => Nat.add_comm a b
  | n + 1, a, b => fib_step n b (a + b)
def fib (n : Nat) : Nat := fibA n 0 1
theorem fib_two (n : Nat) : fib (n + 2) = fib (n + 1) + fib n := fib_step n 0 1

def EndsIn : Nat → Nat → Nat → Prop
  | 0, _, b => b = 0
  | n + 1, a, b => b = 0 ∨ EndsIn n b (a % b)
theorem ends_zero : ∀ n a, EndsIn n a 0
  | 0, _ => rfl
  | _ + 1, _ => .inl rfl
theorem ends_fib : ∀ n a b, b < a → b < fib (n + 1) → EndsIn n a b
  | 0, a, b, _, h => by
    have : fib (0 + 1) = 1 := rfl
    show b = 0
    omega
  | 1, a, b, _, h => by
    have : fib (1 + 1) = 1 := rfl
    exact .inl (by omega)
  | n + 2, a, b, hab, h => by
    by_cases hb : b = 0
    · exact .inl hb
    · refine .inr ?_
      have r1 : a % b < b := Nat.mod_lt _ (by omega)
      by_cases hr : a % b < fib (n + 2)
      · exact ends_fib (n + 1) b (a % b) r1 hr
      · by_cases hz : a % b = 0
        · rw [hz]; exact ends_zero _ _
        · refine .inr ?_
          have r2 : b % (a % b) < a % b := Nat.mod_lt _ (by omega)
          have e := fib_two (n + 1)
          have d := Nat.div_add_mod b (a % b)
          have q : 1 ≤ b / (a % b) := (Nat.one_le_div_iff (by omega)).mpr (by omega)
          have m : a % b ≤ (a % b) * (b / (a % b)) := Nat.le_mul_of_pos_right _ q
          refine ends_fib n (a % b) (b % (a % b)) r2 ?_
          have e2 : n + 2 + 1 = n + 1 + 2 := rfl
          have e3 : n + 1 + 1 = n + 2 := rfl
          rw [e2] at h
          rw [e3] at e
          omega
theorem fib_big : 10 ^ 80 < fib 400 := by decide +kernel
theorem ends_few {a b : Nat} (h : b < 10 ^ 80) : EndsIn 400 a b := by
  by_cases hb : b = 0
  · exact .inl hb
  · refine .inr (ends_fib 399 b (a % b) (Nat.mod_lt _ (by omega)) ?_)
    have := fib_big
    have := Nat.mod_lt a (show b > 0 by omega)
    show a % b < fib 400
    omega
theorem abs_nat (i : Int) : (if i < 0 then -i else i) = ((i.natAbs : Nat) : Int) := by split <;> omega
theorem gcd_turn (a b : Nat) : Nat.gcd b (a % b) = Nat.gcd a b := by rw [Nat.gcd_comm a b, Nat.gcd_rec b a, Nat.gcd_comm]
section
variable {c : Fr} {D : Ends} {E : XK} {es : List Sv} {ta tb : TE} {x y : Dt} {p q : Rat} {a b n t : Int}
theorem sem_part (hb : Few b) (k : RetD c D.rt (fun d => d = .int ((Nat.gcd a.natAbs b.natAbs : Nat) : Int))) : Cont c (t_u_law_part c.K D) [.dat (.int a), .dat (.int b), .no] := by
  have fin : ∀ (n : Nat) s, n = Nat.gcd a.natAbs b.natAbs → Cont c (tRet (tVar 0) D) [.dat (.int n), .dat (.int 0), s] := fun n s e => by
    rw [← e] at k
    exact c_ret (ed_var rfl) k
  refine s_asg (ED.is (ed_abs (ed_var rfl)) (by rw [abs_nat])) ?_
  refine s_asg (ED.is (ed_abs (ed_var rfl)) (by rw [abs_nat])) ?_
  refine c_seq (c_rng1 (I := fun k es => ∃ (n m : Nat) (s : Sv), es = [.dat (.int n), .dat (.int m), s] ∧ Nat.gcd n m = Nat.gcd a.natAbs b.natAbs ∧ EndsIn (400 - k) n m) (i := 400) ed_int ⟨by decide, by decide⟩ ⟨_, _, _, rfl, rfl, ends_few hb⟩ (fun k es hk ⟨n, m, s, e, hg, he⟩ => ?_) fun es ⟨n, m, s, e, hg, he⟩ => ?_)
  · subst e
    obtain ⟨j, hj⟩ : ∃ j, 400 - k = j + 1 := ⟨399 - k, by omega⟩
    have hj2 : 400 - (k + 1) = j := by omega
    rw [hj] at he
    refine s_when (b := decide ((m : Int) = 0)) (eb_test (ed_eq (x := .int m) (y := .int 0) (ed_var rfl) ed_int rfl rfl)) (fun h => ?_) fun h => ?_
    · have hm : m = 0 := by have := of_decide_eq_true h; omega
      subst hm
      exact c_brk (fin n _ (by rw [← hg, Nat.gcd_zero_right]))
    · have hm : m ≠ 0 := by have := of_decide_eq_false h; omega
      have he : EndsIn j m (n % m) := he.resolve_left hm
      refine c_par (es_cons (ed_var rfl) (es_cons (ed_I (ed_int1 (ed_var rfl)) (ed_var rfl) (show (0 : Int) < m by omega)) es_nil)) (c_turn' rfl ⟨m, n % m, .dat (.int k), ?_, ?_, ?_⟩)
      · rw [← Int.natCast_emod] <;> rfl
      · rw [gcd_turn]; exact hg
      · rw [hj2]; exact he
  · subst e
    have hm : m = 0 := he
    subst hm
    exact fin n _ (by rw [← hg, Nat.gcd_zero_right])
theorem ed_part (ha : ED c ta es (.int a)) (hb : ED c tb es (.int b)) (h : Few b) : ED c (tCall (sp_u_law_part c.K) [] E (tCons ta (tCons tb tNil))) es (.int ((Nat.gcd a.natAbs b.natAbs : Nat) : Int)) :=
  ed_call (es_cons ha (es_cons hb es_nil)) ⟨a, b, rfl, h, rfl⟩ fun y ⟨a', b', e, _, ey⟩ => by
    cases e
    exact ey
theorem few_sz (h : Few b) : Sz 270 b := by
  unfold Few at h
  unfold Sz
  exact Nat.lt_trans h (by decide)
theorem Few.neg (h : Few b) : Few (-b) := by
  unfold Few at *
  rw [Int.natAbs_neg]
  exact h
theorem lratio_pos (hb : 0 < b) (hf : Few b) (k : RetD c D.rt (fun d => d = ratD (Rat.divInt a b))) : Cont c (tSeq (tAsg (tCall (sp_u_law_part c.K) [] E0 (tCons (tVar 0) (tCons (tVar 1) tNil))) (gName 2))
    (tRet (tTup (tCons (tOp (rI CDivA fun i j => .int (i.fdiv j)) (tVar 0) (tVar 2)) (tCons (tOp (rI CDivA fun i j => .int (i.fdiv j)) (tVar 1) (tVar 2)) tNil)))) D) [.dat (.int a), .dat (.int b), .no] := by
  have hb0 : b ≠ 0 := by omega
  refine s_asg (ed_part (ed_var rfl) (ed_var rfl) hf) ?_
  refine c_ret ?_ k
  have e : partOf a b = ((Nat.gcd a.natAbs b.natAbs : Nat) : Int) := if_neg (by omega)
  rw [← e]
  have hp := sz_div (x := a) (partOf_ne (a := a) hb0) (sz_part hb0 (few_sz hf)) (by decide)
  have hq := sz_div (x := b) (partOf_ne (a := a) hb0) (sz_part hb0 (few_sz hf)) (by decide)
  have e : ratD (Rat.divInt a b) = .tup [.int (a.fdiv (partOf a b)), .int (b.fdiv (partOf a b))] := by
    rw [low_num hb0, low_den hb0] <;> rfl
  rw [e]
  exact ed_tup (es_cons (ed_I (ed_var rfl) (ed_var rfl) hp) (es_cons (ed_I (ed_var rfl) (ed_var rfl) hq) es_nil)) (by show 2 ≤ 100000; decide)
theorem sem_lratio (hb : b ≠ 0) (hf : Few b) (k : RetD c D.rt (fun d => d = ratD (Rat.divInt a b))) : Cont c (t_u_law_ratio c.K D) [.dat (.int a), .dat (.int b), .no] := by
  refine s_if (b := decide (b < 0)) (by walk_at "ed") (fun h => ?_) fun h => ?_
  · refine s_asg (ed_neg (ed_var rfl)) (c_asg (ed_neg (ed_var rfl)) ?_)
    have := of_decide_eq_true h
    rw [← Rat.neg_divInt_neg] at k
    exact lratio_pos (by omega) hf.neg k
  · have := of_decide_eq_false h
    exact lratio_pos (by omega) hf k
theorem ed_lratio (ha : ED c ta es (.int a)) (hb : ED c tb es (.int b)) (h0 : b ≠ 0) (h : Few b) : ED c (tCall (sp_u_law_ratio c.K) [] E (tCons ta (tCons tb tNil))) es (ratD (Rat.divInt a b)) :=
  ed_call (es_cons ha (es_cons hb es_nil)) ⟨a, b, rfl, h0, h, rfl⟩ fun y ⟨a', b', e, _, _, ey⟩ => by
    cases e
    exact ey
theorem eqv_ratD : eqv (ratD p) (ratD q) = decide (p = q) := by
  show ((p.num == q.num) && (((p.den : Int) == q.den) && true)) = _
  by_cases h : p = q
  · subst h
    rw [decide_eq_true rfl, beq_self_eq_true, beq_self_eq_true] <;> rfl
  · rw [decide_eq_false h]
    cases h1 : (p.num == q.num) with
    | false => rfl
    | true =>
      cases h2 : ((p.den : Int) == q.den) with
      | false => rfl
      | true => exact (h (Rat.ext (eq_of_beq h1) (Int.ofNat.inj (eq_of_beq h2)))).elim
theorem sem_same (hb : b ≠ 0) (hf : Few b) (k : RetD c D.rt (fun d => d = .bl (decide (q = Rat.divInt a b)))) : Cont c (t_u_law_same_ratio c.K D) [.dat (ratD q), .dat (.int a), .dat (.int b), .no] := by
  refine s_when (b := false) ?_ (fun z => by cases z) fun _ => ?_
  · exact EBd.is (eb_or (b := false) (b' := false) (EBd.is (eb_not (eb_B (ed_isK (ed_var rfl) rfl (by decide)))) (by rw [isK_tuple] <;> rfl)) fun _ => eb_test (ed_ne (x := .int 2) (y := .int 2) (ed_len (ed_var rfl) rfl) ed_int rfl rfl)) rfl
  · refine s_for (I := fun _ es => ∃ s, es = [.dat (ratD q), .dat (.int a), .dat (.int b), s]) (f := fun y es => es.set 3 (.dat y)) (wi_seq (ed_var rfl) rfl) ⟨_, rfl⟩ (fun P y _ => tg_name) (fun P1 L k y es e ⟨s, h2⟩ => ?_) fun es ⟨s, h2⟩ => ?_
    · subst h2
      have hy : isIntB y = true ∧ Kin y := by
        rcases List.mem_cons.mp (List.mem_of_getElem? e) with rfl | h
        · exact ⟨rfl, rfl⟩
        · rcases List.mem_cons.mp h with rfl | h
          · exact ⟨rfl, rfl⟩
          · cases h
      refine c_if (b := !isIntB y) ?_ (fun z => ?_) fun _ => c_next (c_turn' rfl ⟨_, rfl⟩)
      · rw [← isK_int]
        exact eb_or (eb_not (eb_B (ed_isK (ed_var rfl) hy.2 (by decide)))) fun _ => eb_B (ed_isK (ed_var rfl) hy.2 (by decide))
      · rw [hy.1] at z
        cases z
    · subst h2
      refine c_ret (ED.is (ed_eq (ed_var rfl) (ed_lratio (ed_var rfl) (ed_var rfl) hb hf) rfl rfl) ?_) k
      rw [eqv_ratD]
theorem sem_lwhole (hx : Kin x) (k : RetD c D.rt (fun d => d = .bl (isIntB x))) : Cont c (t_u_law_whole c.K D) [.dat x] := by
  refine c_ret (ED.is (ed_and (ed_isK (ed_var rfl) hx (by decide)) fun _ => ed_not (ed_isK (ed_var rfl) hx (by decide))) ?_) k
  rw [isK_whole]
theorem makeO_ex {C C' : Addr} {ns : List Str} {fd : List Dt} (h : .ex C' ns fd = makeO C x y) : C' = C ∧ ns = [("what" : Str)] ∧ fd = [wordO (makeO 0 x y)] := by
  cases x with
  | int a =>
    cases y with
    | int b =>
      by_cases hb : b = 0
      · have e : ∀ C, makeO C (.int a) (.int b) = .ex C ["what"] [.str "bottom"] := fun C => if_pos hb
        rw [e] at h ⊢
        cases h
        exact ⟨rfl, rfl, rfl⟩
      · have e : ∀ C, makeO C (.int a) (.int b) = .ok _ := fun C => if_neg hb
        rw [e] at h
        cases h
    | _ => cases h; exact ⟨rfl, rfl, rfl⟩
  | _ => cases h; exact ⟨rfl, rfl, rfl⟩
theorem makeO_ok {C : Addr} {d : Dt} (h : .ok d = makeO C x y) : wordO (makeO 0 x y) = .str "let" := by
  cases x with
  | int a =>
    cases y with
    | int b =>
      by_cases hb : b = 0
      · have e : ∀ C, makeO C (.int a) (.int b) = .ex C ["what"] [.str "bottom"] := fun C => if_pos hb
        rw [e] at h
        cases h
      · have e : ∀ C, makeO C (.int a) (.int b) = .ok _ := fun C => if_neg hb
        rw [e] <;> rfl
    | _ => cases h
  | _ => cases h
theorem sem_refused (hm : PySem.W.exmOne c.K (.ref (He.ga c.K "BadRatio")) (.ref (He.ga c.K "BadRatio")) = some true) (hx : Kin x) (hy : Kin y) (sx : SzD x) (sy : SzD y) (k : RetD c D.rt (fun d => d = wordO (makeO 0 x y))) : Cont c (t_u_law_refused c.K D) [.dat x, .dat y, .no, .no] := by
  refine s_asg ed_str ?_
  refine c_seq (c_tryD (es_cons (ed_var rfl) (es_cons (ed_var rfl) es_nil)) (by show 3 < 4; decide) hm ⟨_, x, y, rfl, hx, hy, sx, sy, rfl⟩ (fun d ⟨x', y', e, _, _, _, _, eo⟩ => ?_) fun C' ns fd ⟨x', y', e, _, _, _, _, eo⟩ => ?_)
  · cases e
    refine c_ret (ED.is (ed_var rfl) ?_) k
    rw [makeO_ok eo]
  · cases e
    obtain ⟨h1, h2, h3⟩ := makeO_ex eo
    exact ⟨h1, h2, _, h3, c_ret (ed_var rfl) k⟩
theorem sem_lover (hm : PySem.W.exmOne c.K (.ref (He.ga c.K "BadRatio")) (.ref (He.ga c.K "BadRatio")) = some true) (hp : SzR 2000 p) (hq : SzR 2000 q) (k : RetD c D.rt (fun d => d = (if q.num = 0 then .str "zero" else ratD (Rat.divInt (p.num * q.den) (p.den * q.num))))) : Cont c (t_u_law_over c.K D) [.dat (ratD p), .dat (ratD q), .no, .no] := by
  refine s_asg ed_non ?_
  have hR : ∀ {o : Out}, R_over (He.ga c.K "BadRatio") [ratD p, ratD q] o → o = overO (He.ga c.K "BadRatio") p q := fun ⟨p', q', e, _, _, eo⟩ => by
    have e1 := ratD_inj (List.cons.inj e).1
    have e2 := ratD_inj (List.cons.inj (List.cons.inj e).2).1
    rw [eo, e1, e2]
  refine c_seq (c_tryA (es_cons (ed_var rfl) (es_cons (ed_var rfl) es_nil)) (by show 3 < 4; decide) hm ⟨_, p, q, rfl, hp, hq, rfl⟩ (fun d h => ?_) fun C' ns fd h => ?_)
  · have h := hR h
    unfold overO at h
    refine c_ret (ED.is (ed_var rfl) ?_) k
    by_cases z : q.num = 0
    · rw [if_pos z] at h; cases h
    · rw [if_neg z] at h ⊢
      cases h
      rfl
  · have h := hR h
    unfold overO at h
    by_cases z : q.num = 0
    · rw [if_pos z] at h k
      cases h
      exact ⟨rfl, rfl, _, rfl, c_ret (ed_var rfl) k⟩
    · rw [if_neg z] at h
      cases h
end
end K01
set_option Elab.async false
set_option linter.all false
set_option maxRecDepth 100000
set_option maxHeartbeats 4000000
namespace K01
open PySem PySem.Spec PyProof.Rows L2 My
local macro_rules | `(tactic| walk_at "ed") => `(tactic| first
  | exact ed_int | exact ed_bl | exact ed_str | exact ed_non
  | exact ed_var rfl
  | (apply ed_I0; (focus walk_at "ed"); (focus walk_at "ed"))
  | (apply ed_B0; (focus walk_at "ed"); (focus walk_at "ed"))
  | (apply ed_neg; (focus walk_at "ed"))
  | (apply ed_ixT; (focus walk_at "ed"); (focus walk_at "ed"); (focus rfl))
  | (apply ed_ixL; (focus walk_at "ed"); (focus walk_at "ed"); (focus rfl))
  | (apply ed_ixO; (focus rfl); (focus walk_at "ed"); (focus rfl))
  | (apply ed_len; (focus walk_at "ed"); (focus rfl))
  | (apply ed_lenO; (focus rfl))
  | (apply ed_tup; (focus walk_at "ed"); (focus (simp only [List.length_cons, List.length_nil]; decide)))
  | (apply ed_eq; (focus walk_at "ed"); (focus walk_at "ed"); (focus rfl); (focus rfl))
  | (apply ed_ne; (focus walk_at "ed"); (focus walk_at "ed"); (focus rfl); (focus rfl))
  | (apply ed_isN; (focus walk_at "ed"))
  | (apply ed_notN; (focus walk_at "ed"))
  | (apply ed_isB; (focus walk_at "ed"); (focus walk_at "ed"))
  | (apply ed_notB; (focus walk_at "ed"); (focus walk_at "ed"))
  | (apply ed_isi; (focus walk_at "ed"); (focus first | rfl | assumption); (focus decide +kernel))
  | (apply ed_isi2; (focus walk_at "ed"); (focus first | rfl | assumption); (focus decide +kernel); (focus decide +kernel))
  | (apply ed_not; (focus walk_at "ed"))
  | (apply ed_int1; (focus walk_at "ed"))
  | (apply ed_abs; (focus walk_at "ed"))
  | (apply ed_gcd; (focus walk_at "ed"); (focus walk_at "ed"))
  | exact es_nil
  | (apply es_cons; (focus walk_at "ed"); (focus walk_at "ed"))
  | (apply eb_test; (focus walk_at "ed"))
  | (apply eb_B; (focus walk_at "ed"))
  | (apply eb_not; (focus walk_at "ed")))
section
variable {c : Fr} {D : Ends} {E : XK} {es : List Sv} {ta tb : TE} {x y : Dt} {p q : Rat} {a b n t : Int}
theorem sz_lt {k : Nat} {i : Int} (h0 : 0 ≤ i) (h : i < 2 ^ k) : Sz k i := by
  unfold Sz
  have : ((2 ^ k : Nat) : Int) = 2 ^ k := by rw [Int.natCast_pow] <;> rfl
  omega
theorem mod_sz {m x : Int} (hm : 0 < m) (h : m < 2147483648) : Sz 31 (x % m) := by
  have h1 := Int.emod_nonneg x (show m ≠ 0 by omega)
  have h2 := Int.emod_lt_of_pos x hm
  refine sz_lt h1 ?_
  have : (2 : Int) ^ 31 = 2147483648 := rfl
  omega
theorem sz_fdiv {k : Nat} {x m : Int} (hm : 0 < m) (h : Sz k x) : Sz k (x.fdiv m) := by
  rw [Int.fdiv_eq_ediv_of_nonneg _ (by omega)]
  unfold Sz at *
  exact Nat.lt_of_le_of_lt (Int.natAbs_ediv_le_natAbs _ _) h
theorem divA {i : Int} {m : Nat} (h0 : m ≠ 0) (h : m < 2 ^ 64) : CDivA i (m : Int) := cdivA (b := 64) (by omega) (by omega) (by decide) (by decide)
theorem sem_mix (h0 : 0 ≤ n) (h1 : n < 2147483648) (h2 : 0 ≤ t) (h3 : t < 1000) (k : RetD c D.rt (fun d => ∃ z : Int, 0 ≤ z ∧ d = .int z)) : Cont c (t_u_law_mix c.K D) [.dat (.int n), .dat (.int t), .no, .no] := by
  have zn : Sz 31 n := sz_lt h0 h1
  have zt : Sz 31 t := sz_lt h2 (by have : (2 : Int) ^ 31 = 2147483648 := rfl; omega)
  have zc : ∀ {i : Int} (_ : 0 ≤ i) (_ : i < 2147483648), Sz 31 i := fun h0 h1 => sz_lt h0 h1
  have M : ∀ {m : Int} {es : List Sv} {ta : TE} {i : Int}, ED c ta es (.int i) → 0 < m → ED c (tOp (rI (fun _ j => 0 < j) fun i j => .int (i % j)) (tCB (fun xs H Q => (∃ i, xs = [.int i] ∧ Q (.int i) H) ∨ ∃ k, xs = [.bl k] ∧ Q (.int (if k then 1 else 0)) H) (tCons ta tNil)) (tC (.int m))) es (.int (i % m)) := fun h hm => ed_I (ed_int1 h) ed_int hm
  refine s_asg (M (ed_I0 (ed_I0 (ed_mul (ed_var rfl) ed_int zn (zc (by decide) (by decide)) (by decide)) (ed_mul (ed_var rfl) ed_int zt (zc (by decide) (by decide)) (by decide))) ed_int) (by decide)) ?_
  generalize hA : (n * 48271 + t * 16807 + 11) % 2147483647 = A
  have zA : Sz 31 A := by rw [← hA]; exact mod_sz (by decide) (by decide)
  refine s_asg (M (ed_I0 (ed_I0 (ed_mul (ed_var rfl) (ed_var rfl) zA zA (by decide)) (ed_mul (ed_I (ed_var rfl) ed_int (divA (m := 127) (by decide) (by decide))) ed_int (sz_fdiv (by decide) zA) (zc (by decide) (by decide)) (by decide))) (ed_mul (ed_var rfl) ed_int zt (zc (by decide) (by decide)) (by decide))) (by decide)) ?_
  generalize hB : (A * A + A.fdiv ((127 : Nat) : Int) * 40692 + t * 69621) % 2147483399 = B
  have zB : Sz 31 B := by rw [← hB]; exact mod_sz (by decide) (by decide)
  refine c_retV (EV.imp (ed_I (M (ed_I0 (ed_I (ed_mul (ed_var rfl) (ed_var rfl) zB zB (by decide)) ed_int (divA (m := 1009) (by decide) (by decide))) (ed_var rfl)) (by decide)) ed_int (divA (m := 16) (by decide) (by decide))) fun d e => ?_) k
  refine ⟨_, ?_, e⟩
  rw [Int.fdiv_eq_ediv_of_nonneg _ (by decide)]
  exact Int.ediv_nonneg (Int.emod_nonneg _ (by decide)) (by decide)
def absD : Dt → Dt
  | .int i => .int (if i < 0 then -i else i)
  | d => d
/-- a slot without a list -/
def Pl (s : Sv) : Prop := s = .no ∨ ∃ d, s = .dat d
theorem Pl.hands {s s' : Sv} (h : Pl s) (h' : Pl s') {d d' : Dt} : handsOf [.dat d, .dat d', s, s'] = [] := by
  rcases h with rfl | ⟨_, rfl⟩ <;> rcases h' with rfl | ⟨_, rfl⟩ <;> rfl
theorem sem_hand {ns : List Int} (hl : ns.length ≤ 63) (hm : c.mu = []) (k : RetO c D.rt HandOk) : Cont c (t_u_law_hand c.K D) [.dat (.lst (ns.map Dt.int)), .no, .no, .no] := by
  refine s_asg ed_int ?_
  refine s_for (I := fun _ es => ∃ (t : Int) (s s' : Sv), es = [.dat (.lst (ns.map Dt.int)), .dat (.int t), s, s'] ∧ 0 ≤ t ∧ t < 2147483648 ∧ Pl s ∧ Pl s')
    (f := fun y es => match y with
      | .tup [a, b] => (es.set 2 (.dat a)).set 3 (.dat b)
      | _ => es) (vs := [2, 3]) (wi_enum (ed_var rfl)) ⟨0, _, _, rfl, by decide, by decide, .inl rfl, .inl rfl⟩ (fun P y hy => ?_) (fun P1 L k y es e ⟨t, s, s', h2, h3, h4, _, _⟩ => ?_) fun es ⟨t, s, s', h2, h3, h4, h5, h6⟩ => ?_
  · obtain ⟨i, hi, e⟩ := List.mem_mapIdx.mp hy
    subst e
    exact tg_two
  · subst h2
    obtain ⟨n, hn, rfl⟩ : ∃ n, ns[k]? = some n ∧ Dt.tup [.int (k : Nat), .int n] = y := by
      rw [List.getElem?_mapIdx, List.getElem?_map] at e
      cases q : ns[k]? with
      | none => rw [q] at e; cases e
      | some n => rw [q] at e; exact ⟨n, rfl, Option.some.inj e⟩
    have hk : k < ns.length := (List.getElem?_eq_some_iff.mp hn).1
    refine c_asg (ed_I (i := t * 31 + n * ((k : Int) + 7)) (ed_int1 (ed_I0 (ed_I (ed_var rfl) ed_int (.inr ⟨by decide, by decide⟩)) (ed_I (ed_int1 (ed_var rfl)) (ed_I0 (ed_var rfl) ed_int) (.inr ⟨?_, ?_⟩)))) ed_int (show (0 : Int) < 2147483629 by decide)) (c_turn' rfl ⟨_, _, _, rfl, ?_, ?_, .inr ⟨_, rfl⟩, .inr ⟨_, rfl⟩⟩)
    · have : (2 : Int) ^ 64 = 18446744073709551616 := rfl
      omega
    · have : (2 : Int) ^ 64 = 18446744073709551616 := rfl
      omega
    · exact Int.emod_nonneg _ (by decide)
    · have := Int.emod_lt_of_pos (t * 31 + n * ((k : Int) + 7)) (show (0 : Int) < 2147483629 by decide)
      omega
  · subst h2
    refine c_retO (eo_lst (evs_cons (ev_give hm (eo_lc (f := fun y es => es.set 3 (.dat y)) (p := fun _ => true) (fn := absD) (h5.hands h6) (wi_seq (ed_var rfl) rfl) (by rw [List.length_map]; omega) (fun P y _ => tg_name) (fun y _ => h5.hands (.inr ⟨_, rfl⟩)) (fun P _ y _ => eb_yes) fun P _ y hy _ => ?_)) (evs_cons ed_int (evs_cons ed_int (evs_cons (ed_var rfl) es_nil)))) ?_) ?_
    · obtain ⟨n, _, rfl⟩ := List.mem_map.mp hy
      exact ed_abs (ed_int1 (ed_var rfl))
    · rintro l ⟨_, _, rfl, _, _, _, rfl, _, _, _, rfl, _, _, _, rfl, _, rfl⟩
      show 4 ≤ 100000
      decide
    · intro l P H σ es ds h r hn h0 m
      refine k l P H σ es ds ?_ r hn h0 m
      obtain ⟨_, _, rfl, ⟨_, rfl, rfl⟩, _, _, rfl, rfl, _, _, rfl, rfl, _, _, rfl, rfl, rfl⟩ := h
      refine ⟨ns.map fun i => if i < 0 then -i else i, 0, 0, t, ?_, ?_, ?_, by decide, by omega, by decide, h3, h4⟩
      · rw [List.filter_eq_self.mpr (fun _ _ => rfl), List.map_map, List.map_map] <;> rfl
      · intro n hn
        obtain ⟨i, _, rfl⟩ := List.mem_map.mp hn
        split <;> omega
      · rw [List.length_map]; exact hl
end
end K01
set_option Elab.async false
set_option linter.all false
set_option maxRecDepth 100000
set_option maxHeartbeats 4000000
namespace K01
open PySem PySem.Spec PyProof.Rows L2 My
local macro_rules | `(tactic| walk_at "ed") => `(tactic| first
  | exact ed_int | exact ed_bl | exact ed_str | exact ed_non
  | exact ed_var rfl
  | (apply ed_I0; (focus walk_at "ed"); (focus walk_at "ed"))
  | (apply ed_B0; (focus walk_at "ed"); (focus walk_at "ed"))
  | (apply ed_neg; (focus walk_at "ed"))
  | (apply ed_ixT; (focus walk_at "ed"); (focus walk_at "ed"); (focus rfl))
  | (apply ed_ixL; (focus walk_at "ed"); (focus walk_at "ed"); (focus rfl))
  | (apply ed_ixO; (focus rfl); (focus walk_at "ed"); (focus rfl))
  | (apply ed_len; (focus walk_at "ed"); (focus rfl))
  | (apply ed_lenO; (focus rfl))
  | (apply ed_tup; (focus walk_at "ed"); (focus (simp only [List.length_cons, List.length_nil]; decide)))
  | (apply ed_eq; (focus walk_at "ed"); (focus walk_at "ed"); (focus rfl); (focus rfl))
  | (apply ed_ne; (focus walk_at "ed"); (focus walk_at "ed"); (focus rfl); (focus rfl))
  | (apply ed_isN; (focus walk_at "ed"))
  | (apply ed_notN; (focus walk_at "ed"))
  | (apply ed_isB; (focus walk_at "ed"); (focus walk_at "ed"))
  | (apply ed_notB; (focus walk_at "ed"); (focus walk_at "ed"))
  | (apply ed_isi; (focus walk_at "ed"); (focus first | rfl | assumption); (focus decide +kernel))
  | (apply ed_isi2; (focus walk_at "ed"); (focus first | rfl | assumption); (focus decide +kernel); (focus decide +kernel))
  | (apply ed_not; (focus walk_at "ed"))
  | (apply ed_int1; (focus walk_at "ed"))
  | (apply ed_abs; (focus walk_at "ed"))
  | (apply ed_gcd; (focus walk_at "ed"); (focus walk_at "ed"))
  | exact es_nil
  | (apply es_cons; (focus walk_at "ed"); (focus walk_at "ed"))
  | (apply eb_test; (focus walk_at "ed"))
  | (apply eb_B; (focus walk_at "ed"))
  | (apply eb_not; (focus walk_at "ed")))
section
variable {c : Fr} {D : Ends} {E : XK} {es : List Sv} {ta tb : TE} {x y : Dt} {p q : Rat} {b n t : Int} {a : Addr}
theorem ei_mod {α : Int → Prop} {m : Int} (h : EV c ta es (IsI α)) (hb : ED c tb es (.int m)) (hm : 0 < m) : EV c (tOp (rI (fun _ j => 0 < j) fun i j => .int (i % j)) (tCB (fun xs H Q => (∃ i, xs = [.int i] ∧ Q (.int i) H) ∨ ∃ k, xs = [.bl k] ∧ Q (.int (if k then 1 else 0)) H) (tCons ta tNil)) tb) es (fun d => ∃ z : Int, 0 ≤ z ∧ z < m ∧ d = .int z) :=
  EV.imp (ei_I (ei_int1 h) (ei_of hb) fun i j _ e => by rw [e]; exact hm) fun d ⟨k, e, i, j, _, ej, ek⟩ => ⟨k, by rw [ek, ej]; exact Int.emod_nonneg _ (by omega), by rw [ek, ej]; exact Int.emod_lt_of_pos _ hm, e⟩
theorem ev_mix (ha : ED c ta es (.int n)) (hb : ED c tb es (.int t)) (h0 : 0 ≤ n) (h1 : n < 2147483648) (h2 : 0 ≤ t) (h3 : t < 1000) : EV c (tCall (sp_u_law_mix c.K) [] E (tCons ta (tCons tb tNil))) es (IsI fun _ => True) :=
  EV.imp (ev_call (es_cons ha (es_cons hb es_nil)) ⟨.int 0, n, t, rfl, h0, h1, h2, h3, 0, Int.le_refl 0, rfl⟩) fun d ⟨_, _, _, _, _, _, _, z, _, e⟩ => ⟨z, e, trivial⟩
theorem ed_eqI {i j : Int} (ha : ED c ta es (.int i)) (hb : ED c tb es (.int j)) : EBd c (tTest (tOp (rEqD c.K) ta tb)) es (decide (i = j)) := eb_test (ed_eq ha hb rfl rfl)
theorem sem_draw {m : Int} (h0 : 0 < m) (h1 : m < 2 ^ 64) (hm : c.mu = [a]) (k : RetH c a D.rt (fun d => ∃ z : Int, 0 ≤ z ∧ z < m ∧ d = .int z)) : Cont c (t_u_law_draw c.K D) [.hand a, .dat (.int m), .no, .no] := by
  refine c_own (n := 0) rfl fun ds hk => ?_
  obtain ⟨ns, p, r, t, rfl, hn, hl, hp0, hp1, hr, ht0, ht1⟩ := hk
  have I0 : ∀ {es : List Sv} {d0 d1 d2 d3 : Dt}, es[0]? = some (.own a [d0, d1, d2, d3]) → ED c (tOp (rIx c.K) (tVar 0) (tC (.int 0))) es d0 := fun h => ed_ixO h ed_int rfl
  have I1 : ∀ {es : List Sv} {d0 d1 d2 d3 : Dt}, es[0]? = some (.own a [d0, d1, d2, d3]) → ED c (tOp (rIx c.K) (tVar 0) (tC (.int 1))) es d1 := fun h => ed_ixO h ed_int rfl
  have I2 : ∀ {es : List Sv} {d0 d1 d2 d3 : Dt}, es[0]? = some (.own a [d0, d1, d2, d3]) → ED c (tOp (rIx c.K) (tVar 0) (tC (.int 2))) es d2 := fun h => ed_ixO h ed_int rfl
  have I3 : ∀ {es : List Sv} {d0 d1 d2 d3 : Dt}, es[0]? = some (.own a [d0, d1, d2, d3]) → ED c (tOp (rIx c.K) (tVar 0) (tC (.int 3))) es d3 := fun h => ed_ixO h ed_int rfl
  have rest : ∀ (p r : Int) s, 0 ≤ p → p ≤ ns.length → 0 ≤ r → Cont c ((tSeq (tIfS (tTest (tOp (rI0 fun i j => .bl (decide (j < i))) (tOp (rIx c.K) (tVar 0) (tC (.int 2))) (tC (.int 0)))) (tSeq (tAsg (tOp (rIx c.K) (tVar 0) (tC (.int 2))) (gName 3))
    (tSeq (tAsg (tOp (rI CDivA fun i j => .int (i.fdiv j)) (tVar 3) (tVar 1)) (gSub (tVar 0) (tC (.int 2)) rSetL))
    (tRet (tOp (rI (fun _ j => 0 < j) fun i j => .int (i % j)) (tCB (fun xs H Q => (∃ i, xs = [.int i] ∧ Q (.int i) H) ∨ ∃ k, xs = [.bl k] ∧ Q (.int (if k then 1 else 0)) H) (tCons (tVar 3) tNil)) (tVar 1))))) tNext)
    (tSeq (tAsg (tOp (rI (fun _ j => 0 < j) fun i j => .int (i % j)) (tCB (fun xs H Q => (∃ i, xs = [.int i] ∧ Q (.int i) H) ∨ ∃ k, xs = [.bl k] ∧ Q (.int (if k then 1 else 0)) H) (tCons (tOp (rI0 fun i j => .int (i + j)) (tOp (rIx c.K) (tVar 0) (tC (.int 3))) (tC (.int 1))) tNil)) (tC (.int 2147483629))) (gSub (tVar 0) (tC (.int 3)) rSetL))
    (tRet (tOp (rI (fun _ j => 0 < j) fun i j => .int (i % j)) (tCB (fun xs H Q => (∃ i, xs = [.int i] ∧ Q (.int i) H) ∨ ∃ k, xs = [.bl k] ∧ Q (.int (if k then 1 else 0)) H) (tCons (tCall (sp_u_law_mix c.K) [] E0 (tCons (tOp (rIx c.K) (tVar 0) (tC (.int 3))) (tCons (tOp (rIx c.K) (tVar 0) (tC (.int 1))) tNil))) tNil)) (tVar 1))))) D)
      [.own a [.lst (ns.map Dt.int), .int p, .int r, .int t], .dat (.int m), s, .no] := fun p r s hp0 hp1 hr => by
    refine s_when (b := decide (0 < r)) (eb_test (ed_B0 (I2 rfl) ed_int)) (fun _ => ?_) fun _ => ?_
    · refine s_asg (I2 rfl) ?_
      have hc : CDivA r m := cdivA (b := 64) (by omega) (by have : (2 : Int) ^ 64 = 18446744073709551616 := rfl; have : (2 : Nat) ^ 64 = 18446744073709551616 := rfl; omega) (by decide) (by decide)
      refine s_set (n := 0) (j := 2) rfl (ed_I (ed_var rfl) (ed_var rfl) hc) ed_int (by show 2 < 4; decide) fun d e => ?_
      subst e
      refine c_retH (n := 0) (ei_mod (ei_of (ed_var rfl)) (ed_var rfl) h0) k hm rfl ⟨ns, p, r.fdiv m, t, rfl, hn, hl, hp0, hp1, ?_, ht0, ht1⟩
      rw [Int.fdiv_eq_ediv_of_nonneg _ (by omega)]
      exact Int.ediv_nonneg hr (by omega)
    · refine s_set (n := 0) (j := 3) rfl (ed_I (ed_int1 (ed_I0 (I3 rfl) ed_int)) ed_int (show (0 : Int) < 2147483629 by decide)) ed_int (by show 3 < 4; decide) fun d e => ?_
      subst e
      have u0 := Int.emod_nonneg (t + 1) (show (2147483629 : Int) ≠ 0 by decide)
      have u1 := Int.emod_lt_of_pos (t + 1) (show (0 : Int) < 2147483629 by decide)
      refine c_retH (n := 0) (ei_mod (ev_mix (I3 rfl) (I1 rfl) u0 (by omega) hp0 (by omega)) (ed_var rfl) h0) k hm rfl ⟨ns, p, r, _, rfl, hn, hl, hp0, hp1, hr, u0, by omega⟩
  refine s_when (b := decide (r = 0) && decide (p < ns.length)) (eb_and (ed_eqI (I2 rfl) ed_int) fun _ => eb_test (ed_B0 (I1 rfl) (ed_len (I0 rfl) (by show some (ns.map Dt.int).length = _; rw [List.length_map])))) (fun h => ?_) fun _ => rest p r _ hp0 hp1 hr
  obtain ⟨g1, g2⟩ := Bool.and_eq_true_iff.mp h
  have g1 := of_decide_eq_true g1
  have g2 := of_decide_eq_true g2
  subst g1
  obtain ⟨pn, rfl⟩ : ∃ pn : Nat, p = pn := ⟨p.toNat, by omega⟩
  have hpn : pn < ns.length := by omega
  have e2 : atI (ns.map Dt.int) (pn : Int) = some (.int ns[pn]) := by
    unfold atI
    rw [Evl.ixN_nat (by rw [List.length_map]; exact hpn)]
    show (ns.map Dt.int)[pn]? = _
    rw [List.getElem?_map, List.getElem?_eq_getElem hpn] <;> rfl
  have hc := hn ns[pn] (List.getElem_mem hpn)
  generalize ns[pn] = cell at e2 hc
  refine s_asg (ed_ixL (I0 rfl) (I1 rfl) e2) ?_
  refine s_set (n := 0) (j := 1) rfl (ed_I0 (I1 rfl) ed_int) ed_int (by show 1 < 4; decide) fun d e => ?_
  subst e
  refine s_when (b := decide (cell < 10 ^ 18)) (EBd.is (eb_test (ed_B0 (ed_var rfl) (ed_I ed_int ed_int ⟨by decide, by decide, by decide⟩))) rfl) (fun _ => ?_) fun _ => ?_
  · have u0 := Int.emod_nonneg cell (show (2147483647 : Int) ≠ 0 by decide)
    have u1 := Int.emod_lt_of_pos cell (show (0 : Int) < 2147483647 by decide)
    exact c_retH (n := 0) (ei_mod (ev_mix (ed_I (ed_int1 (ed_var rfl)) ed_int (show (0 : Int) < 2147483647 by decide)) (I1 rfl) u0 (by omega) (by omega) (by omega)) (ed_var rfl) h0) k hm rfl ⟨ns, pn + 1, 0, t, rfl, hn, hl, by omega, by omega, hr, ht0, ht1⟩
  · refine c_set (n := 0) (j := 2) rfl (ed_var rfl) ed_int (by show 2 < 4; decide) fun d e => ?_
    subst e
    exact rest (pn + 1) cell _ (by omega) (by omega) hc
end
end K01
set_option Elab.async false
set_option linter.all false
set_option maxRecDepth 100000
set_option maxHeartbeats 4000000
namespace K01
open PySem PySem.Spec PyProof.Rows L2 My
local macro_rules | `(tactic| walk_at "ed") => `(tactic| first
  | exact ed_int | exact ed_bl | exact ed_str | exact ed_non
  | exact ed_var rfl
  | (apply ed_I0; (focus walk_at "ed"); (focus walk_at "ed"))
  | (apply ed_B0; (focus walk_at "ed"); (focus walk_at "ed"))
  | (apply ed_neg; (focus walk_at "ed"))
  | (apply ed_ixT; (focus walk_at "ed"); (focus walk_at "ed"); (focus rfl))
  | (apply ed_ixL; (focus walk_at "ed"); (focus walk_at "ed"); (focus rfl))
  | (apply ed_ixO; (focus rfl); (focus walk_at "ed"); (focus rfl))
  | (apply ed_len; (focus walk_at "ed"); (focus rfl))
  | (apply ed_lenO; (focus rfl))
  | (apply ed_tup; (focus walk_at "ed"); (focus (simp only [List.length_cons, List.length_nil]; decide)))
  | (apply ed_eq; (focus walk_at "ed"); (focus walk_at "ed"); (focus rfl); (focus rfl))
  | (apply ed_ne; (focus walk_at "ed"); (focus walk_at "ed"); (focus rfl); (focus rfl))
  | (apply ed_isN; (focus walk_at "ed"))
  | (apply ed_notN; (focus walk_at "ed"))
  | (apply ed_isB; (focus walk_at "ed"); (focus walk_at "ed"))
  | (apply ed_notB; (focus walk_at "ed"); (focus walk_at "ed"))
  | (apply ed_isi; (focus walk_at "ed"); (focus first | rfl | assumption); (focus decide +kernel))
  | (apply ed_isi2; (focus walk_at "ed"); (focus first | rfl | assumption); (focus decide +kernel); (focus decide +kernel))
  | (apply ed_not; (focus walk_at "ed"))
  | (apply ed_int1; (focus walk_at "ed"))
  | (apply ed_abs; (focus walk_at "ed"))
  | (apply ed_gcd; (focus walk_at "ed"); (focus walk_at "ed"))
  | exact es_nil
  | (apply es_cons; (focus walk_at "ed"); (focus walk_at "ed"))
  | (apply eb_test; (focus walk_at "ed"))
  | (apply eb_B; (focus walk_at "ed"))
  | (apply eb_not; (focus walk_at "ed")))
/-! signs -/
theorem sign_same {S u Y v : Int} (hu : 0 < u) (hv : 0 < v) (e : S * u = Y * v) : S.sign = Y.sign := by
  have h := congrArg Int.sign e
  rwa [Int.sign_mul, Int.sign_mul, Int.sign_eq_one_of_pos hu, Int.sign_eq_one_of_pos hv, Int.mul_one, Int.mul_one] at h
theorem cmp_sign (p q : Rat) : cmpI p q = (p.num * q.den - q.num * p.den).sign := by
  unfold cmpI
  by_cases h : p.num * q.den < q.num * p.den
  · rw [if_pos h, Int.sign_eq_neg_one_of_neg (by omega)]
  · rw [if_neg h]
    by_cases g : q.num * p.den < p.num * q.den
    · rw [if_pos g, Int.sign_eq_one_of_pos (by omega)]
    · rw [if_neg g, Int.sign_eq_zero_iff_zero.mpr (by omega)]
def dueI (S : Int) : Int := if S = 0 then 0 else if 0 < S then 1 else -1
theorem due_sign (S : Int) : dueI S = S.sign := by
  unfold dueI
  by_cases h : S = 0
  · rw [if_pos h, h] <;> rfl
  · rw [if_neg h]
    by_cases g : 0 < S
    · rw [if_pos g, Int.sign_eq_one_of_pos g]
    · rw [if_neg g, Int.sign_eq_neg_one_of_neg (by omega)]
theorem cross {a b : Int} (h : b ≠ 0) : a * ((Rat.divInt a b).den : Int) = (Rat.divInt a b).num * b :=
  (Rat.divInt_eq_divInt_iff (z₁ := h) (z₂ := den_ne _)).mp (divInt_of _).symm
theorem cmp_due {a b e f : Int} (hb : b ≠ 0) (hf : f ≠ 0) : cmpI (Rat.divInt a b) (Rat.divInt e f) = dueI ((a * f - e * b) * b * f) := by
  rw [cmp_sign, due_sign]
  have h1 := cross (a := a) hb
  have h2 := cross (a := e) hf
  generalize (Rat.divInt a b).num = pn at *
  generalize (Rat.divInt e f).num = qn at *
  have d1 := den_pos (Rat.divInt a b)
  have d2 := den_pos (Rat.divInt e f)
  generalize ((Rat.divInt a b).den : Int) = pd at *
  generalize ((Rat.divInt e f).den : Int) = qd at *
  have hv : 0 < (b * f) * (b * f) := by
    have : b * f ≠ 0 := Int.mul_ne_zero hb hf
    rcases Int.lt_or_gt_of_ne this with h | h
    · exact Int.mul_pos_of_neg_of_neg h h
    · exact Int.mul_pos h h
  refine (sign_same (Int.mul_pos d1 d2) hv ?_).symm
  have e1 : (a * f - e * b) * b * f * (pd * qd) = (a * pd) * (qd * f * (b * f)) - (e * qd) * (pd * b * (b * f)) := by
    simp only [Int.sub_mul, Int.mul_sub, Int.mul_assoc, Int.mul_comm, Int.mul_left_comm]
  rw [e1, h1, h2]
  simp only [Int.sub_mul, Int.mul_sub, Int.mul_assoc, Int.mul_comm, Int.mul_left_comm]
theorem cmp_swap (p q : Rat) : cmpI q p = -cmpI p q := by
  rw [cmp_sign, cmp_sign, ← Int.sign_neg]
  congr 1
  omega
theorem cmp_self (p : Rat) : cmpI p p = 0 := by
  rw [cmp_sign, Int.sub_self] <;> rfl
theorem num_zero {e f : Int} (hf : f ≠ 0) : (Rat.divInt e f).num = 0 ↔ e = 0 := by
  have h := cross (a := e) hf
  constructor
  · intro z
    rw [z, Int.zero_mul] at h
    exact (Int.mul_eq_zero.mp h).resolve_right (den_ne _)
  · intro z
    rw [z, Rat.zero_divInt] <;> rfl
theorem over_eq {a b e f : Int} (hb : b ≠ 0) (hf : f ≠ 0) (he : e ≠ 0) :
    Rat.divInt ((Rat.divInt a b).num * (Rat.divInt e f).den) ((Rat.divInt a b).den * (Rat.divInt e f).num) = Rat.divInt (a * f) (b * e) := by
  have h1 := cross (a := a) hb
  have h2 := cross (a := e) hf
  have hn : (Rat.divInt e f).num ≠ 0 := fun z => he ((num_zero hf).mp z)
  refine (Rat.divInt_eq_divInt_iff (z₁ := Int.mul_ne_zero (den_ne _) hn) (z₂ := Int.mul_ne_zero hb he)).mpr ?_
  generalize (Rat.divInt a b).num = pn at *
  generalize (Rat.divInt e f).num = qn at *
  generalize ((Rat.divInt a b).den : Int) = pd at *
  generalize ((Rat.divInt e f).den : Int) = qd at *
  have e1 : pn * qd * (b * e) = (pn * b) * (e * qd) := by simp only [Int.mul_assoc, Int.mul_comm, Int.mul_left_comm]
  rw [e1, ← h1, h2]
  simp only [Int.mul_assoc, Int.mul_comm, Int.mul_left_comm]
/-! what is broken off -/
theorem broken_red (p : Rat) : ((p.num % (p.den : Int)).natAbs).Coprime p.den := by
  have hg := p.reduced
  unfold Nat.Coprime at *
  generalize hk : Nat.gcd (p.num % (p.den : Int)).natAbs p.den = g
  have d1 : (g : Int) ∣ p.num % (p.den : Int) := Int.ofNat_dvd_left.mpr (by rw [← hk]; exact Nat.gcd_dvd_left _ _)
  have d2 : g ∣ p.den := by rw [← hk]; exact Nat.gcd_dvd_right _ _
  have d3 : (g : Int) ∣ p.num := by
    have e := Int.emod_add_mul_ediv p.num p.den
    rw [← e]
    exact Int.dvd_add d1 (Int.dvd_mul_of_dvd_left (Int.ofNat_dvd.mpr d2))
  have d4 := Nat.dvd_gcd (Int.ofNat_dvd_left.mp d3) d2
  rw [hg] at d4
  exact Nat.dvd_one.mp d4
def brokR (p : Rat) : Rat := ⟨p.num % (p.den : Int), p.den, p.den_nz, broken_red p⟩
theorem brok_D (p : Rat) : ratD (brokR p) = .tup [.int (p.num % p.den), .int p.den] := rfl
theorem brok_eq (p : Rat) : brokR p = Rat.divInt (p.num - p.num / p.den * p.den) p.den := by
  have e : p.num - p.num / p.den * p.den = (brokR p).num := by
    rw [Int.mul_comm]
    exact (Int.emod_def _ _).symm
  rw [e]
  exact (divInt_of (brokR p)).symm
section
variable {c : Fr} {D : Ends} {E : XK} {es : List Sv} {ta tb te tx : TE} {x y : Dt} {p q : Rat} {a b e f n t : Int}
theorem Num.sz (h : Num a b) : SzR 60 (Rat.divInt a b) := .of h.2.1 h.1 (h.2.2.mono (by decide))
theorem sz_few {k : Nat} (h : Sz k b) (hk : k ≤ 265) : Few b := by
  have h := h.mono hk
  unfold Sz at h
  unfold Few
  exact Nat.lt_trans h (by decide +kernel)
theorem szD_int {k : Nat} (h : Sz k a) (hk : k ≤ 5000) : SzD (.int a) := fun i e => by
  cases e
  exact h.mono hk
theorem ed_make (ha : ED c ta es (.int a)) (hb : ED c tb es (.int b)) (h : Num a b) : ED c (tCall (sp_make_ratio c.K) [] E (tCons ta (tCons tb tNil))) es (ratD (Rat.divInt a b)) := by
  have e0 : ∀ C, makeO C (.int a) (.int b) = .ok (ratD (Rat.divInt a b)) := fun C => if_neg h.2.1
  refine ed_callX (dd := []) (es_cons ha (es_cons hb es_nil)) (fun _ => .nil) ⟨_, _, rfl, rfl, rfl, szD_int h.1 (by decide), szD_int h.2.2 (by decide), (e0 _).symm⟩ fun o ⟨x', y', e, _, _, _, _, eo⟩ => ?_
  have e' : [Dt.int a, Dt.int b] = [x', y'] := e
  cases e'
  rw [eo, e0]
theorem ed_same (ha : ED c ta es (ratD q)) (hb : ED c tb es (.int a)) (hx : ED c tx es (.int b)) (h0 : b ≠ 0) (hf : Few b) (hq : q = Rat.divInt a b) : ED c (tCall (sp_u_law_same_ratio c.K) [] E (tCons ta (tCons tb (tCons tx tNil)))) es (.bl true) :=
  ED.is (ed_call (es_cons ha (es_cons hb (es_cons hx es_nil))) ⟨q, a, b, rfl, h0, hf, rfl⟩ fun y ⟨q', a', b', e, _, _, ey⟩ => by
    have e1 := ratD_inj (List.cons.inj e).1
    have e2 := List.cons.inj (List.cons.inj e).2
    rw [ey, e1, Dt.int.inj e2.1, Dt.int.inj (List.cons.inj e2.2).1]) (by rw [decide_eq_true hq])
theorem eb_notT (h : ED c te es (.bl true)) : EBd c (tNot (tB te)) es false := eb_not (eb_B h)
theorem eb_or2 {tt tu : TT} (h : EBd c tt es false) (k : EBd c tu es false) : EBd c (tOr tt tu) es false := eb_or h fun _ => k
theorem ed_negR (h : ED c ta es (ratD p)) : ED c (tCall (sp_negative c.K) [] E (tCons ta tNil)) es (ratD (-p)) :=
  ed_call (es_cons h es_nil) ⟨p, rfl, rfl⟩ fun y ⟨p', e, ey⟩ => by rw [ey, ratD_inj (List.cons.inj e).1]
theorem ed_lover (ha : ED c ta es (ratD p)) (hb : ED c tb es (ratD q)) (hp : SzR 2000 p) (hq : SzR 2000 q) : ED c (tCall (sp_u_law_over c.K) [] E (tCons ta (tCons tb tNil))) es (if q.num = 0 then .str "zero" else ratD (Rat.divInt (p.num * q.den) (p.den * q.num))) :=
  ed_call (es_cons ha (es_cons hb es_nil)) ⟨p, q, rfl, hp, hq, rfl⟩ fun y ⟨p', q', e, _, _, ey⟩ => by
    have e1 := ratD_inj (List.cons.inj e).1
    have e2 := ratD_inj (List.cons.inj (List.cons.inj e).2).1
    rw [ey, e1, e2]
theorem ed_floor (h : ED c ta es (ratD p)) (hp : SzR 2000 p) : ED c (tCall (sp_floor_of c.K) [] E (tCons ta tNil)) es (.int (p.num / p.den)) :=
  ed_call (es_cons h es_nil) ⟨p, rfl, hp, rfl⟩ fun y ⟨p', e, _, ey⟩ => by rw [ey, ratD_inj (List.cons.inj e).1]
theorem ed_broken (h : ED c ta es (ratD p)) : ED c (tCall (sp_broken_of c.K) [] E (tCons ta tNil)) es (ratD (brokR p)) :=
  ed_call (es_cons h es_nil) ⟨p, rfl, brok_D p⟩ fun y ⟨p', e, ey⟩ => by rw [ey, ratD_inj (List.cons.inj e).1, brok_D]
theorem ed_text (h : ED c ta es (ratD p)) (hp : SzR 1900 p) : ED c (tCall (sp_ratio_text c.K) [] E (tCons ta tNil)) es (.str (ratText p)) :=
  ed_call (es_cons h es_nil) ⟨p, rfl, hp, rfl⟩ fun y ⟨p', e, _, ey⟩ => by rw [ey, ratD_inj (List.cons.inj e).1]
theorem ed_lwhole (h : ED c ta es x) (hx : Kin x) : ED c (tCall (sp_u_law_whole c.K) [] E (tCons ta tNil)) es (.bl (isIntB x)) :=
  ed_call (es_cons h es_nil) ⟨x, rfl, hx, rfl⟩ fun y ⟨p', e, _, ey⟩ => by rw [ey, (List.cons.inj e).1]
theorem eb_neF {i j : Int} (ha : ED c ta es (.int i)) (hb : ED c tb es (.int j)) (h : i = j) : EBd c (tTest (tOp (rNeD c.K) ta tb)) es false :=
  EBd.is (eb_test (ed_ne ha hb rfl rfl)) (by rw [eqv_int, decide_eq_true h] <;> rfl)
theorem text_ok (p : Rat) : PyData.strOk (ratText p) = true := by
  unfold ratText
  split
  · exact ok_of _
  · exact ok_app (ok_app (ok_of _) (ok_of _)) (ok_of _)
theorem eqv_strS (s : Str) : eqv (.str s) (.str s) = true := beq_self_eq_true s
theorem ed_cmp (ha : ED c ta es (ratD p)) (hb : ED c tb es (ratD q)) (hp : SzR 2000 p) (hq : SzR 2000 q) : ED c (tCall (sp_compare c.K) [] E (tCons ta (tCons tb tNil))) es (.int (cmpI p q)) := ed_two (f := fun p q => .int (cmpI p q)) ha hb hp hq
theorem sem_pair (h1 : Num a b) (h2 : Num e f) (k : RetD c D.rt (fun d => d = .bl true)) : Cont c (t_u_law_pair c.K D) [.dat (.int a), .dat (.int b), .dat (.int e), .dat (.int f), .no, .no, .no, .no, .no, .no] := by
  have sp := h1.sz
  have sq := h2.sz
  have hb := h1.2.1
  have hf := h2.2.1
  have cd := cmp_due (a := a) (e := e) hb hf
  have ov := over_eq (a := a) (e := e) hb hf
  have nz := num_zero (e := e) hf
  have pe : Rat.divInt a b + Rat.divInt e f = _ := Rat.divInt_add_divInt a e hb hf
  have me : Rat.divInt a b - Rat.divInt e f = _ := Rat.divInt_sub_divInt a e hb hf
  have te : Rat.divInt a b * Rat.divInt e f = _ := Rat.divInt_mul_divInt a e
  have ne : -Rat.divInt a b = _ := Rat.neg_divInt a b
  have z90 := (h1.1.mul h2.2.2)
  have z90' := (h2.1.mul h1.2.2)
  have z60 := (h1.2.2.mul h2.2.2)
  have hbf := Int.mul_ne_zero hb hf
  refine s_asg (ed_make (ed_var rfl) (ed_var rfl) h1) ?_
  refine s_asg (ed_make (ed_var rfl) (ed_var rfl) h2) ?_
  generalize hP : Rat.divInt a b = P at *
  generalize hQ : Rat.divInt e f = Q at *
  have sp2 : SzR 2000 P := sp.mono (by decide)
  have sq2 : SzR 2000 Q := sq.mono (by decide)
  refine s_when (b := false) (eb_or2 (eb_notT (ed_same (ed_var rfl) (ed_var rfl) (ed_var rfl) hb (sz_few h1.2.2 (by decide)) hP.symm)) (eb_notT (ed_same (ed_var rfl) (ed_var rfl) (ed_var rfl) hf (sz_few h2.2.2 (by decide)) hQ.symm))) (fun z => by cases z) fun _ => ?_
  refine s_when (b := false) (eb_or2
    (eb_notT (ed_same (ed_two (ed_var rfl) (ed_var rfl) sp2 sq2) (ed_I0 (ed_mul (ed_var rfl) (ed_var rfl) h1.1 h2.2.2 (by decide)) (ed_mul (ed_var rfl) (ed_var rfl) h2.1 h1.2.2 (by decide))) (ed_mul (ed_var rfl) (ed_var rfl) h1.2.2 h2.2.2 (by decide)) hbf (sz_few z60 (by decide)) pe))
    (eb_notT (ed_same (ed_two (ed_var rfl) (ed_var rfl) sp2 sq2) (ed_I0 (ed_mul (ed_var rfl) (ed_var rfl) h1.1 h2.2.2 (by decide)) (ed_mul (ed_var rfl) (ed_var rfl) h2.1 h1.2.2 (by decide))) (ed_mul (ed_var rfl) (ed_var rfl) h1.2.2 h2.2.2 (by decide)) hbf (sz_few z60 (by decide)) me))) (fun z => by cases z) fun _ => ?_
  refine s_when (b := false) (eb_or2
    (eb_notT (ed_same (ed_two (ed_var rfl) (ed_var rfl) sp2 sq2) (ed_mul (ed_var rfl) (ed_var rfl) h1.1 h2.1 (by decide)) (ed_mul (ed_var rfl) (ed_var rfl) h1.2.2 h2.2.2 (by decide)) hbf (sz_few z60 (by decide)) te))
    (eb_notT (ed_same (ed_negR (ed_var rfl)) (ed_neg (ed_var rfl)) (ed_var rfl) hb (sz_few h1.2.2 (by decide)) ne))) (fun z => by cases z) fun _ => ?_
  have z91 := z90.sub z90'
  have z121 := z91.mul h1.2.2
  have z151 := z121.mul h2.2.2
  refine s_if3 (b := decide (e = 0)) (ed_eqI (ed_var rfl) ed_int) ?_ (fun rest h => ?_) (fun rest h => ?_)
  rotate_left
  · have h := of_decide_eq_true h
    refine c_if (b := false) (EBd.is (eb_test (ed_ne (x := .str "zero") (y := .str "zero") (ED.is (ed_lover (ed_var rfl) (ed_var rfl) sp2 sq2) (if_pos (nz.mpr h))) ed_str (fine_str (ok_of _)) (fine_str (ok_of _)))) (by rw [eqv_strS] <;> rfl)) (fun z => by cases z) fun _ => c_next rest
  · have h := of_decide_eq_false h
    refine c_if (b := false) (eb_notT (ed_same (ED.is (ed_lover (ed_var rfl) (ed_var rfl) sp2 sq2) (if_neg fun z => h (nz.mp z))) (ed_mul (ed_var rfl) (ed_var rfl) h1.1 h2.2.2 (by decide)) (ed_mul (ed_var rfl) (ed_var rfl) h1.2.2 h2.1 (by decide)) (Int.mul_ne_zero hb h) (sz_few (h1.2.2.mul h2.1) (by decide)) (ov h))) (fun z => by cases z) fun _ => c_next rest
  refine s_asg (ed_mul (ed_mul (ed_I0 (ed_mul (ed_var rfl) (ed_var rfl) h1.1 h2.2.2 (by decide)) (ed_mul (ed_var rfl) (ed_var rfl) h2.1 h1.2.2 (by decide))) (ed_var rfl) z91 h1.2.2 (by decide)) (ed_var rfl) z121 h2.2.2 (by decide)) ?_
  generalize hS : (a * f - e * b) * b * f = S at *
  refine s_asg (d := .int (dueI S)) (ev_if (b := decide (S = 0)) (ed_eqI (ed_var rfl) ed_int) (fun h => ED.is ed_int ?_) fun h => ev_if (b := decide (0 < S)) (eb_test (ed_B0 (ed_var rfl) ed_int)) (fun g => ED.is ed_int ?_) fun g => ED.is (ed_neg ed_int) ?_) ?_
  · unfold dueI
    rw [if_pos (of_decide_eq_true h)]
  · unfold dueI
    rw [if_neg (of_decide_eq_false h), if_pos (of_decide_eq_true g)]
  · unfold dueI
    rw [if_neg (of_decide_eq_false h), if_neg (of_decide_eq_false g)]
  refine s_when (b := false) (eb_or2 (eb_neF (ed_cmp (ed_var rfl) (ed_var rfl) sp2 sq2) (ed_var rfl) cd) (eb_or2 (eb_neF (ed_cmp (ed_var rfl) (ed_var rfl) sq2 sp2) (ed_neg (ed_var rfl)) (by rw [cmp_swap, cd])) (eb_neF (ed_cmp (ed_var rfl) (ed_var rfl) sp2 sp2) ed_int (cmp_self P)))) (fun z => by cases z) fun _ => ?_
  refine s_asg (ed_floor (ed_var rfl) sp2) ?_
  have zd : Sz 60 (P.num / P.den) := by
    unfold Sz
    exact Nat.lt_of_le_of_lt (Int.natAbs_ediv_le_natAbs _ _) sp.num
  have zd1 : Sz 61 (P.num / P.den + 1) := Sz.add zd (show (1 : Nat) < 2 ^ 60 by decide)
  have l1 : P.num / P.den * P.den ≤ P.num := Int.ediv_mul_le _ (den_ne P)
  have l2 : P.num < (P.num / P.den + 1) * P.den := Int.lt_ediv_add_one_mul_self _ (den_pos P)
  have be := brok_eq P
  generalize hF : P.num / (P.den : Int) = F at *
  refine s_when (b := false) (eb_or2 (eb_notT (ed_lwhole (x := .int F) (ed_var rfl) rfl)) (EBd.is (eb_not (eb_test (ed_chain (ed_mul (ed_var rfl) (ix1 rfl) zd sp.den (by decide)) (ix0 rfl) rd_B0 (fun _ => ed_mul (ed_I0 (ed_var rfl) ed_int) (ix1 rfl) zd1 sp.den (by decide)) fun _ => rd_B0))) (by rw [decide_eq_true l1, decide_eq_true l2] <;> rfl))) (fun z => by cases z) fun _ => ?_
  refine s_when (b := false) (eb_notT (ed_same (ed_broken (ed_var rfl)) (ed_I0 (ix0 rfl) (ed_mul (ed_var rfl) (ix1 rfl) zd sp.den (by decide))) (ix1 rfl) (den_ne P) (sz_few sp.den (by decide)) be)) (fun z => by cases z) fun _ => ?_
  have ln := text_len sp.num (by decide)
  have ld := text_len sp.den (by decide)
  have lg : ∀ {i : Int}, Sz 60 i → i.natAbs.log2 < 1920 := fun h => Nat.lt_trans (sz_log h (by decide)) (by decide)
  have l3 : (Str.ofString "/").length = 1 := by decide +kernel
  refine s_asg (d := .str (ratText P)) (ev_if (b := decide ((P.den : Int) = 1)) (ed_eqI (ix1 rfl) ed_int) (fun h => ED.is (ed_strI (ix0 rfl) (lg sp.num)) ?_) fun h => ED.is (ed_addS (ed_addS (ed_strI (ix0 rfl) (lg sp.num)) ed_str ?_) (ed_strI (ix1 rfl) (lg sp.den)) ?_) ?_) ?_
  · unfold ratText
    rw [if_pos (of_decide_eq_true h)]
  · omega
  · rw [Str.length_append]
    omega
  · unfold ratText
    rw [if_neg (of_decide_eq_false h)]
  refine c_ret (ED.is (ed_eq (ed_text (ed_var rfl) (sp.mono (by decide))) (ed_var rfl) (fine_str (text_ok P)) (fine_str (text_ok P))) ?_) k
  rw [eqv_strS]
end
end K01
set_option Elab.async false
set_option linter.all false
set_option maxRecDepth 100000
set_option maxHeartbeats 4000000
namespace K01
open PySem PySem.Spec PyProof.Rows L2 My
local macro_rules | `(tactic| walk_at "ed") => `(tactic| first
  | exact ed_int | exact ed_bl | exact ed_str | exact ed_non
  | exact ed_var rfl
  | (apply ed_I0; (focus walk_at "ed"); (focus walk_at "ed"))
  | (apply ed_B0; (focus walk_at "ed"); (focus walk_at "ed"))
  | (apply ed_neg; (focus walk_at "ed"))
  | (apply ed_ixT; (focus walk_at "ed"); (focus walk_at "ed"); (focus rfl))
  | (apply ed_ixL; (focus walk_at "ed"); (focus walk_at "ed"); (focus rfl))
  | (apply ed_ixO; (focus rfl); (focus walk_at "ed"); (focus rfl))
  | (apply ed_len; (focus walk_at "ed"); (focus rfl))
  | (apply ed_lenO; (focus rfl))
  | (apply ed_tup; (focus walk_at "ed"); (focus (simp only [List.length_cons, List.length_nil]; decide)))
  | (apply ed_eq; (focus walk_at "ed"); (focus walk_at "ed"); (focus rfl); (focus rfl))
  | (apply ed_ne; (focus walk_at "ed"); (focus walk_at "ed"); (focus rfl); (focus rfl))
  | (apply ed_isN; (focus walk_at "ed"))
  | (apply ed_notN; (focus walk_at "ed"))
  | (apply ed_isB; (focus walk_at "ed"); (focus walk_at "ed"))
  | (apply ed_notB; (focus walk_at "ed"); (focus walk_at "ed"))
  | (apply ed_isi; (focus walk_at "ed"); (focus first | rfl | assumption); (focus decide +kernel))
  | (apply ed_isi2; (focus walk_at "ed"); (focus first | rfl | assumption); (focus decide +kernel); (focus decide +kernel))
  | (apply ed_not; (focus walk_at "ed"))
  | (apply ed_int1; (focus walk_at "ed"))
  | (apply ed_abs; (focus walk_at "ed"))
  | (apply ed_gcd; (focus walk_at "ed"); (focus walk_at "ed"))
  | exact es_nil
  | (apply es_cons; (focus walk_at "ed"); (focus walk_at "ed"))
  | (apply eb_test; (focus walk_at "ed"))
  | (apply eb_B; (focus walk_at "ed"))
  | (apply eb_not; (focus walk_at "ed")))
theorem maps_inj : ∀ {l m : List Rat}, l.map ratD = m.map ratD → l = m
  | [], [], _ => rfl
  | [], _ :: _, h => by cases h
  | _ :: _, [], h => by cases h
  | p :: l, q :: m, h => by
    have h' := List.cons.inj h
    rw [ratD_inj h'.1, maps_inj h'.2]
theorem fine_rats (l : List Rat) : fine (.lst (l.map ratD)) = true := by
  have h1 : bareAll (l.map ratD) = true := by
    induction l with
    | nil => rfl
    | cons p l ih => exact ih
  have h2 : PyData.canLayAll0 (pyAll (l.map ratD)) = true := by
    induction l with
    | nil => rfl
    | cons p l ih =>
      show (PyData.canLay0 (py (ratD p)) && PyData.canLayAll0 (pyAll (l.map ratD))) = true
      rw [ih h1] <;> rfl
  have h3 : PyData.depthAll (pyAll (l.map ratD)) ≤ 1 := by
    clear h1 h2
    induction l with
    | nil => exact Nat.zero_le _
    | cons p l ih =>
      show max (PyData.depth (py (ratD p))) (PyData.depthAll (pyAll (l.map ratD))) ≤ 1
      exact Nat.max_le.mpr ⟨Nat.le_refl _, ih⟩
  show (bareAll (l.map ratD) && (PyData.canLayAll0 (pyAll (l.map ratD)) && decide (PyData.depthAll (pyAll (l.map ratD)) + 1 ≤ 64))) = true
  rw [h1, h2, decide_eq_true (by omega)] <;> rfl
theorem eqv_rats (l : List Rat) : eqv (.lst (l.map ratD)) (.lst (l.map ratD)) = true := by
  show PyData.eqvAll (pyAll (l.map ratD)) (pyAll (l.map ratD)) = true
  induction l with
  | nil => rfl
  | cons p l ih =>
    show (eqv (ratD p) (ratD p) && PyData.eqvAll (pyAll (l.map ratD)) (pyAll (l.map ratD))) = true
    rw [ih, eqv_ratD, decide_eq_true rfl] <;> rfl
theorem den_sz {n : Nat} {a b : Int} (h : b ≠ 0) (hb : Sz n b) : Sz n ((Rat.divInt a b).den : Int) := by
  rw [Rat.den_divInt, if_neg h]
  unfold Sz at *
  rw [Int.natAbs_natCast]
  exact Nat.lt_of_le_of_lt (Nat.div_le_self _ _) hb
theorem den_add {n m : Nat} {p q : Rat} (hp : Sz n (p.den : Int)) (hq : Sz m (q.den : Int)) : Sz (n + m) ((p + q).den : Int) := by
  have e : p + q = Rat.divInt (p.num * q.den + q.num * p.den) (p.den * q.den) := by rw [← Rat.divInt_add_divInt _ _ (den_ne p) (den_ne q), divInt_of, divInt_of]
  rw [e]
  exact den_sz (Int.mul_ne_zero (den_ne p) (den_ne q)) (hp.mul hq)
section
variable {c : Fr} {D : Ends} {E : XK} {es : List Sv} {ta tb te tx : TE} {x y : Dt} {p q : Rat} {a b e f n t : Int}
theorem ed_sum {l : List Rat} (h : ED c ta es x) (hx : itemsD x = some (l.map ratD)) (hl : l.length ≤ 10) (hs : ∀ q ∈ l, SzR 100 q) : ED c (tCall (sp_sum_of c.K) [] E (tCons ta tNil)) es (ratD (l.foldl (· + ·) 0)) :=
  ed_call (es_cons h es_nil) ⟨x, l, rfl, hx, hl, hs, rfl⟩ fun y ⟨x', l', e, hx', _, _, ey⟩ => by
    have e1 := (List.cons.inj e).1
    subst e1
    rw [hx] at hx'
    rw [ey, maps_inj (Option.some.inj hx')]
theorem ed_pick {f : Rat → List Rat → Rat} {l : List Rat} (h : ED c ta es x) (hx : itemsD x = some ((p :: l).map ratD)) (hs : ∀ q ∈ p :: l, SzR 100 q) (hl : (p :: l).length ≤ 10) : ED c (tCall (spD c.K (R_pick f)) [] E (tCons ta tNil)) es (ratD (f p (p :: l))) :=
  ed_call (es_cons h es_nil) ⟨x, p, l, rfl, hx, hs, hl, rfl⟩ fun y ⟨x', p', l', e, hx', _, _, ey⟩ => by
    have e1 := (List.cons.inj e).1
    subst e1
    rw [hx] at hx'
    have e2 := List.cons.inj (maps_inj (Option.some.inj hx'))
    rw [ey, e2.1, e2.2]
def rowR (p : Int × Int) : Rat := Rat.divInt p.1 p.2
def rowD (p : Int × Int) : Dt := .tup [.int p.1, .int p.2]
def pairS : Dt → List Sv → List Sv
  | .tup [a, b], es => (es.set 2 (.dat a)).set 3 (.dat b)
  | _, es => es
def pairR : Dt → Dt
  | .tup [.int a, .int b] => ratD (Rat.divInt a b)
  | d => d
theorem rows_rats (l : List (Int × Int)) : ((l.map rowD).filter fun _ => true).map pairR = (l.map rowR).map ratD := by
  rw [List.filter_eq_self.mpr (fun _ _ => rfl), List.map_map, List.map_map] <;> rfl
theorem sem_many (hm : c.mu = []) {l : List (Int × Int)} (h0 : l ≠ []) (hl : l.length ≤ 8) (hs : ∀ p ∈ l, Num p.1 p.2) (k : RetD c D.rt (fun d => d = .bl true)) : Cont c (t_u_law_many c.K D) [.dat (.lst (l.map rowD)), .no, .no, .no, .no, .no, .no, .no] := by
  refine s_asgO (eo_lc (f := pairS) (p := fun _ => true) (fn := pairR) rfl (wi_seq (ed_var rfl) rfl) (by rw [List.length_map]; omega) (fun P y hy => ?_) (fun y hy => ?_) (fun P _ y _ => eb_yes) fun P _ y hy _ => ?_) fun a ds e => ?_
  · obtain ⟨p, _, rfl⟩ := List.mem_map.mp hy
    exact tg_two
  · obtain ⟨p, _, rfl⟩ := List.mem_map.mp hy
    rfl
  · obtain ⟨p, hp, rfl⟩ := List.mem_map.mp hy
    exact ed_make (ed_var rfl) (ed_var rfl) (hs p hp)
  rw [rows_rats] at e
  subst e
  refine c_give (n := 1) rfl hm ?_
  have sz : ∀ q ∈ l.map rowR, SzR 60 q := fun q hq => by
    obtain ⟨p, hp, rfl⟩ := List.mem_map.mp hq
    exact (hs p hp).sz
  have zd : ∀ q ∈ l.map rowR, Sz 30 (q.den : Int) := fun q hq => by
    obtain ⟨p, hp, rfl⟩ := List.mem_map.mp hq
    exact den_sz (hs p hp).2.1 (hs p hp).2.2
  have len : (l.map rowR).length ≤ 8 := by rw [List.length_map]; exact hl
  obtain ⟨p, rs, hrs⟩ : ∃ p rs, l.map rowR = p :: rs := by
    cases l with
    | nil => exact (h0 rfl).elim
    | cons a l => exact ⟨_, _, rfl⟩
  generalize l.map rowR = L at *
  subst hrs
  have sz100 : ∀ q ∈ p :: rs, SzR 100 q := fun q hq => (sz q hq).mono (by decide)
  refine s_unpack (ed_tup (es_cons ed_int (es_cons ed_int es_nil)) (by show 2 ≤ 100000; decide)) ?_
  refine s_asg (items_at (x := .lst ((p :: rs).map ratD)) (i := 0) rfl (ed_var rfl) rfl) ?_
  refine s_asg (items_at (x := .lst ((p :: rs).map ratD)) (i := 0) rfl (ed_var rfl) rfl) ?_
  let lo := fun k => pickTo (fun b q => if lessR q b then q else b) p (p :: rs) k
  let hi := fun k => pickTo (fun b q => if lessR b q then q else b) p (p :: rs) k
  refine s_for (I := fun k es => SzR (1 + 101 * k) (sumTo (p :: rs) k) ∧ Sz (1 + 30 * k) ((sumTo (p :: rs) k).den : Int) ∧ SzR 100 (lo k) ∧ SzR 100 (hi k) ∧ ∃ s, es = [.dat (.lst (l.map rowD)), .dat (.lst ((p :: rs).map ratD)), .dat (.int (sumTo (p :: rs) k).num), .dat (.int (sumTo (p :: rs) k).den), .dat (ratD (lo k)), .dat (ratD (hi k)), s, .no])
    (f := fun y es => es.set 6 (.dat y)) (wi_seq (ed_var rfl) rfl) ⟨sz_zero, sz_zero.den, sz100 p List.mem_cons_self, sz100 p List.mem_cons_self, _, rfl⟩ (fun P y _ => tg_name) (fun P1 Lw k y es e ⟨g1, g2, g3, g4, s, h2⟩ => ?_) fun es ⟨g1, g2, g3, g4, s, h2⟩ => ?_
  · subst h2
    obtain ⟨q, e1, rfl⟩ : ∃ q, (p :: rs)[k]? = some q ∧ ratD q = y := by
      rw [List.getElem?_map] at e
      exact Option.map_eq_some_iff.mp e
    have hk : k < (p :: rs).length := (List.getElem?_eq_some_iff.mp e1).1
    have hq := sz q (List.mem_of_getElem? e1)
    have hd := zd q (List.mem_of_getElem? e1)
    have se : Rat.divInt ((sumTo (p :: rs) k).num * q.den + q.num * (sumTo (p :: rs) k).den) ((sumTo (p :: rs) k).den * q.den) = sumTo (p :: rs) (k + 1) := by
      rw [sum_step e1, ← Rat.divInt_add_divInt _ _ (den_ne _) (den_ne q), divInt_of, divInt_of]
    refine s_unpack (ED.is (ed_lratio (ed_I0 (ed_mul (ed_var rfl) (ix1 rfl) g1.num hq.den (by omega)) (ed_mul (ix0 rfl) (ed_var rfl) hq.num g1.den (by omega))) (ed_mul (ed_var rfl) (ix1 rfl) g2 hd (by omega)) (Int.mul_ne_zero (den_ne _) (den_ne q)) (sz_few (g2.mul hd) (by omega))) (congrArg ratD se)) ?_
    have n1 : SzR (1 + 101 * (k + 1)) (sumTo (p :: rs) (k + 1)) := by
      rw [sum_step e1]
      exact (sz_add g1 (sz100 q (List.mem_of_getElem? e1))).mono (by omega)
    have n2 : Sz (1 + 30 * (k + 1)) ((sumTo (p :: rs) (k + 1)).den : Int) := by
      rw [sum_step e1]
      exact (den_add g2 hd).mono (by omega)
    have l1 : lessR q (lo k) = true → lo (k + 1) = q := fun h => (pick_step e1).trans (if_pos h)
    have l2 : lessR q (lo k) = false → lo (k + 1) = lo k := fun h => (pick_step e1).trans (if_neg (by rw [show lessR q (pickTo (fun b q => if lessR q b then q else b) p (p :: rs) k) = false from h]; decide))
    have m1 : lessR (hi k) q = true → hi (k + 1) = q := fun h => (pick_step e1).trans (if_pos h)
    have m2 : lessR (hi k) q = false → hi (k + 1) = hi k := fun h => (pick_step e1).trans (if_neg (by rw [show lessR (pickTo (fun b q => if lessR b q then q else b) p (p :: rs) k) q = false from h]; decide))
    have sq := sz100 q (List.mem_of_getElem? e1)
    refine s_ifA (b := lessR q (lo k)) (eb_test (ed_B0 (ed_mul (ix0 rfl) (ix1 rfl) hq.num g3.den (by decide)) (ed_mul (ix0 rfl) (ix1 rfl) g3.num hq.den (by decide)))) (fun _ => ed_var rfl) (fun h => ?_) fun h => ?_
    · have e4 := l1 h
      refine c_if (b := lessR (hi k) q) (eb_test (ed_B0 (ed_mul (ix0 rfl) (ix1 rfl) hq.num g4.den (by decide)) (ed_mul (ix0 rfl) (ix1 rfl) g4.num hq.den (by decide)))) (fun z => c_asg (ed_var rfl) ?_) fun z => c_next ?_
      · exact c_turn' rfl ⟨n1, n2, by rw [e4]; exact sq, by rw [m1 z]; exact sq, .dat (ratD q), by rw [e4, m1 z] <;> rfl⟩
      · exact c_turn' rfl ⟨n1, n2, by rw [e4]; exact sq, by rw [m2 z]; exact g4, .dat (ratD q), by rw [e4, m2 z] <;> rfl⟩
    · have e4 := l2 h
      refine c_if (b := lessR (hi k) q) (eb_test (ed_B0 (ed_mul (ix0 rfl) (ix1 rfl) hq.num g4.den (by decide)) (ed_mul (ix0 rfl) (ix1 rfl) g4.num hq.den (by decide)))) (fun z => c_asg (ed_var rfl) ?_) fun z => c_next ?_
      · exact c_turn' rfl ⟨n1, n2, by rw [e4]; exact g3, by rw [m1 z]; exact sq, .dat (ratD q), by rw [e4, m1 z] <;> rfl⟩
      · exact c_turn' rfl ⟨n1, n2, by rw [e4]; exact g3, by rw [m2 z]; exact g4, .dat (ratD q), by rw [e4, m2 z] <;> rfl⟩
  · subst h2
    have ln : ((p :: rs).map ratD).length = (p :: rs).length := List.length_map _
    have tk : (p :: rs).take (p :: rs).length = p :: rs := List.take_length
    have eS : sumTo (p :: rs) ((p :: rs).map ratD).length = (p :: rs).foldl (· + ·) 0 := by
      rw [ln]
      unfold sumTo
      rw [tk]
    have eL : lo ((p :: rs).map ratD).length = leastR p (p :: rs) := by
      rw [ln]
      show ((p :: rs).take (p :: rs).length).foldl _ p = _
      rw [tk] <;> rfl
    have eH : hi ((p :: rs).map ratD).length = greatR p (p :: rs) := by
      rw [ln]
      show ((p :: rs).take (p :: rs).length).foldl _ p = _
      rw [tk] <;> rfl
    have g2' := g2
    rw [ln] at g2'
    have fw := sz_few g2' (by omega)
    rw [eS] at g2 ⊢
    rw [← ln, eS] at fw
    rw [eL, eH]
    refine s_asgO (eo_list (ed_var rfl) rfl) fun a' ds e => ?_
    subst e
    refine c_give (n := 7) rfl hm ?_
    have e0 : ED c (tLst tNil) [.dat (.lst (l.map rowD)), .dat (.lst ((p :: rs).map ratD)), .dat (.int ((p :: rs).foldl (· + ·) 0).num), .dat (.int ((p :: rs).foldl (· + ·) 0).den), .dat (ratD (leastR p (p :: rs))), .dat (ratD (greatR p (p :: rs))), s, .dat (.lst ((p :: rs).map ratD))] (.lst []) :=
      EV.imp (ev_give hm (eo_lst es_nil fun l e => by rw [e]; exact Nat.zero_le _)) fun z ⟨l, e1, e2⟩ => by rw [e1, e2]
    refine s_when (b := false) (eb_or2 (eb_notT (ed_same (ed_sum (ed_var rfl) rfl (by omega) sz100) (ed_var rfl) (ed_var rfl) (den_ne _) fw (divInt_of _).symm)) (EBd.is (eb_test (ed_ne (x := ratD 0) (y := ratD 0) (ed_sum (x := .lst []) (l := []) e0 rfl (by decide) fun q h => by cases h) (ED.is (ed_tup (es_cons ed_int (es_cons ed_int es_nil)) (by show 2 ≤ 100000; decide)) rfl) rfl rfl)) (by rw [eqv_ratD, decide_eq_true rfl] <;> rfl))) (fun z => by cases z) fun _ => ?_
    refine c_ret (ED.is (ed_and (ed_eq (ed_pick (f := leastR) (ed_var rfl) rfl sz100 (by omega)) (ed_var rfl) rfl rfl) fun _ => ed_and (ed_eq (ed_pick (f := greatR) (ed_tupleOf (ed_var rfl) rfl) rfl sz100 (by omega)) (ed_var rfl) rfl rfl) fun _ => ed_eq (ed_var rfl) (ed_var rfl) (fine_rats _) (fine_rats _)) ?_) k
    rw [eqv_ratD, eqv_ratD, eqv_rats, decide_eq_true rfl, decide_eq_true rfl] <;> rfl
end
end K01
set_option Elab.async false
set_option linter.all false
set_option maxRecDepth 100000
set_option maxHeartbeats 4000000
namespace K01
open PySem PySem.Spec PyProof.Rows L2 My
local macro_rules | `(tactic| walk_at "ed") => `(tactic| first
  | exact ed_int | exact ed_bl | exact ed_str | exact ed_non
  | exact ed_var rfl
  | (apply ed_I0; (focus walk_at "ed"); (focus walk_at "ed"))
  | (apply ed_B0; (focus walk_at "ed"); (focus walk_at "ed"))
  | (apply ed_neg; (focus walk_at "ed"))
  | (apply ed_ixT; (focus walk_at "ed"); (focus walk_at "ed"); (focus rfl))
  | (apply ed_ixL; (focus walk_at "ed"); (focus walk_at "ed"); (focus rfl))
  | (apply ed_ixO; (focus rfl); (focus walk_at "ed"); (focus rfl))
  | (apply ed_len; (focus walk_at "ed"); (focus rfl))
  | (apply ed_lenO; (focus rfl))
  | (apply ed_tup; (focus walk_at "ed"); (focus (simp only [List.length_cons, List.length_nil]; decide)))
  | (apply ed_eq; (focus walk_at "ed"); (focus walk_at "ed"); (focus rfl); (focus rfl))
  | (apply ed_ne; (focus walk_at "ed"); (focus walk_at "ed"); (focus rfl); (focus rfl))
  | (apply ed_isN; (focus walk_at "ed"))
  | (apply ed_notN; (focus walk_at "ed"))
  | (apply ed_isB; (focus walk_at "ed"); (focus walk_at "ed"))
  | (apply ed_notB; (focus walk_at "ed"); (focus walk_at "ed"))
  | (apply ed_isi; (focus walk_at "ed"); (focus first | rfl | assumption); (focus decide +kernel))
  | (apply ed_isi2; (focus walk_at "ed"); (focus first | rfl | assumption); (focus decide +kernel); (focus decide +kernel))
  | (apply ed_not; (focus walk_at "ed"))
  | (apply ed_int1; (focus walk_at "ed"))
  | (apply ed_abs; (focus walk_at "ed"))
  | (apply ed_gcd; (focus walk_at "ed"); (focus walk_at "ed"))
  | exact es_nil
  | (apply es_cons; (focus walk_at "ed"); (focus walk_at "ed"))
  | (apply eb_test; (focus walk_at "ed"))
  | (apply eb_B; (focus walk_at "ed"))
  | (apply eb_not; (focus walk_at "ed")))
section
variable {c : Fr} {D : Ends} {E : XK} {es : List Sv} {ta tb te tx : TE} {x y u l : Dt} {p q : Rat} {a b e f n t : Int}
theorem ev_draw {k : Nat} {ad : Addr} {m : Int} (hn : es[k]? = some (.hand ad)) (h : ED c ta es (.int m)) (h0 : 0 < m) (h1 : m < 2 ^ 64) : EV c (tCall (sp_u_law_draw c.K) [] E (tCons (tVar k) (tCons ta tNil))) es (IsI fun z => 0 ≤ z ∧ z < m) :=
  EV.imp (ev_callH hn (es_cons h es_nil) fun l e => by
    subst e
    exact ⟨.int 0, m, rfl, h0, h1, 0, Int.le_refl 0, h0, rfl⟩) fun d ⟨l, e, m', e', _, _, z, z0, z1, ez⟩ => by
    subst e
    cases e'
    exact ⟨z, ez, z0, z1⟩
theorem ed_wholeK (ha : ED c ta es x) (hh : ED c tb es u) (hl : ED c tx es l) (hx : Kin x) (hL : Lim l) (hU : Lim u) : ED c (tCallK (sp_is_whole c.K) kw_is_whole E (tCons ta tNil) (tCons tb (tCons tx tNil))) es (.bl (wholeB x l u)) := fun σ P H r Q q =>
  es_cons ha es_nil σ P H r _ fun vs P1 H1 l1 e r1 k1 h1 => (es_cons hh (es_cons hl es_nil)) σ P1 H1 r1 _ fun zs P2 H2 l2 e' r2 k2 h2 => by
    subst e e'
    cases h1 with
    | cons a1 h1 =>
      cases h1
      cases h2 with
      | cons b1 h2 =>
        cases h2 with
        | cons b2 h2 =>
          cases h2
          refine ⟨P2, [x, l, u], r2.ex, .cons (Has.mono k2.p _ a1) (.cons b2 (.cons b1 .nil)), ⟨_, x, l, u, rfl, hx, hL, hU, rfl⟩, fun v P3 H3 d ⟨x', l', u', e, _, _, _, ed⟩ g hv => ?_⟩
          cases e
          exact q v P3 H3 d ed (r2.step g) ((k1.trans k2).trans (.of g)) hv
theorem ed_isratio (h : ED c ta es x) (hx : Kins x) : ED c (tCall (sp_is_ratio c.K) [] E (tCons ta tNil)) es (.bl (ratioB x)) :=
  ed_call (es_cons h es_nil) ⟨x, rfl, hx, rfl⟩ fun y ⟨x', e, _, ey⟩ => by rw [ey, (List.cons.inj e).1]
theorem ed_refused (ha : ED c ta es x) (hb : ED c tb es y) (hx : Kin x) (hy : Kin y) (sx : SzD x) (sy : SzD y) : ED c (tCall (sp_u_law_refused c.K) [] E (tCons ta (tCons tb tNil))) es (wordO (makeO 0 x y)) :=
  ed_call (es_cons ha (es_cons hb es_nil)) ⟨x, y, rfl, hx, hy, sx, sy, rfl⟩ fun z ⟨x', y', e, _, _, _, _, ey⟩ => by
    cases e
    exact ey
theorem eb_word {s : Str} (h : ED c ta es d) (e : d = .str s) (hs : PyData.strOk s = true) : EBd c (tTest (tOp (rNeD c.K) ta (tC (.str s)))) es false :=
  EBd.is (eb_test (ed_ne (x := .str s) (y := .str s) (h.is e) ed_str (fine_str hs) (fine_str hs))) (by rw [eqv_strS] <;> rfl)
theorem ed_pairs (h1 : ED c ta es (.int a)) (h2 : ED c tb es (.int b)) (h3 : ED c te es (.int e)) (h4 : ED c tx es (.int f)) (n1 : Num a b) (n2 : Num e f) : ED c (tCall (sp_u_law_pair c.K) [] E (tCons ta (tCons tb (tCons te (tCons tx tNil))))) es (.bl true) :=
  ed_call (es_cons h1 (es_cons h2 (es_cons h3 (es_cons h4 es_nil)))) ⟨a, b, e, f, rfl, n1, n2, rfl⟩ fun y ⟨_, _, _, _, _, _, _, ey⟩ => ey
theorem ed_many {l : List (Int × Int)} (h : ED c ta es (.lst (l.map rowD))) (h0 : l ≠ []) (hl : l.length ≤ 8) (hs : ∀ p ∈ l, Num p.1 p.2) : ED c (tCall (sp_u_law_many c.K) [] E (tCons ta tNil)) es (.bl true) :=
  ed_call (es_cons h es_nil) ⟨l, rfl, h0, hl, hs, rfl⟩ fun y ⟨_, _, _, _, _, ey⟩ => ey
theorem one_R (a : Int) : ratD (Rat.divInt a 1) = .tup [.int a, .int 1] := by
  have h1 : partOf a 1 = 1 := by
    unfold partOf
    rw [if_neg (by decide)]
    show ((Nat.gcd a.natAbs 1 : Nat) : Int) = 1
    rw [Nat.gcd_one_right] <;> rfl
  have e1 := low_num (a := a) (b := 1) (by decide)
  have e2 := low_den (a := a) (b := 1) (by decide)
  rw [h1, Int.fdiv_one] at e1
  rw [h1] at e2
  show Dt.tup [.int (Rat.divInt a 1).num, .int (Rat.divInt a 1).den] = _
  rw [← e1, ← e2] <;> rfl
theorem ed_make1 (ha : ED c ta es (.int a)) (h : Num a 1) : ED c (tCall (sp_make_ratio c.K) [.int 1] E (tCons ta tNil)) es (.tup [.int a, .int 1]) := by
  have e0 : ∀ C, makeO C (.int a) (.int 1) = .ok (.tup [.int a, .int 1]) := fun C => by
    have z : makeO C (.int a) (.int 1) = .ok (ratD (Rat.divInt a 1)) := rfl
    rw [z, one_R]
  refine ed_callX (dd := [.int 1]) (es_cons ha es_nil) (fun _ => .cons (.int 1) .nil) ⟨_, _, rfl, rfl, rfl, szD_int h.1 (by decide), szD_int h.2.2 (by decide), (e0 _).symm⟩ fun o ⟨x', y', e, _, _, _, _, eo⟩ => ?_
  have e' : [Dt.int a, Dt.int 1] = [x', y'] := e
  cases e'
  rw [eo, e0]
/-- the odd things -/
def Odd (d : Dt) : Prop := d = .bl true ∨ d = .non ∨ d = .str "2" ∨ d = .tup [.int 1, .int 1] ∨ d = .lst [.int 3]
theorem Odd.kin {d : Dt} (h : Odd d) : Kin d ∧ SzD d ∧ isIntB d = false := by
  rcases h with rfl | rfl | rfl | rfl | rfl <;> exact ⟨rfl, (fun _ e => by cases e), rfl⟩
theorem Odd.top {d : Dt} (h : Odd d) (y : Dt) : wordO (makeO 0 d y) = .str "top" := by
  rcases h with rfl | rfl | rfl | rfl | rfl <;> rfl
theorem Odd.bottom {d : Dt} (h : Odd d) (a : Int) : wordO (makeO 0 (.int a) d) = .str "bottom" := by
  rcases h with rfl | rfl | rfl | rfl | rfl <;> rfl
theorem kins_of {d : Dt} (h : Kin d) (hn : isTup d = false) : Kins d := ⟨h, fun l e => by rw [e] at hn; cases hn⟩
theorem kins_tup {l : List Dt} (h : ∀ y ∈ l, Kin y) : Kins (.tup l) := ⟨rfl, fun m e => by cases e; exact h⟩
theorem ratio_of (q : Rat) : ratioB (ratD q) = true := by
  show (decide ((1 : Int) ≤ q.den) && decide (Nat.gcd q.num.natAbs q.den = 1)) = true
  have := den_pos q
  rw [decide_eq_true (by omega), decide_eq_true q.reduced] <;> rfl
theorem ratio_twice (q : Rat) : ratioB (.tup [.int (q.num * 2), .int (q.den * 2)]) = false := by
  show (decide ((1 : Int) ≤ q.den * 2) && decide (Nat.gcd (q.num * 2).natAbs ((q.den : Int) * 2).natAbs = 1)) = false
  rw [Int.natAbs_mul, Int.natAbs_mul, Int.natAbs_natCast]
  have e : Nat.gcd (q.num.natAbs * (2 : Int).natAbs) (q.den * (2 : Int).natAbs) = 2 := by
    rw [Nat.gcd_mul_right, q.reduced] <;> rfl
  rw [Bool.and_eq_false_iff]
  exact .inr (decide_eq_false fun z => absurd (e.symm.trans z) (by decide))
theorem ratio_low (q : Rat) : ratioB (.tup [.int q.num, .int (-q.den)]) = false := by
  show (decide ((1 : Int) ≤ -q.den) && _) = false
  have := den_pos q
  rw [decide_eq_false (by omega)] <;> rfl
end
end K01
set_option Elab.async false
set_option linter.all false
set_option maxRecDepth 100000
set_option maxHeartbeats 4000000
namespace K01
open PySem PySem.Spec PyProof.Rows L2 My
local macro_rules | `(tactic| walk_at "ed") => `(tactic| first
  | exact ed_int | exact ed_bl | exact ed_str | exact ed_non
  | exact ed_var rfl
  | (apply ed_I0; (focus walk_at "ed"); (focus walk_at "ed"))
  | (apply ed_B0; (focus walk_at "ed"); (focus walk_at "ed"))
  | (apply ed_neg; (focus walk_at "ed"))
  | (apply ed_ixT; (focus walk_at "ed"); (focus walk_at "ed"); (focus rfl))
  | (apply ed_ixL; (focus walk_at "ed"); (focus walk_at "ed"); (focus rfl))
  | (apply ed_ixO; (focus rfl); (focus walk_at "ed"); (focus rfl))
  | (apply ed_len; (focus walk_at "ed"); (focus rfl))
  | (apply ed_lenO; (focus rfl))
  | (apply ed_tup; (focus walk_at "ed"); (focus (simp only [List.length_cons, List.length_nil]; decide)))
  | (apply ed_eq; (focus walk_at "ed"); (focus walk_at "ed"); (focus rfl); (focus rfl))
  | (apply ed_ne; (focus walk_at "ed"); (focus walk_at "ed"); (focus rfl); (focus rfl))
  | (apply ed_isN; (focus walk_at "ed"))
  | (apply ed_notN; (focus walk_at "ed"))
  | (apply ed_isB; (focus walk_at "ed"); (focus walk_at "ed"))
  | (apply ed_notB; (focus walk_at "ed"); (focus walk_at "ed"))
  | (apply ed_isi; (focus walk_at "ed"); (focus first | rfl | assumption); (focus decide +kernel))
  | (apply ed_isi2; (focus walk_at "ed"); (focus first | rfl | assumption); (focus decide +kernel); (focus decide +kernel))
  | (apply ed_not; (focus walk_at "ed"))
  | (apply ed_int1; (focus walk_at "ed"))
  | (apply ed_abs; (focus walk_at "ed"))
  | (apply ed_gcd; (focus walk_at "ed"); (focus walk_at "ed"))
  | exact es_nil
  | (apply es_cons; (focus walk_at "ed"); (focus walk_at "ed"))
  | (apply eb_test; (focus walk_at "ed"))
  | (apply eb_B; (focus walk_at "ed"))
  | (apply eb_not; (focus walk_at "ed")))
section
variable {c : Fr} {D : Ends}
theorem sem_law {ns : List Int} (hl : ns.length ≤ 63) (hm : c.mu = []) (zZ : ∀ H, SqT c.K H (He.ga c.K "ZERO") [.int 0, .int 1]) (zO : ∀ H, SqT c.K H (He.ga c.K "ONE") [.int 1, .int 1]) (zH : ∀ H, SqT c.K H (He.ga c.K "HALF") [.int 1, .int 2]) (k : RetD c D.rt (fun d => d = .bl true)) :
    Cont c (t_law c.K D) [.dat (.lst (ns.map Dt.int)), .no, .no, .no, .no, .no, .no, .no, .no, .no, .no, .no, .no, .no, .no] := by
  refine s_asgO (eo_call (es_cons (ed_var rfl) es_nil) ⟨_, ns, rfl, hl, ⟨[], 0, 0, 0, rfl, (fun _ h => by cases h), by decide, by decide, by decide, by decide, by decide, by decide⟩⟩) fun ad ds ⟨_, _, _, hk⟩ => ?_
  refine c_hand (n := 1) rfl hk ?_
  refine s_asgO (eo_lst es_nil fun l e => by rw [e]; exact Nat.zero_le _) fun a2 ds e => ?_
  subst e
  have two64 : (2 : Int) ^ 64 = 18446744073709551616 := rfl
  have two60 : (2 : Int) ^ 60 = 1152921504606846976 := rfl
  have two30 : (2 : Int) ^ 30 = 1073741824 := rfl
  have p9 : (10 : Int) ^ 9 = 1000000000 := rfl
  refine c_seq (c_rng1V (I := fun i k es => ∃ (l : List (Int × Int)) (s3 s4 s5 s6 : Sv), es = [.dat (.lst (ns.map Dt.int)), .hand ad, .own a2 (l.map rowD), s3, s4, s5, s6, .no, .no, .no, .no, .no, .no, .no, .no] ∧ l.length = k ∧ ∀ p ∈ l, Num p.1 p.2)
    (α := fun i => 2 ≤ i ∧ i ≤ 8) ?_ (fun i ⟨h1, h2⟩ => ⟨by omega, by omega⟩) (fun i _ => ⟨[], _, _, _, _, rfl, rfl, fun _ h => by cases h⟩) (fun i hi k es hk ⟨l, s3, s4, s5, s6, e, hlen, hnum⟩ => ?_) fun i hi es ⟨l, s3, s4, s5, s6, e, hlen, hnum⟩ => ?_)
  · refine EV.imp (ei_I0 (ei_of ed_int) (ev_draw rfl ed_int (by decide) (by decide))) fun d ⟨z, e, i, j, hi, ⟨hj1, hj2⟩, ez⟩ => ⟨z, e, ?_, ?_⟩
    · omega
    · omega
  · subst e
    refine s_asgV (φ := IsI fun s => s = 9 ∨ s = 40 ∨ s = 1000000000) (ev_ixT (l := [.int 9, .int 9, .int 40, .int 1000000000]) (ed_tup (es_cons ed_int (es_cons ed_int (es_cons ed_int (es_cons (ED.is (ed_I ed_int ed_int ⟨by decide, by decide, by decide⟩) rfl) es_nil)))) (by show 4 ≤ 100000; decide)) (ev_draw rfl ed_int (by decide) (by decide)) fun z ⟨z0, z1⟩ => ?_) fun d ⟨s, e, hs⟩ => ?_
    · have : z = 0 ∨ z = 1 ∨ z = 2 ∨ z = 3 := by omega
      rcases this with rfl | rfl | rfl | rfl
      · exact ⟨.int 9, rfl, 9, rfl, .inl rfl⟩
      · exact ⟨.int 9, rfl, 9, rfl, .inl rfl⟩
      · exact ⟨.int 40, rfl, 40, rfl, .inr (.inl rfl)⟩
      · exact ⟨.int 1000000000, rfl, 1000000000, rfl, .inr (.inr rfl)⟩
    subst e
    have hs0 : 9 ≤ s ∧ s ≤ 1000000000 := by omega
    have zs : Sz 30 s := sz_lt (by omega) (by omega)
    refine s_asgV (EV.imp (ei_I0 (ev_draw rfl (ed_I0 (ed_mul ed_int (ed_var rfl) (show Sz 2 2 from by show (2 : Nat) < 2 ^ 2; decide) zs (by decide)) ed_int) (by omega) (by omega)) (ei_of (ed_var rfl))) fun d ⟨z, e, i, j, ⟨hi0, hi1⟩, hj, ez⟩ => show IsI (fun t => -s ≤ t ∧ t ≤ s) d from ⟨z, e, by omega, by omega⟩) fun d ⟨t, e, ht0, ht1⟩ => ?_
    subst e
    refine s_asgV (φ := IsI fun b => b ≠ 0 ∧ Sz 30 b) (EV.imp (ei_I (ei_I0 (ei_of ed_int) (ev_draw rfl (ed_var rfl) (by omega) (by omega))) (ei_I0 (ei_of ed_int) (ei_I (ei_of ed_int) (ev_draw rfl ed_int (by decide) (by decide)) fun i j hi hj => ?_)) fun i j hi hj => ?_) fun d ⟨b, e, i, j, hi, hj, eb⟩ => ⟨b, e, ?_⟩) fun d ⟨b, e, hb0, hb1⟩ => ?_
    · exact sz_ok (n := 2) (m := 2) (by rw [hi]; show (2 : Nat) < 2 ^ 2; decide) (sz_lt hj.1 (by omega)) (by decide)
    · obtain ⟨i1, i2, h1, ⟨h2, h3⟩, h4⟩ := hi
      obtain ⟨j1, j2, g1, ⟨g2, g3, g4, ⟨g5, g6⟩, g7⟩, g8⟩ := hj
      refine sz_ok (n := 60) (m := 60) (sz_lt (by omega) (by omega)) ?_ (by decide)
      unfold Sz
      have : (2 : Nat) ^ 60 = 1152921504606846976 := rfl
      subst g4
      omega
    · obtain ⟨i1, i2, h1, ⟨h2, h3⟩, h4⟩ := hi
      obtain ⟨j1, j2, g1, ⟨g2, g3, g4, ⟨g5, g6⟩, g7⟩, g8⟩ := hj
      have hj : j = 1 ∨ j = -1 := by
        subst g4
        omega
      have : (2 : Nat) ^ 30 = 1073741824 := rfl
      unfold Sz
      rcases hj with rfl | rfl
      · rw [Int.mul_one] at eb
        omega
      · omega
    subst e
    have zt : Sz 60 t := by
      unfold Sz
      have : (2 : Nat) ^ 60 = 1152921504606846976 := rfl
      omega
    have fin : ∀ (t : Int) (D' : Ends), D'.nx = My.Turn c (fun k es => ∃ (l : List (Int × Int)) (s3 s4 s5 s6 : Sv), es = [.dat (.lst (ns.map Dt.int)), .hand ad, .own a2 (l.map rowD), s3, s4, s5, s6, .no, .no, .no, .no, .no, .no, .no, .no] ∧ l.length = k ∧ ∀ p ∈ l, Num p.1 p.2) (k + 1) → Sz 60 t → Cont c (tDrop (tBM c.K "list" rAppend (tVar 2) (tCons (tTup (tCons (tVar 5) (tCons (tVar 6) tNil))) tNil)) D')
        [.dat (.lst (ns.map Dt.int)), .hand ad, .own a2 (l.map rowD), .dat (.int k), .dat (.int s), .dat (.int t), .dat (.int b), .no, .no, .no, .no, .no, .no, .no, .no] := fun t D' hD zt => by
      refine c_app (n := 2) rfl (ed_tup (es_cons (ed_var rfl) (es_cons (ed_var rfl) es_nil)) (by show 2 ≤ 100000; decide)) (by rw [List.length_map]; omega) fun d e => c_turn' hD ⟨l ++ [(t, b)], .dat (.int k), .dat (.int s), .dat (.int t), .dat (.int b), ?_, ?_, ?_⟩
      · rw [e, List.map_append] <;> rfl
      · rw [List.length_append, hlen] <;> rfl
      · intro p hp
        rcases List.mem_append.mp hp with hp | hp
        · exact hnum p hp
        · rw [List.mem_singleton.mp hp]
          exact ⟨zt, hb0, hb1⟩
    refine s_ifV (eb_andV (b := decide (40 < s)) (eb_test (ed_B0 (ed_var rfl) ed_int)) fun _ => eb_eqV (ev_draw rfl ed_int (by decide) (by decide)) (ei_of ed_int)) (fun h => ?_) fun _ => ?_
    · have h := of_decide_eq_true (h rfl)
      refine c_asgV (φ := IsI fun t => Sz 60 t) (EV.imp (ei_I0 (ei_of (ed_mul (ed_var rfl) (ed_I ed_int ed_int ⟨by decide, by decide, by decide⟩) zt (show Sz 30 (10 ^ (9 : Int).toNat) from by show (1000000000 : Nat) < 2 ^ 30; decide) (by decide))) (ev_draw rfl (ed_I ed_int ed_int ⟨by decide, by decide, by decide⟩) (by decide) (by decide))) fun d ⟨z, e, i, j, hi, ⟨hj0, hj1⟩, ez⟩ => ⟨z, e, ?_⟩) fun d ⟨t', e, zt'⟩ => ?_
      · unfold Sz
        have p9' : (10 : Int) ^ (9 : Int).toNat = 1000000000 := rfl
        have : (2 : Nat) ^ 60 = 1152921504606846976 := rfl
        rw [p9'] at hi hj1
        omega
      · subst e
        exact fin t' _ rfl zt'
    · exact fin t _ rfl zt
  · subst e
    have hlen : l.length = i.toNat := hlen
    have hl0 : l ≠ [] := fun z => by rw [z] at hlen; have : (0 : Nat) = i.toNat := hlen; omega
    have hl8 : l.length ≤ 8 := by omega
    refine c_give (n := 2) rfl hm ?_
    refine c_seq (c_rng1 (i := (l.map rowD).length) (I := fun _ es => ∃ (s3 s4 s5 s6 s7 s8 s9 s10 : Sv), es = [.dat (.lst (ns.map Dt.int)), .hand ad, .dat (.lst (l.map rowD)), s3, s4, s5, s6, s7, s8, s9, s10, .no, .no, .no, .no]) (ed_len (ed_var rfl) rfl) (by rw [List.length_map]; omega) ⟨_, _, _, _, _, _, _, _, rfl⟩ (fun k es hk ⟨s3, s4, s5, s6, s7, s8, s9, s10, e⟩ => ?_) fun es ⟨s3, s4, s5, s6, s7, s8, s9, s10, e⟩ => ?_)
    · subst e
      obtain ⟨d1, m1, e1⟩ := atI_ex (l := l.map rowD) (i := k) (by omega) hk
      obtain ⟨d2, m2, e2⟩ := atI_ex (l := l.map rowD) (i := (k : Int) - 1) (by omega) (by omega)
      obtain ⟨p1, q1, rfl⟩ := List.mem_map.mp m1
      obtain ⟨p2, q2, rfl⟩ := List.mem_map.mp m2
      refine s_unpack (x := .int p1.1) (y := .int p1.2) (ed_ixL (ed_var rfl) (ed_var rfl) e1) ?_
      refine s_unpack (x := .int p2.1) (y := .int p2.2) (ed_ixL (ed_var rfl) (ed_I0 (ed_var rfl) ed_int) e2) ?_
      refine c_if (b := false) (eb_notT (ed_pairs (ed_var rfl) (ed_var rfl) (ed_var rfl) (ed_var rfl) (hnum _ q1) (hnum _ q2))) (fun z => by cases z) fun _ => c_next ?_
      exact c_turn' rfl ⟨_, _, _, _, _, _, _, _, rfl⟩
    subst e
    refine s_when (b := false) (eb_notT (ed_many (ed_var rfl) hl0 hl8 hnum)) (fun z => by cases z) fun _ => ?_
    obtain ⟨p, l', rfl⟩ : ∃ p l', l = p :: l' := by
      cases l with
      | nil => exact (hl0 rfl).elim
      | cons p l' => exact ⟨p, l', rfl⟩
    have hp := hnum p List.mem_cons_self
    have r0 : ∀ {es : List Sv}, es[2]? = some (.dat (.lst ((p :: l').map rowD))) → ED c (tOp (rIx c.K) (tVar 2) (tC (.int 0))) es (.tup [.int p.1, .int p.2]) := fun h => items_at (i := 0) rfl (ed_var h) rfl
    have n1 : Num p.1 1 := ⟨hp.1, by decide, show (1 : Nat) < 2 ^ 30 by decide⟩
    refine s_when (b := false) (eb_or2 (EBd.is (eb_test (ed_ne (x := .tup [.tup [.int 0, .int 1], .tup [.int 1, .int 1], .tup [.int 1, .int 2]]) (y := .tup [.tup [.int 0, .int 1], .tup [.int 1, .int 1], .tup [.int 1, .int 2]])
      (ed_tup (es_cons (ed_c fun P => .tup (zZ P) (.cons (.int 0) (.cons (.int 1) .nil))) (es_cons (ed_c fun P => .tup (zO P) (.cons (.int 1) (.cons (.int 1) .nil))) (es_cons (ed_c fun P => .tup (zH P) (.cons (.int 1) (.cons (.int 2) .nil))) es_nil))) (by show 3 ≤ 100000; decide))
      (ed_tup (es_cons (ed_tup (es_cons ed_int (es_cons ed_int es_nil)) (by show 2 ≤ 100000; decide)) (es_cons (ed_tup (es_cons ed_int (es_cons ed_int es_nil)) (by show 2 ≤ 100000; decide)) (es_cons (ed_tup (es_cons ed_int (es_cons ed_int es_nil)) (by show 2 ≤ 100000; decide)) es_nil))) (by show 3 ≤ 100000; decide)) rfl rfl)) rfl)
      (EBd.is (eb_test (ed_ne (x := .tup [.int p.1, .int 1]) (y := .tup [.int p.1, .int 1]) (ed_make1 (ed_ixT (r0 rfl) ed_int rfl) n1) (ed_tup (es_cons (ed_ixT (r0 rfl) ed_int rfl) (es_cons ed_int es_nil)) (by show 2 ≤ 100000; decide)) rfl rfl)) (by
        show (!((p.1 == p.1) && (((1 : Int) == 1) && true))) = false
        rw [beq_self_eq_true] <;> rfl))) (fun z => by cases z) fun _ => ?_
    refine s_unpack (r0 rfl) ?_
    refine s_asgV (φ := Odd) (ev_ixT (l := [.bl true, .non, .str "2", .tup [.int 1, .int 1], .lst [.int 3]]) (ed_tup (es_cons ed_bl (es_cons ed_non (es_cons ed_str (es_cons (ed_tup (es_cons ed_int (es_cons ed_int es_nil)) (by show 2 ≤ 100000; decide)) (es_cons (ed_lst hm (es_cons ed_int es_nil) (by show 1 ≤ 100000; decide)) es_nil))))) (by show 5 ≤ 100000; decide)) (ev_draw rfl ed_int (by decide) (by decide)) fun z ⟨z0, z1⟩ => ?_) fun odd ho => ?_
    · have : z = 0 ∨ z = 1 ∨ z = 2 ∨ z = 3 ∨ z = 4 := by omega
      rcases this with rfl | rfl | rfl | rfl | rfl
      · exact ⟨_, rfl, .inl rfl⟩
      · exact ⟨_, rfl, .inr (.inl rfl)⟩
      · exact ⟨_, rfl, .inr (.inr (.inl rfl))⟩
      · exact ⟨_, rfl, .inr (.inr (.inr (.inl rfl)))⟩
      · exact ⟨_, rfl, .inr (.inr (.inr (.inr rfl)))⟩
    obtain ⟨ok, os, oi⟩ := ho.kin
    have s1 := szD_int hp.1 (by decide)
    have s2 := szD_int hp.2.2 (by decide)
    have s0 : SzD (.int 0) := fun a e => by cases e; show (0 : Nat) < 2 ^ 5000; exact Nat.pow_pos (by decide)
    have sm : SzD (.int (-1)) := szD_int (k := 30) (show (1 : Nat) < 2 ^ 30 by decide) (by decide)
    have so : ∀ s : String, PyData.strOk (Str.ofString s) = true := ok_of
    refine s_when (b := false) (eb_or2 (eb_word (ed_refused (ed_var rfl) (ed_var rfl) ok rfl os s2) (ho.top _) (so _)) (eb_or2 (eb_word (ed_refused (ed_var rfl) ed_int ok rfl os s0) (ho.top _) (so _)) (eb_word (ed_refused (ed_var rfl) (ed_var rfl) rfl ok s1 os) (ho.bottom _) (so _)))) (fun z => by cases z) fun _ => ?_
    refine s_when (b := false) (eb_or2 (eb_word (ed_refused (ed_var rfl) ed_int rfl rfl s1 s0) rfl (so _)) (eb_word (ed_refused (ed_var rfl) (ed_neg ed_int) rfl rfl s1 sm) rfl (so _))) (fun z => by cases z) fun _ => ?_
    refine s_asg (ed_make (ed_var rfl) (ed_var rfl) hp) ?_
    have hg := hp.sz
    generalize Rat.divInt p.1 p.2 = g at hg ⊢
    have kr : Kins (ratD g) := kins_tup fun y hy => by
      rcases List.mem_cons.mp hy with rfl | hy
      · rfl
      · rw [List.mem_singleton.mp hy]; rfl
    refine s_when (b := false) (eb_or2 (ed_notBd (ed_isratio (ed_var rfl) kr) (ratio_of g)) (eb_or2 (ed_notBd (ed_isratio (ed_lst hm (es_cons (ix0 rfl) (es_cons (ix1 rfl) es_nil)) (by show 2 ≤ 100000; decide)) (kins_of rfl rfl)) rfl) (ed_notBd (ed_isratio (ed_var rfl) (kins_of rfl rfl)) rfl))) (fun z => by cases z) fun _ => ?_
    have dp := den_pos g
    have k2 : ∀ {a b : Int}, Kins (.tup [.int a, .int b]) := kins_tup fun y hy => by
      rcases List.mem_cons.mp hy with rfl | hy
      · rfl
      · rw [List.mem_singleton.mp hy]; rfl
    refine s_asgO (ρ := fun r => r = [.tup [.int (g.num * 2), .int (g.den * 2)], .tup [.int g.num, .int (-g.den)], .tup [.int g.num, .int 0], .tup [.int g.num], .tup ([.int g.num, .int g.den] ++ [.int 1]), .tup [.int g.num, .bl true], .tup [.bl false, .int 1], .non, .str "1", .tup [.int 0, .int 2]])
      (eo_lst (es_cons (ed_tup (es_cons (ed_mul (ix0 rfl) ed_int hg.num (show Sz 2 2 from by show (2 : Nat) < 2 ^ 2; decide) (by decide)) (es_cons (ed_mul (ix1 rfl) ed_int hg.den (show Sz 2 2 from by show (2 : Nat) < 2 ^ 2; decide) (by decide)) es_nil)) (by show 2 ≤ 100000; decide))
        (es_cons (ed_tup (es_cons (ix0 rfl) (es_cons (ed_neg (ix1 rfl)) es_nil)) (by show 2 ≤ 100000; decide))
        (es_cons (ed_tup (es_cons (ix0 rfl) (es_cons ed_int es_nil)) (by show 2 ≤ 100000; decide))
        (es_cons (ed_tup (es_cons (ix0 rfl) es_nil) (by show 1 ≤ 100000; decide))
        (es_cons (ed_catT (ed_var rfl) (ed_tup (es_cons ed_int es_nil) (by show 1 ≤ 100000; decide)) (by simp) (by simp) (by show 3 ≤ 100000; decide))
        (es_cons (ed_tup (es_cons (ix0 rfl) (es_cons ed_bl es_nil)) (by show 2 ≤ 100000; decide))
        (es_cons (ed_tup (es_cons ed_bl (es_cons ed_int es_nil)) (by show 2 ≤ 100000; decide))
        (es_cons ed_non (es_cons ed_str (es_cons (ed_tup (es_cons ed_int (es_cons ed_int es_nil)) (by show 2 ≤ 100000; decide)) es_nil)))))))))) fun l e => by rw [e]; show 10 ≤ 100000; decide) fun a3 ds e => ?_
    subst e
    refine c_give (n := 13) rfl hm ?_
    refine s_for (I := fun _ es => ∃ (s : Sv), es = [.dat (.lst (ns.map Dt.int)), .hand ad, .dat (.lst ((p :: l').map rowD)), s3, s4, .dat (.int p.1), .dat (.int p.2), s7, s8, s9, s10, .dat odd, .dat (ratD g), .dat (.lst [.tup [.int (g.num * 2), .int (g.den * 2)], .tup [.int g.num, .int (-g.den)], .tup [.int g.num, .int 0], .tup [.int g.num], .tup ([.int g.num, .int g.den] ++ [.int 1]), .tup [.int g.num, .bl true], .tup [.bl false, .int 1], .non, .str "1", .tup [.int 0, .int 2]]), s])
      (f := fun y es => es.set 14 (.dat y)) (wi_seq (ed_var rfl) rfl) ⟨_, rfl⟩ (fun P y _ => tg_name) (fun P1 L k y es e ⟨s, h2⟩ => ?_) fun es ⟨s, h2⟩ => ?_
    · subst h2
      have hy : Kins y ∧ ratioB y = false := by
        have m := List.mem_of_getElem? e
        simp only [List.mem_cons, List.not_mem_nil, or_false] at m
        rcases m with rfl | rfl | rfl | rfl | rfl | rfl | rfl | rfl | rfl | rfl
        · exact ⟨k2, ratio_twice g⟩
        · exact ⟨k2, ratio_low g⟩
        · exact ⟨k2, rfl⟩
        · exact ⟨kins_tup fun y hy => by rw [List.mem_singleton.mp hy]; rfl, rfl⟩
        · refine ⟨kins_tup fun y hy => ?_, rfl⟩
          rcases List.mem_cons.mp hy with rfl | hy
          · rfl
          · rcases List.mem_cons.mp hy with rfl | hy
            · rfl
            · rw [List.mem_singleton.mp hy]; rfl
        · refine ⟨kins_tup fun y hy => ?_, rfl⟩
          rcases List.mem_cons.mp hy with rfl | hy
          · rfl
          · rw [List.mem_singleton.mp hy]; rfl
        · refine ⟨kins_tup fun y hy => ?_, rfl⟩
          rcases List.mem_cons.mp hy with rfl | hy
          · rfl
          · rw [List.mem_singleton.mp hy]; rfl
        · exact ⟨kins_of rfl rfl, rfl⟩
        · exact ⟨kins_of rfl rfl, rfl⟩
        · exact ⟨k2, rfl⟩
      exact c_if (b := false) (ed_notBd (ed_isratio (ed_var rfl) hy.1) hy.2) (fun z => by cases z) fun _ => c_next (c_turn' rfl ⟨_, rfl⟩)
    subst h2
    have li : ∀ {i : Int}, Lim (.int i) := .inr ⟨_, rfl⟩
    have w1 : wholeB (.int p.1) (.int p.1) .non = true := by
      show (decide (p.1 ≤ p.1) && true) = true
      rw [decide_eq_true (by omega)] <;> rfl
    have w2 : wholeB (.int p.1) (.int (p.1 + 1)) .non = false := by
      show (decide (p.1 + 1 ≤ p.1) && true) = false
      rw [decide_eq_false (by omega)] <;> rfl
    have w3 : wholeB (.int p.1) .non (.int p.1) = true := by
      show (true && decide (p.1 ≤ p.1)) = true
      rw [decide_eq_true (by omega)] <;> rfl
    have w4 : wholeB (.int p.1) .non (.int (p.1 - 1)) = false := by
      show (true && decide (p.1 ≤ p.1 - 1)) = false
      rw [decide_eq_false (by omega)] <;> rfl
    have sq : 0 ≤ p.2 * p.2 := by
      rcases Int.le_total 0 p.2 with h | h
      · exact Int.mul_nonneg h h
      · exact Int.mul_nonneg_of_nonpos_of_nonpos h h
    have w5 : wholeB (.int p.1) (.int (p.1 - p.2 * p.2)) (.int p.1) = true := by
      show (decide (p.1 - p.2 * p.2 ≤ p.1) && decide (p.1 ≤ p.1)) = true
      rw [decide_eq_true (by omega), decide_eq_true (by omega)] <;> rfl
    refine s_when (b := false) (eb_or2 (ed_notBd (ed_whole0 (ed_var rfl) ok) oi) (eb_or2 (ed_notBd (ed_whole0 (x := .int p.1) (ed_var rfl) rfl) rfl) (eb_or2 (ed_notBd (ed_whole1 (ed_var rfl) (ed_var rfl) rfl li) w1) (ed_notBd (ed_whole1 (ed_var rfl) (ed_I0 (ed_var rfl) ed_int) rfl li) w2)))) (fun z => by cases z) fun _ => ?_
    refine c_ret (ED.is (ed_and (ed_isBd (ed_whole2 (ed_var rfl) ed_non (ed_var rfl) rfl (.inl rfl) li) w3) fun _ => ed_and (ed_isBd (ed_whole2 (ed_var rfl) ed_non (ed_I0 (ed_var rfl) ed_int) rfl (.inl rfl) li) w4) fun _ => ed_isBd (ed_wholeK (ed_var rfl) (ed_var rfl) (ed_I0 (ed_var rfl) (ed_mul (ed_var rfl) (ed_var rfl) hp.2.2 hp.2.2 (by decide))) rfl li li) w5) rfl) k
end
end K01
set_option Elab.async false
set_option linter.all false
set_option maxRecDepth 100000
set_option maxHeartbeats 4000000
namespace K01
open PySem PySem.Spec PyProof.Rows L2 My
local macro_rules | `(tactic| walk_at "ed") => `(tactic| first
  | exact ed_int | exact ed_bl | exact ed_str | exact ed_non
  | exact ed_var rfl
  | (apply ed_I0; (focus walk_at "ed"); (focus walk_at "ed"))
  | (apply ed_B0; (focus walk_at "ed"); (focus walk_at "ed"))
  | (apply ed_neg; (focus walk_at "ed"))
  | (apply ed_ixT; (focus walk_at "ed"); (focus walk_at "ed"); (focus rfl))
  | (apply ed_ixL; (focus walk_at "ed"); (focus walk_at "ed"); (focus rfl))
  | (apply ed_ixO; (focus rfl); (focus walk_at "ed"); (focus rfl))
  | (apply ed_len; (focus walk_at "ed"); (focus rfl))
  | (apply ed_lenO; (focus rfl))
  | (apply ed_tup; (focus walk_at "ed"); (focus (simp only [List.length_cons, List.length_nil]; decide)))
  | (apply ed_eq; (focus walk_at "ed"); (focus walk_at "ed"); (focus rfl); (focus rfl))
  | (apply ed_ne; (focus walk_at "ed"); (focus walk_at "ed"); (focus rfl); (focus rfl))
  | (apply ed_isN; (focus walk_at "ed"))
  | (apply ed_notN; (focus walk_at "ed"))
  | (apply ed_isB; (focus walk_at "ed"); (focus walk_at "ed"))
  | (apply ed_notB; (focus walk_at "ed"); (focus walk_at "ed"))
  | (apply ed_isi; (focus walk_at "ed"); (focus first | rfl | assumption); (focus decide +kernel))
  | (apply ed_isi2; (focus walk_at "ed"); (focus first | rfl | assumption); (focus decide +kernel); (focus decide +kernel))
  | (apply ed_not; (focus walk_at "ed"))
  | (apply ed_int1; (focus walk_at "ed"))
  | (apply ed_abs; (focus walk_at "ed"))
  | (apply ed_gcd; (focus walk_at "ed"); (focus walk_at "ed"))
  | exact es_nil
  | (apply es_cons; (focus walk_at "ed"); (focus walk_at "ed"))
  | (apply eb_test; (focus walk_at "ed"))
  | (apply eb_B; (focus walk_at "ed"))
  | (apply eb_not; (focus walk_at "ed")))
section
variable {P : Program} {w : World} {K : PySem.W.Frag} {mg : Str → Option Value} {base : Heap} {f : Addr} {fd : FuncData}
abbrev FnP (K : PySem.W.Frag) (x : Str) (st : Stmt) (dvs : List V) (f : Addr) (fd : FuncData) : Prop := FunD K x x (defArgs st) (defBody st) (defScope st) dvs [] f fd
theorem ok_is_whole (T : Txt P w K mg base)  (F : FnP K "is_whole" s_is_whole [.non, .non] f fd) : FnOk P w K mg base (L2.CX P w) l_is_whole f fd ["thing", "low", "high"] (sp_is_whole K) :=
  fnD (n := 0) F sc_is_whole rfl (fun ds d h => by obtain ⟨x, lo, hi, rfl, hx, hlo, hhi, rfl⟩ := h; rfl) (by intro f cdv A outer s H E hr; apply d_is_whole <;> assumption) (fun P0 H0 D ds h k => by obtain ⟨_, x, lo, hi, rfl, hx, hlo, hhi, rfl⟩ := h; exact sem_is_whole hx hlo hhi (k.imp fun d hd => ⟨x, lo, hi, rfl, hx, hlo, hhi, hd⟩))
theorem ok_is_ratio (T : Txt P w K mg base) (C_is_whole_1 : Fd P w K mg base l_is_whole "is_whole" ["thing", "low", "high"] [.non, .non] (sp_is_whole K)) (C_is_whole_2 : Fd P w K mg base l_is_whole "is_whole" ["thing", "low", "high"] [.non] (sp_is_whole K)) (F : FnP K "is_ratio" s_is_ratio [] f fd) : FnOk P w K mg base (L2.CX P w) l_is_ratio f fd ["thing"] (sp_is_ratio K) :=
  fnD (n := 2) F sc_is_ratio rfl (fun ds d h => by obtain ⟨x, rfl, hx, rfl⟩ := h; rfl) (by intro f cdv A outer s H E hr; apply d_is_ratio <;> assumption) (fun P0 H0 D ds h k => by obtain ⟨_, x, rfl, hx, rfl⟩ := h; exact sem_is_ratio hx (k.imp fun d hd => ⟨x, rfl, hx, hd⟩))
theorem f_is_ratio (T : Txt P w K mg base) (C_is_whole_1 : Fd P w K mg base l_is_whole "is_whole" ["thing", "low", "high"] [.non, .non] (sp_is_whole K)) (C_is_whole_2 : Fd P w K mg base l_is_whole "is_whole" ["thing", "low", "high"] [.non] (sp_is_whole K)) (F : FnP K "is_ratio" s_is_ratio [] f fd) (hm : mg "is_ratio" = some (.ref f)) : Fd P w K mg base l_is_ratio "is_ratio" ["thing"] [] (sp_is_ratio K) :=
  fdN F hm (by apply ok_is_ratio <;> assumption) fun _ _ _ _ _ _ us hl => match us, hl with | [_], _ => rfl
theorem ok_u_lowest (T : Txt P w K mg base)  (F : FnP K "_lowest" s_u_lowest [] f fd) : FnOk P w K mg base (L2.CX P w) l_u_lowest f fd ["top", "bottom"] (sp_u_lowest K) :=
  fnD (n := 1) F sc_u_lowest rfl (fun ds d h => by obtain ⟨a, b, rfl, h0, h1, h2, rfl⟩ := h; rfl) (by intro f cdv A outer s H E hr; apply d_u_lowest <;> assumption) (fun P0 H0 D ds h k => by obtain ⟨_, a, b, rfl, h0, h1, h2, rfl⟩ := h; exact sem_lowest h0 h1 h2 (k.imp fun d hd => ⟨a, b, rfl, h0, h1, h2, hd⟩))
theorem f_u_lowest (T : Txt P w K mg base)  (F : FnP K "_lowest" s_u_lowest [] f fd) (hm : mg "_lowest" = some (.ref f)) : Fd P w K mg base l_u_lowest "_lowest" ["top", "bottom"] [] (sp_u_lowest K) :=
  fdN F hm (by apply ok_u_lowest <;> assumption) fun _ _ _ _ _ _ us hl => match us, hl with | [_, _], _ => rfl
theorem ok_make_ratio (T : Txt P w K mg base) (C_is_whole_1 : Fd P w K mg base l_is_whole "is_whole" ["thing", "low", "high"] [.non, .non] (sp_is_whole K)) (C_u_lowest : Fd P w K mg base l_u_lowest "_lowest" ["top", "bottom"] [] (sp_u_lowest K)) (F : FnP K "make_ratio" s_make_ratio [.int 1] f fd) : FnOk P w K mg base (L2.CX P w) l_make_ratio f fd ["top", "bottom"] (sp_make_ratio K) :=
  fnX (n := 0) F sc_make_ratio rfl (fun ds d h => by obtain ⟨x, y, rfl, hx, hy, sx, sy, rfl⟩ := h; rfl) (by intro f cdv A outer s H E hr; apply d_make_ratio <;> assumption) (fun P0 H0 D E ds h k kx => by obtain ⟨_, x, y, rfl, hx, hy, sx, sy, rfl⟩ := h; exact sem_make_ratio hx hy sx sy (k.imp fun d hd => ⟨x, y, rfl, hx, hy, sx, sy, hd.symm⟩) fun dx P H σ es C fs fd hr => kx dx P H σ es C fs fd ⟨x, y, rfl, hx, hy, sx, sy, hr⟩)
theorem ok_plus (T : Txt P w K mg base) (C_u_lowest : Fd P w K mg base l_u_lowest "_lowest" ["top", "bottom"] [] (sp_u_lowest K)) (F : FnP K "plus" s_plus [] f fd) : FnOk P w K mg base (L2.CX P w) l_plus f fd ["one", "other"] (sp_plus K) :=
  fnD (n := 0) F sc_plus rfl (fun ds d h => by obtain ⟨p, q, rfl, hp, hq, rfl⟩ := h; rfl) (by intro f cdv A outer s H E hr; apply d_plus <;> assumption) (fun P0 H0 D ds h k => by obtain ⟨_, p, q, rfl, hp, hq, rfl⟩ := h; exact sem_plus hp hq (k.imp fun d hd => ⟨p, q, rfl, hp, hq, hd⟩))
theorem f_plus (T : Txt P w K mg base) (C_u_lowest : Fd P w K mg base l_u_lowest "_lowest" ["top", "bottom"] [] (sp_u_lowest K)) (F : FnP K "plus" s_plus [] f fd) (hm : mg "plus" = some (.ref f)) : Fd P w K mg base l_plus "plus" ["one", "other"] [] (sp_plus K) :=
  fdN F hm (by apply ok_plus <;> assumption) fun _ _ _ _ _ _ us hl => match us, hl with | [_, _], _ => rfl
theorem ok_minus (T : Txt P w K mg base) (C_u_lowest : Fd P w K mg base l_u_lowest "_lowest" ["top", "bottom"] [] (sp_u_lowest K)) (F : FnP K "minus" s_minus [] f fd) : FnOk P w K mg base (L2.CX P w) l_minus f fd ["one", "other"] (sp_minus K) :=
  fnD (n := 0) F sc_minus rfl (fun ds d h => by obtain ⟨p, q, rfl, hp, hq, rfl⟩ := h; rfl) (by intro f cdv A outer s H E hr; apply d_minus <;> assumption) (fun P0 H0 D ds h k => by obtain ⟨_, p, q, rfl, hp, hq, rfl⟩ := h; exact sem_minus hp hq (k.imp fun d hd => ⟨p, q, rfl, hp, hq, hd⟩))
theorem f_minus (T : Txt P w K mg base) (C_u_lowest : Fd P w K mg base l_u_lowest "_lowest" ["top", "bottom"] [] (sp_u_lowest K)) (F : FnP K "minus" s_minus [] f fd) (hm : mg "minus" = some (.ref f)) : Fd P w K mg base l_minus "minus" ["one", "other"] [] (sp_minus K) :=
  fdN F hm (by apply ok_minus <;> assumption) fun _ _ _ _ _ _ us hl => match us, hl with | [_, _], _ => rfl
theorem ok_times (T : Txt P w K mg base) (C_u_lowest : Fd P w K mg base l_u_lowest "_lowest" ["top", "bottom"] [] (sp_u_lowest K)) (F : FnP K "times" s_times [] f fd) : FnOk P w K mg base (L2.CX P w) l_times f fd ["one", "other"] (sp_times K) :=
  fnD (n := 0) F sc_times rfl (fun ds d h => by obtain ⟨p, q, rfl, hp, hq, rfl⟩ := h; rfl) (by intro f cdv A outer s H E hr; apply d_times <;> assumption) (fun P0 H0 D ds h k => by obtain ⟨_, p, q, rfl, hp, hq, rfl⟩ := h; exact sem_times hp hq (k.imp fun d hd => ⟨p, q, rfl, hp, hq, hd⟩))
theorem f_times (T : Txt P w K mg base) (C_u_lowest : Fd P w K mg base l_u_lowest "_lowest" ["top", "bottom"] [] (sp_u_lowest K)) (F : FnP K "times" s_times [] f fd) (hm : mg "times" = some (.ref f)) : Fd P w K mg base l_times "times" ["one", "other"] [] (sp_times K) :=
  fdN F hm (by apply ok_times <;> assumption) fun _ _ _ _ _ _ us hl => match us, hl with | [_, _], _ => rfl
theorem ok_over (T : Txt P w K mg base) (C_u_lowest : Fd P w K mg base l_u_lowest "_lowest" ["top", "bottom"] [] (sp_u_lowest K)) (F : FnP K "over" s_over [] f fd) : FnOk P w K mg base (L2.CX P w) l_over f fd ["one", "other"] (sp_over K) :=
  fnX (n := 0) F sc_over rfl (fun ds d h => by obtain ⟨p, q, rfl, hp, hq, rfl⟩ := h; rfl) (by intro f cdv A outer s H E hr; apply d_over <;> assumption) (fun P0 H0 D E ds h k kx => by obtain ⟨_, p, q, rfl, hp, hq, rfl⟩ := h; exact sem_over hp hq (k.imp fun d hd => ⟨p, q, rfl, hp, hq, hd.symm⟩) fun dx P H σ es C fs fd hr => kx dx P H σ es C fs fd ⟨p, q, rfl, hp, hq, hr⟩)
theorem f_over (T : Txt P w K mg base) (C_u_lowest : Fd P w K mg base l_u_lowest "_lowest" ["top", "bottom"] [] (sp_u_lowest K)) (F : FnP K "over" s_over [] f fd) (hm : mg "over" = some (.ref f)) : Fd P w K mg base l_over "over" ["one", "other"] [] (sp_over K) :=
  fdN F hm (by apply ok_over <;> assumption) fun _ _ _ _ _ _ us hl => match us, hl with | [_, _], _ => rfl
theorem ok_negative (T : Txt P w K mg base)  (F : FnP K "negative" s_negative [] f fd) : FnOk P w K mg base (L2.CX P w) l_negative f fd ["one"] (sp_negative K) :=
  fnD (n := 0) F sc_negative rfl (fun ds d h => by obtain ⟨p, rfl, rfl⟩ := h; rfl) (by intro f cdv A outer s H E hr; apply d_negative <;> assumption) (fun P0 H0 D ds h k => by obtain ⟨_, p, rfl, rfl⟩ := h; exact sem_negative (k.imp fun d hd => ⟨p, rfl, hd⟩))
theorem f_negative (T : Txt P w K mg base)  (F : FnP K "negative" s_negative [] f fd) (hm : mg "negative" = some (.ref f)) : Fd P w K mg base l_negative "negative" ["one"] [] (sp_negative K) :=
  fdN F hm (by apply ok_negative <;> assumption) fun _ _ _ _ _ _ us hl => match us, hl with | [_], _ => rfl
theorem ok_compare (T : Txt P w K mg base)  (F : FnP K "compare" s_compare [] f fd) : FnOk P w K mg base (L2.CX P w) l_compare f fd ["one", "other"] (sp_compare K) :=
  fnD (n := 2) F sc_compare rfl (fun ds d h => by obtain ⟨p, q, rfl, hp, hq, rfl⟩ := h; rfl) (by intro f cdv A outer s H E hr; apply d_compare <;> assumption) (fun P0 H0 D ds h k => by obtain ⟨_, p, q, rfl, hp, hq, rfl⟩ := h; exact sem_compare hp hq (k.imp fun d hd => ⟨p, q, rfl, hp, hq, hd⟩))
theorem f_compare (T : Txt P w K mg base)  (F : FnP K "compare" s_compare [] f fd) (hm : mg "compare" = some (.ref f)) : Fd P w K mg base l_compare "compare" ["one", "other"] [] (sp_compare K) :=
  fdN F hm (by apply ok_compare <;> assumption) fun _ _ _ _ _ _ us hl => match us, hl with | [_, _], _ => rfl
theorem ok_sum_of (T : Txt P w K mg base) (C_plus : Fd P w K mg base l_plus "plus" ["one", "other"] [] (sp_plus K)) (F : FnP K "sum_of" s_sum_of [] f fd) : FnOk P w K mg base (L2.CX P w) l_sum_of f fd ["ratios"] (sp_sum_of K) :=
  fnD (n := 2) F sc_sum_of rfl (fun ds d h => by obtain ⟨x, l, rfl, hx, hl, hs, rfl⟩ := h; rfl) (by intro f cdv A outer s H E hr; apply d_sum_of <;> assumption) (fun P0 H0 D ds h k => by obtain ⟨_, x, l, rfl, hx, hl, hs, rfl⟩ := h; exact sem_sum_of T.z_ZERO hx hl hs (k.imp fun d hd => ⟨x, l, rfl, hx, hl, hs, hd⟩))
theorem f_sum_of (T : Txt P w K mg base) (C_plus : Fd P w K mg base l_plus "plus" ["one", "other"] [] (sp_plus K)) (F : FnP K "sum_of" s_sum_of [] f fd) (hm : mg "sum_of" = some (.ref f)) : Fd P w K mg base l_sum_of "sum_of" ["ratios"] [] (sp_sum_of K) :=
  fdN F hm (by apply ok_sum_of <;> assumption) fun _ _ _ _ _ _ us hl => match us, hl with | [_], _ => rfl
theorem ok_least_of (T : Txt P w K mg base) (C_compare : Fd P w K mg base l_compare "compare" ["one", "other"] [] (sp_compare K)) (F : FnP K "least_of" s_least_of [] f fd) : FnOk P w K mg base (L2.CX P w) l_least_of f fd ["ratios"] (sp_least_of K) :=
  fnD (n := 2) F sc_least_of rfl (fun ds d h => by obtain ⟨x, p, l, rfl, hx, hs, hl, rfl⟩ := h; rfl) (by intro f cdv A outer s H E hr; apply d_least_of <;> assumption) (fun P0 H0 D ds h k => by obtain ⟨_, x, p, l, rfl, hx, hs, hl, rfl⟩ := h; exact sem_least_of hx hs (k.imp fun d hd => ⟨x, p, l, rfl, hx, hs, hl, hd⟩))
theorem f_least_of (T : Txt P w K mg base) (C_compare : Fd P w K mg base l_compare "compare" ["one", "other"] [] (sp_compare K)) (F : FnP K "least_of" s_least_of [] f fd) (hm : mg "least_of" = some (.ref f)) : Fd P w K mg base l_least_of "least_of" ["ratios"] [] (sp_least_of K) :=
  fdN F hm (by apply ok_least_of <;> assumption) fun _ _ _ _ _ _ us hl => match us, hl with | [_], _ => rfl
theorem ok_greatest_of (T : Txt P w K mg base) (C_compare : Fd P w K mg base l_compare "compare" ["one", "other"] [] (sp_compare K)) (F : FnP K "greatest_of" s_greatest_of [] f fd) : FnOk P w K mg base (L2.CX P w) l_greatest_of f fd ["ratios"] (sp_greatest_of K) :=
  fnD (n := 2) F sc_greatest_of rfl (fun ds d h => by obtain ⟨x, p, l, rfl, hx, hs, hl, rfl⟩ := h; rfl) (by intro f cdv A outer s H E hr; apply d_greatest_of <;> assumption) (fun P0 H0 D ds h k => by obtain ⟨_, x, p, l, rfl, hx, hs, hl, rfl⟩ := h; exact sem_greatest_of hx hs (k.imp fun d hd => ⟨x, p, l, rfl, hx, hs, hl, hd⟩))
theorem f_greatest_of (T : Txt P w K mg base) (C_compare : Fd P w K mg base l_compare "compare" ["one", "other"] [] (sp_compare K)) (F : FnP K "greatest_of" s_greatest_of [] f fd) (hm : mg "greatest_of" = some (.ref f)) : Fd P w K mg base l_greatest_of "greatest_of" ["ratios"] [] (sp_greatest_of K) :=
  fdN F hm (by apply ok_greatest_of <;> assumption) fun _ _ _ _ _ _ us hl => match us, hl with | [_], _ => rfl
theorem ok_floor_of (T : Txt P w K mg base)  (F : FnP K "floor_of" s_floor_of [] f fd) : FnOk P w K mg base (L2.CX P w) l_floor_of f fd ["one"] (sp_floor_of K) :=
  fnD (n := 0) F sc_floor_of rfl (fun ds d h => by obtain ⟨q, rfl, hq, rfl⟩ := h; rfl) (by intro f cdv A outer s H E hr; apply d_floor_of <;> assumption) (fun P0 H0 D ds h k => by obtain ⟨_, q, rfl, hq, rfl⟩ := h; exact sem_floor_of hq (k.imp fun d hd => ⟨q, rfl, hq, hd⟩))
theorem f_floor_of (T : Txt P w K mg base)  (F : FnP K "floor_of" s_floor_of [] f fd) (hm : mg "floor_of" = some (.ref f)) : Fd P w K mg base l_floor_of "floor_of" ["one"] [] (sp_floor_of K) :=
  fdN F hm (by apply ok_floor_of <;> assumption) fun _ _ _ _ _ _ us hl => match us, hl with | [_], _ => rfl
theorem ok_broken_of (T : Txt P w K mg base)  (F : FnP K "broken_of" s_broken_of [] f fd) : FnOk P w K mg base (L2.CX P w) l_broken_of f fd ["one"] (sp_broken_of K) :=
  fnD (n := 0) F sc_broken_of rfl (fun ds d h => by obtain ⟨q, rfl, rfl⟩ := h; rfl) (by intro f cdv A outer s H E hr; apply d_broken_of <;> assumption) (fun P0 H0 D ds h k => by obtain ⟨_, q, rfl, rfl⟩ := h; exact sem_broken_of (k.imp fun d hd => ⟨q, rfl, hd⟩))
theorem f_broken_of (T : Txt P w K mg base)  (F : FnP K "broken_of" s_broken_of [] f fd) (hm : mg "broken_of" = some (.ref f)) : Fd P w K mg base l_broken_of "broken_of" ["one"] [] (sp_broken_of K) :=
  fdN F hm (by apply ok_broken_of <;> assumption) fun _ _ _ _ _ _ us hl => match us, hl with | [_], _ => rfl
theorem ok_ratio_text (T : Txt P w K mg base)  (F : FnP K "ratio_text" s_ratio_text [] f fd) : FnOk P w K mg base (L2.CX P w) l_ratio_text f fd ["one"] (sp_ratio_text K) :=
  fnD (n := 0) F sc_ratio_text rfl (fun ds d h => by obtain ⟨q, rfl, hq, rfl⟩ := h; rfl) (by intro f cdv A outer s H E hr; apply d_ratio_text <;> assumption) (fun P0 H0 D ds h k => by obtain ⟨_, q, rfl, hq, rfl⟩ := h; exact sem_ratio_text hq (k.imp fun d hd => ⟨q, rfl, hq, hd⟩))
theorem f_ratio_text (T : Txt P w K mg base)  (F : FnP K "ratio_text" s_ratio_text [] f fd) (hm : mg "ratio_text" = some (.ref f)) : Fd P w K mg base l_ratio_text "ratio_text" ["one"] [] (sp_ratio_text K) :=
  fdN F hm (by apply ok_ratio_text <;> assumption) fun _ _ _ _ _ _ us hl => match us, hl with | [_], _ => rfl
theorem ok_u_law_mix (T : Txt P w K mg base)  (F : FnP K "_law_mix" s_u_law_mix [] f fd) : FnOk P w K mg base (L2.CX P w) l_u_law_mix f fd ["_law_number", "_law_turn"] (sp_u_law_mix K) :=
  fnD (n := 2) F sc_u_law_mix rfl (fun ds d h => by obtain ⟨n, t, rfl, h0, h1, h2, h3, _⟩ := h; rfl) (by intro f cdv A outer s H E hr; apply d_u_law_mix <;> assumption) (fun P0 H0 D ds h k => by obtain ⟨_, n, t, rfl, h0, h1, h2, h3, _⟩ := h; exact sem_mix h0 h1 h2 h3 (k.imp fun d hd => ⟨n, t, rfl, h0, h1, h2, h3, hd⟩))
theorem f_u_law_mix (T : Txt P w K mg base)  (F : FnP K "_law_mix" s_u_law_mix [] f fd) (hm : mg "_law_mix" = some (.ref f)) : Fd P w K mg base l_u_law_mix "_law_mix" ["_law_number", "_law_turn"] [] (sp_u_law_mix K) :=
  fdN F hm (by apply ok_u_law_mix <;> assumption) fun _ _ _ _ _ _ us hl => match us, hl with | [_, _], _ => rfl
theorem ok_u_law_hand (T : Txt P w K mg base)  (F : FnP K "_law_hand" s_u_law_hand [] f fd) : FnOk P w K mg base (L2.CX P w) l_u_law_hand f fd ["_law_script"] (sp_u_law_hand K) :=
  fnO (n := 3) F sc_u_law_hand rfl (fun ds d h => by obtain ⟨ns, rfl, hl, _⟩ := h; rfl) (by intro f cdv A outer s H E hr; apply d_u_law_hand <;> assumption) (fun P0 H0 D ds h k => by obtain ⟨_, ns, rfl, hl, _⟩ := h; exact sem_hand hl rfl fun l P H σ es ds hd => k l P H σ es ds ⟨ns, rfl, hl, hd⟩)
theorem f_u_law_hand (T : Txt P w K mg base)  (F : FnP K "_law_hand" s_u_law_hand [] f fd) (hm : mg "_law_hand" = some (.ref f)) : Fd P w K mg base l_u_law_hand "_law_hand" ["_law_script"] [] (sp_u_law_hand K) :=
  fdN F hm (by apply ok_u_law_hand <;> assumption) fun _ _ _ _ _ _ us hl => match us, hl with | [_], _ => rfl
theorem ok_u_law_draw (T : Txt P w K mg base) (C_u_law_mix : Fd P w K mg base l_u_law_mix "_law_mix" ["_law_number", "_law_turn"] [] (sp_u_law_mix K)) (F : FnP K "_law_draw" s_u_law_draw [] f fd) : FnOk P w K mg base (L2.CX P w) l_u_law_draw f fd ["_law_hand_here", "_law_many_here"] (sp_u_law_draw K) :=
  fnH (n := 2) F sc_u_law_draw rfl (fun ds d h => by obtain ⟨m, rfl, h0, h1, _⟩ := h; rfl) (by intro f cdv A outer s H E hr; apply d_u_law_draw <;> assumption) (fun P0 H0 a D ds h k => by obtain ⟨_, m, rfl, h0, h1, _⟩ := h; exact sem_draw h0 h1 rfl fun v P H d hs hd => k v P H d hs ⟨m, rfl, h0, h1, hd⟩)
theorem f_u_law_draw (T : Txt P w K mg base) (C_u_law_mix : Fd P w K mg base l_u_law_mix "_law_mix" ["_law_number", "_law_turn"] [] (sp_u_law_mix K)) (F : FnP K "_law_draw" s_u_law_draw [] f fd) (hm : mg "_law_draw" = some (.ref f)) : Fd P w K mg base l_u_law_draw "_law_draw" ["_law_hand_here", "_law_many_here"] [] (sp_u_law_draw K) :=
  fdN F hm (by apply ok_u_law_draw <;> assumption) fun _ _ _ _ _ _ us hl => match us, hl with | [_, _], _ => rfl
theorem ok_u_law_part (T : Txt P w K mg base)  (F : FnP K "_law_part" s_u_law_part [] f fd) : FnOk P w K mg base (L2.CX P w) l_u_law_part f fd ["_law_a", "_law_b"] (sp_u_law_part K) :=
  fnD (n := 1) F sc_u_law_part rfl (fun ds d h => by obtain ⟨a, b, rfl, h0, rfl⟩ := h; rfl) (by intro f cdv A outer s H E hr; apply d_u_law_part <;> assumption) (fun P0 H0 D ds h k => by obtain ⟨_, a, b, rfl, h0, rfl⟩ := h; exact sem_part h0 (k.imp fun d hd => ⟨a, b, rfl, h0, hd⟩))
theorem f_u_law_part (T : Txt P w K mg base)  (F : FnP K "_law_part" s_u_law_part [] f fd) (hm : mg "_law_part" = some (.ref f)) : Fd P w K mg base l_u_law_part "_law_part" ["_law_a", "_law_b"] [] (sp_u_law_part K) :=
  fdN F hm (by apply ok_u_law_part <;> assumption) fun _ _ _ _ _ _ us hl => match us, hl with | [_, _], _ => rfl
theorem ok_u_law_ratio (T : Txt P w K mg base) (C_u_law_part : Fd P w K mg base l_u_law_part "_law_part" ["_law_a", "_law_b"] [] (sp_u_law_part K)) (F : FnP K "_law_ratio" s_u_law_ratio [] f fd) : FnOk P w K mg base (L2.CX P w) l_u_law_ratio f fd ["_law_top", "_law_bottom"] (sp_u_law_ratio K) :=
  fnD (n := 1) F sc_u_law_ratio rfl (fun ds d h => by obtain ⟨a, b, rfl, h0, h1, rfl⟩ := h; rfl) (by intro f cdv A outer s H E hr; apply d_u_law_ratio <;> assumption) (fun P0 H0 D ds h k => by obtain ⟨_, a, b, rfl, h0, h1, rfl⟩ := h; exact sem_lratio h0 h1 (k.imp fun d hd => ⟨a, b, rfl, h0, h1, hd⟩))
theorem f_u_law_ratio (T : Txt P w K mg base) (C_u_law_part : Fd P w K mg base l_u_law_part "_law_part" ["_law_a", "_law_b"] [] (sp_u_law_part K)) (F : FnP K "_law_ratio" s_u_law_ratio [] f fd) (hm : mg "_law_ratio" = some (.ref f)) : Fd P w K mg base l_u_law_ratio "_law_ratio" ["_law_top", "_law_bottom"] [] (sp_u_law_ratio K) :=
  fdN F hm (by apply ok_u_law_ratio <;> assumption) fun _ _ _ _ _ _ us hl => match us, hl with | [_, _], _ => rfl
theorem ok_u_law_same_ratio (T : Txt P w K mg base) (C_u_law_ratio : Fd P w K mg base l_u_law_ratio "_law_ratio" ["_law_top", "_law_bottom"] [] (sp_u_law_ratio K)) (F : FnP K "_law_same_ratio" s_u_law_same_ratio [] f fd) : FnOk P w K mg base (L2.CX P w) l_u_law_same_ratio f fd ["_law_told", "_law_top", "_law_bottom"] (sp_u_law_same_ratio K) :=
  fnD (n := 1) F sc_u_law_same_ratio rfl (fun ds d h => by obtain ⟨q, a, b, rfl, h0, h1, rfl⟩ := h; rfl) (by intro f cdv A outer s H E hr; apply d_u_law_same_ratio <;> assumption) (fun P0 H0 D ds h k => by obtain ⟨_, q, a, b, rfl, h0, h1, rfl⟩ := h; exact sem_same h0 h1 (k.imp fun d hd => ⟨q, a, b, rfl, h0, h1, hd⟩))
theorem f_u_law_same_ratio (T : Txt P w K mg base) (C_u_law_ratio : Fd P w K mg base l_u_law_ratio "_law_ratio" ["_law_top", "_law_bottom"] [] (sp_u_law_ratio K)) (F : FnP K "_law_same_ratio" s_u_law_same_ratio [] f fd) (hm : mg "_law_same_ratio" = some (.ref f)) : Fd P w K mg base l_u_law_same_ratio "_law_same_ratio" ["_law_told", "_law_top", "_law_bottom"] [] (sp_u_law_same_ratio K) :=
  fdN F hm (by apply ok_u_law_same_ratio <;> assumption) fun _ _ _ _ _ _ us hl => match us, hl with | [_, _, _], _ => rfl
theorem ok_u_law_whole (T : Txt P w K mg base)  (F : FnP K "_law_whole" s_u_law_whole [] f fd) : FnOk P w K mg base (L2.CX P w) l_u_law_whole f fd ["_law_thing"] (sp_u_law_whole K) :=
  fnD (n := 0) F sc_u_law_whole rfl (fun ds d h => by obtain ⟨x, rfl, hx, rfl⟩ := h; rfl) (by intro f cdv A outer s H E hr; apply d_u_law_whole <;> assumption) (fun P0 H0 D ds h k => by obtain ⟨_, x, rfl, hx, rfl⟩ := h; exact sem_lwhole hx (k.imp fun d hd => ⟨x, rfl, hx, hd⟩))
theorem f_u_law_whole (T : Txt P w K mg base)  (F : FnP K "_law_whole" s_u_law_whole [] f fd) (hm : mg "_law_whole" = some (.ref f)) : Fd P w K mg base l_u_law_whole "_law_whole" ["_law_thing"] [] (sp_u_law_whole K) :=
  fdN F hm (by apply ok_u_law_whole <;> assumption) fun _ _ _ _ _ _ us hl => match us, hl with | [_], _ => rfl
theorem ok_u_law_refused (T : Txt P w K mg base) (C_make_ratio : Fd P w K mg base l_make_ratio "make_ratio" ["top", "bottom"] [] (sp_make_ratio K)) (F : FnP K "_law_refused" s_u_law_refused [] f fd) : FnOk P w K mg base (L2.CX P w) l_u_law_refused f fd ["_law_top", "_law_bottom"] (sp_u_law_refused K) :=
  fnD (n := 2) F sc_u_law_refused rfl (fun ds d h => by obtain ⟨x, y, rfl, hx, hy, sx, sy, rfl⟩ := h; rfl) (by intro f cdv A outer s H E hr; apply d_u_law_refused <;> assumption) (fun P0 H0 D ds h k => by obtain ⟨_, x, y, rfl, hx, hy, sx, sy, rfl⟩ := h; exact sem_refused T.exm hx hy sx sy (k.imp fun d hd => ⟨x, y, rfl, hx, hy, sx, sy, hd⟩))
theorem f_u_law_refused (T : Txt P w K mg base) (C_make_ratio : Fd P w K mg base l_make_ratio "make_ratio" ["top", "bottom"] [] (sp_make_ratio K)) (F : FnP K "_law_refused" s_u_law_refused [] f fd) (hm : mg "_law_refused" = some (.ref f)) : Fd P w K mg base l_u_law_refused "_law_refused" ["_law_top", "_law_bottom"] [] (sp_u_law_refused K) :=
  fdN F hm (by apply ok_u_law_refused <;> assumption) fun _ _ _ _ _ _ us hl => match us, hl with | [_, _], _ => rfl
theorem ok_u_law_over (T : Txt P w K mg base) (C_over : Fd P w K mg base l_over "over" ["one", "other"] [] (sp_over K)) (F : FnP K "_law_over" s_u_law_over [] f fd) : FnOk P w K mg base (L2.CX P w) l_u_law_over f fd ["_law_one", "_law_other"] (sp_u_law_over K) :=
  fnD (n := 2) F sc_u_law_over rfl (fun ds d h => by obtain ⟨p, q, rfl, hp, hq, rfl⟩ := h; rfl) (by intro f cdv A outer s H E hr; apply d_u_law_over <;> assumption) (fun P0 H0 D ds h k => by obtain ⟨_, p, q, rfl, hp, hq, rfl⟩ := h; exact sem_lover T.exm hp hq (k.imp fun d hd => ⟨p, q, rfl, hp, hq, hd⟩))
theorem f_u_law_over (T : Txt P w K mg base) (C_over : Fd P w K mg base l_over "over" ["one", "other"] [] (sp_over K)) (F : FnP K "_law_over" s_u_law_over [] f fd) (hm : mg "_law_over" = some (.ref f)) : Fd P w K mg base l_u_law_over "_law_over" ["_law_one", "_law_other"] [] (sp_u_law_over K) :=
  fdN F hm (by apply ok_u_law_over <;> assumption) fun _ _ _ _ _ _ us hl => match us, hl with | [_, _], _ => rfl
theorem ok_u_law_pair (T : Txt P w K mg base) (C_make_ratio : Fd P w K mg base l_make_ratio "make_ratio" ["top", "bottom"] [] (sp_make_ratio K)) (C_u_law_same_ratio : Fd P w K mg base l_u_law_same_ratio "_law_same_ratio" ["_law_told", "_law_top", "_law_bottom"] [] (sp_u_law_same_ratio K)) (C_plus : Fd P w K mg base l_plus "plus" ["one", "other"] [] (sp_plus K)) (C_minus : Fd P w K mg base l_minus "minus" ["one", "other"] [] (sp_minus K)) (C_times : Fd P w K mg base l_times "times" ["one", "other"] [] (sp_times K)) (C_negative : Fd P w K mg base l_negative "negative" ["one"] [] (sp_negative K)) (C_u_law_over : Fd P w K mg base l_u_law_over "_law_over" ["_law_one", "_law_other"] [] (sp_u_law_over K)) (C_compare : Fd P w K mg base l_compare "compare" ["one", "other"] [] (sp_compare K)) (C_floor_of : Fd P w K mg base l_floor_of "floor_of" ["one"] [] (sp_floor_of K)) (C_u_law_whole : Fd P w K mg base l_u_law_whole "_law_whole" ["_law_thing"] [] (sp_u_law_whole K)) (C_broken_of : Fd P w K mg base l_broken_of "broken_of" ["one"] [] (sp_broken_of K)) (C_ratio_text : Fd P w K mg base l_ratio_text "ratio_text" ["one"] [] (sp_ratio_text K)) (F : FnP K "_law_pair" s_u_law_pair [] f fd) : FnOk P w K mg base (L2.CX P w) l_u_law_pair f fd ["_law_a", "_law_b", "_law_c", "_law_d"] (sp_u_law_pair K) :=
  fnD (n := 6) F sc_u_law_pair rfl (fun ds d h => by obtain ⟨a, b, e, f, rfl, h1, h2, rfl⟩ := h; rfl) (by intro f cdv A outer s H E hr; apply d_u_law_pair <;> assumption) (fun P0 H0 D ds h k => by obtain ⟨_, a, b, e, f, rfl, h1, h2, rfl⟩ := h; exact sem_pair h1 h2 (k.imp fun d hd => ⟨a, b, e, f, rfl, h1, h2, hd⟩))
theorem f_u_law_pair (T : Txt P w K mg base) (C_make_ratio : Fd P w K mg base l_make_ratio "make_ratio" ["top", "bottom"] [] (sp_make_ratio K)) (C_u_law_same_ratio : Fd P w K mg base l_u_law_same_ratio "_law_same_ratio" ["_law_told", "_law_top", "_law_bottom"] [] (sp_u_law_same_ratio K)) (C_plus : Fd P w K mg base l_plus "plus" ["one", "other"] [] (sp_plus K)) (C_minus : Fd P w K mg base l_minus "minus" ["one", "other"] [] (sp_minus K)) (C_times : Fd P w K mg base l_times "times" ["one", "other"] [] (sp_times K)) (C_negative : Fd P w K mg base l_negative "negative" ["one"] [] (sp_negative K)) (C_u_law_over : Fd P w K mg base l_u_law_over "_law_over" ["_law_one", "_law_other"] [] (sp_u_law_over K)) (C_compare : Fd P w K mg base l_compare "compare" ["one", "other"] [] (sp_compare K)) (C_floor_of : Fd P w K mg base l_floor_of "floor_of" ["one"] [] (sp_floor_of K)) (C_u_law_whole : Fd P w K mg base l_u_law_whole "_law_whole" ["_law_thing"] [] (sp_u_law_whole K)) (C_broken_of : Fd P w K mg base l_broken_of "broken_of" ["one"] [] (sp_broken_of K)) (C_ratio_text : Fd P w K mg base l_ratio_text "ratio_text" ["one"] [] (sp_ratio_text K)) (F : FnP K "_law_pair" s_u_law_pair [] f fd) (hm : mg "_law_pair" = some (.ref f)) : Fd P w K mg base l_u_law_pair "_law_pair" ["_law_a", "_law_b", "_law_c", "_law_d"] [] (sp_u_law_pair K) :=
  fdN F hm (by apply ok_u_law_pair <;> assumption) fun _ _ _ _ _ _ us hl => match us, hl with | [_, _, _, _], _ => rfl
theorem ok_u_law_many (T : Txt P w K mg base) (C_make_ratio : Fd P w K mg base l_make_ratio "make_ratio" ["top", "bottom"] [] (sp_make_ratio K)) (C_u_law_ratio : Fd P w K mg base l_u_law_ratio "_law_ratio" ["_law_top", "_law_bottom"] [] (sp_u_law_ratio K)) (C_u_law_same_ratio : Fd P w K mg base l_u_law_same_ratio "_law_same_ratio" ["_law_told", "_law_top", "_law_bottom"] [] (sp_u_law_same_ratio K)) (C_sum_of : Fd P w K mg base l_sum_of "sum_of" ["ratios"] [] (sp_sum_of K)) (C_least_of : Fd P w K mg base l_least_of "least_of" ["ratios"] [] (sp_least_of K)) (C_greatest_of : Fd P w K mg base l_greatest_of "greatest_of" ["ratios"] [] (sp_greatest_of K)) (F : FnP K "_law_many" s_u_law_many [] f fd) : FnOk P w K mg base (L2.CX P w) l_u_law_many f fd ["_law_row"] (sp_u_law_many K) :=
  fnD (n := 7) F sc_u_law_many rfl (fun ds d h => by obtain ⟨l, rfl, h0, hl, hs, rfl⟩ := h; rfl) (by intro f cdv A outer s H E hr; apply d_u_law_many <;> assumption) (fun P0 H0 D ds h k => by obtain ⟨_, l, rfl, h0, hl, hs, rfl⟩ := h; exact sem_many rfl h0 hl hs (k.imp fun d hd => ⟨l, rfl, h0, hl, hs, hd⟩))
theorem f_u_law_many (T : Txt P w K mg base) (C_make_ratio : Fd P w K mg base l_make_ratio "make_ratio" ["top", "bottom"] [] (sp_make_ratio K)) (C_u_law_ratio : Fd P w K mg base l_u_law_ratio "_law_ratio" ["_law_top", "_law_bottom"] [] (sp_u_law_ratio K)) (C_u_law_same_ratio : Fd P w K mg base l_u_law_same_ratio "_law_same_ratio" ["_law_told", "_law_top", "_law_bottom"] [] (sp_u_law_same_ratio K)) (C_sum_of : Fd P w K mg base l_sum_of "sum_of" ["ratios"] [] (sp_sum_of K)) (C_least_of : Fd P w K mg base l_least_of "least_of" ["ratios"] [] (sp_least_of K)) (C_greatest_of : Fd P w K mg base l_greatest_of "greatest_of" ["ratios"] [] (sp_greatest_of K)) (F : FnP K "_law_many" s_u_law_many [] f fd) (hm : mg "_law_many" = some (.ref f)) : Fd P w K mg base l_u_law_many "_law_many" ["_law_row"] [] (sp_u_law_many K) :=
  fdN F hm (by apply ok_u_law_many <;> assumption) fun _ _ _ _ _ _ us hl => match us, hl with | [_], _ => rfl
end
end K01
set_option Elab.async false
set_option linter.all false
set_option maxRecDepth 100000
set_option maxHeartbeats 4000000
namespace K01
open PySem PySem.Spec PyProof.Rows L2 My
local macro_rules | `(tactic| walk_at "ed") => `(tactic| first
  | exact ed_int | exact ed_bl | exact ed_str | exact ed_non
  | exact ed_var rfl
  | (apply ed_I0; (focus walk_at "ed"); (focus walk_at "ed"))
  | (apply ed_B0; (focus walk_at "ed"); (focus walk_at "ed"))
  | (apply ed_neg; (focus walk_at "ed"))
  | (apply ed_ixT; (focus walk_at "ed"); (focus walk_at "ed"); (focus rfl))
  | (apply ed_ixL; (focus walk_at "ed"); (focus walk_at "ed"); (focus rfl))
  | (apply ed_ixO; (focus rfl); (focus walk_at "ed"); (focus rfl))
  | (apply ed_len; (focus walk_at "ed"); (focus rfl))
  | (apply ed_lenO; (focus rfl))
  | (apply ed_tup; (focus walk_at "ed"); (focus (simp only [List.length_cons, List.length_nil]; decide)))
  | (apply ed_eq; (focus walk_at "ed"); (focus walk_at "ed"); (focus rfl); (focus rfl))
  | (apply ed_ne; (focus walk_at "ed"); (focus walk_at "ed"); (focus rfl); (focus rfl))
  | (apply ed_isN; (focus walk_at "ed"))
  | (apply ed_notN; (focus walk_at "ed"))
  | (apply ed_isB; (focus walk_at "ed"); (focus walk_at "ed"))
  | (apply ed_notB; (focus walk_at "ed"); (focus walk_at "ed"))
  | (apply ed_isi; (focus walk_at "ed"); (focus first | rfl | assumption); (focus decide +kernel))
  | (apply ed_isi2; (focus walk_at "ed"); (focus first | rfl | assumption); (focus decide +kernel); (focus decide +kernel))
  | (apply ed_not; (focus walk_at "ed"))
  | (apply ed_int1; (focus walk_at "ed"))
  | (apply ed_abs; (focus walk_at "ed"))
  | (apply ed_gcd; (focus walk_at "ed"); (focus walk_at "ed"))
  | exact es_nil
  | (apply es_cons; (focus walk_at "ed"); (focus walk_at "ed"))
  | (apply eb_test; (focus walk_at "ed"))
  | (apply eb_B; (focus walk_at "ed"))
  | (apply eb_not; (focus walk_at "ed")))
theorem d_law0 {P : Program} {w : World} {K : PySem.W.Frag} {mg : Str → Option Value} {base : Heap} {f : Addr} {cdv : Value} {A : Around} {outer : List Env} {s : Shared} {H : Hp} {E : XK} (T : Txt P w K mg base) (C_is_whole_kw : Fk P w K mg base l_is_whole "is_whole" ["thing", "low", "high"] ["high", "low"] kw_is_whole (sp_is_whole K)) (C_u_law_hand : Fd P w K mg base l_u_law_hand "_law_hand" ["_law_script"] [] (sp_u_law_hand K)) (C_u_law_draw : Fd P w K mg base l_u_law_draw "_law_draw" ["_law_hand_here", "_law_many_here"] [] (sp_u_law_draw K)) (C_u_law_pair : Fd P w K mg base l_u_law_pair "_law_pair" ["_law_a", "_law_b", "_law_c", "_law_d"] [] (sp_u_law_pair K)) (C_u_law_many : Fd P w K mg base l_u_law_many "_law_many" ["_law_row"] [] (sp_u_law_many K)) (C_make_ratio_1 : Fd P w K mg base l_make_ratio "make_ratio" ["top", "bottom"] [.int 1] (sp_make_ratio K)) (C_u_law_refused : Fd P w K mg base l_u_law_refused "_law_refused" ["_law_top", "_law_bottom"] [] (sp_u_law_refused K)) (C_make_ratio : Fd P w K mg base l_make_ratio "make_ratio" ["top", "bottom"] [] (sp_make_ratio K)) (C_is_ratio : Fd P w K mg base l_is_ratio "is_ratio" ["thing"] [] (sp_is_ratio K)) (C_is_whole_1 : Fd P w K mg base l_is_whole "is_whole" ["thing", "low", "high"] [.non, .non] (sp_is_whole K)) (C_is_whole_2 : Fd P w K mg base l_is_whole "is_whole" ["thing", "low", "high"] [.non] (sp_is_whole K)) (C_is_whole : Fd P w K mg base l_is_whole "is_whole" ["thing", "low", "high"] [] (sp_is_whole K))
    (hr : Room m_law (A.deeper (envOfC "law" (defScope s_law) s.heap.objs.size f cdv))) :
    PSs (cxOf CX0 P w K mg base N_law "law" (defScope s_law) f cdv A outer s H E) (defBody s_law) (t_law K) :=
  (pss_cons (ps_set (i := 1) sc_law.nd (by rfl) (Or.inl rfl) (pe_fd C_u_law_hand (hr.mono (by decide)) (pa_cons (pv 0) pa_nil)))
    (pss_cons (ps_set (i := 2) sc_law.nd (by rfl) (Or.inl rfl) (pe_lst pa_nil))
    (pss_cons (ps_for (passes_of rfl) rfl (pi_range1 (by rfl) T.b_range (pa_cons (pe_op op_add pe_int (pe_fd C_u_law_draw (hr.mono (by decide)) (pa_cons (pv 1) (pa_cons pe_int pa_nil)))) pa_nil)) (pg_name (i := 3) sc_law.nd (by rfl) (Or.inl rfl)) (pss_cons (ps_set (i := 4) sc_law.nd (by rfl) (Or.inl rfl) (pe_ix ix_seq (pe_tup (pa_cons pe_int (pa_cons pe_int (pa_cons pe_int (pa_cons (pe_op op_pow pe_int pe_int) pa_nil))))) (pe_fd C_u_law_draw (hr.mono (by decide)) (pa_cons (pv 1) (pa_cons pe_int pa_nil))) (fun _ _ => rfl)))
    (pss_cons (ps_set (i := 5) sc_law.nd (by rfl) (Or.inl rfl) (pe_op op_sub (pe_fd C_u_law_draw (hr.mono (by decide)) (pa_cons (pv 1) (pa_cons (pe_op op_add (pe_op op_mulW pe_int (pv 4)) pe_int) pa_nil))) (pv 4)))
    (pss_cons (ps_set (i := 6) sc_law.nd (by rfl) (Or.inl rfl) (pe_op op_mulW (pe_op op_add pe_int (pe_fd C_u_law_draw (hr.mono (by decide)) (pa_cons (pv 1) (pa_cons (pv 4) pa_nil)))) (pe_op op_sub pe_int (pe_op op_mulW pe_int (pe_fd C_u_law_draw (hr.mono (by decide)) (pa_cons (pv 1) (pa_cons pe_int pa_nil)))))))
    (pss_cons (ps_if (PW.pt (pw_and (pt_cmpR op_gt (pv 4) pe_int (nomark _)) (pw_and1 (pt_cmpR (op_eqD hr.units) (pe_fd C_u_law_draw (hr.mono (by decide)) (pa_cons (pv 1) (pa_cons pe_int pa_nil))) pe_int (nomark _))))) (pss_one (ps_set (i := 5) sc_law.nd (by rfl) (Or.inl rfl) (pe_op op_add (pe_op op_mulW (pv 5) (pe_op op_pow pe_int pe_int)) (pe_fd C_u_law_draw (hr.mono (by decide)) (pa_cons (pv 1) (pa_cons (pe_op op_pow pe_int pe_int) pa_nil)))))) pss_nil)
    (pss_one (ps_expr (pe_bm PySem.F.plainAttrs_list PySem.F.slot_list_append PySem.F.type_list_append mt_append (pv 2) (pa_cons (pe_tup (pa_cons (pv 5) (pa_cons (pv 6) pa_nil))) pa_nil)))))))))
    (pss_cons (ps_for (passes_of rfl) rfl (pi_range1 (by rfl) T.b_range (pa_cons (pe_callB call_len_seq (by rfl) T.b_len (by decide +kernel) (pa_cons (pv 2) pa_nil)) pa_nil)) (pg_name (i := 3) sc_law.nd (by rfl) (Or.inl rfl)) (pss_cons (ps_asg (pe_ix ix_seq (pv 2) (pv 3) (fun _ _ => rfl)) (pg_tup (by rfl) (pgs_cons (pg_name (i := 7) sc_law.nd (by rfl) (Or.inl rfl)) (pgs_cons (pg_name (i := 8) sc_law.nd (by rfl) (Or.inl rfl)) pgs_nil))))
    (pss_cons (ps_asg (pe_ix ix_seq (pv 2) (pe_op op_sub (pv 3) pe_int) (fun _ _ => rfl)) (pg_tup (by rfl) (pgs_cons (pg_name (i := 9) sc_law.nd (by rfl) (Or.inl rfl)) (pgs_cons (pg_name (i := 10) sc_law.nd (by rfl) (Or.inl rfl)) pgs_nil))))
    (pss_one (ps_if (pt_not (pt_val (pe_fd C_u_law_pair (hr.mono (by decide)) (pa_cons (pv 7) (pa_cons (pv 8) (pa_cons (pv 9) (pa_cons (pv 10) pa_nil))))))) (pss_one (ps_ret pe_bl)) pss_nil)))))
    (pss_cons (ps_if (pt_not (pt_val (pe_fd C_u_law_many (hr.mono (by decide)) (pa_cons (pv 2) pa_nil)))) (pss_one (ps_ret pe_bl)) pss_nil)
    (pss_cons (ps_if (PW.pt (pw_or (pt_cmpR (op_neD hr.units) (pe_tup (pa_cons (pe_glob (by rfl) T.g_ZERO (by rfl)) (pa_cons (pe_glob (by rfl) T.g_ONE (by rfl)) (pa_cons (pe_glob (by rfl) T.g_HALF (by rfl)) pa_nil)))) (pe_tup (pa_cons (pe_tup (pa_cons pe_int (pa_cons pe_int pa_nil))) (pa_cons (pe_tup (pa_cons pe_int (pa_cons pe_int pa_nil))) (pa_cons (pe_tup (pa_cons pe_int (pa_cons pe_int pa_nil))) pa_nil)))) (nomark _)) (pw_or1 (pt_cmpR (op_neD hr.units) (pe_fd C_make_ratio_1 (hr.mono (by decide)) (pa_cons (pe_ix ix_seq (pe_ix ix_seq (pv 2) pe_int (fun _ _ => rfl)) pe_int (fun _ _ => rfl)) pa_nil)) (pe_tup (pa_cons (pe_ix ix_seq (pe_ix ix_seq (pv 2) pe_int (fun _ _ => rfl)) pe_int (fun _ _ => rfl)) (pa_cons pe_int pa_nil))) (nomark _))))) (pss_one (ps_ret pe_bl)) pss_nil)
    (pss_cons (ps_asg (pe_ix ix_seq (pv 2) pe_int (fun _ _ => rfl)) (pg_tup (by rfl) (pgs_cons (pg_name (i := 5) sc_law.nd (by rfl) (Or.inl rfl)) (pgs_cons (pg_name (i := 6) sc_law.nd (by rfl) (Or.inl rfl)) pgs_nil))))
    (pss_cons (ps_set (i := 11) sc_law.nd (by rfl) (Or.inl rfl) (pe_ix ix_seq (pe_tup (pa_cons pe_bl (pa_cons pe_non (pa_cons pe_str (pa_cons (pe_tup (pa_cons pe_int (pa_cons pe_int pa_nil))) (pa_cons (pe_lst (pa_cons pe_int pa_nil)) pa_nil)))))) (pe_fd C_u_law_draw (hr.mono (by decide)) (pa_cons (pv 1) (pa_cons pe_int pa_nil))) (fun _ _ => rfl)))
    (pss_cons (ps_if (PW.pt (pw_or (pt_cmpR (op_neD hr.units) (pe_fd C_u_law_refused (hr.mono (by decide)) (pa_cons (pv 11) (pa_cons (pv 6) pa_nil))) pe_str (nomark _)) (pw_or (pt_cmpR (op_neD hr.units) (pe_fd C_u_law_refused (hr.mono (by decide)) (pa_cons (pv 11) (pa_cons pe_int pa_nil))) pe_str (nomark _)) (pw_or1 (pt_cmpR (op_neD hr.units) (pe_fd C_u_law_refused (hr.mono (by decide)) (pa_cons (pv 5) (pa_cons (pv 11) pa_nil))) pe_str (nomark _)))))) (pss_one (ps_ret pe_bl)) pss_nil)
    (pss_cons (ps_if (PW.pt (pw_or (pt_cmpR (op_neD hr.units) (pe_fd C_u_law_refused (hr.mono (by decide)) (pa_cons (pv 5) (pa_cons pe_int pa_nil))) pe_str (nomark _)) (pw_or1 (pt_cmpR (op_neD hr.units) (pe_fd C_u_law_refused (hr.mono (by decide)) (pa_cons (pv 5) (pa_cons (pe_un un_neg pe_int) pa_nil))) pe_str (nomark _))))) (pss_one (ps_ret pe_bl)) pss_nil)
    (pss_cons (ps_set (i := 12) sc_law.nd (by rfl) (Or.inl rfl) (pe_fd C_make_ratio (hr.mono (by decide)) (pa_cons (pv 5) (pa_cons (pv 6) pa_nil))))
    (pss_cons (ps_if (PW.pt (pw_or (pt_cmpR op_notBl (pe_fd C_is_ratio (hr.mono (by decide)) (pa_cons (pv 12) pa_nil)) pe_bl (nomark _)) (pw_or (pt_cmpR op_notBl (pe_fd C_is_ratio (hr.mono (by decide)) (pa_cons (pe_lst (pa_cons (pe_ix ix_seq (pv 12) pe_int (fun _ _ => rfl)) (pa_cons (pe_ix ix_seq (pv 12) pe_int (fun _ _ => rfl)) pa_nil))) pa_nil)) pe_bl (nomark _)) (pw_or1 (pt_cmpR op_notBl (pe_fd C_is_ratio (hr.mono (by decide)) (pa_cons (pv 5) pa_nil)) pe_bl (nomark _)))))) (pss_one (ps_ret pe_bl)) pss_nil)
    (pss_cons (ps_set (i := 13) sc_law.nd (by rfl) (Or.inl rfl) (pe_lst (pa_cons (pe_tup (pa_cons (pe_op op_mulW (pe_ix ix_seq (pv 12) pe_int (fun _ _ => rfl)) pe_int) (pa_cons (pe_op op_mulW (pe_ix ix_seq (pv 12) pe_int (fun _ _ => rfl)) pe_int) pa_nil))) (pa_cons (pe_tup (pa_cons (pe_ix ix_seq (pv 12) pe_int (fun _ _ => rfl)) (pa_cons (pe_un un_neg (pe_ix ix_seq (pv 12) pe_int (fun _ _ => rfl))) pa_nil))) (pa_cons (pe_tup (pa_cons (pe_ix ix_seq (pv 12) pe_int (fun _ _ => rfl)) (pa_cons pe_int pa_nil))) (pa_cons (pe_tup (pa_cons (pe_ix ix_seq (pv 12) pe_int (fun _ _ => rfl)) pa_nil)) (pa_cons (pe_op op_catT (pv 12) (pe_tup (pa_cons pe_int pa_nil))) (pa_cons (pe_tup (pa_cons (pe_ix ix_seq (pv 12) pe_int (fun _ _ => rfl)) (pa_cons pe_bl pa_nil))) (pa_cons (pe_tup (pa_cons pe_bl (pa_cons pe_int pa_nil))) (pa_cons pe_non (pa_cons pe_str (pa_cons (pe_tup (pa_cons pe_int (pa_cons pe_int pa_nil))) pa_nil))))))))))))
    (pss_cons (ps_for (passes_of rfl) rfl (pi_seq (pv 13)) (pg_name (i := 14) sc_law.nd (by rfl) (Or.inl rfl)) (pss_one (ps_if (pt_cmpR op_notBl (pe_fd C_is_ratio (hr.mono (by decide)) (pa_cons (pv 14) pa_nil)) pe_bl (nomark _)) (pss_one (ps_ret pe_bl)) pss_nil)))
    (pss_cons (ps_if (PW.pt (pw_or (pt_cmpR op_notBl (pe_fd C_is_whole_1 (hr.mono (by decide)) (pa_cons (pv 11) pa_nil)) pe_bl (nomark _)) (pw_or (pt_cmpR op_notBl (pe_fd C_is_whole_1 (hr.mono (by decide)) (pa_cons (pv 5) pa_nil)) pe_bl (nomark _)) (pw_or (pt_cmpR op_notBl (pe_fd C_is_whole_2 (hr.mono (by decide)) (pa_cons (pv 5) (pa_cons (pv 5) pa_nil))) pe_bl (nomark _)) (pw_or1 (pt_cmpR op_notBl (pe_fd C_is_whole_2 (hr.mono (by decide)) (pa_cons (pv 5) (pa_cons (pe_op op_add (pv 5) pe_int) pa_nil))) pe_bl (nomark _))))))) (pss_one (ps_ret pe_bl)) pss_nil)
    (pss_one (ps_ret (pe_and (pe_cmpR op_isBl (pe_fd C_is_whole (hr.mono (by decide)) (pa_cons (pv 5) (pa_cons pe_non (pa_cons (pv 5) pa_nil)))) pe_bl (nomark _)) (pe_and (pe_cmpR op_isBl (pe_fd C_is_whole (hr.mono (by decide)) (pa_cons (pv 5) (pa_cons pe_non (pa_cons (pe_op op_sub (pv 5) pe_int) pa_nil)))) pe_bl (nomark _)) (pe_one (pe_cmpR op_isBl (pe_fk C_is_whole_kw (hr.mono (by decide)) (pa_cons (pv 5) pa_nil) (pk_cons (pv 5) (pk_cons (pe_op op_sub (pv 5) (pe_op op_mulW (pv 6) (pv 6))) pk_nil))) pe_bl (nomark _))))))))))))))))))))))


section
variable {P : Program} {w : World} {K : PySem.W.Frag} {mg : Str → Option Value} {base : Heap} {f C : Addr} {fd : FuncData}
abbrev s_init : Stmt := inClass (top 3) 0
theorem sc_init : FnScope ["self", "what"] ["self", "what"] (defScope s_init) := ⟨rfl, rfl, rfl, by decide +kernel, rfl, by decide +kernel, by decide +kernel⟩
theorem ok_init (T : OexC K C) (hno : PySem.W.findIn K (.ref C) "what" = some none) (F : FunD K "__init__" "BadRatio.__init__" (defArgs s_init) (defBody s_init) (defScope s_init) [] [] f fd) : FnOk P w K mg base (L2.CX P w) 1 f fd ["self", "what"] (spIni1 K C "what") := by
  refine F.ok sc_init (fun vs H Q E h => ?_) (fun cdv A outer s H vs Q E hr h => ⟨tOst K "what" (tVar 0) (tVar 1), pss_one (ps_ost (pv 0) (pv 1)), ?_⟩)
  · obtain ⟨a, v, rfl, _⟩ := h
    rfl
  · obtain ⟨a, v, rfl, ea, q⟩ := h
    exact ⟨v, rfl, .ref a, rfl, a, C, rfl, T, hno, .inl ⟨ea, fun dx h1 h2 => q dx h1 h2⟩⟩
/-! is_whole, make_ratio: defaults, keywords -/
theorem w_binds1 (F : FnP K "is_whole" s_is_whole [.non, .non] f fd) : ∃ ds, Vals [V.non, .non] ds ∧ Binds K fd ["thing", "low", "high"] ds :=
  F.binds1 1 0 (by simp) rfl fun T kV doc pm an cdv ct us its h1 h2 => match us, its, h1, h2 with
    | [_], [_, _], _, _ => ⟨_, rfl, rfl⟩
theorem w_binds2 (F : FnP K "is_whole" s_is_whole [.non, .non] f fd) : ∃ ds, Vals [V.non] ds ∧ Binds K fd ["thing", "low", "high"] ds :=
  F.binds1 2 1 (by simp) rfl fun T kV doc pm an cdv ct us its h1 h2 => match us, its, h1, h2 with
    | [_, _], [_, _], _, _ => ⟨_, rfl, rfl⟩
theorem w_binds3 (F : FnP K "is_whole" s_is_whole [.non, .non] f fd) : ∃ ds, Vals ([] : List V) ds ∧ Binds K fd ["thing", "low", "high"] ds :=
  F.binds1 3 2 (by simp) rfl fun T kV doc pm an cdv ct us its h1 h2 => match us, its, h1, h2 with
    | [_, _, _], [_, _], _, _ => ⟨_, rfl, rfl⟩
theorem m_binds1 (F : FnP K "make_ratio" s_make_ratio [.int 1] f fd) : ∃ ds, Vals [V.int 1] ds ∧ Binds K fd ["top", "bottom"] ds :=
  F.binds1 1 0 (by simp) rfl fun T kV doc pm an cdv ct us its h1 h2 => match us, its, h1, h2 with
    | [_], [_], _, _ => ⟨_, rfl, rfl⟩
theorem m_binds2 (F : FnP K "make_ratio" s_make_ratio [.int 1] f fd) : ∃ ds, Vals ([] : List V) ds ∧ Binds K fd ["top", "bottom"] ds :=
  F.binds1 2 1 (by simp) rfl fun T kV doc pm an cdv ct us its h1 h2 => match us, its, h1, h2 with
    | [_, _], [_], _, _ => ⟨_, rfl, rfl⟩
def kg (us ws : List Value) : List Value := match us, ws with
  | [u], [h, l] => [u, l, h]
  | _, _ => []
theorem w_kbinds (F : FnP K "is_whole" s_is_whole [.non, .non] f fd) : KBinds K fd ["thing", "low", "high"] ["high", "low"] kg kw_is_whole := by
  obtain ⟨oc, od, dV, kV, doc, pm, an, cdv, ct, osl, rfl, lk, hcd, hD, hK⟩ := F.ex
  rcases hD with ⟨e, _⟩ | ⟨_, T, o, its, m, rfl, lT, oT, rT⟩
  · cases e
  · refine ⟨fun s us ws X hl => ?_, fun r1 r2 => ?_⟩
    · match us, ws, hl with
      | [u], [h, l], _ =>
        match its, rT with
        | [x, y], _ =>
          refine BindsTo.of_looks fun M => ?_
          obtain ⟨k, e1, e2⟩ : ∃ k, bindArgs (PySem.W.fnOf "is_whole" "is_whole" (defArgs s_is_whole) (defBody s_is_whole) (defScope s_is_whole) (.ref T) kV doc pm an cdv ct) ⟨[u], (["high", "low"] : List Str).zip [h, l]⟩ = seqItems? (.ref T) >>= k ∧ k (some [x, y].toArray) = pure ((["thing", "low", "high"] : List Str).zip (kg [u] [h, l])) := ⟨_, rfl, rfl⟩
          rw [e1]
          exact looks_items X lT oT (.of_pure e2)
    · cases r1 with
      | nil => exact .nil
      | cons a r1 =>
        cases r1 with
        | cons _ _ => exact .nil
        | nil =>
          cases r2 with
          | nil => exact .nil
          | cons b r2 =>
            cases r2 with
            | nil => exact .nil
            | cons b2 r2 =>
              cases r2 with
              | cons _ _ => exact .nil
              | nil => exact .cons a (.cons b2 (.cons b .nil))
end
end K01
set_option Elab.async false
set_option linter.all false
set_option maxRecDepth 100000
set_option maxHeartbeats 4000000
namespace K01
open PySem PySem.Spec PyProof.Rows L2 My
local macro_rules | `(tactic| walk_at "ed") => `(tactic| first
  | exact ed_int | exact ed_bl | exact ed_str | exact ed_non
  | exact ed_var rfl
  | (apply ed_I0; (focus walk_at "ed"); (focus walk_at "ed"))
  | (apply ed_B0; (focus walk_at "ed"); (focus walk_at "ed"))
  | (apply ed_neg; (focus walk_at "ed"))
  | (apply ed_ixT; (focus walk_at "ed"); (focus walk_at "ed"); (focus rfl))
  | (apply ed_ixL; (focus walk_at "ed"); (focus walk_at "ed"); (focus rfl))
  | (apply ed_ixO; (focus rfl); (focus walk_at "ed"); (focus rfl))
  | (apply ed_len; (focus walk_at "ed"); (focus rfl))
  | (apply ed_lenO; (focus rfl))
  | (apply ed_tup; (focus walk_at "ed"); (focus (simp only [List.length_cons, List.length_nil]; decide)))
  | (apply ed_eq; (focus walk_at "ed"); (focus walk_at "ed"); (focus rfl); (focus rfl))
  | (apply ed_ne; (focus walk_at "ed"); (focus walk_at "ed"); (focus rfl); (focus rfl))
  | (apply ed_isN; (focus walk_at "ed"))
  | (apply ed_notN; (focus walk_at "ed"))
  | (apply ed_isB; (focus walk_at "ed"); (focus walk_at "ed"))
  | (apply ed_notB; (focus walk_at "ed"); (focus walk_at "ed"))
  | (apply ed_isi; (focus walk_at "ed"); (focus first | rfl | assumption); (focus decide +kernel))
  | (apply ed_isi2; (focus walk_at "ed"); (focus first | rfl | assumption); (focus decide +kernel); (focus decide +kernel))
  | (apply ed_not; (focus walk_at "ed"))
  | (apply ed_int1; (focus walk_at "ed"))
  | (apply ed_abs; (focus walk_at "ed"))
  | (apply ed_gcd; (focus walk_at "ed"); (focus walk_at "ed"))
  | exact es_nil
  | (apply es_cons; (focus walk_at "ed"); (focus walk_at "ed"))
  | (apply eb_test; (focus walk_at "ed"))
  | (apply eb_B; (focus walk_at "ed"))
  | (apply eb_not; (focus walk_at "ed")))
abbrev dd (x : Str) (st : Stmt) (dfl : List He.Dv := []) : He.DefD := ⟨(x, none), x, x, defArgs st, defBody st, defScope st, dfl, []⟩
abbrev di (c q : Str) (st : Stmt) : He.DefD := ⟨(c, some "__init__"), "__init__", q, defArgs st, defBody st, defScope st, [], []⟩
def fn : List He.DefD := [
  dd "is_whole" s_is_whole [.non, .non],
  dd "is_ratio" s_is_ratio,
  dd "_lowest" s_u_lowest,
  dd "make_ratio" s_make_ratio [.int 1],
  dd "plus" s_plus,
  dd "minus" s_minus,
  dd "times" s_times,
  dd "over" s_over,
  dd "negative" s_negative,
  dd "compare" s_compare,
  dd "sum_of" s_sum_of,
  dd "least_of" s_least_of,
  dd "greatest_of" s_greatest_of,
  dd "floor_of" s_floor_of,
  dd "broken_of" s_broken_of,
  dd "ratio_text" s_ratio_text,
  dd "_law_mix" s_u_law_mix,
  dd "_law_hand" s_u_law_hand,
  dd "_law_draw" s_u_law_draw,
  dd "_law_part" s_u_law_part,
  dd "_law_ratio" s_u_law_ratio,
  dd "_law_same_ratio" s_u_law_same_ratio,
  dd "_law_whole" s_u_law_whole,
  dd "_law_refused" s_u_law_refused,
  dd "_law_over" s_u_law_over,
  dd "_law_pair" s_u_law_pair,
  dd "_law_many" s_u_law_many,
  dd "law" s_law,
  di "BadRatio" "BadRatio.__init__" s_init]
def fa : List He.Fa := [
  .glo "is_whole",
  .glo "is_ratio",
  .glo "_lowest",
  .glo "make_ratio",
  .glo "plus",
  .glo "minus",
  .glo "times",
  .glo "over",
  .glo "negative",
  .glo "compare",
  .glo "sum_of",
  .glo "least_of",
  .glo "greatest_of",
  .glo "floor_of",
  .glo "broken_of",
  .glo "ratio_text",
  .glo "_law_mix",
  .glo "_law_hand",
  .glo "_law_draw",
  .glo "_law_part",
  .glo "_law_ratio",
  .glo "_law_same_ratio",
  .glo "_law_whole",
  .glo "_law_refused",
  .glo "_law_over",
  .glo "_law_pair",
  .glo "_law_many",
  .glo "law",
  .free "abs",
  .free "bool",
  .free "enumerate",
  .free "int",
  .free "isinstance",
  .free "len",
  .free "list",
  .free "range",
  .free "str",
  .free "tuple",
  .glo "ZERO",
  .glo "ONE",
  .glo "HALF",
  .glo "BadRatio",
  .exm "BadRatio" "BadRatio" true,
  .keep "BadRatio"]
abbrev CB (K : PySem.W.Frag) : Addr := He.ga K "BadRatio"
def ex (K : PySem.W.Frag) : Bool := oexB K (CB K) && (xfB K (CB K) && (He.tupB K "ZERO" [.int 0, .int 1] && (He.tupB K "ONE" [.int 1, .int 1] && (He.tupB K "HALF" [.int 1, .int 2] && (decide (PySem.W.nsIn K mainGlobals "gcd" = some (some (.builtin "math.gcd"))) &&
  (decide (PySem.W.findIn K (.ref (CB K)) "__init__" = some (some (.ref (He.ma K (CB K) "__init__")))) && (decide (PySem.W.typeIn K (.ref (He.ma K (CB K) "__init__")) = some (.type "function")) && decide (PySem.W.findIn K (.ref (CB K)) "what" = some none))))))))
section
variable {P : Program} {w w' : World} {K : PySem.W.Frag} {h base : Heap} {mg : Str → Option Value} {f : Addr} {fd : FuncData}
theorem txt (X : K.In h) (G : h.Ns mainGlobals mg) (c : He.SaysX fa fn [] [] ex w h K) : Txt P w' K mg base := by
  obtain ⟨e1, m⟩ := He.ba (show _ = true from c.more)
  obtain ⟨e2, m⟩ := He.ba m
  obtain ⟨e3, m⟩ := He.ba m
  obtain ⟨e4, m⟩ := He.ba m
  obtain ⟨e5, m⟩ := He.ba m
  obtain ⟨e6, m⟩ := He.ba m
  obtain ⟨e7, m⟩ := He.ba m
  obtain ⟨e8, e9⟩ := He.ba m
  have T := oexB_ok e1
  have hno := of_decide_eq_true e9
  obtain ⟨fI, FI⟩ := c.t.d.def_ 28 (d := di "BadRatio" "BadRatio.__init__" s_init) rfl
  exact {
    b_abs := He.free_ok X G (c.t.d.fact 28 (f := .free "abs") rfl)
    b_bool := He.free_ok X G (c.t.d.fact 29 (f := .free "bool") rfl)
    b_enumerate := He.free_ok X G (c.t.d.fact 30 (f := .free "enumerate") rfl)
    b_int := He.free_ok X G (c.t.d.fact 31 (f := .free "int") rfl)
    b_isinstance := He.free_ok X G (c.t.d.fact 32 (f := .free "isinstance") rfl)
    b_len := He.free_ok X G (c.t.d.fact 33 (f := .free "len") rfl)
    b_list := He.free_ok X G (c.t.d.fact 34 (f := .free "list") rfl)
    b_range := He.free_ok X G (c.t.d.fact 35 (f := .free "range") rfl)
    b_str := He.free_ok X G (c.t.d.fact 36 (f := .free "str") rfl)
    b_tuple := He.free_ok X G (c.t.d.fact 37 (f := .free "tuple") rfl)
    g_ZERO := He.glo_ok X G (c.t.d.fact 38 (f := .glo "ZERO") rfl)
    g_ONE := He.glo_ok X G (c.t.d.fact 39 (f := .glo "ONE") rfl)
    g_HALF := He.glo_ok X G (c.t.d.fact 40 (f := .glo "HALF") rfl)
    g_BadRatio := He.glo_ok X G (c.t.d.fact 41 (f := .glo "BadRatio") rfl)
    g_gcd := PySem.W.mg_of X G (of_decide_eq_true e6)
    z_ZERO := fun H => He.tupB_ok e3 H
    z_ONE := fun H => He.tupB_ok e4 H
    z_HALF := fun H => He.tupB_ok e5 H
    oex := T
    ini := ⟨_, fI, of_decide_eq_true e7, of_decide_eq_true e8, ok_init T hno FI, FI.bindsN fun _ _ _ _ _ _ us hl => match us, hl with | [_, _], _ => rfl⟩
    xf_BadRatio := xfB_ok e2
    no_BadRatio_what := hno
    exm := He.exm_ok (c.t.d.fact 42 (f := .exm "BadRatio" "BadRatio" true) rfl) }
theorem ok_law (T : Txt P w K mg base) (C_is_whole_kw : Fk P w K mg base l_is_whole "is_whole" ["thing", "low", "high"] ["high", "low"] kw_is_whole (sp_is_whole K)) (C_u_law_hand : Fd P w K mg base l_u_law_hand "_law_hand" ["_law_script"] [] (sp_u_law_hand K)) (C_u_law_draw : Fd P w K mg base l_u_law_draw "_law_draw" ["_law_hand_here", "_law_many_here"] [] (sp_u_law_draw K)) (C_u_law_pair : Fd P w K mg base l_u_law_pair "_law_pair" ["_law_a", "_law_b", "_law_c", "_law_d"] [] (sp_u_law_pair K)) (C_u_law_many : Fd P w K mg base l_u_law_many "_law_many" ["_law_row"] [] (sp_u_law_many K)) (C_make_ratio_1 : Fd P w K mg base l_make_ratio "make_ratio" ["top", "bottom"] [.int 1] (sp_make_ratio K)) (C_u_law_refused : Fd P w K mg base l_u_law_refused "_law_refused" ["_law_top", "_law_bottom"] [] (sp_u_law_refused K)) (C_make_ratio : Fd P w K mg base l_make_ratio "make_ratio" ["top", "bottom"] [] (sp_make_ratio K)) (C_is_ratio : Fd P w K mg base l_is_ratio "is_ratio" ["thing"] [] (sp_is_ratio K)) (C_is_whole_1 : Fd P w K mg base l_is_whole "is_whole" ["thing", "low", "high"] [.non, .non] (sp_is_whole K)) (C_is_whole_2 : Fd P w K mg base l_is_whole "is_whole" ["thing", "low", "high"] [.non] (sp_is_whole K)) (C_is_whole : Fd P w K mg base l_is_whole "is_whole" ["thing", "low", "high"] [] (sp_is_whole K)) (F : FnP K "law" s_law [] f fd) : FnOk P w K mg base CX0 l_law f fd ["_law_script"] (sp_law K) := by
  refine F.ok sc_law (fun vs H Q E h => ?_) (fun cdv A outer s H vs Q E hr h => ⟨t_law K, ?_, ?_⟩)
  · obtain ⟨P, ds, e, ha, ⟨d, ns, rfl, _, _⟩, _⟩ := h
    rw [ha.len] <;> rfl
  · apply d_law0 <;> assumption
  · obtain ⟨P, ds, e, ha, ⟨d, ns, rfl, hl, _⟩, q⟩ := h
    rw [start_eq (n := 14) (by rw [ha.len] <;> rfl)]
    exact sem_law (D := { nx := fun _ H' => Q .non H', rt := Q }) (c := ⟨K, [], P, H⟩) hl rfl T.z_ZERO T.z_ONE T.z_HALF (fun v P' H' σ es x hx r hv => q v P' H' x ⟨ns, rfl, hl, hx⟩ (r.grow rfl) hv) _ P H (rep_start e ha)
theorem facts (X : K.In h) (G : h.Ns mainGlobals mg) (hfa : mg ("law" : Str) = some (.ref f)) (c : He.SaysX fa fn [] [] ex w h K) :
    ∃ fd : FuncData, (∀ (s : Shared) (v : Value), BindsTo s fd ⟨[v], []⟩ [("_law_script", v)]) ∧ ∀ base : Heap, FnOk P w K mg base CX0 l_law f fd ["_law_script"] (sp_law K) := by
  obtain ⟨d_0, F_0⟩ : ∃ fd, FnP K "is_whole" s_is_whole [.non, .non] (He.ga K "is_whole") fd := c.t.d.def_ 0 (d := dd "is_whole" s_is_whole [.non, .non]) rfl
  have m_0 : mg "is_whole" = some (.ref (He.ga K "is_whole")) := He.glo_ok X G (c.t.d.fact 0 (f := .glo "is_whole") rfl)
  obtain ⟨d_1, F_1⟩ : ∃ fd, FnP K "is_ratio" s_is_ratio [] (He.ga K "is_ratio") fd := c.t.d.def_ 1 (d := dd "is_ratio" s_is_ratio) rfl
  have m_1 : mg "is_ratio" = some (.ref (He.ga K "is_ratio")) := He.glo_ok X G (c.t.d.fact 1 (f := .glo "is_ratio") rfl)
  obtain ⟨d_2, F_2⟩ : ∃ fd, FnP K "_lowest" s_u_lowest [] (He.ga K "_lowest") fd := c.t.d.def_ 2 (d := dd "_lowest" s_u_lowest) rfl
  have m_2 : mg "_lowest" = some (.ref (He.ga K "_lowest")) := He.glo_ok X G (c.t.d.fact 2 (f := .glo "_lowest") rfl)
  obtain ⟨d_3, F_3⟩ : ∃ fd, FnP K "make_ratio" s_make_ratio [.int 1] (He.ga K "make_ratio") fd := c.t.d.def_ 3 (d := dd "make_ratio" s_make_ratio [.int 1]) rfl
  have m_3 : mg "make_ratio" = some (.ref (He.ga K "make_ratio")) := He.glo_ok X G (c.t.d.fact 3 (f := .glo "make_ratio") rfl)
  obtain ⟨d_4, F_4⟩ : ∃ fd, FnP K "plus" s_plus [] (He.ga K "plus") fd := c.t.d.def_ 4 (d := dd "plus" s_plus) rfl
  have m_4 : mg "plus" = some (.ref (He.ga K "plus")) := He.glo_ok X G (c.t.d.fact 4 (f := .glo "plus") rfl)
  obtain ⟨d_5, F_5⟩ : ∃ fd, FnP K "minus" s_minus [] (He.ga K "minus") fd := c.t.d.def_ 5 (d := dd "minus" s_minus) rfl
  have m_5 : mg "minus" = some (.ref (He.ga K "minus")) := He.glo_ok X G (c.t.d.fact 5 (f := .glo "minus") rfl)
  obtain ⟨d_6, F_6⟩ : ∃ fd, FnP K "times" s_times [] (He.ga K "times") fd := c.t.d.def_ 6 (d := dd "times" s_times) rfl
  have m_6 : mg "times" = some (.ref (He.ga K "times")) := He.glo_ok X G (c.t.d.fact 6 (f := .glo "times") rfl)
  obtain ⟨d_7, F_7⟩ : ∃ fd, FnP K "over" s_over [] (He.ga K "over") fd := c.t.d.def_ 7 (d := dd "over" s_over) rfl
  have m_7 : mg "over" = some (.ref (He.ga K "over")) := He.glo_ok X G (c.t.d.fact 7 (f := .glo "over") rfl)
  obtain ⟨d_8, F_8⟩ : ∃ fd, FnP K "negative" s_negative [] (He.ga K "negative") fd := c.t.d.def_ 8 (d := dd "negative" s_negative) rfl
  have m_8 : mg "negative" = some (.ref (He.ga K "negative")) := He.glo_ok X G (c.t.d.fact 8 (f := .glo "negative") rfl)
  obtain ⟨d_9, F_9⟩ : ∃ fd, FnP K "compare" s_compare [] (He.ga K "compare") fd := c.t.d.def_ 9 (d := dd "compare" s_compare) rfl
  have m_9 : mg "compare" = some (.ref (He.ga K "compare")) := He.glo_ok X G (c.t.d.fact 9 (f := .glo "compare") rfl)
  obtain ⟨d_10, F_10⟩ : ∃ fd, FnP K "sum_of" s_sum_of [] (He.ga K "sum_of") fd := c.t.d.def_ 10 (d := dd "sum_of" s_sum_of) rfl
  have m_10 : mg "sum_of" = some (.ref (He.ga K "sum_of")) := He.glo_ok X G (c.t.d.fact 10 (f := .glo "sum_of") rfl)
  obtain ⟨d_11, F_11⟩ : ∃ fd, FnP K "least_of" s_least_of [] (He.ga K "least_of") fd := c.t.d.def_ 11 (d := dd "least_of" s_least_of) rfl
  have m_11 : mg "least_of" = some (.ref (He.ga K "least_of")) := He.glo_ok X G (c.t.d.fact 11 (f := .glo "least_of") rfl)
  obtain ⟨d_12, F_12⟩ : ∃ fd, FnP K "greatest_of" s_greatest_of [] (He.ga K "greatest_of") fd := c.t.d.def_ 12 (d := dd "greatest_of" s_greatest_of) rfl
  have m_12 : mg "greatest_of" = some (.ref (He.ga K "greatest_of")) := He.glo_ok X G (c.t.d.fact 12 (f := .glo "greatest_of") rfl)
  obtain ⟨d_13, F_13⟩ : ∃ fd, FnP K "floor_of" s_floor_of [] (He.ga K "floor_of") fd := c.t.d.def_ 13 (d := dd "floor_of" s_floor_of) rfl
  have m_13 : mg "floor_of" = some (.ref (He.ga K "floor_of")) := He.glo_ok X G (c.t.d.fact 13 (f := .glo "floor_of") rfl)
  obtain ⟨d_14, F_14⟩ : ∃ fd, FnP K "broken_of" s_broken_of [] (He.ga K "broken_of") fd := c.t.d.def_ 14 (d := dd "broken_of" s_broken_of) rfl
  have m_14 : mg "broken_of" = some (.ref (He.ga K "broken_of")) := He.glo_ok X G (c.t.d.fact 14 (f := .glo "broken_of") rfl)
  obtain ⟨d_15, F_15⟩ : ∃ fd, FnP K "ratio_text" s_ratio_text [] (He.ga K "ratio_text") fd := c.t.d.def_ 15 (d := dd "ratio_text" s_ratio_text) rfl
  have m_15 : mg "ratio_text" = some (.ref (He.ga K "ratio_text")) := He.glo_ok X G (c.t.d.fact 15 (f := .glo "ratio_text") rfl)
  obtain ⟨d_16, F_16⟩ : ∃ fd, FnP K "_law_mix" s_u_law_mix [] (He.ga K "_law_mix") fd := c.t.d.def_ 16 (d := dd "_law_mix" s_u_law_mix) rfl
  have m_16 : mg "_law_mix" = some (.ref (He.ga K "_law_mix")) := He.glo_ok X G (c.t.d.fact 16 (f := .glo "_law_mix") rfl)
  obtain ⟨d_17, F_17⟩ : ∃ fd, FnP K "_law_hand" s_u_law_hand [] (He.ga K "_law_hand") fd := c.t.d.def_ 17 (d := dd "_law_hand" s_u_law_hand) rfl
  have m_17 : mg "_law_hand" = some (.ref (He.ga K "_law_hand")) := He.glo_ok X G (c.t.d.fact 17 (f := .glo "_law_hand") rfl)
  obtain ⟨d_18, F_18⟩ : ∃ fd, FnP K "_law_draw" s_u_law_draw [] (He.ga K "_law_draw") fd := c.t.d.def_ 18 (d := dd "_law_draw" s_u_law_draw) rfl
  have m_18 : mg "_law_draw" = some (.ref (He.ga K "_law_draw")) := He.glo_ok X G (c.t.d.fact 18 (f := .glo "_law_draw") rfl)
  obtain ⟨d_19, F_19⟩ : ∃ fd, FnP K "_law_part" s_u_law_part [] (He.ga K "_law_part") fd := c.t.d.def_ 19 (d := dd "_law_part" s_u_law_part) rfl
  have m_19 : mg "_law_part" = some (.ref (He.ga K "_law_part")) := He.glo_ok X G (c.t.d.fact 19 (f := .glo "_law_part") rfl)
  obtain ⟨d_20, F_20⟩ : ∃ fd, FnP K "_law_ratio" s_u_law_ratio [] (He.ga K "_law_ratio") fd := c.t.d.def_ 20 (d := dd "_law_ratio" s_u_law_ratio) rfl
  have m_20 : mg "_law_ratio" = some (.ref (He.ga K "_law_ratio")) := He.glo_ok X G (c.t.d.fact 20 (f := .glo "_law_ratio") rfl)
  obtain ⟨d_21, F_21⟩ : ∃ fd, FnP K "_law_same_ratio" s_u_law_same_ratio [] (He.ga K "_law_same_ratio") fd := c.t.d.def_ 21 (d := dd "_law_same_ratio" s_u_law_same_ratio) rfl
  have m_21 : mg "_law_same_ratio" = some (.ref (He.ga K "_law_same_ratio")) := He.glo_ok X G (c.t.d.fact 21 (f := .glo "_law_same_ratio") rfl)
  obtain ⟨d_22, F_22⟩ : ∃ fd, FnP K "_law_whole" s_u_law_whole [] (He.ga K "_law_whole") fd := c.t.d.def_ 22 (d := dd "_law_whole" s_u_law_whole) rfl
  have m_22 : mg "_law_whole" = some (.ref (He.ga K "_law_whole")) := He.glo_ok X G (c.t.d.fact 22 (f := .glo "_law_whole") rfl)
  obtain ⟨d_23, F_23⟩ : ∃ fd, FnP K "_law_refused" s_u_law_refused [] (He.ga K "_law_refused") fd := c.t.d.def_ 23 (d := dd "_law_refused" s_u_law_refused) rfl
  have m_23 : mg "_law_refused" = some (.ref (He.ga K "_law_refused")) := He.glo_ok X G (c.t.d.fact 23 (f := .glo "_law_refused") rfl)
  obtain ⟨d_24, F_24⟩ : ∃ fd, FnP K "_law_over" s_u_law_over [] (He.ga K "_law_over") fd := c.t.d.def_ 24 (d := dd "_law_over" s_u_law_over) rfl
  have m_24 : mg "_law_over" = some (.ref (He.ga K "_law_over")) := He.glo_ok X G (c.t.d.fact 24 (f := .glo "_law_over") rfl)
  obtain ⟨d_25, F_25⟩ : ∃ fd, FnP K "_law_pair" s_u_law_pair [] (He.ga K "_law_pair") fd := c.t.d.def_ 25 (d := dd "_law_pair" s_u_law_pair) rfl
  have m_25 : mg "_law_pair" = some (.ref (He.ga K "_law_pair")) := He.glo_ok X G (c.t.d.fact 25 (f := .glo "_law_pair") rfl)
  obtain ⟨d_26, F_26⟩ : ∃ fd, FnP K "_law_many" s_u_law_many [] (He.ga K "_law_many") fd := c.t.d.def_ 26 (d := dd "_law_many" s_u_law_many) rfl
  have m_26 : mg "_law_many" = some (.ref (He.ga K "_law_many")) := He.glo_ok X G (c.t.d.fact 26 (f := .glo "_law_many") rfl)
  obtain ⟨d_27, F_27⟩ : ∃ fd, FnP K "law" s_law [] (He.ga K "law") fd := c.t.d.def_ 27 (d := dd "law" s_law) rfl
  have m_27 : mg "law" = some (.ref (He.ga K "law")) := He.glo_ok X G (c.t.d.fact 27 (f := .glo "law") rfl)
  have e := hfa.symm.trans m_27
  cases e
  refine ⟨_, fun s v => F_27.bindsA (ps := ["_law_script"]) (fun _ _ _ _ _ _ us hl => match us, hl with | [_], _ => rfl) s [v] rfl, fun base => ?_⟩
  have T : Txt P w K mg base := txt X G c
  have O_0 : FnOk P w K mg base (L2.CX P w) l_is_whole (He.ga K "is_whole") d_0 ["thing", "low", "high"] (sp_is_whole K) := by apply ok_is_whole <;> assumption
  obtain ⟨b1, v1, B1⟩ := w_binds1 F_0
  obtain ⟨b2, v2, B2⟩ := w_binds2 F_0
  obtain ⟨b3, v3, B3⟩ := w_binds3 F_0
  have C_w1 : Fd P w K mg base l_is_whole "is_whole" ["thing", "low", "high"] [.non, .non] (sp_is_whole K) := ⟨_, _, b1, O_0, B1, v1, m_0, F_0.kp⟩
  have C_w2 : Fd P w K mg base l_is_whole "is_whole" ["thing", "low", "high"] [.non] (sp_is_whole K) := ⟨_, _, b2, O_0, B2, v2, m_0, F_0.kp⟩
  have C_w3 : Fd P w K mg base l_is_whole "is_whole" ["thing", "low", "high"] [] (sp_is_whole K) := ⟨_, _, b3, O_0, B3, v3, m_0, F_0.kp⟩
  have C_wk : Fk P w K mg base l_is_whole "is_whole" ["thing", "low", "high"] ["high", "low"] kw_is_whole (sp_is_whole K) := ⟨_, _, kg, O_0, w_kbinds F_0, m_0, F_0.kp⟩
  have C_1 : Fd P w K mg base l_is_ratio "is_ratio" ["thing"] [] (sp_is_ratio K) := by apply f_is_ratio <;> assumption
  have C_2 : Fd P w K mg base l_u_lowest "_lowest" ["top", "bottom"] [] (sp_u_lowest K) := by apply f_u_lowest <;> assumption
  have O_3 : FnOk P w K mg base (L2.CX P w) l_make_ratio (He.ga K "make_ratio") d_3 ["top", "bottom"] (sp_make_ratio K) := by apply ok_make_ratio <;> assumption
  obtain ⟨c1, u1, A1⟩ := m_binds1 F_3
  obtain ⟨c2, u2, A2⟩ := m_binds2 F_3
  have C_m1 : Fd P w K mg base l_make_ratio "make_ratio" ["top", "bottom"] [.int 1] (sp_make_ratio K) := ⟨_, _, c1, O_3, A1, u1, m_3, F_3.kp⟩
  have C_m2 : Fd P w K mg base l_make_ratio "make_ratio" ["top", "bottom"] [] (sp_make_ratio K) := ⟨_, _, c2, O_3, A2, u2, m_3, F_3.kp⟩
  have C_4 : Fd P w K mg base l_plus "plus" ["one", "other"] [] (sp_plus K) := by apply f_plus <;> assumption
  have C_5 : Fd P w K mg base l_minus "minus" ["one", "other"] [] (sp_minus K) := by apply f_minus <;> assumption
  have C_6 : Fd P w K mg base l_times "times" ["one", "other"] [] (sp_times K) := by apply f_times <;> assumption
  have C_7 : Fd P w K mg base l_over "over" ["one", "other"] [] (sp_over K) := by apply f_over <;> assumption
  have C_8 : Fd P w K mg base l_negative "negative" ["one"] [] (sp_negative K) := by apply f_negative <;> assumption
  have C_9 : Fd P w K mg base l_compare "compare" ["one", "other"] [] (sp_compare K) := by apply f_compare <;> assumption
  have C_10 : Fd P w K mg base l_sum_of "sum_of" ["ratios"] [] (sp_sum_of K) := by apply f_sum_of <;> assumption
  have C_11 : Fd P w K mg base l_least_of "least_of" ["ratios"] [] (sp_least_of K) := by apply f_least_of <;> assumption
  have C_12 : Fd P w K mg base l_greatest_of "greatest_of" ["ratios"] [] (sp_greatest_of K) := by apply f_greatest_of <;> assumption
  have C_13 : Fd P w K mg base l_floor_of "floor_of" ["one"] [] (sp_floor_of K) := by apply f_floor_of <;> assumption
  have C_14 : Fd P w K mg base l_broken_of "broken_of" ["one"] [] (sp_broken_of K) := by apply f_broken_of <;> assumption
  have C_15 : Fd P w K mg base l_ratio_text "ratio_text" ["one"] [] (sp_ratio_text K) := by apply f_ratio_text <;> assumption
  have C_16 : Fd P w K mg base l_u_law_mix "_law_mix" ["_law_number", "_law_turn"] [] (sp_u_law_mix K) := by apply f_u_law_mix <;> assumption
  have C_17 : Fd P w K mg base l_u_law_hand "_law_hand" ["_law_script"] [] (sp_u_law_hand K) := by apply f_u_law_hand <;> assumption
  have C_18 : Fd P w K mg base l_u_law_draw "_law_draw" ["_law_hand_here", "_law_many_here"] [] (sp_u_law_draw K) := by apply f_u_law_draw <;> assumption
  have C_19 : Fd P w K mg base l_u_law_part "_law_part" ["_law_a", "_law_b"] [] (sp_u_law_part K) := by apply f_u_law_part <;> assumption
  have C_20 : Fd P w K mg base l_u_law_ratio "_law_ratio" ["_law_top", "_law_bottom"] [] (sp_u_law_ratio K) := by apply f_u_law_ratio <;> assumption
  have C_21 : Fd P w K mg base l_u_law_same_ratio "_law_same_ratio" ["_law_told", "_law_top", "_law_bottom"] [] (sp_u_law_same_ratio K) := by apply f_u_law_same_ratio <;> assumption
  have C_22 : Fd P w K mg base l_u_law_whole "_law_whole" ["_law_thing"] [] (sp_u_law_whole K) := by apply f_u_law_whole <;> assumption
  have C_23 : Fd P w K mg base l_u_law_refused "_law_refused" ["_law_top", "_law_bottom"] [] (sp_u_law_refused K) := by apply f_u_law_refused <;> assumption
  have C_24 : Fd P w K mg base l_u_law_over "_law_over" ["_law_one", "_law_other"] [] (sp_u_law_over K) := by apply f_u_law_over <;> assumption
  have C_25 : Fd P w K mg base l_u_law_pair "_law_pair" ["_law_a", "_law_b", "_law_c", "_law_d"] [] (sp_u_law_pair K) := by apply f_u_law_pair <;> assumption
  have C_26 : Fd P w K mg base l_u_law_many "_law_many" ["_law_row"] [] (sp_u_law_many K) := by apply f_u_law_many <;> assumption
  apply ok_law <;> assumption
end
end K01
set_option Elab.async false
set_option linter.all false
set_option maxRecDepth 100000
set_option maxHeartbeats 0
namespace K01
open PySem PySem.Spec PyProof.Rows L2 My
abbrev RWL := PySem.Challenge.rw_neverbare_k01_whole_ratios_reckoned
abbrev R : PySem.W.OpenRow := PySem.W.OpenLaw.row RWL
abbrev hk : PySem.W.Hook := He.hookX 5 fa fn [] [] ex
def ob (s : PySem.W.SharedT) : He.AlX := He.obsX 5 fa fn [] [] ex (HandSHeadRun.getT s)
theorem ob_eq (s : PySem.W.SharedT) : ob s = hk.obs s.abs := He.obsX_eq (HandSHeadRun.getT_eq s)
def loose : List Str := (["PrintError", "BadRatio", "gcd", "ZERO", "ONE", "HALF", "is_whole", "is_ratio", "_lowest", "make_ratio", "plus", "minus", "times", "over", "negative", "compare"] : List Str) ++ (["sum_of", "least_of", "greatest_of", "floor_of", "broken_of", "ratio_text", "_law_mix", "_law_hand", "_law_draw", "_law_part", "_law_ratio", "_law_same_ratio", "_law_whole", "_law_refused", "_law_over", "_law_pair", "_law_many"] : List Str)
theorem run (w : World) : My.RunAll R (PySem.W.view R.prog [36]) hk ob 3000 loose w := by
  unfold My.RunAll
  kernel_rfl
end K01
open PySem PySem.W PySem.Calls PyProof.Rows
theorem PySem.Challenge.cw_neverbare_k01_whole_ratios_reckoned_holds : PySem.Challenge.rw_neverbare_k01_whole_ratios_reckoned.Holds := by
  w_on; o_law
  refine My.head_imp (r := OpenLaw.row PySem.Challenge.rw_neverbare_k01_whole_ratios_reckoned) (q := view (OpenLaw.row PySem.Challenge.rw_neverbare_k01_whole_ratios_reckoned).prog [36]) (H := K01.hk) (ob := K01.ob) (M := 3000) (loose := K01.loose) (d := HandSHeadRun.topDef (OpenLaw.row PySem.Challenge.rw_neverbare_k01_whole_ratios_reckoned).prog 36) (kwd := []) K01.ob_eq
    K01.run (by kernel_rfl) (by kernel_rfl) (by kernel_rfl) (by rfl) (by first | assumption | decide +kernel) (by decide +kernel) ⟨rfl, rfl, rfl, rfl, rfl, by decide +kernel⟩ ?hw ?hc
  case hw => w_witness2
  case hc =>
    refine L2.walk_ofE (l := PySem.Challenge.rw_neverbare_k01_whole_ratios_reckoned) (n := 63) (k := 6) (x := "_law_script") (CX := L2.CX0) rfl (by decide) (by kernel_rfl) ⟨rfl, by decide, by decide⟩ ?F (fun _ _ _ _ z => z)
    intro w mg fa h Y G hmg0
    obtain ⟨K, KX, c⟩ := Y
    have hmg : mg ("law" : PySem.Str) = some (.ref fa) := by
      have e : (HandSHeadRun.topDef (OpenLaw.row PySem.Challenge.rw_neverbare_k01_whole_ratios_reckoned).prog 36).name = ("law" : PySem.Str) := by kernel_rfl
      rw [← e]
      exact hmg0
    obtain ⟨fd, hb, hF⟩ := K01.facts (P := (PySem.Challenge.rw_neverbare_k01_whole_ratios_reckoned).prog) (w := w) KX G hmg c
    refine ⟨K, fd, K01.sp_law K, KX, hb, fun H a ns hl _ hS => ?_, fun base _ _ => hF base⟩
    refine ⟨H, [.lst (ns.map My.Dt.int)], .refl H, .cons (.lst hS (My.HasAll.ints ns)) .nil, ⟨_, ns, rfl, hl, rfl⟩, fun v P' H' d ⟨_, _, _, ed⟩ g hv => ?_⟩
    subst ed
    cases hv
    rfl
