/- A range over a function whose body must know in what order its values come. -/
import Derived.Test.YtacbpdnpepgngaaSpc
import Derived.RangeFuncNested
import Derived.RangeFuncBound
import Derived.RangeFuncCalls
import Derived.RangeFuncLeaves
import Derived.Shelf.Abstract
import Derived.Shelf.RegionOpen
import Derived.OwnWalkIn
import Derived.TacticsInMore
import Derived.LoopNIn
import Derived.LoopIn
namespace Go.Proofs.Ytacbpdnpepgngaa.rng
set_option linter.unusedVariables false set_option linter.unusedSimpArgs false
open Go.ChangeShapes Go.WideShapes Go.ChangeAt Go.RowKit Go.Shelf Go.Proofs.Ytacbpdnpepgngaa.base

/-- Blocks from B on that hold no cells. -/
def NCs (B : Nat) (W : World) : Nat → Prop := fun k => B ≤ k ∧ ∃ o : Obj, W.heap[k]? = some o ∧ o.isCells = false
theorem ncs_no {B : Nat} {A C : World} (h : Frm No A C) : Frm (NCs B A) A C := h.mono (fun _ _ e => e.elim)
theorem ncs_put {B : Nat} {W : World} {l : Nat} {o o' : Obj} (hl : B ≤ l) (h : W.heap[l]? = some o) (hc : o.isCells = false) : Frm (NCs B W) W (W.putObj l o') :=
  ⟨rfl, rfl, rfl, by simp, fun k hk hn => World.putObj_heap_other (fun e => hn (by subst e; exact ⟨hl, o, h, hc⟩))⟩
/-- What holds no cells stays, from B on. -/
def Keep (B : Nat) (W W' : World) : Prop := ∀ k o, B ≤ k → W.heap[k]? = some o → o.isCells = false → W'.heap[k]? = some o
theorem Keep.refl (B : Nat) (W : World) : Keep B W W := fun _ _ _ h _ => h
theorem Keep.trans {B : Nat} {W1 W2 W3 : World} (h : Keep B W1 W2) (k : Keep B W2 W3) : Keep B W1 W3 := fun i o hi ho hc => k i o hi (h i o hi ho hc) hc
theorem Keep.of {B : Nat} {S : Nat → Prop} {W W' : World} (h : Frm S W W') (hs : ∀ k o, W.heap[k]? = some o → o.isCells = false → ¬ S k) : Keep B W W' := fun k o _ ho hc =>
  (h.block k (Array.getElem?_eq_some_iff.1 ho).1 (hs k o ho hc)).trans ho

/-- How a round may be left. -/
def Left (B : Nat) {α : Type} (I : List α → World → Prop) (Ix : Code → List α → World → Prop) (pre : List α) (W : World) : Exit → Act → World → Prop
  | .normal, _, W' => Keep B W W' ∧ I pre W'
  | .ret, _, W' => Keep B W W' ∧ Ix .ret pre W'
  | .exit id, _, W' => Keep B W W' ∧ Ix (.exit id) pre W'
  | .goto t, _, W' => Keep B W W' ∧ Ix (.goto t) pre W'
  | .panic _, _, _ => False
  | .outgrown, _, _ => False

/-- What an iterator owes: it yields values that may follow one another, till there is none, or till it is told to stop. -/
def Gives {α : Type} (P : Program) (n : Nat) (gf : Nat) (lb : Array Value) (encs : α → Array Value) (Nx : List α → α → Prop) (S Sp : List α → Prop) (I : List α → World → Prop) (w : World) : Prop :=
  ∀ (l : Nat) (J Jx : List α → World → Prop) (W : World), (∀ pre A, J pre A → I pre A) → (∀ pre A C, J pre A → Frm No A C → J pre C) → (∀ pre A C, Jx pre A → Frm No A C → Jx pre C) →
    (∀ pre x A, J pre A → Nx pre x → YieldAt Fence.wide (n - 1) P l (encs x) A fun e A' => (e = .returned (.bool true) ∧ J (pre ++ [x]) A') ∨ (e = .returned (.bool false) ∧ Jx (pre ++ [x]) A')) →
    J [] W → CallsIn Fence.wide n P gf (#[.func (.yield l) #[] #[]] ++ lb) W fun e W' => (∃ v, e = .returned v) ∧ ((∃ xs, S xs ∧ J xs W') ∨ (∃ pre, Sp pre ∧ Jx pre W'))

theorem range_path {α : Type} {P : Program} {g : Operand} {ps : Array Tmp} {assign body : Code} {Q : Exit → Act → World → Prop} {a : Act} {w : World} {n : Nat}
    (h1 : 1 ≤ n) {gf : Nat} {lb : Array Value} (hg : a.eval g = .func (.func gf) #[] lb) (eg : ∀ args w, (callFunc gf args).run P w = .ok (.enter gf args) w)
    (encs : α → Array Value) (hps : ∀ x, (encs x).size = ps.size) (Nx : List α → α → Prop) (S Sp : List α → Prop)
    (I : List α → World → Prop) (Ix : Code → List α → World → Prop)
    (hI : ∀ pre A C, I pre A → Frm (NCs w.heap.size A) A C → I pre C) (hIx : ∀ c pre A C, Ix c pre A → Frm (NCs w.heap.size A) A C → Ix c pre C)
    (h0 : I [] w) (hit : Gives P (n - 1) gf lb encs Nx S Sp I w) (a₁ : α → Act)
    (hassign : ∀ (l : Nat) (x : α) (W : World) (K : Act → World → Prop), K (a₁ x) W →
      assign.wpIn (Fence.wide.inRound l) (n - 1 - 1) P (Exit.then K (fun _ _ _ => False)) { tmps := (ps.zip (encs x)).foldl (fun t (p, v) => t.setIfInBounds p v) a.tmps, defers := [] } W)
    (hbody : ∀ (l : Nat) (pre : List α) (x : α) (W : World), w.heap.size ≤ l → I pre W → Nx pre x → body.wpIn (Fence.wide.inRound l) (n - 1 - 1) P (Left w.heap.size I Ix (pre ++ [x]) W) (a₁ x) W)
    (hdone : ∀ (D : Nat) (xs : List α) (W : World), w.heap.size ≤ D → S xs → I xs W → W.heap[D]? = some (.deferred (some [])) → Q .normal { a with defers := { target := .collected D, args := #[] } :: a.defers } W)
    (hstop : ∀ (D : Nat) (c : Code) (pre : List α) (W : World), w.heap.size ≤ D → Sp pre → Ix c pre W → W.heap[D]? = some (.deferred (some [])) → c.wpIn Fence.wide n P Q { a with defers := { target := .collected D, args := #[] } :: a.defers } W) :
    (Code.rangeFunc g ps assign body).wpIn Fence.wide n P Q a w := by
  apply wpIn_rangeFunc
  intro fn hfn
  -- the two blocks: D for deferred calls, L the loop's record
  generalize hD : w.heap.size = D at *
  let rec_ : LoopState → Option Code → Loop := fun st pe => { state := st, pending := pe, fn, tmps := a.tmps, params := ps, assign, body, defers := D }
  obtain ⟨V, hV⟩ : ∃ V, (w.alloc (.deferred (some []))).alloc (.loop (rec_ .ready none)) = V := ⟨_, rfl⟩
  have hVf : Frm No w V := by rw [← hV]; exact ((Frm.refl No w).alloc _).alloc _
  have hVL : V.heap[D + 1]? = some (.loop (rec_ .ready none)) := by
    rw [← hV, ← hD]
    have := World.alloc_heap_new (w.alloc (.deferred (some []))) (.loop (rec_ .ready none))
    rwa [World.size_alloc] at this
  have hVD : V.heap[D]? = some (.deferred (some [])) := by
    rw [← hV, ← hD]
    exact (Below.heap_alloc _ _ _ (by simp)).trans (World.alloc_heap_new w _)
  refine ⟨D + 1, [{ target := .collected D, args := #[] }], V, { target := .fn (.func gf) lb, args := #[.func (.yield (D + 1)) #[] #[]] }, V, gf, #[.func (.yield (D + 1)) #[] #[]] ++ lb, V, ?_, ?_, ?_, ?_, fun _ => h1, ?_⟩
  · rw [← hV, ← hD]
    have := run_enterLoop_outer (P := P) (w := w) fn a.tmps ps assign body
    rw [hD] at this ⊢
    exact this
  · simp only [resolve, hg]
    simp [go_sem]
  · intro f' hf'
    trivial
  · simp [invoke, go_sem, eg]
  · refine (hit (D + 1) (fun pre A => I pre A ∧ A.heap[D + 1]? = some (.loop (rec_ .ready none)) ∧ A.heap[D]? = some (.deferred (some [])))
      (fun pre A => ∃ c, Ix c pre A ∧ A.heap[D + 1]? = some (.loop (rec_ .done (some c))) ∧ A.heap[D]? = some (.deferred (some []))) V (fun _ _ h => h.1)
      (fun pre A C h hf => ⟨hI _ _ _ h.1 (ncs_no hf), (hf.block _ (Array.getElem?_eq_some_iff.1 h.2.1).1 id).trans h.2.1, (hf.block _ (Array.getElem?_eq_some_iff.1 h.2.2).1 id).trans h.2.2⟩)
      (fun pre A C h hf => by
        obtain ⟨c, g1, g2, g3⟩ := h
        exact ⟨c, hIx _ _ _ _ g1 (ncs_no hf), (hf.block _ (Array.getElem?_eq_some_iff.1 g2).1 id).trans g2, (hf.block _ (Array.getElem?_eq_some_iff.1 g3).1 id).trans g3⟩)
      ?_ ⟨hI _ _ _ h0 (ncs_no hVf), hVL, hVD⟩).mono ?_
    · -- one round
      rintro pre x A ⟨hiA, hL, hK⟩ hnx
      have hy := run_yield (P := P) (args := encs x) hL (hps x)
      refine ⟨fn, _, assign, body, hy, roundIn_of_wpIn hfn (hassign _ x A _ ?_)⟩
      clear hy
      refine ⟨_, run_beginRound hL rfl, ?_⟩
      obtain ⟨A2, hA2⟩ : ∃ A2, A.putObj (D + 1) (.loop { rec_ .ready none with state := .busy }) = A2 := ⟨_, rfl⟩
      have hlt : D + 1 < A.heap.size := (Array.getElem?_eq_some_iff.1 hL).1
      have hL2 : A2.heap[D + 1]? = some (.loop { rec_ .ready none with state := .busy }) := by rw [← hA2]; exact World.putObj_heap_same hlt
      have hK2 : A2.heap[D]? = some (.deferred (some [])) := by rw [← hA2]; exact (World.putObj_heap_other (by omega)).trans hK
      have hi2 : I pre A2 := by rw [← hA2]; exact hI _ _ _ hiA (ncs_put (by omega) hL rfl)
      rw [hA2]
      refine wpIn_mono (hbody (D + 1) pre x A2 (by omega) hi2 hnx) ?_
      have fin : ∀ (j : Option Code) (A3 : World), Keep D A2 A3 → (Instr.endRound (D + 1) j).run P A3 = .ok (.bool j.isNone) (A3.putObj (D + 1) (.loop (rec_ (if j.isNone then .ready else .done) j))) ∧
          A3.heap[D + 1]? = some (.loop { rec_ .ready none with state := .busy }) ∧
          (A3.putObj (D + 1) (.loop (rec_ (if j.isNone then .ready else .done) j))).heap[D + 1]? = some (.loop (rec_ (if j.isNone then .ready else .done) j)) ∧
          (A3.putObj (D + 1) (.loop (rec_ (if j.isNone then .ready else .done) j))).heap[D]? = some (.deferred (some [])) := fun j A3 hk => by
        have g1 := hk _ _ (by omega) hL2 rfl
        have g2 := hk _ _ (Nat.le_refl _) hK2 rfl
        exact ⟨run_endRound (P := P) j g1, g1, World.putObj_heap_same (Array.getElem?_eq_some_iff.1 g1).1, (World.putObj_heap_other (by omega)).trans g2⟩
      have leave : ∀ (c : Code) (A3 : World), Keep D A2 A3 → Ix c (pre ++ [x]) A3 → ∃ v A4, (Instr.endRound (D + 1) (some c)).run P A3 = .ok v A4 ∧
          ((Ending.returned v = .returned (.bool true) ∧ I (pre ++ [x]) A4 ∧ A4.heap[D + 1]? = some (.loop (rec_ .ready none)) ∧ A4.heap[D]? = some (.deferred (some []))) ∨
           (Ending.returned v = .returned (.bool false) ∧ ∃ c, Ix c (pre ++ [x]) A4 ∧ A4.heap[D + 1]? = some (.loop (rec_ .done (some c))) ∧ A4.heap[D]? = some (.deferred (some [])))) := fun c A3 hk hx => by
        obtain ⟨g1, g2, g3, g4⟩ := fin (some c) A3 hk
        exact ⟨_, _, g1, .inr ⟨rfl, c, hIx _ _ _ _ hx (ncs_put (by omega) g2 rfl), g3, g4⟩⟩
      intro e b A3 hp
      cases e with
      | normal =>
        obtain ⟨g1, g2, g3, g4⟩ := fin none A3 hp.1
        exact ⟨_, _, g1, .inl ⟨rfl, hI _ _ _ hp.2 (ncs_put (by omega) g2 rfl), g3, g4⟩⟩
      | ret => exact leave .ret A3 hp.1 hp.2
      | exit id => exact leave (.exit id) A3 hp.1 hp.2
      | goto t => exact leave (.goto t) A3 hp.1 hp.2
      | panic ch => exact hp.elim
      | outgrown => exact hp.elim
    · rintro e A2 ⟨⟨v, rfl⟩, (⟨xs, hS, hi, hl, hk⟩ | ⟨pre, hSp, c, hi, hl, hk⟩)⟩
      · exact ⟨none, _, run_endLoop (P := P) hl (by simp [rec_]), hdone D xs _ (Nat.le_refl _) hS (hI _ _ _ hi (ncs_put (by omega) hl rfl)) ((World.putObj_heap_other (by omega)).trans hk)⟩
      · exact ⟨some c, _, run_endLoop (P := P) hl (by simp [rec_]), hstop D c pre _ (Nat.le_refl _) hSp (hIx _ _ _ _ hi (ncs_put (by omega) hl rfl)) ((World.putObj_heap_other (by omega)).trans hk)⟩
end Go.Proofs.Ytacbpdnpepgngaa.rng
