/- Contract of String at the writer's Builder. -/
import Derived.Test.YtacbpdnpepgngaaWdW
import Derived.Lib.UnsafeStr
import Derived.Shelf.RegionOpenPlain
namespace Go.Proofs.Ytacbpdnpepgngaa.wrd
set_option linter.unusedVariables false set_option linter.unusedSimpArgs false
open Go.ChangeShapes Go.WideShapes Go.ChangeAt Go.RowKit Go.Proofs.Ytacbpdnpepgngaa.base

theorem kb_freeze {B b : Nat} {w w' : World} (h : Kb B b w w') {g : Nat} {C : Array Value} {f : Nat × Nat} (hB : B ≤ w'.heap.size) (hg : w'.heap[g]? = some (.cells C 5 f)) (hgB : B ≤ g) (n : Nat) : Kb B b w (w'.freeze ⟨g, 0, none⟩ n) := by
  refine h.trans ⟨Lib.below_freeze (Below.refl B w') (p := ⟨g, 0, none⟩) hgB n, ?_⟩
  unfold World.freeze
  split
  · exact Frm.refl _ _
  · exact ⟨rfl, rfl, rfl, by simp, fun k hk hn => by
      simp only [Array.getElem?_modify]
      rw [if_neg (fun e => hn (by subst e; exact .inr ⟨C, f, hg⟩))]⟩

set_option maxHeartbeats 2000000 in
set_option maxRecDepth 100000 in
/-- String. -/
theorem string_all (w : World) (B b : Nat) (l : List UInt8) (most : Int) (h : WR B b l most w) (hB : B ≤ w.heap.size) :
    Calls Try.prog 30 #[.pointer (some ⟨b, 0, none⟩)] w fun e w' => e = .returned (.string ⟨l.toArray⟩) ∧ Kb B b w w' := by
  obtain ⟨h0, p, v, _, hb, hown, _⟩ := h
  have c1 : w.cell? ⟨b, 1, none⟩ = some v := hb.cell 1
  have c1d : w.drew.cell? ⟨b, 1, none⟩ = some v := hb.cell 1
  have mixed : Try.prog.follows .mixedOrders = true := by kernel_rfl
  have hUS0 : ∀ (W : World) (q : Option Addr), (Builtin.unsafeString_ #[102, 3] 9 #[.pointer q, .int .i64 0]).run Try.prog W = .ok (.string .empty) W := fun W q => Lib.run_unsafeString_none W _ _ _ q
  rcases hown.2 with ⟨rfl, hl0⟩ | ⟨g, cap, cur, rfl, hgB, hg, hnc, hcm, hcs, htk⟩
  · obtain rfl : l = [] := List.eq_nil_of_length_eq_zero hl0
    have hSD : (Builtin.unsafeSliceData_ #[61] 102 #[.slice none 0 0]).run Try.prog w.drew = .ok (.pointer none) w.drew := rfl
    clear hown hb
    go_enter Try.func30, Try.ntmps30
    go_wp2
    go_region_o
    all_goals (go_wp2; go_ret; exact ⟨rfl, Kb.of (Frm.refl No w).drew hB⟩)
  · have hg' : w.drew.heap[g]? = some (.cells cur 5 (0, 0)) := hg
    cases hl : l with
    | cons x r =>
      rw [← hl]
      have hSD : (Builtin.unsafeSliceData_ #[61] 102 #[.slice (some ⟨g, 0, none⟩) l.length cap]).run Try.prog w.drew = .ok (.pointer (some ⟨g, 0, none⟩)) w.drew :=
        Lib.run_unsafeSliceData_row _ _ _ _ _ _ (by rw [hl] at hnc; simp at hnc; omega)
      have hUS : (Builtin.unsafeString_ #[102, 3] 9 #[.pointer (some ⟨g, 0, none⟩), .int .i64 (l.length : Int)]).run Try.prog w.drew = .ok (.string ⟨l.toArray⟩) (w.drew.freeze ⟨g, 0, none⟩ l.length) := by
        refine Lib.run_unsafeString_row w.drew 102 3 9 5 Try.underlying102 byte_cells g cur.size (by simp [World.shape?, hg']) l (by rw [hl]; simp) (by omega) (by unfold maxLen at hcm; omega) ?_
        intro j y hy
        exact World.ownsRow.cells hown (g := g) rfl j (bV y) (by simp [hy])
      clear hown hb hl
      go_enter Try.func30, Try.ntmps30
      go_wp2
      go_region_o
      all_goals (go_wp2; go_ret; exact ⟨rfl, kb_freeze (Kb.of (Frm.refl No w).drew hB) hB hg' hgB _⟩)
    | nil =>
      subst hl
      by_cases hc0 : cap = 0
      · subst hc0
        have hSD : (Builtin.unsafeSliceData_ #[61] 102 #[.slice (some ⟨g, 0, none⟩) 0 0]).run Try.prog w.drew = .ok (.pointer (some ⟨w.drew.heap.size, 0, none⟩)) (w.drew.alloc (.view ⟨g, 0, none⟩ 5)) :=
          Lib.run_unsafeSliceData_zero w.drew _ _ 5 Try.underlying102 ⟨g, 0, none⟩ 0 (5, cur.size) (by simp [World.shape?, hg'])
        have c2 : (w.drew.alloc (.view ⟨g, 0, none⟩ 5)).cell? ⟨b, 1, none⟩ = some (.slice (some ⟨g, 0, none⟩) 0 0) := by
          exact ((hb.drew).alloc _).cell 1
        have c3 : (w.alloc (.view ⟨g, 0, none⟩ 5)).drew.cell? ⟨b, 1, none⟩ = some (.slice (some ⟨g, 0, none⟩) 0 0) := c2
        clear hown hb
        go_enter Try.func30, Try.ntmps30
        go_wp2
        go_region_o
        all_goals (go_wp2; go_ret; exact ⟨rfl, Kb.of ((Frm.refl No w).drew.alloc _) hB⟩)
      · have hSD : (Builtin.unsafeSliceData_ #[61] 102 #[.slice (some ⟨g, 0, none⟩) 0 cap]).run Try.prog w.drew = .ok (.pointer (some ⟨g, 0, none⟩)) w.drew :=
          Lib.run_unsafeSliceData_row _ _ _ _ _ _ hc0
        clear hown hb hc0
        go_enter Try.func30, Try.ntmps30
        go_wp2
        go_region_o
        all_goals (go_wp2; go_ret; exact ⟨rfl, Kb.of (Frm.refl No w).drew hB⟩)
end Go.Proofs.Ytacbpdnpepgngaa.wrd
