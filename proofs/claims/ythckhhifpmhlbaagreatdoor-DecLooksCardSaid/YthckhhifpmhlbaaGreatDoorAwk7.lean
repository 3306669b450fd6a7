/- What awake asks of dec.Format: 0.1 by g with 6. -/
import Derived.Test.YthckhhifpmhlbaaGreatDoorAwk6
namespace Go.Proofs.YthckhhifpmhlbaaGreatDoor.awk
set_option linter.unusedVariables false
open Go.ChangeShapes Go.WideShapes Go.ChangeAt Go.RowKit

theorem made_own (w : World) (B : Nat) (e : TypeId) (hB : B ≤ w.heap.size) : OwnB (w.alloc (.cells zeros24 e)) B e (.slice (some ⟨w.heap.size, 0, none⟩) 0 24) [] :=
  ⟨rfl, Or.inr ⟨w.heap.size, 24, zeros24, rfl, hB, heap_alloc_new w _, Nat.zero_le _, by unfold maxLen; omega, by unfold zeros24; simp, by simp⟩⟩

set_option maxRecDepth 100000 in
set_option maxHeartbeats 800000 in
theorem iFormat_e (w : World) (hT : TabF w) :
    Calls Tryz.prog 63 #[.float .f64 4591870180066957722, .int .u8 101, .int .i64 5, .int .i64 64] w fun e w' => e = .returned (.string ⟨#[49, 46, 48, 48, 48, 48, 48, 101, 45, 48, 49]⟩) ∧ Below w.heap.size w w' := by
  have m1 : max (9 : Int) 24 = 24 := by decide
  have hmk : ∀ W : World, (Instr.makeSlice 60 (.int .i64 0) (.int .i64 24)).run Tryz.prog W = .ok (.slice (some ⟨W.heap.size, 0, none⟩) 0 24) (W.alloc (.cells zeros24 5)) := fun _ => by kernel_rfl
  have HT := Lib.hid (hT.below ((Below.refl w.heap.size w).alloc (Nat.le_refl _) (.cells zeros24 5)))
  have HO := Lib.hid (made_own w w.heap.size 5 (Nat.le_refl _))
  clear hT
  go_enter Tryz.func63, Tryz.ntmps63
  go_wp2_with (go_at_call 92; go_must (refine (ftoa_e w.heap.size _ _ HO.out (by simp) HT.out).mono ?_; rintro e w1 ⟨v1, rfl, hown1, hb1⟩; have hcv := hown1.str (P := Tryz.prog) 60 9 Tryz.underlying60 Tryz.underlying5 Tryz.underlying9))
  go_ret
  exact ⟨rfl, ((Below.refl _ _).alloc (Nat.le_refl _) _).trans hb1⟩
theorem iFormat_f (w : World) (hT : TabF w) :
    Calls Tryz.prog 63 #[.float .f64 4591870180066957722, .int .u8 102, .int .i64 6, .int .i64 64] w fun e w' => e = .returned (.string ⟨#[48, 46, 49, 48, 48, 48, 48, 48]⟩) ∧ Below w.heap.size w w' := by
  have m1 : max (10 : Int) 24 = 24 := by decide
  have hmk : ∀ W : World, (Instr.makeSlice 60 (.int .i64 0) (.int .i64 24)).run Tryz.prog W = .ok (.slice (some ⟨W.heap.size, 0, none⟩) 0 24) (W.alloc (.cells zeros24 5)) := fun _ => by kernel_rfl
  have HT := Lib.hid (hT.below ((Below.refl w.heap.size w).alloc (Nat.le_refl _) (.cells zeros24 5)))
  have HO := Lib.hid (made_own w w.heap.size 5 (Nat.le_refl _))
  clear hT
  go_enter Tryz.func63, Tryz.ntmps63
  go_wp2_with (go_at_call 92; go_must (refine (ftoa_f w.heap.size _ _ HO.out (by simp) HT.out).mono ?_; rintro e w1 ⟨v1, rfl, hown1, hb1⟩; have hcv := hown1.str (P := Tryz.prog) 60 9 Tryz.underlying60 Tryz.underlying5 Tryz.underlying9))
  go_ret
  exact ⟨rfl, ((Below.refl _ _).alloc (Nat.le_refl _) _).trans hb1⟩

theorem Format_e (w : World) (hT : TabF w) :
    Calls Tryz.prog 37 #[.float .f64 4591870180066957722, .int .u8 101, .int .i64 5, .int .i64 64] w fun e w' => e = .returned (.string ⟨#[49, 46, 48, 48, 48, 48, 48, 101, 45, 48, 49]⟩) ∧ Below w.heap.size w w' := by
  have H := Lib.hid (iFormat_e w hT)
  clear hT
  go_enter Tryz.func37, Tryz.ntmps37
  go_wp2_with (go_at_call 63; go_must (refine (H.out).mono ?_; rintro e w1 ⟨rfl, hb1⟩))
  go_ret
  exact ⟨rfl, hb1⟩
theorem Format_f (w : World) (hT : TabF w) :
    Calls Tryz.prog 37 #[.float .f64 4591870180066957722, .int .u8 102, .int .i64 6, .int .i64 64] w fun e w' => e = .returned (.string ⟨#[48, 46, 49, 48, 48, 48, 48, 48]⟩) ∧ Below w.heap.size w w' := by
  have H := Lib.hid (iFormat_f w hT)
  clear hT
  go_enter Tryz.func37, Tryz.ntmps37
  go_wp2_with (go_at_call 63; go_must (refine (H.out).mono ?_; rintro e w1 ⟨rfl, hb1⟩))
  go_ret
  exact ⟨rfl, hb1⟩
end Go.Proofs.YthckhhifpmhlbaaGreatDoor.awk
