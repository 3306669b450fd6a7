/- awake (tedderlaw02): its calls of dec.Looks and dec.Whole, and what dec.Prefix calls. -/
import Derived.Test.YthckhhifpmhlbaaGreatDoorAwk10
import Derived.Test.YthckhhifpmhlbaaGreatDoorNumeral
import Derived.Test.YthckhhifpmhlbaaGreatDoorWhole2
namespace Go.Proofs.YthckhhifpmhlbaaGreatDoor.awk
set_option linter.unusedVariables false set_option linter.unusedSimpArgs false
open Go.ChangeShapes Go.WideShapes Go.ChangeAt Go.RowKit Go.Proofs.YthckhhifpmhlbaaGreatDoor.scan

theorem blank1_c (w : World) : Calls Tryz.prog 10 #[.string ⟨#[32, 49, 50, 46, 53, 101, 49, 120]⟩] w fun e w' => e = .returned (.int .i64 1) ∧ w = w' := by
  have h := blankSize_all ⟨#[32, 49, 50, 46, 53, 101, 49, 120]⟩ w (by decide)
  rw [show bl (⟨#[32, 49, 50, 46, 53, 101, 49, 120]⟩ : ByteArray).data.toList = 1 by decide +kernel] at h
  exact h
theorem num1_c (w : World) : Calls Tryz.prog 11 #[.string ⟨#[49, 50, 46, 53, 101, 49, 120]⟩] w fun e w' => e = .returned (.tuple #[.agg #[.bool false, .string ⟨#[49, 50]⟩, .string ⟨#[53]⟩, .string ⟨#[49]⟩], .int .i64 6]) ∧ Below w.heap.size w w' := by
  have h := rn_pwq1 ⟨#[49, 50, 46, 53, 101, 49, 120]⟩ [49, 50, 46, 53, 101, 49, 120] w (by decide) rfl (by decide +kernel) (by decide +kernel) (by decide +kernel)
  rw [show negL [49, 50, 46, 53, 101, 49, 120] = false by decide +kernel, show wholeL [49, 50, 46, 53, 101, 49, 120] = [49, 50] by decide +kernel, show partL [49, 50, 46, 53, 101, 49, 120] = [53] by decide +kernel, show powL [49, 50, 46, 53, 101, 49, 120] = [49] by decide +kernel, show sizeB [49, 50, 46, 53, 101, 49, 120] = 6 by decide +kernel] at h
  exact h

theorem num2_c (w : World) : Calls Tryz.prog 11 #[.string ⟨#[49, 32]⟩] w fun e w' => e = .returned (.tuple #[.agg #[.bool false, .string ⟨#[49]⟩, .string ⟨#[]⟩, .string ⟨#[]⟩], .int .i64 1]) ∧ Below w.heap.size w w' := by
  have h := rn_wq0 ⟨#[49, 32]⟩ [49, 32] w (by decide) rfl (by decide +kernel) (by decide +kernel) (by decide +kernel)
  rw [show negL [49, 32] = false by decide +kernel, show wholeL [49, 32] = [49] by decide +kernel, show partL [49, 32] = [] by decide +kernel, show powL [49, 32] = [] by decide +kernel, show sizeB [49, 32] = 1 by decide +kernel] at h
  exact h
theorem blank2_c (w : World) : Calls Tryz.prog 10 #[.string ⟨#[49, 32]⟩] w fun e w' => e = .returned (.int .i64 0) ∧ w = w' := by
  have h := blankSize_all ⟨#[49, 32]⟩ w (by decide)
  rw [show bl (⟨#[49, 32]⟩ : ByteArray).data.toList = 0 by decide +kernel] at h
  exact h
theorem blank3_c (w : World) : Calls Tryz.prog 10 #[.string ⟨#[32]⟩] w fun e w' => e = .returned (.int .i64 1) ∧ w = w' := by
  have h := blankSize_all ⟨#[32]⟩ w (by decide)
  rw [show bl (⟨#[32]⟩ : ByteArray).data.toList = 1 by decide +kernel] at h
  exact h

set_option maxRecDepth 100000 in
theorem looks_c (w : World) : Calls Tryz.prog 5 #[.string ⟨#[49, 32]⟩] w fun e w' => e = .returned (.bool true) ∧ Below w.heap.size w w' := by
  have j1 : (⟨#[49, 32]⟩ : ByteArray).extract 0 2 = ⟨#[49, 32]⟩ := rfl
  have j2 : (⟨#[49, 32]⟩ : ByteArray).extract 1 2 = ⟨#[32]⟩ := rfl
  go_enter Tryz.func5, Tryz.ntmps5
  go_wp2_with (first | (go_at_call 10; (with_reducible refine (blank2_c _).mono ?_); rintro e w1 ⟨rfl, rfl⟩) | (go_at_call 10; (with_reducible refine (blank3_c _).mono ?_); rintro e w1 ⟨rfl, rfl⟩) | (go_at_call 11; go_must (refine (num2_c _).mono ?_; rintro e w1 ⟨rfl, hb1⟩; have hz1 := hb1.size)))
  go_ret
  exact ⟨rfl, hb1.alloc hz1 _⟩

theorem whole_c (w : World) (htab : Lib.TabIs Tryz.prog w "internal/strconv.uint64pow10" .u64 Lib.pow10Tab) : Calls Tryz.prog 8 #[.float .f64 4638496509959077888] w fun e w' => e = .returned (.tuple #[.string ⟨#[49, 50, 53]⟩, .bool true]) ∧ Below w.heap.size w w' := by
  have h := whole.Whole_yes 4638496509959077888 w (by decide) (by decide) (by decide +kernel) htab
  rw [show deci.wholeN 4638496509959077888 = 125 by decide +kernel] at h
  rw [show (Lib.itoa 125).toArray = #[49, 50, 53] by unfold Lib.itoa; rw [if_neg (by decide), show (125 : Int).toNat = 125 by rfl, Lib.decDigits, dif_neg (by decide), Lib.decDigits_two (by decide) (by decide)]; rfl] at h
  exact h
end Go.Proofs.YthckhhifpmhlbaaGreatDoor.awk
