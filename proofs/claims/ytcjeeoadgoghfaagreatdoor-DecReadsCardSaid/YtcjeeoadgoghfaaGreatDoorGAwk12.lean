/- awake (tedderlaw02): its calls of dec.Looks and dec.Whole, and what dec.Prefix calls. awake (tedderlaw02): the four calls that it makes, and itself. -/
import Derived.Test.YtcjeeoadgoghfaaGreatDoorGAwk10
import Derived.Test.YtcjeeoadgoghfaaGreatDoorNumeral
import Derived.Test.YtcjeeoadgoghfaaGreatDoorGWhole2
import Derived.Test.YtcjeeoadgoghfaaGreatDoorAwk8

namespace Go.Proofs.YtcjeeoadgoghfaaGreatDoor.awk
set_option linter.unusedVariables false set_option linter.unusedSimpArgs false
open Go.ChangeShapes Go.WideShapes Go.ChangeAt Go.RowKit Go.Proofs.YtcjeeoadgoghfaaGreatDoor.scan

theorem blank1_c (w : World) : Calls Tryz.prog 45 #[.string ⟨#[32, 49, 50, 46, 53, 101, 49, 120]⟩] w fun e w' => e = .returned (.int .i64 1) ∧ w = w' := by
  have h := blankSize_all ⟨#[32, 49, 50, 46, 53, 101, 49, 120]⟩ w (by decide)
  rw [show bl (⟨#[32, 49, 50, 46, 53, 101, 49, 120]⟩ : ByteArray).data.toList = 1 by decide +kernel] at h
  exact h
theorem num1_c (w : World) : Calls Tryz.prog 46 #[.string ⟨#[49, 50, 46, 53, 101, 49, 120]⟩] w fun e w' => e = .returned (.tuple #[.agg #[.bool false, .string ⟨#[49, 50]⟩, .string ⟨#[53]⟩, .string ⟨#[49]⟩], .int .i64 6]) ∧ Below w.heap.size w w' := by
  have h := rn_pwq1 ⟨#[49, 50, 46, 53, 101, 49, 120]⟩ [49, 50, 46, 53, 101, 49, 120] w (by decide) rfl (by decide +kernel) (by decide +kernel) (by decide +kernel)
  rw [show negL [49, 50, 46, 53, 101, 49, 120] = false by decide +kernel, show wholeL [49, 50, 46, 53, 101, 49, 120] = [49, 50] by decide +kernel, show partL [49, 50, 46, 53, 101, 49, 120] = [53] by decide +kernel, show powL [49, 50, 46, 53, 101, 49, 120] = [49] by decide +kernel, show sizeB [49, 50, 46, 53, 101, 49, 120] = 6 by decide +kernel] at h
  exact h

theorem num2_c (w : World) : Calls Tryz.prog 46 #[.string ⟨#[49, 32]⟩] w fun e w' => e = .returned (.tuple #[.agg #[.bool false, .string ⟨#[49]⟩, .string ⟨#[]⟩, .string ⟨#[]⟩], .int .i64 1]) ∧ Below w.heap.size w w' := by
  have h := rn_wq0 ⟨#[49, 32]⟩ [49, 32] w (by decide) rfl (by decide +kernel) (by decide +kernel) (by decide +kernel)
  rw [show negL [49, 32] = false by decide +kernel, show wholeL [49, 32] = [49] by decide +kernel, show partL [49, 32] = [] by decide +kernel, show powL [49, 32] = [] by decide +kernel, show sizeB [49, 32] = 1 by decide +kernel] at h
  exact h
theorem blank2_c (w : World) : Calls Tryz.prog 45 #[.string ⟨#[49, 32]⟩] w fun e w' => e = .returned (.int .i64 0) ∧ w = w' := by
  have h := blankSize_all ⟨#[49, 32]⟩ w (by decide)
  rw [show bl (⟨#[49, 32]⟩ : ByteArray).data.toList = 0 by decide +kernel] at h
  exact h
theorem blank3_c (w : World) : Calls Tryz.prog 45 #[.string ⟨#[32]⟩] w fun e w' => e = .returned (.int .i64 1) ∧ w = w' := by
  have h := blankSize_all ⟨#[32]⟩ w (by decide)
  rw [show bl (⟨#[32]⟩ : ByteArray).data.toList = 1 by decide +kernel] at h
  exact h

set_option maxRecDepth 100000 in
theorem looks_c (w : World) : Calls Tryz.prog 44 #[.string ⟨#[49, 32]⟩] w fun e w' => e = .returned (.bool true) ∧ Below w.heap.size w w' := by
  have j1 : (⟨#[49, 32]⟩ : ByteArray).extract 0 2 = ⟨#[49, 32]⟩ := rfl
  have j2 : (⟨#[49, 32]⟩ : ByteArray).extract 1 2 = ⟨#[32]⟩ := rfl
  go_enter Tryz.func44, Tryz.ntmps44
  go_wp2_with (first | (go_at_call 45; (with_reducible refine (blank2_c _).mono ?_); rintro e w1 ⟨rfl, rfl⟩) | (go_at_call 45; (with_reducible refine (blank3_c _).mono ?_); rintro e w1 ⟨rfl, rfl⟩) | (go_at_call 46; go_must (refine (num2_c _).mono ?_; rintro e w1 ⟨rfl, hb1⟩; have hz1 := hb1.size)))
  go_ret
  exact ⟨rfl, hb1.alloc hz1 _⟩

theorem whole_c (w : World) (htab : Lib.TabIs Tryz.prog w "internal/strconv.uint64pow10" .u64 Lib.pow10Tab) : Calls Tryz.prog 42 #[.float .f64 4638496509959077888] w fun e w' => e = .returned (.tuple #[.string ⟨#[49, 50, 53]⟩, .bool true]) ∧ Below w.heap.size w w' := by
  have h := whole.Whole_yes 4638496509959077888 w (by decide) (by decide) (by decide +kernel) htab
  rw [show deci.wholeN 4638496509959077888 = 125 by decide +kernel] at h
  rw [show (Lib.itoa 125).toArray = #[49, 50, 53] by unfold Lib.itoa; rw [if_neg (by decide), show (125 : Int).toNat = 125 by rfl, Lib.decDigits, dif_neg (by decide), Lib.decDigits_two (by decide) (by decide)]; rfl] at h
  exact h
end Go.Proofs.YtcjeeoadgoghfaaGreatDoor.awk

namespace Go.Proofs.YtcjeeoadgoghfaaGreatDoor.awk
set_option linter.unusedVariables false set_option linter.unusedSimpArgs false
open Go.ChangeShapes Go.WideShapes Go.ChangeAt Go.RowKit Go.Proofs.YtcjeeoadgoghfaaGreatDoor.scan

set_option maxRecDepth 100000 in
theorem value_c (w : World) (h : w.cell? ⟨10, 0, none⟩ = some (.int .u64 52)) (ho : w.cell? ⟨6, 0, none⟩ = some (.bool true)) :
    Calls Tryz.prog 47 #[.agg #[.bool false, .string ⟨#[49, 50]⟩, .string ⟨#[53]⟩, .string ⟨#[49]⟩]] w fun e w' => e = .returned (.float .f64 4638496509959077888) ∧ Below w.heap.size w w' := by
  have l1 := World.block_lt_of_cell? w _ h
  have l2 := World.block_lt_of_cell? w _ ho
  have H1 := Lib.hid h
  have H2 := Lib.hid ho
  have HB := Lib.hid (Box4.new w 78 (.bool false) (.string ⟨#[49, 50]⟩) (.string ⟨#[53]⟩) (.string ⟨#[49]⟩))
  have HLT := Lib.hid (show w.heap.size < (w.alloc (.cells #[.bool false, .string ⟨#[49, 50]⟩, .string ⟨#[53]⟩, .string ⟨#[49]⟩] 78)).heap.size by simp)
  have HA := Lib.hid ((Below.refl w.heap.size w).alloc (Nat.le_refl _) (.cells #[.bool false, .string ⟨#[49, 50]⟩, .string ⟨#[53]⟩, .string ⟨#[49]⟩] 78))
  clear h ho
  go_enter Tryz.func47, Tryz.ntmps47
  go_wp2_with (first | (go_at_call 85; go_must (refine (plain_c _).mono ?_; rintro e w1 ⟨rfl, hb1⟩; have M := Lib.hid (Box4.below HB.out hb1 HLT.out); have k0 := M.out.c0; have HW := Lib.hid (HA.out.trans (hb1.mono (Nat.le_of_lt HLT.out))))) | (go_at_call 86; go_must (refine (Parse_c _ (by rw [HW.out.cell (by exact l1)]; exact H1.out) (by rw [HW.out.cell (by exact l2)]; exact H2.out)).mono ?_; rintro e w2 ⟨rfl, rfl⟩)))
  go_ret
  exact ⟨rfl, HW.out⟩

set_option maxRecDepth 100000 in
theorem prefix_all (w : World) (h : w.cell? ⟨10, 0, none⟩ = some (.int .u64 52)) (ho : w.cell? ⟨6, 0, none⟩ = some (.bool true)) :
    Calls Tryz.prog 10 #[.string ⟨#[32, 49, 50, 46, 53, 101, 49, 120]⟩] w fun e w' => e = .returned (.tuple #[.float .f64 4638496509959077888, .int .i64 7]) ∧ Below w.heap.size w w' := by
  have l1 := World.block_lt_of_cell? w _ h
  have l2 := World.block_lt_of_cell? w _ ho
  have H1 := Lib.hid h
  have H2 := Lib.hid ho
  have j1 : (⟨#[32, 49, 50, 46, 53, 101, 49, 120]⟩ : ByteArray).extract 1 8 = ⟨#[49, 50, 46, 53, 101, 49, 120]⟩ := rfl
  clear h ho
  go_enter Tryz.func10, Tryz.ntmps10
  go_wp2_with (first | (go_at_call 45; go_must (refine (blank1_c _).mono ?_; rintro e w1 ⟨rfl, rfl⟩)) | (go_at_call 46; go_must (refine (num1_c _).mono ?_; rintro e w1 ⟨rfl, hb1⟩; have hz1 := hb1.size)) | (go_at_call 47; go_must (refine (value_c _ (by rw [World.cell?_alloc_lt _ _ _ (by exact Nat.lt_of_lt_of_le l1 hz1), hb1.cell (by exact l1)]; exact H1.out) (by rw [World.cell?_alloc_lt _ _ _ (by exact Nat.lt_of_lt_of_le l2 hz1), hb1.cell (by exact l2)]; exact H2.out)).mono ?_; rintro e w2 ⟨rfl, hb2⟩)))
  go_ret2
  exact ⟨rfl, (hb1.alloc hz1 _).trans (hb2.mono (by simp; omega))⟩

end Go.Proofs.YtcjeeoadgoghfaaGreatDoor.awk
