/- What awake asks of dec.Format: 0.1 by g with 6. -/
import Derived.Test.YthckhhifpmhlbaaGreatDoorAwk7
import Derived.Test.YthckhhifpmhlbaaGreatDoorPower
import Derived.Test.YthckhhifpmhlbaaGreatDoorFloatMath2
import Derived.Test.YthckhhifpmhlbaaGreatDoorWhole2
namespace Go.Proofs.YthckhhifpmhlbaaGreatDoor.awk
set_option linter.unusedVariables false set_option linter.unusedSimpArgs false
open Go.ChangeShapes Go.WideShapes Go.ChangeAt Go.RowKit Go.Proofs.YthckhhifpmhlbaaGreatDoor.scan

theorem cut_c (w : World) (m : Int) (hm : w.cell? ⟨6, 0, none⟩ = some (.int .i64 m)) : Calls Tryz.prog 39 #[.string ⟨#[49, 46, 48, 48, 48, 48, 48, 101, 45, 48, 49]⟩, .string ⟨#[101]⟩] w fun e w' => e = .returned (.tuple #[.string ⟨#[49, 46, 48, 48, 48, 48, 48]⟩, .string ⟨#[45, 48, 49]⟩, .bool true]) ∧ ∃ n, w' = w.drewN n := by
  have h := Tryz.strings_Cut ⟨#[49, 46, 48, 48, 48, 48, 48, 101, 45, 48, 49]⟩ ⟨#[101]⟩ m w (by decide) hm
  rw [show Lib.cut (⟨#[49, 46, 48, 48, 48, 48, 48, 101, 45, 48, 49]⟩ : ByteArray).data.toList (⟨#[101]⟩ : ByteArray).data.toList = ([49, 46, 48, 48, 48, 48, 48], [45, 48, 49], true) by decide +kernel] at h
  exact h
theorem pow_m1 (w : World) : Calls Tryz.prog 46 #[.string ⟨#[45, 48, 49]⟩] w fun e w' => e = .returned (.int .i64 (-1)) ∧ Below w.heap.size w w' := by
  have h := powerOf_all ⟨#[45, 48, 49]⟩ w (by decide)
  rw [show pwZ (⟨#[45, 48, 49]⟩ : ByteArray).data.toList = -1 by decide +kernel] at h
  exact h
theorem has_c (w : World) : Calls Tryz.prog 64 #[.string ⟨#[48, 46, 49, 48, 48, 48, 48, 48]⟩, .string ⟨#[46]⟩] w fun e w' => e = .returned (.bool true) ∧ w' = w := by
  have h := Tryz.strings_Contains_one ⟨#[48, 46, 49, 48, 48, 48, 48, 48]⟩ 46 w
  rw [show decide (0 ≤ Lib.indexByte (⟨#[48, 46, 49, 48, 48, 48, 48, 48]⟩ : ByteArray).data.toList 46) = true by decide +kernel] at h
  exact h
theorem right_c (w : World) : Calls Tryz.prog 74 #[.string ⟨#[48, 46, 49, 48, 48, 48, 48, 48]⟩, .string ⟨#[48]⟩] w fun e w' => e = .returned (.string ⟨#[48, 46, 49]⟩) ∧ w' = w := by
  have h := Tryz.strings_TrimRight_one ⟨#[48, 46, 49, 48, 48, 48, 48, 48]⟩ 48 (by decide) w (by decide)
  rw [show Lib.trimRightB (⟨#[48, 46, 49, 48, 48, 48, 48, 48]⟩ : ByteArray).data.toList 48 = [48, 46, 49] by decide +kernel] at h
  exact h
theorem suf_c (w : World) : Calls Tryz.prog 73 #[.string ⟨#[48, 46, 49]⟩, .string ⟨#[46]⟩] w fun e w' => e = .returned (.string ⟨#[48, 46, 49]⟩) ∧ w' = w := by
  have h := Tryz.strings_TrimSuffix ⟨#[48, 46, 49]⟩ ⟨#[46]⟩ w (by decide)
  rw [show Lib.trimSuffix (⟨#[48, 46, 49]⟩ : ByteArray).data.toList (⟨#[46]⟩ : ByteArray).data.toList = [48, 46, 49] by decide +kernel] at h
  exact h

theorem zeros_c (w : World) : Calls Tryz.prog 47 #[.string ⟨#[48, 46, 49, 48, 48, 48, 48, 48]⟩, .bool false] w fun e w' => e = .returned (.string ⟨#[48, 46, 49]⟩) ∧ w = w' := by
  go_enter Tryz.func47, Tryz.ntmps47
  go_wp2_with (first | (go_at_call 64; go_must (refine (has_c _).mono ?_; rintro e w1 ⟨rfl, rfl⟩)) | (go_at_call 74; go_must (refine (right_c _).mono ?_; rintro e w1 ⟨rfl, rfl⟩)) | (go_at_call 73; go_must (refine (suf_c _).mono ?_; rintro e w1 ⟨rfl, rfl⟩)))
  go_ret
  exact ⟨rfl, rfl⟩

theorem without_c (w : World) (hT : TabF w) : Calls Tryz.prog 20 #[.float .f64 4591870180066957722, .int .i64 6, .bool false] w fun e w' => e = .returned (.string ⟨#[48, 46, 49, 48, 48, 48, 48, 48]⟩) ∧ Below w.heap.size w w' := by
  have H := Lib.hid (Format_f w hT)
  clear hT
  go_enter Tryz.func20, Tryz.ntmps20
  go_wp2_with (go_at_call 37; go_must (refine (H.out).mono ?_; rintro e w1 ⟨rfl, hb1⟩))
  go_ret
  exact ⟨rfl, hb1⟩
theorem with_c (w : World) (hT : TabF w) : Calls Tryz.prog 21 #[.float .f64 4591870180066957722, .int .i64 5, .bool false] w fun e w' => e = .returned (.string ⟨#[49, 46, 48, 48, 48, 48, 48, 101, 45, 48, 49]⟩) ∧ Below w.heap.size w w' := by
  have H := Lib.hid (Format_e w hT)
  clear hT
  go_enter Tryz.func21, Tryz.ntmps21
  go_wp2_with (go_at_call 37; go_must (refine (H.out).mono ?_; rintro e w1 ⟨rfl, hb1⟩))
  go_ret
  exact ⟨rfl, hb1⟩

set_option maxHeartbeats 400000 in
theorem shorter_c (w : World) (hT : TabF w) (m : Int) (hm : w.cell? ⟨6, 0, none⟩ = some (.int .i64 m)) :
    Calls Tryz.prog 23 #[.float .f64 4591870180066957722, .int .i64 6, .bool false] w fun e w' => e = .returned (.string ⟨#[48, 46, 49]⟩) ∧ Below w.heap.size w w' := by
  have m1 : max (6 : Int) 1 = 6 := by decide
  have HW := Lib.hid (with_c w hT)
  have HT := Lib.hid hT
  have HM := Lib.hid hm
  have hlt : 6 < w.heap.size := World.block_lt_of_cell? w _ hm
  clear hT hm
  go_enter Tryz.func23, Tryz.ntmps23
  go_wp2_with (first | (go_at_call 21; go_must (refine (HW.out).mono ?_; rintro e w1 ⟨rfl, hb1⟩; have hz1 := hb1.size)) | (go_at_call 39; go_must (refine (cut_c _ m (by rw [hb1.cell (by exact hlt)]; exact HM.out)).mono ?_; rintro e w2 ⟨rfl, n, rfl⟩)) | (go_at_call 46; go_must (refine (pow_m1 _).mono ?_; rintro e w3 ⟨rfl, hb3⟩; have hb13 : Below w.heap.size w w3 := hb1.trans (((below_draws w1 n).trans hb3).mono hz1); have hz3 := hb13.size)) | (go_at_call 20; go_must (refine (without_c _ (HT.out.below hb13)).mono ?_; rintro e w4 ⟨rfl, hb4⟩)) | (go_at_call 47; go_must (refine (zeros_c _).mono ?_; rintro e w5 ⟨rfl, rfl⟩)))
  go_ret
  exact ⟨rfl, hb13.trans (hb4.mono hz3)⟩
end Go.Proofs.YthckhhifpmhlbaaGreatDoor.awk
