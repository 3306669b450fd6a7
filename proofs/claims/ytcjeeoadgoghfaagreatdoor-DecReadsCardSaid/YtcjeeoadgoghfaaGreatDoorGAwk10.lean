/- What awake asks of dec.Format: 0.1 by g with 6. dec.Format of 0.1 by g with 6. -/
import Derived.Test.YtcjeeoadgoghfaaGreatDoorGAwk7
import Derived.Test.YtcjeeoadgoghfaaGreatDoorGPower
import Derived.Test.YtcjeeoadgoghfaaGreatDoorGFloatMath2
import Derived.Test.YtcjeeoadgoghfaaGreatDoorGWhole2

namespace Go.Proofs.YtcjeeoadgoghfaaGreatDoor.awk
set_option linter.unusedVariables false set_option linter.unusedSimpArgs false
open Go.ChangeShapes Go.WideShapes Go.ChangeAt Go.RowKit Go.Proofs.YtcjeeoadgoghfaaGreatDoor.scan

theorem cut_c (w : World) (m : Int) (hm : w.cell? ⟨1, 0, none⟩ = some (.int .i64 m)) : Calls Tryz.prog 108 #[.string ⟨#[49, 46, 48, 48, 48, 48, 48, 101, 45, 48, 49]⟩, .string ⟨#[101]⟩] w fun e w' => e = .returned (.tuple #[.string ⟨#[49, 46, 48, 48, 48, 48, 48]⟩, .string ⟨#[45, 48, 49]⟩, .bool true]) ∧ ∃ n, w' = w.drewN n := by
  have h := Tryz.strings_Cut ⟨#[49, 46, 48, 48, 48, 48, 48, 101, 45, 48, 49]⟩ ⟨#[101]⟩ m w (by decide) hm
  rw [show Lib.cut (⟨#[49, 46, 48, 48, 48, 48, 48, 101, 45, 48, 49]⟩ : ByteArray).data.toList (⟨#[101]⟩ : ByteArray).data.toList = ([49, 46, 48, 48, 48, 48, 48], [45, 48, 49], true) by decide +kernel] at h
  exact h
theorem pow_m1 (w : World) : Calls Tryz.prog 115 #[.string ⟨#[45, 48, 49]⟩] w fun e w' => e = .returned (.int .i64 (-1)) ∧ Below w.heap.size w w' := by
  have h := powerOf_all ⟨#[45, 48, 49]⟩ w (by decide)
  rw [show pwZ (⟨#[45, 48, 49]⟩ : ByteArray).data.toList = -1 by decide +kernel] at h
  exact h
theorem has_c (w : World) : Calls Tryz.prog 138 #[.string ⟨#[48, 46, 49, 48, 48, 48, 48, 48]⟩, .string ⟨#[46]⟩] w fun e w' => e = .returned (.bool true) ∧ w' = w := by
  have h := Tryz.strings_Contains_one ⟨#[48, 46, 49, 48, 48, 48, 48, 48]⟩ 46 w
  rw [show decide (0 ≤ Lib.indexByte (⟨#[48, 46, 49, 48, 48, 48, 48, 48]⟩ : ByteArray).data.toList 46) = true by decide +kernel] at h
  exact h
theorem right_c (w : World) : Calls Tryz.prog 148 #[.string ⟨#[48, 46, 49, 48, 48, 48, 48, 48]⟩, .string ⟨#[48]⟩] w fun e w' => e = .returned (.string ⟨#[48, 46, 49]⟩) ∧ w' = w := by
  have h := Tryz.strings_TrimRight_one ⟨#[48, 46, 49, 48, 48, 48, 48, 48]⟩ 48 (by decide) w (by decide)
  rw [show Lib.trimRightB (⟨#[48, 46, 49, 48, 48, 48, 48, 48]⟩ : ByteArray).data.toList 48 = [48, 46, 49] by decide +kernel] at h
  exact h
theorem suf_c (w : World) : Calls Tryz.prog 147 #[.string ⟨#[48, 46, 49]⟩, .string ⟨#[46]⟩] w fun e w' => e = .returned (.string ⟨#[48, 46, 49]⟩) ∧ w' = w := by
  have h := Tryz.strings_TrimSuffix ⟨#[48, 46, 49]⟩ ⟨#[46]⟩ w (by decide)
  rw [show Lib.trimSuffix (⟨#[48, 46, 49]⟩ : ByteArray).data.toList (⟨#[46]⟩ : ByteArray).data.toList = [48, 46, 49] by decide +kernel] at h
  exact h

theorem zeros_c (w : World) : Calls Tryz.prog 116 #[.string ⟨#[48, 46, 49, 48, 48, 48, 48, 48]⟩, .bool false] w fun e w' => e = .returned (.string ⟨#[48, 46, 49]⟩) ∧ w = w' := by
  go_enter Tryz.func116, Tryz.ntmps116
  go_wp2_with (first | (go_at_call 138; go_must (refine (has_c _).mono ?_; rintro e w1 ⟨rfl, rfl⟩)) | (go_at_call 148; go_must (refine (right_c _).mono ?_; rintro e w1 ⟨rfl, rfl⟩)) | (go_at_call 147; go_must (refine (suf_c _).mono ?_; rintro e w1 ⟨rfl, rfl⟩)))
  go_ret
  exact ⟨rfl, rfl⟩

theorem without_c (w : World) (hT : TabF w) : Calls Tryz.prog 77 #[.float .f64 4591870180066957722, .int .i64 6, .bool false] w fun e w' => e = .returned (.string ⟨#[48, 46, 49, 48, 48, 48, 48, 48]⟩) ∧ Below w.heap.size w w' := by
  have H := Lib.hid (Format_f w hT)
  clear hT
  go_enter Tryz.func77, Tryz.ntmps77
  go_wp2_with (go_at_call 106; go_must (refine (H.out).mono ?_; rintro e w1 ⟨rfl, hb1⟩))
  go_ret
  exact ⟨rfl, hb1⟩
theorem with_c (w : World) (hT : TabF w) : Calls Tryz.prog 78 #[.float .f64 4591870180066957722, .int .i64 5, .bool false] w fun e w' => e = .returned (.string ⟨#[49, 46, 48, 48, 48, 48, 48, 101, 45, 48, 49]⟩) ∧ Below w.heap.size w w' := by
  have H := Lib.hid (Format_e w hT)
  clear hT
  go_enter Tryz.func78, Tryz.ntmps78
  go_wp2_with (go_at_call 106; go_must (refine (H.out).mono ?_; rintro e w1 ⟨rfl, hb1⟩))
  go_ret
  exact ⟨rfl, hb1⟩

set_option maxHeartbeats 400000 in
theorem shorter_c (w : World) (hT : TabF w) (m : Int) (hm : w.cell? ⟨1, 0, none⟩ = some (.int .i64 m)) :
    Calls Tryz.prog 80 #[.float .f64 4591870180066957722, .int .i64 6, .bool false] w fun e w' => e = .returned (.string ⟨#[48, 46, 49]⟩) ∧ Below w.heap.size w w' := by
  have m1 : max (6 : Int) 1 = 6 := by decide
  have HW := Lib.hid (with_c w hT)
  have HT := Lib.hid hT
  have HM := Lib.hid hm
  have hlt : 1 < w.heap.size := World.block_lt_of_cell? w _ hm
  clear hT hm
  go_enter Tryz.func80, Tryz.ntmps80
  go_wp2_with (first | (go_at_call 78; go_must (refine (HW.out).mono ?_; rintro e w1 ⟨rfl, hb1⟩; have hz1 := hb1.size)) | (go_at_call 108; go_must (refine (cut_c _ m (by rw [hb1.cell (by exact hlt)]; exact HM.out)).mono ?_; rintro e w2 ⟨rfl, n, rfl⟩)) | (go_at_call 115; go_must (refine (pow_m1 _).mono ?_; rintro e w3 ⟨rfl, hb3⟩; have hb13 : Below w.heap.size w w3 := hb1.trans (((below_draws w1 n).trans hb3).mono hz1); have hz3 := hb13.size)) | (go_at_call 77; go_must (refine (without_c _ (HT.out.below hb13)).mono ?_; rintro e w4 ⟨rfl, hb4⟩)) | (go_at_call 116; go_must (refine (zeros_c _).mono ?_; rintro e w5 ⟨rfl, rfl⟩)))
  go_ret
  exact ⟨rfl, hb13.trans (hb4.mono hz3)⟩
end Go.Proofs.YtcjeeoadgoghfaaGreatDoor.awk

namespace Go.Proofs.YtcjeeoadgoghfaaGreatDoor.awk
set_option linter.unusedVariables false set_option linter.unusedSimpArgs false
open Go.ChangeShapes Go.WideShapes Go.ChangeAt Go.RowKit Go.Proofs.YtcjeeoadgoghfaaGreatDoor.scan

theorem nan_c (w : World) : Calls Tryz.prog 75 #[.float .f64 4591870180066957722] w fun e w' => e = .returned (.bool false) ∧ w = w' := by
  have h : (FloatKind.f64.format.order 4591870180066957722 4591870180066957722 != some .eq) = false := by decide +kernel
  go_enter Tryz.func75, Tryz.ntmps75
  go_wp2
  go_ret
  exact ⟨rfl, rfl⟩
theorem inf1_c (w : World) : Calls Tryz.prog 76 #[.float .f64 4591870180066957722, .int .i64 1] w fun e w' => e = .returned (.bool false) ∧ w = w' := by
  have h : (FloatKind.f64.format.order 4591870180066957722 9218868437227405311 == some .gt) = false := by decide +kernel
  go_enter Tryz.func76, Tryz.ntmps76
  go_wp2_with fail
  go_ret
  exact ⟨rfl, rfl⟩
theorem inf2_c (w : World) : Calls Tryz.prog 76 #[.float .f64 4591870180066957722, .int .i64 (-1)] w fun e w' => e = .returned (.bool false) ∧ w = w' := by
  have h : (FloatKind.f64.format.order 13815242216921733530 9218868437227405311 == some .gt) = false := by decide +kernel
  have hn : ∀ W : World, (Op.unary .neg (.float .f64 4591870180066957722)).run Tryz.prog W = .ok (.float .f64 13815242216921733530) W := fun _ => by kernel_rfl
  go_enter Tryz.func76, Tryz.ntmps76
  go_wp2_with fail
  go_ret
  exact ⟨rfl, rfl⟩

theorem format_c (w : World) (hT : TabF w) (m : Int) (hm : w.cell? ⟨1, 0, none⟩ = some (.int .i64 m)) :
    Calls Tryz.prog 43 #[.float .f64 4591870180066957722, .int .u8 103, .int .i64 6, .bool false] w fun e w' => e = .returned (.string ⟨#[48, 46, 49]⟩) ∧ Below w.heap.size w w' := by
  have m1 : max (6 : Int) 0 = 6 := by decide
  have m2 : min (6 : Int) 60 = 6 := by decide
  have H := Lib.hid (shorter_c w hT m hm)
  clear hT hm
  go_enter Tryz.func43, Tryz.ntmps43
  go_wp2_with (first | (go_at_call 75; go_must (refine (nan_c _).mono ?_; rintro e w1 ⟨rfl, rfl⟩)) | (go_at_call 76; (with_reducible refine (inf1_c _).mono ?_); rintro e w1 ⟨rfl, rfl⟩) | (go_at_call 76; (with_reducible refine (inf2_c _).mono ?_); rintro e w1 ⟨rfl, rfl⟩) | (go_at_call 80; go_must (refine (H.out).mono ?_; rintro e w1 ⟨rfl, hb1⟩)))
  go_ret
  exact ⟨rfl, hb1⟩
end Go.Proofs.YtcjeeoadgoghfaaGreatDoor.awk
