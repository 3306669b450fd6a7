/- What dec.Prefix and dec.Looks answer of the text "9". -/
import Derived.Test.YtnddldnabldnoaaGreatDoorShelf
import Derived.Test.YtnddldnabldnoaaGreatDoorKit
import Derived.Test.YtnddldnabldnoaaGreatDoorNumeral
import Derived.Test.YtnddldnabldnoaaGreatDoorPower
import Derived.Test.YtnddldnabldnoaaGreatDoorBox4
import Derived.Handy
import Derived.Outline
import Derived.Laws.FloatArith
import Derived.Laws.Externs
import Derived.WalkSpells
import Derived.Deep.RegionWith
namespace Go.Proofs.YtnddldnabldnoaaGreatDoor.tenB
set_option linter.unusedVariables false set_option linter.unusedSimpArgs false
open Go.ChangeShapes Go.WideShapes Go.ChangeAt Go.RowKit Go.Proofs.YtnddldnabldnoaaGreatDoor.scan Go.Proofs.YtnddldnabldnoaaGreatDoor.box4

set_option maxRecDepth 100000 in
set_option maxHeartbeats 1000000 in
theorem special_c (w : World) :
    Calls Tryz.prog 181 #[.string ⟨#[57, 46, 101, 48]⟩] w fun e w' => e = .returned (.tuple #[.float .f64 0, .int .i64 0, .bool false]) ∧ w = w' := by
  go_enter Tryz.func181, Tryz.ntmps181
  go_wp2
  go_ret3
  exact ⟨rfl, rfl⟩

set_option maxRecDepth 100000 in
set_option maxHeartbeats 2000000 in
theorem readFloat_c (w : World) :
    Calls Tryz.prog 182 #[.string ⟨#[57, 46, 101, 48]⟩] w fun e w' => e = .returned (.tuple #[.int .u64 9, .int .i64 0, .bool false, .bool false, .bool false, .int .i64 4, .bool true]) ∧ w = w' := by
  have b0 : ((⟨#[57, 46, 101, 48]⟩ : ByteArray)[0]'(by decide)).toNat = 57 := rfl
  have b1 : ((⟨#[57, 46, 101, 48]⟩ : ByteArray)[1]'(by decide)).toNat = 46 := rfl
  have b2 : ((⟨#[57, 46, 101, 48]⟩ : ByteArray)[2]'(by decide)).toNat = 101 := rfl
  have b3 : ((⟨#[57, 46, 101, 48]⟩ : ByteArray)[3]'(by decide)).toNat = 48 := rfl
  go_enter Tryz.func182, Tryz.ntmps182
  go_wp2
  go_step3
  go_wp2
  go_step3
  go_wp2
  go_rounds 3
  go_rounds 2
  try rw [Exit.noGoto_ret]
  refine bodyPost_ret (v := .tuple #[.int .u64 9, .int .i64 0, .bool false, .bool false, .bool false, .int .i64 4, .bool true]) (by simp [results, Tryz.results182, go_sem]) rfl ⟨rfl, rfl⟩

theorem fl : floatOfInt .f64 9 = 4621256167635550208 := by kernel_rfl

set_option maxRecDepth 100000 in
set_option maxHeartbeats 1000000 in
theorem exact_c (w : World) (h : w.cell? ⟨7, 0, none⟩ = some (.int .u64 52)) :
    Calls Tryz.prog 192 #[.int .u64 9, .int .i64 0, .bool false] w fun e w' => e = .returned (.tuple #[.float .f64 4621256167635550208, .bool true]) ∧ w = w' := by
  have hf := fl
  go_enter Tryz.func192, Tryz.ntmps192
  go_wp2
  go_ret2
  exact ⟨rfl, rfl⟩

theorem bool2u_c (w : World) : Calls Tryz.prog 190 #[.bool false] w fun e w' => e = .returned (.int .u64 0) ∧ w = w' := by
  go_enter Tryz.func190, Tryz.ntmps190
  go_wp2
  go_ret
  exact ⟨rfl, rfl⟩

set_option maxRecDepth 100000 in
set_option maxHeartbeats 2000000 in
theorem atof64_c (w : World) (h : w.cell? ⟨7, 0, none⟩ = some (.int .u64 52)) (ho : w.cell? ⟨6, 0, none⟩ = some (.bool true)) :
    Calls Tryz.prog 157 #[.string ⟨#[57, 46, 101, 48]⟩] w fun e w' => e = .returned (.tuple #[.float .f64 4621256167635550208, .int .i64 4, .nilIface]) ∧ w = w' := by
  have HE := Lib.hid (exact_c w h)
  clear h
  go_enter Tryz.func157, Tryz.ntmps157
  go_wp2_with (first | (go_at_call 181; go_must (refine (special_c _).mono ?_; rintro e w1 ⟨rfl, rfl⟩)) | (go_at_call 182; go_must (refine (readFloat_c _).mono ?_; rintro e w1 ⟨rfl, rfl⟩)) | (go_at_call 190; go_must (refine (bool2u_c _).mono ?_; rintro e w1 ⟨rfl, rfl⟩)) | (go_at_call 192; go_must (refine (HE.out).mono ?_; rintro e w1 ⟨rfl, rfl⟩)))
  go_ret3
  exact ⟨rfl, rfl⟩

set_option maxRecDepth 100000 in
theorem prefix_c (w : World) (h : w.cell? ⟨7, 0, none⟩ = some (.int .u64 52)) (ho : w.cell? ⟨6, 0, none⟩ = some (.bool true)) :
    Calls Tryz.prog 132 #[.string ⟨#[57, 46, 101, 48]⟩, .int .i64 64] w fun e w' => e = .returned (.tuple #[.float .f64 4621256167635550208, .int .i64 4, .nilIface]) ∧ w = w' := by
  have HE := Lib.hid (atof64_c w h ho)
  clear h ho
  go_enter Tryz.func132, Tryz.ntmps132
  go_wp2_with (go_at_call 157; go_must (refine (HE.out).mono ?_; rintro e w1 ⟨rfl, rfl⟩))
  go_ret3
  exact ⟨rfl, rfl⟩

set_option maxRecDepth 100000 in
theorem iParse_c (w : World) (h : w.cell? ⟨7, 0, none⟩ = some (.int .u64 52)) (ho : w.cell? ⟨6, 0, none⟩ = some (.bool true)) :
    Calls Tryz.prog 108 #[.string ⟨#[57, 46, 101, 48]⟩, .int .i64 64] w fun e w' => e = .returned (.tuple #[.float .f64 4621256167635550208, .nilIface]) ∧ w = w' := by
  have HE := Lib.hid (prefix_c w h ho)
  clear h ho
  go_enter Tryz.func108, Tryz.ntmps108
  go_wp2_with (go_at_call 132; go_must (refine (HE.out).mono ?_; rintro e w1 ⟨rfl, rfl⟩))
  go_ret2
  exact ⟨rfl, rfl⟩

set_option maxRecDepth 100000 in
theorem Parse_c (w : World) (h : w.cell? ⟨7, 0, none⟩ = some (.int .u64 52)) (ho : w.cell? ⟨6, 0, none⟩ = some (.bool true)) :
    Calls Tryz.prog 85 #[.string ⟨#[57, 46, 101, 48]⟩, .int .i64 64] w fun e w' => e = .returned (.tuple #[.float .f64 4621256167635550208, .nilIface]) ∧ w = w' := by
  have HE := Lib.hid (iParse_c w h ho)
  clear h ho
  go_enter Tryz.func85, Tryz.ntmps85
  go_wp2_with (go_at_call 108; go_must (refine (HE.out).mono ?_; rintro e w1 ⟨rfl, rfl⟩))
  go_ret2
  exact ⟨rfl, rfl⟩

theorem trim_c (w : World) : Calls Tryz.prog 90 #[.string ⟨#[57]⟩, .string ⟨#[48]⟩] w fun e w' => e = .returned (.string ⟨#[57]⟩) ∧ w' = w := by
  have h := Tryz.strings_TrimLeft_one ⟨#[57]⟩ 48 (by decide) w
  rw [show (Lib.trimLeftB (⟨#[57]⟩ : ByteArray).data.toList 48).toArray = #[57] by decide +kernel] at h
  exact h
theorem pow_c (w : World) : Calls Tryz.prog 106 #[.string ⟨#[]⟩] w fun e w' => e = .returned (.int .i64 0) ∧ Below w.heap.size w w' := by
  have h := powerOf_all ⟨#[]⟩ w (by decide)
  rw [show pwZ (⟨#[]⟩ : ByteArray).data.toList = 0 by decide +kernel] at h
  exact h
theorem itoa_c (w : World) : Calls Tryz.prog 107 #[.int .i64 0] w fun e w' => e = .returned (.string ⟨#[48]⟩) ∧ w' = w := by
  have h := Tryz.strconv_Itoa_small 0 (by decide) w
  rw [show (Lib.decDigits 0).toArray = #[48] by rw [Lib.decDigits_one (by decide)]; rfl] at h
  exact h

set_option maxRecDepth 100000 in
set_option maxHeartbeats 3000000 in
theorem plain_c (w : World) :
    Calls Tryz.prog 84 #[.agg #[.bool false, .string ⟨#[57]⟩, .string ⟨#[]⟩, .string ⟨#[]⟩]] w fun e w' => e = .returned (.string ⟨#[57, 46, 101, 48]⟩) ∧ Below w.heap.size w w' := by
  have j0 : (⟨#[57]⟩ : ByteArray) ++ ⟨#[]⟩ = ⟨#[57]⟩ := rfl
  have j1 : (⟨#[57]⟩ : ByteArray).extract 0 1 = ⟨#[57]⟩ := rfl
  have j2 : (⟨#[57]⟩ : ByteArray).extract 1 1 = ⟨#[]⟩ := rfl
  have j3 : (⟨#[57]⟩ : ByteArray) ++ ⟨#[46]⟩ = ⟨#[57, 46]⟩ := rfl
  have j4 : (⟨#[57, 46]⟩ : ByteArray) ++ ⟨#[]⟩ = ⟨#[57, 46]⟩ := rfl
  have j5 : (⟨#[57, 46]⟩ : ByteArray) ++ ⟨#[101]⟩ = ⟨#[57, 46, 101]⟩ := rfl
  have j6 : (⟨#[57, 46, 101]⟩ : ByteArray) ++ ⟨#[48]⟩ = ⟨#[57, 46, 101, 48]⟩ := rfl
  go_enter Tryz.func84, Tryz.ntmps84
  go_wp2_with (go_at_call 90; go_must (refine (trim_c _).mono ?_; rintro e w1 ⟨rfl, rfl⟩))
  have HB := Lib.hid (Box4.new w 83 (.bool false) (.string ⟨#[57]⟩) (.string ⟨#[]⟩) (.string ⟨#[]⟩))
  have HLT := Lib.hid (show w.heap.size < (w.alloc (.cells #[.bool false, .string ⟨#[57]⟩, .string ⟨#[]⟩, .string ⟨#[]⟩] 83)).heap.size by simp)
  go_region_with (go_at_call 106; go_must (refine (pow_c _).mono ?_; rintro e w2 ⟨rfl, hb2⟩; have M := Lib.hid (Box4.below (b := w.heap.size) (T := 83) (x := .bool false) (y := .string ⟨#[57]⟩) (z := .string ⟨#[]⟩) (u := .string ⟨#[]⟩) (by exact HB.out) hb2 (by exact HLT.out)); have k1 := M.out.c1; have k3 := M.out.c3))
  all_goals
    go_wp2_with fail
    go_region_with (go_at_call 107; go_must (refine (itoa_c _).mono ?_; rintro e w3 ⟨rfl, rfl⟩))
  all_goals
    go_wp2_with fail
    go_ret
    refine ⟨?_, ?_⟩
    · rfl
    · have h0 : Below w.heap.size w (w.alloc (.cells #[.bool false, .string ⟨#[57]⟩, .string ⟨#[]⟩, .string ⟨#[]⟩] 83)).drew := ((Below.refl _ _).alloc (Nat.le_refl _) _).drew
      have h1 : Below w.heap.size w w2 := h0.trans (hb2.mono (by have := HLT.out; exact Nat.le_of_lt this))
      first | exact h1 | exact h1.drew | exact h1.trans (below_q _ _ _)

set_option maxRecDepth 100000 in
theorem value_c (w : World) (h : w.cell? ⟨7, 0, none⟩ = some (.int .u64 52)) (ho : w.cell? ⟨6, 0, none⟩ = some (.bool true)) :
    Calls Tryz.prog 59 #[.agg #[.bool false, .string ⟨#[57]⟩, .string ⟨#[]⟩, .string ⟨#[]⟩]] w fun e w' => e = .returned (.float .f64 4621256167635550208) ∧ Below w.heap.size w w' := by
  have l1 := World.block_lt_of_cell? w _ h
  have l2 := World.block_lt_of_cell? w _ ho
  have H1 := Lib.hid h
  have H2 := Lib.hid ho
  have HB := Lib.hid (Box4.new w 83 (.bool false) (.string ⟨#[57]⟩) (.string ⟨#[]⟩) (.string ⟨#[]⟩))
  have HLT := Lib.hid (show w.heap.size < (w.alloc (.cells #[.bool false, .string ⟨#[57]⟩, .string ⟨#[]⟩, .string ⟨#[]⟩] 83)).heap.size by simp)
  have HA := Lib.hid ((Below.refl w.heap.size w).alloc (Nat.le_refl _) (.cells #[.bool false, .string ⟨#[57]⟩, .string ⟨#[]⟩, .string ⟨#[]⟩] 83))
  clear h ho
  go_enter Tryz.func59, Tryz.ntmps59
  go_wp2_with (first | (go_at_call 84; go_must (refine (plain_c _).mono ?_; rintro e w1 ⟨rfl, hb1⟩; have M := Lib.hid (Box4.below HB.out hb1 HLT.out); have k0 := M.out.c0; have HW := Lib.hid (HA.out.trans (hb1.mono (Nat.le_of_lt HLT.out))))) | (go_at_call 85; go_must (refine (Parse_c _ (by rw [HW.out.cell (by exact l1)]; exact H1.out) (by rw [HW.out.cell (by exact l2)]; exact H2.out)).mono ?_; rintro e w2 ⟨rfl, rfl⟩)))
  go_ret
  exact ⟨rfl, HW.out⟩

theorem blank_c (w : World) : Calls Tryz.prog 49 #[.string ⟨#[57]⟩] w fun e w' => e = .returned (.int .i64 0) ∧ w = w' := by
  have h := blankSize_all ⟨#[57]⟩ w (by decide)
  rw [show bl (⟨#[57]⟩ : ByteArray).data.toList = 0 by decide +kernel] at h
  exact h
theorem blank0_c (w : World) : Calls Tryz.prog 49 #[.string ⟨#[]⟩] w fun e w' => e = .returned (.int .i64 0) ∧ w = w' := by
  have h := blankSize_all ⟨#[]⟩ w (by decide)
  rw [show bl (⟨#[]⟩ : ByteArray).data.toList = 0 by decide +kernel] at h
  exact h
theorem blankE_c (w : World) : Calls Tryz.prog 49 #[.string ByteArray.empty] w fun e w' => e = .returned (.int .i64 0) ∧ w = w' := blank0_c w
theorem num_c (w : World) : Calls Tryz.prog 50 #[.string ⟨#[57]⟩] w fun e w' => e = .returned (.tuple #[.agg #[.bool false, .string ⟨#[57]⟩, .string ⟨#[]⟩, .string ⟨#[]⟩], .int .i64 1]) ∧ Below w.heap.size w w' := by
  have h := rn_wq0 ⟨#[57]⟩ [57] w (by decide) rfl (by decide +kernel) (by decide +kernel) (by decide +kernel)
  rw [show negL [57] = false by decide +kernel, show wholeL [57] = [57] by decide +kernel, show partL [57] = [] by decide +kernel, show powL [57] = [] by decide +kernel, show sizeB [57] = 1 by decide +kernel] at h
  exact h

set_option maxRecDepth 100000 in
theorem looks_c (w : World) : Calls Tryz.prog 34 #[.string ⟨#[57]⟩] w fun e w' => e = .returned (.bool true) ∧ Below w.heap.size w w' := by
  have j1 : (⟨#[57]⟩ : ByteArray).extract 0 1 = ⟨#[57]⟩ := rfl
  have j2 : (⟨#[57]⟩ : ByteArray).extract 1 1 = ⟨#[]⟩ := rfl
  go_enter Tryz.func34, Tryz.ntmps34
  go_wp2_with (first | (go_at_call 49; (with_reducible refine (blank_c _).mono ?_); rintro e w1 ⟨rfl, rfl⟩) | (go_at_call 49; (with_reducible refine (blankE_c _).mono ?_); rintro e w1 ⟨rfl, rfl⟩) | (go_at_call 50; go_must (refine (num_c _).mono ?_; rintro e w1 ⟨rfl, hb1⟩; have hz1 := hb1.size)))
  go_ret
  exact ⟨rfl, hb1.alloc hz1 _⟩

set_option maxRecDepth 100000 in
theorem prefix_all (w : World) (h : w.cell? ⟨7, 0, none⟩ = some (.int .u64 52)) (ho : w.cell? ⟨6, 0, none⟩ = some (.bool true)) :
    Calls Tryz.prog 45 #[.string ⟨#[57]⟩] w fun e w' => e = .returned (.tuple #[.float .f64 4621256167635550208, .int .i64 1]) ∧ Below w.heap.size w w' := by
  have l1 := World.block_lt_of_cell? w _ h
  have l2 := World.block_lt_of_cell? w _ ho
  have H1 := Lib.hid h
  have H2 := Lib.hid ho
  have j1 : (⟨#[57]⟩ : ByteArray).extract 0 1 = ⟨#[57]⟩ := rfl
  clear h ho
  go_enter Tryz.func45, Tryz.ntmps45
  go_wp2_with (first | (go_at_call 49; go_must (refine (blank_c _).mono ?_; rintro e w1 ⟨rfl, rfl⟩)) | (go_at_call 50; go_must (refine (num_c _).mono ?_; rintro e w1 ⟨rfl, hb1⟩; have hz1 := hb1.size)) | (go_at_call 59; go_must (refine (value_c _ (by rw [World.cell?_alloc_lt _ _ _ (by exact Nat.lt_of_lt_of_le l1 hz1), hb1.cell (by exact l1)]; exact H1.out) (by rw [World.cell?_alloc_lt _ _ _ (by exact Nat.lt_of_lt_of_le l2 hz1), hb1.cell (by exact l2)]; exact H2.out)).mono ?_; rintro e w2 ⟨rfl, hb2⟩)))
  go_ret2
  exact ⟨rfl, (hb1.alloc hz1 _).trans (hb2.mono (by simp; omega))⟩
end Go.Proofs.YtnddldnabldnoaaGreatDoor.tenB
