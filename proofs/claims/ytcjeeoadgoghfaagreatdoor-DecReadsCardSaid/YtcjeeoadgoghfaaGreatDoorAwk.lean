/- What awake asks of strconv.ParseFloat: the one text "1.25e2". -/
import Derived.Test.YtcjeeoadgoghfaaGreatDoorShelf
import Derived.Test.YtcjeeoadgoghfaaGreatDoorGTabR
import Derived.Handy
import Derived.Outline
import Derived.Laws.FloatArith
import Derived.Laws.Externs
import Derived.WalkSpells

namespace Go.Proofs.YtcjeeoadgoghfaaGreatDoor.awk
set_option linter.unusedVariables false
open Go.ChangeShapes Go.WideShapes Go.ChangeAt Go.RowKit

def S125 : ByteArray := ⟨#[49, 46, 50, 53, 101, 50]⟩

set_option maxRecDepth 100000 in
set_option maxHeartbeats 1000000 in
theorem special_c (w : World) :
    Calls Tryz.prog 236 #[.string ⟨#[49, 46, 50, 53, 101, 50]⟩] w fun e w' => e = .returned (.tuple #[.float .f64 0, .int .i64 0, .bool false]) ∧ w = w' := by
  go_enter Tryz.func236, Tryz.ntmps236
  go_wp2
  go_ret3
  exact ⟨rfl, rfl⟩

set_option maxRecDepth 100000 in
set_option maxHeartbeats 2000000 in
theorem readFloat_c (w : World) :
    Calls Tryz.prog 237 #[.string ⟨#[49, 46, 50, 53, 101, 50]⟩] w fun e w' => e = .returned (.tuple #[.int .u64 125, .int .i64 0, .bool false, .bool false, .bool false, .int .i64 6, .bool true]) ∧ w = w' := by
  have b0 : ((⟨#[49, 46, 50, 53, 101, 50]⟩ : ByteArray)[0]'(by decide)).toNat = 49 := rfl
  have b1 : ((⟨#[49, 46, 50, 53, 101, 50]⟩ : ByteArray)[1]'(by decide)).toNat = 46 := rfl
  have b2 : ((⟨#[49, 46, 50, 53, 101, 50]⟩ : ByteArray)[2]'(by decide)).toNat = 50 := rfl
  have b3 : ((⟨#[49, 46, 50, 53, 101, 50]⟩ : ByteArray)[3]'(by decide)).toNat = 53 := rfl
  have b4 : ((⟨#[49, 46, 50, 53, 101, 50]⟩ : ByteArray)[4]'(by decide)).toNat = 101 := rfl
  have b5 : ((⟨#[49, 46, 50, 53, 101, 50]⟩ : ByteArray)[5]'(by decide)).toNat = 50 := rfl
  go_enter Tryz.func237, Tryz.ntmps237
  go_wp2
  go_step3
  go_wp2
  go_step3
  go_wp2
  go_rounds 5
  go_rounds 2
  try rw [Exit.noGoto_ret]
  refine bodyPost_ret (v := .tuple #[.int .u64 125, .int .i64 0, .bool false, .bool false, .bool false, .int .i64 6, .bool true]) (by simp [results, Tryz.results237, go_sem]) rfl ⟨rfl, rfl⟩

theorem fl125 : floatOfInt .f64 125 = 4638496509959077888 := by kernel_rfl

set_option maxRecDepth 100000 in
set_option maxHeartbeats 1000000 in
theorem exact_c (w : World) (h : w.cell? ⟨10, 0, none⟩ = some (.int .u64 52)) :
    Calls Tryz.prog 247 #[.int .u64 125, .int .i64 0, .bool false] w fun e w' => e = .returned (.tuple #[.float .f64 4638496509959077888, .bool true]) ∧ w = w' := by
  have hf := fl125
  go_enter Tryz.func247, Tryz.ntmps247
  go_wp2
  go_ret2
  exact ⟨rfl, rfl⟩

theorem bool2u_c (w : World) : Calls Tryz.prog 245 #[.bool false] w fun e w' => e = .returned (.int .u64 0) ∧ w = w' := by
  go_enter Tryz.func245, Tryz.ntmps245
  go_wp2
  go_ret
  exact ⟨rfl, rfl⟩

set_option maxRecDepth 100000 in
set_option maxHeartbeats 2000000 in
theorem atof64_c (w : World) (h : w.cell? ⟨10, 0, none⟩ = some (.int .u64 52)) (ho : w.cell? ⟨6, 0, none⟩ = some (.bool true)) :
    Calls Tryz.prog 199 #[.string ⟨#[49, 46, 50, 53, 101, 50]⟩] w fun e w' => e = .returned (.tuple #[.float .f64 4638496509959077888, .int .i64 6, .nilIface]) ∧ w = w' := by
  have HE := Lib.hid (exact_c w h)
  clear h
  go_enter Tryz.func199, Tryz.ntmps199
  go_wp2_with (first | (go_at_call 236; go_must (refine (special_c _).mono ?_; rintro e w1 ⟨rfl, rfl⟩)) | (go_at_call 237; go_must (refine (readFloat_c _).mono ?_; rintro e w1 ⟨rfl, rfl⟩)) | (go_at_call 245; go_must (refine (bool2u_c _).mono ?_; rintro e w1 ⟨rfl, rfl⟩)) | (go_at_call 247; go_must (refine (HE.out).mono ?_; rintro e w1 ⟨rfl, rfl⟩)))
  go_ret3
  exact ⟨rfl, rfl⟩

set_option maxRecDepth 100000 in
theorem prefix_c (w : World) (h : w.cell? ⟨10, 0, none⟩ = some (.int .u64 52)) (ho : w.cell? ⟨6, 0, none⟩ = some (.bool true)) :
    Calls Tryz.prog 154 #[.string ⟨#[49, 46, 50, 53, 101, 50]⟩, .int .i64 64] w fun e w' => e = .returned (.tuple #[.float .f64 4638496509959077888, .int .i64 6, .nilIface]) ∧ w = w' := by
  have HE := Lib.hid (atof64_c w h ho)
  clear h ho
  go_enter Tryz.func154, Tryz.ntmps154
  go_wp2_with (go_at_call 199; go_must (refine (HE.out).mono ?_; rintro e w1 ⟨rfl, rfl⟩))
  go_ret3
  exact ⟨rfl, rfl⟩

set_option maxRecDepth 100000 in
theorem iParse_c (w : World) (h : w.cell? ⟨10, 0, none⟩ = some (.int .u64 52)) (ho : w.cell? ⟨6, 0, none⟩ = some (.bool true)) :
    Calls Tryz.prog 120 #[.string ⟨#[49, 46, 50, 53, 101, 50]⟩, .int .i64 64] w fun e w' => e = .returned (.tuple #[.float .f64 4638496509959077888, .nilIface]) ∧ w = w' := by
  have HE := Lib.hid (prefix_c w h ho)
  clear h ho
  go_enter Tryz.func120, Tryz.ntmps120
  go_wp2_with (go_at_call 154; go_must (refine (HE.out).mono ?_; rintro e w1 ⟨rfl, rfl⟩))
  go_ret2
  exact ⟨rfl, rfl⟩

set_option maxRecDepth 100000 in
theorem Parse_c (w : World) (h : w.cell? ⟨10, 0, none⟩ = some (.int .u64 52)) (ho : w.cell? ⟨6, 0, none⟩ = some (.bool true)) :
    Calls Tryz.prog 86 #[.string ⟨#[49, 46, 50, 53, 101, 50]⟩, .int .i64 64] w fun e w' => e = .returned (.tuple #[.float .f64 4638496509959077888, .nilIface]) ∧ w = w' := by
  have HE := Lib.hid (iParse_c w h ho)
  clear h ho
  go_enter Tryz.func86, Tryz.ntmps86
  go_wp2_with (go_at_call 120; go_must (refine (HE.out).mono ?_; rintro e w1 ⟨rfl, rfl⟩))
  go_ret2
  exact ⟨rfl, rfl⟩
end Go.Proofs.YtcjeeoadgoghfaaGreatDoor.awk
