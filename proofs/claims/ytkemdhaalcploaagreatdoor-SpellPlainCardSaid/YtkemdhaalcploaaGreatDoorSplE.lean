/- Functions of package math at 7, 65 and 256; finite; dec.Format of 7. -/
import Derived.Test.YtkemdhaalcploaaGreatDoorSevB
import Derived.Handy
import Derived.Outline
import Derived.Laws.FloatArith
import Derived.Laws.Externs
import Derived.WalkSpells
import Derived.Lib.MinMax
namespace Go.Proofs.YtkemdhaalcploaaGreatDoor.spl
set_option linter.unusedVariables false set_option linter.unusedSimpArgs false
open Go.ChangeShapes Go.WideShapes Go.ChangeAt Go.RowKit

theorem run_bits (x : Nat) (W : World) : (callFunc 95 #[.float .f64 x]).run Tryz.prog W = .ok (.value (.int .u64 x)) W := by
  rw [run_callFunc_extern (e := Extern.MathFloatBits.float64bits) Tryz.func95 (by kernel_rfl) (by kernel_rfl) (by kernel_rfl) (by kernel_rfl)]
  rfl
theorem run_frombits (x : Nat) (W : World) : (callFunc 94 #[.int .u64 x]).run Tryz.prog W = .ok (.value (.float .f64 x)) W := by
  rw [run_callFunc_extern (e := Extern.MathFloatBits.float64frombits) Tryz.func94 (by kernel_rfl) (by kernel_rfl) (by kernel_rfl) (by kernel_rfl)]
  rfl

theorem Abs_all (b r : Nat) (hb : b < 18446744073709551616) (hr : r = b % 9223372036854775808) (w : World) :
    Calls Tryz.prog 65 #[.float .f64 b] w fun e w' => e = .returned (.float .f64 r) ∧ w = w' := by
  have hbits := run_bits b
  have hfrom := run_frombits r
  have hand : bits BinOp.andNot IntKind.u64 (b : Int) 9223372036854775808 = (r : Int) := by
    have h1 : (BitVec.ofInt 64 (b : Int)).toNat = b := by
      rw [BitVec.ofInt_natCast, BitVec.toNat_ofNat]; exact Nat.mod_eq_of_lt (by omega)
    have h2 : (~~~ BitVec.ofInt 64 (9223372036854775808 : Int)) = BitVec.ofNat 64 9223372036854775807 := by decide
    show IntKind.u64.wrap ((BitVec.ofInt 64 (b : Int) &&& ~~~ BitVec.ofInt 64 (9223372036854775808 : Int)).toNat : Int) = _
    rw [h2, BitVec.toNat_and, h1, BitVec.toNat_ofNat, show 9223372036854775807 % 2 ^ 64 = 2 ^ 63 - 1 by decide, Nat.and_two_pow_sub_one_eq_mod, IntKind.wrap_u64]
    omega
  have hb1 : (b : Int) < 18446744073709551616 := by omega
  clear hb hr
  go_enter Tryz.func65, Tryz.ntmps65
  go_wp2_with fail
  go_ret
  exact ⟨rfl, rfl⟩

theorem inf0_c (x : Nat) (h1 : x < 9223372036854775808) (h : (FloatKind.f64.format.order x 9218868437227405311 == some .gt) = false) (w : World) : Calls Tryz.prog 89 #[.float .f64 x, .int .i64 0] w fun e w' => e = .returned (.bool false) ∧ w = w' := by
  have HA := Lib.hid (fun w => Abs_all x x (by omega) (by omega) w)
  clear h1
  go_enter Tryz.func89, Tryz.ntmps89
  go_wp2_with (go_at_call 65; go_must (refine (HA.out _).mono ?_; rintro e w1 ⟨rfl, rfl⟩))
  go_ret
  exact ⟨rfl, rfl⟩
theorem inf1_c (x : Nat) (h : (FloatKind.f64.format.order x 9218868437227405311 == some .gt) = false) (w : World) : Calls Tryz.prog 89 #[.float .f64 x, .int .i64 1] w fun e w' => e = .returned (.bool false) ∧ w = w' := by
  go_enter Tryz.func89, Tryz.ntmps89
  go_wp2_with fail
  go_ret
  exact ⟨rfl, rfl⟩
theorem inf2_c (w : World) : Calls Tryz.prog 89 #[.float .f64 4619567317775286272, .int .i64 (-1)] w fun e w' => e = .returned (.bool false) ∧ w = w' := by
  have h : (FloatKind.f64.format.order 13842939354630062080 9218868437227405311 == some .gt) = false := by decide +kernel
  have hn : ∀ W : World, (Op.unary .neg (.float .f64 4619567317775286272)).run Tryz.prog W = .ok (.float .f64 13842939354630062080) W := fun _ => by kernel_rfl
  go_enter Tryz.func89, Tryz.ntmps89
  go_wp2_with fail
  go_ret
  exact ⟨rfl, rfl⟩
theorem nan_c (x : Nat) (h : (FloatKind.f64.format.order x x != some .eq) = false) (w : World) : Calls Tryz.prog 86 #[.float .f64 x] w fun e w' => e = .returned (.bool false) ∧ w = w' := by
  go_enter Tryz.func86, Tryz.ntmps86
  go_wp2
  go_ret
  exact ⟨rfl, rfl⟩
theorem trunc_7 (w : World) : Calls Tryz.prog 63 #[.float .f64 4619567317775286272] w fun e w' => e = .returned (.float .f64 4619567317775286272) ∧ w = w' := by
  have hr : ∀ W : World, (callFunc 87 #[.float .f64 4619567317775286272]).run Tryz.prog W = .ok (.value (.float .f64 4619567317775286272)) W := fun _ => by kernel_rfl
  go_enter Tryz.func63, Tryz.ntmps63
  go_wp2_with fail
  go_ret
  exact ⟨rfl, rfl⟩
theorem trunc_65 (w : World) : Calls Tryz.prog 63 #[.float .f64 4634274385308418048] w fun e w' => e = .returned (.float .f64 4634274385308418048) ∧ w = w' := by
  have hr : ∀ W : World, (callFunc 87 #[.float .f64 4634274385308418048]).run Tryz.prog W = .ok (.value (.float .f64 4634274385308418048)) W := fun _ => by kernel_rfl
  go_enter Tryz.func63, Tryz.ntmps63
  go_wp2_with fail
  go_ret
  exact ⟨rfl, rfl⟩
theorem o7 : (FloatKind.f64.format.order 4619567317775286272 9218868437227405311 == some .gt) = false := by decide +kernel
theorem o65 : (FloatKind.f64.format.order 4634274385308418048 9218868437227405311 == some .gt) = false := by decide +kernel
theorem o256 : (FloatKind.f64.format.order 4643211215818981376 9218868437227405311 == some .gt) = false := by decide +kernel
theorem n7 : (FloatKind.f64.format.order 4619567317775286272 4619567317775286272 != some .eq) = false := by decide +kernel
theorem n65 : (FloatKind.f64.format.order 4634274385308418048 4634274385308418048 != some .eq) = false := by decide +kernel
theorem n256 : (FloatKind.f64.format.order 4643211215818981376 4643211215818981376 != some .eq) = false := by decide +kernel

theorem finite_c (x : Nat) (h1 : x < 9223372036854775808) (h : (FloatKind.f64.format.order x 9218868437227405311 == some .gt) = false) (h2 : (FloatKind.f64.format.order x x != some .eq) = false) (w : World) : Calls Tryz.prog 67 #[.float .f64 x] w fun e w' => e = .returned (.bool true) ∧ w = w' := by
  have HI := Lib.hid (fun w => inf0_c x h1 h w)
  have HN := Lib.hid (fun w => nan_c x h2 w)
  clear h1 h h2
  go_enter Tryz.func67, Tryz.ntmps67
  go_wp2_with (first | (go_at_call 89; go_must (refine (HI.out _).mono ?_; rintro e w1 ⟨rfl, rfl⟩)) | (go_at_call 86; go_must (refine (HN.out _).mono ?_; rintro e w1 ⟨rfl, rfl⟩)))
  go_ret
  exact ⟨rfl, rfl⟩

set_option maxRecDepth 100000 in
set_option maxHeartbeats 1000000 in
theorem normal_256 (w : World) : Calls Tryz.prog 179 #[.float .f64 4643211215818981376] w fun e w' => e = .returned (.tuple #[.float .f64 4643211215818981376, .int .i64 0]) ∧ w = w' := by
  have h : (FloatKind.f64.format.order 4643211215818981376 4503599627370496 == some .lt) = false := by decide +kernel
  go_enter Tryz.func179, Tryz.ntmps179
  go_wp2_with (go_at_call 65; go_must (refine (Abs_all 4643211215818981376 4643211215818981376 (by decide) (by decide) _).mono ?_; rintro e w1 ⟨rfl, rfl⟩))
  exact bodyPost_ret (v := .tuple #[.float .f64 4643211215818981376, .int .i64 0]) (by simp [results, Tryz.results179, go_sem]) rfl ⟨rfl, rfl⟩

set_option maxRecDepth 100000 in
set_option maxHeartbeats 1000000 in
theorem frexp_256 (w : World) : Calls Tryz.prog 146 #[.float .f64 4643211215818981376] w fun e w' => e = .returned (.tuple #[.float .f64 4602678819172646912, .int .i64 9]) ∧ w = w' := by
  have h : (FloatKind.f64.format.order 4643211215818981376 0 == some .eq) = false := by decide +kernel
  have hb : ∀ W : World, (callFunc 95 #[.float .f64 4643211215818981376]).run Tryz.prog W = .ok (.value (.int .u64 4643211215818981376)) W := fun W => run_bits 4643211215818981376 W
  have hf : ∀ W : World, (callFunc 94 #[.int .u64 4602678819172646912]).run Tryz.prog W = .ok (.value (.float .f64 4602678819172646912)) W := fun W => run_frombits 4602678819172646912 W
  have b1 : bits BinOp.and IntKind.u64 1031 2047 = 1031 := by decide +kernel
  have b2 : bits BinOp.andNot IntKind.u64 4643211215818981376 9218868437227405312 = 0 := by decide +kernel
  have b3 : bits BinOp.or IntKind.u64 0 4602678819172646912 = 4602678819172646912 := by decide +kernel
  go_enter Tryz.func146, Tryz.ntmps146
  go_wp2_with (first | (go_at_call 89; go_must (refine (inf0_c _ (by decide) o256 _).mono ?_; rintro e w1 ⟨rfl, rfl⟩)) | (go_at_call 86; go_must (refine (nan_c _ n256 _).mono ?_; rintro e w1 ⟨rfl, rfl⟩)) | (go_at_call 179; go_must (refine (normal_256 _).mono ?_; rintro e w1 ⟨rfl, rfl⟩)))
  exact bodyPost_ret (v := .tuple #[.float .f64 4602678819172646912, .int .i64 9]) (by simp [results, Tryz.results146, go_sem]) rfl ⟨rfl, rfl⟩
set_option maxRecDepth 100000 in
set_option maxHeartbeats 1000000 in
theorem Frexp_256 (w : World) : Calls Tryz.prog 122 #[.float .f64 4643211215818981376] w fun e w' => e = .returned (.tuple #[.float .f64 4602678819172646912, .int .i64 9]) ∧ w = w' := by
  go_enter Tryz.func122, Tryz.ntmps122
  go_wp2_with (go_at_call 146; go_must (refine (frexp_256 _).mono ?_; rintro e w1 ⟨rfl, rfl⟩))
  exact bodyPost_ret (v := .tuple #[.float .f64 4602678819172646912, .int .i64 9]) (by simp [results, Tryz.results122, go_sem]) rfl ⟨rfl, rfl⟩

set_option maxRecDepth 100000 in
set_option maxHeartbeats 1000000 in
theorem mod_65 (w : World) : Calls Tryz.prog 99 #[.float .f64 4634274385308418048, .float .f64 4643211215818981376] w fun e w' => e = .returned (.float .f64 4634274385308418048) ∧ w = w' := by
  have h1 : (FloatKind.f64.format.order 4643211215818981376 0 == some .eq) = false := by decide +kernel
  have h2 : (FloatKind.f64.format.order 4634274385308418048 0 == some .lt) = false := by decide +kernel
  have h3 : (FloatKind.f64.format.order 4634274385308418048 4643211215818981376 == some .gt) = false := by decide +kernel
  have h4 : (FloatKind.f64.format.order 4634274385308418048 4643211215818981376 == some .eq) = false := by decide +kernel
  go_enter Tryz.func99, Tryz.ntmps99
  go_wp2_with (first | (go_at_call 89; go_must (refine (inf0_c _ (by decide) o65 _).mono ?_; rintro e w1 ⟨rfl, rfl⟩)) | (go_at_call 86; (with_reducible refine (nan_c _ n65 _).mono ?_); rintro e w1 ⟨rfl, rfl⟩) | (go_at_call 86; (with_reducible refine (nan_c _ n256 _).mono ?_); rintro e w1 ⟨rfl, rfl⟩) | (go_at_call 65; go_must (refine (Abs_all 4643211215818981376 4643211215818981376 (by decide) (by decide) _).mono ?_; rintro e w1 ⟨rfl, rfl⟩)) | (go_at_call 122; go_must (refine (Frexp_256 _).mono ?_; rintro e w1 ⟨rfl, rfl⟩)))
  go_rounds 1
  go_ret
  exact ⟨rfl, rfl⟩
set_option maxRecDepth 100000 in
set_option maxHeartbeats 1000000 in
theorem Mod_65 (w : World) : Calls Tryz.prog 72 #[.float .f64 4634274385308418048, .float .f64 4643211215818981376] w fun e w' => e = .returned (.float .f64 4634274385308418048) ∧ w = w' := by
  go_enter Tryz.func72, Tryz.ntmps72
  go_wp2_with (go_at_call 99; go_must (refine (mod_65 _).mono ?_; rintro e w1 ⟨rfl, rfl⟩))
  go_ret
  exact ⟨rfl, rfl⟩

set_option maxRecDepth 100000 in
set_option maxHeartbeats 1000000 in
theorem without_7 (w : World) (hT : sev.TabF w) : Calls Tryz.prog 90 #[.float .f64 4619567317775286272, .int .i64 0, .bool false] w fun e w' => e = .returned (.string ⟨#[55]⟩) ∧ Below w.heap.size w w' := by
  have H := Lib.hid (sev.Format_f w hT)
  clear hT
  go_enter Tryz.func90, Tryz.ntmps90
  go_wp2_with (go_at_call 114; go_must (refine (H.out).mono ?_; rintro e w1 ⟨rfl, hb1⟩))
  go_ret
  exact ⟨rfl, hb1⟩
set_option maxRecDepth 100000 in
set_option maxHeartbeats 1000000 in
theorem format_7 (w : World) (hT : sev.TabF w) : Calls Tryz.prog 64 #[.float .f64 4619567317775286272, .int .u8 102, .int .i64 0, .bool false] w fun e w' => e = .returned (.string ⟨#[55]⟩) ∧ Below w.heap.size w w' := by
  have m1 : max (0 : Int) 0 = 0 := by decide
  have m2 : min (0 : Int) 60 = 0 := by decide
  have H := Lib.hid (without_7 w hT)
  clear hT
  go_enter Tryz.func64, Tryz.ntmps64
  go_wp2_with (first | (go_at_call 86; go_must (refine (nan_c _ n7 _).mono ?_; rintro e w1 ⟨rfl, rfl⟩)) | (go_at_call 89; (with_reducible refine (inf1_c _ o7 _).mono ?_); rintro e w1 ⟨rfl, rfl⟩) | (go_at_call 89; (with_reducible refine (inf2_c _).mono ?_); rintro e w1 ⟨rfl, rfl⟩) | (go_at_call 90; go_must (refine (H.out).mono ?_; rintro e w1 ⟨rfl, hb1⟩)))
  go_ret
  exact ⟨rfl, hb1⟩
end Go.Proofs.YtkemdhaalcploaaGreatDoor.spl
