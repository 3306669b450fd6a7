/- The contract of dec.Whole, a case each; and that the law's two Wholes answer alike. -/
import Derived.Test.YtnddldnabldnoaaGreatDoorWhole
import Derived.Test.YtnddldnabldnoaaGreatDoorShelf
namespace Go.Proofs.YtnddldnabldnoaaGreatDoor.whole
set_option linter.unusedVariables false set_option linter.unusedSimpArgs false
open Go.ChangeShapes Go.WideShapes Go.ChangeAt Go.RowKit Go.Proofs.YtnddldnabldnoaaGreatDoor.deci Go.Proofs.YtnddldnabldnoaaGreatDoor.FloatMath

/-- New blocks and draws touch nothing that was there. -/
theorem below_more (w : World) (k : Nat) (os : Array Obj) : Below w.heap.size w (Sort.grow (w.drewN k) os) := by
  refine ⟨rfl, rfl, rfl, ?_, fun i hi => ?_⟩
  · show w.heap.size ≤ (w.heap ++ os).size
    rw [Array.size_append]; omega
  · show (w.heap ++ os)[i]? = _
    exact Array.getElem?_append_left hi

theorem whole_lt (b : Nat) (hc : b % 9223372036854775808 < 4890909195324358656) : numOf b / denOf b < 9223372036854775808 := by
  have hm := mag_lt b
  have he : expOf b ≤ 10 := by unfold expOf; split <;> omega
  refine Nat.lt_of_le_of_lt (Nat.div_le_self _ _) ?_
  unfold deci.numOf
  have h1 : 2 ^ (expOf b).toNat ≤ 2 ^ 10 := Nat.pow_le_pow_right (by omega) (by omega)
  have h2 : magOf b * 2 ^ (expOf b).toNat ≤ magOf b * 2 ^ 10 := Nat.mul_le_mul_left _ h1
  rw [pow53] at hm
  omega

theorem wholeN_bd (b : Nat) (hc : b % 9223372036854775808 < 4890909195324358656) : -9223372036854775808 ≤ wholeN b ∧ wholeN b ≤ 9223372036854775807 := by
  have := whole_lt b hc
  unfold wholeN
  generalize numOf b / denOf b = V at *
  split <;> omega

/-- 'int64(x)'. -/
theorem toInt_word (b : Nat) (hb : b < 18446744073709551616) (hc : b % 9223372036854775808 < 4890909195324358656) : floatToIntVal .f64 b .i64 = some (wholeN b) := by
  have hbd := wholeN_bd b hc
  have e : (FloatKind.f64.decode b).toInt .zero = some (wholeN b) := by
    rw [show FloatKind.f64.decode b = Ieee.double.read b from rfl, read_finite b (finite_of hc)]
    unfold Ieee.Datum.toInt Ieee.Datum.integral
    simp only
    rw [zero_cut, Nat.shiftLeft_eq]
    unfold Ieee.signed wholeN
    simp only [Nat.shiftLeft_zero]
    have e2 : magOf b * 2 ^ (expOf b).toNat / 2 ^ (-expOf b).toNat = numOf b / denOf b := rfl
    rw [e2]
    by_cases hn : 9223372036854775808 ≤ b
    · rw [if_pos hn, if_pos (by simp; omega)]
    · rw [if_neg hn, if_neg (by simp; omega)]
  unfold floatToIntVal
  rw [e]
  have h1 : IntKind.i64.min = -9223372036854775808 := rfl
  have h2 : IntKind.i64.max = 9223372036854775807 := rfl
  simp only [h1, h2]
  rw [if_pos hbd]

theorem ord_ne (a b : Nat) (h : Ieee.double.order a b = some .eq) : (FloatKind.f64.format.order a b != some .eq) = false := by rw [show FloatKind.f64.format.order a b = some .eq from h]; rfl
theorem ord_ne2 (a b : Nat) (h : Ieee.double.order a b ≠ some .eq) : (FloatKind.f64.format.order a b != some .eq) = true := by
  have h2 : ¬ (FloatKind.f64.format.order a b = some .eq) := h
  simpa [bne] using h2

set_option maxRecDepth 100000 in
set_option maxHeartbeats 400000 in
theorem Whole_part (b : Nat) (w : World) (hb : b < 18446744073709551616) (hf : b % 9223372036854775808 / 4503599627370496 < 2047) (hd : ¬ denOf b ∣ numOf b) :
    Calls Tryz.prog 69 #[.float .f64 b] w fun e w' => e = .returned (.tuple #[.string ⟨#[]⟩, .bool false]) ∧ Below w.heap.size w w' := by
  have ho := ord_ne2 (trW b) b (fun h => hd ((trunc_order b hb hf).1 h))
  have HT := Lib.hid (fun w => Trunc_fin b hf w)
  clear hb hf hd
  go_enter Tryz.func69, Tryz.ntmps69
  go_wp2_with (go_at_call 43; go_must (refine (HT.out _).mono ?_; rintro e w1 ⟨rfl, rfl⟩))
  go_ret2
  exact ⟨rfl, Below.refl _ _⟩

set_option maxRecDepth 100000 in
set_option maxHeartbeats 400000 in
theorem Whole_nan (b : Nat) (w : World) (hb : b < 18446744073709551616) (h : 9218868437227405312 < b % 9223372036854775808) :
    Calls Tryz.prog 69 #[.float .f64 b] w fun e w' => e = .returned (.tuple #[.string ⟨#[]⟩, .bool false]) ∧ Below w.heap.size w w' := by
  have HO := Lib.hid (fun a => ord_ne2 a b (by rw [nan_order a b h]; simp))
  have HT := Lib.hid (fun w => Trunc_nan b h w)
  clear hb h
  go_enter Tryz.func69, Tryz.ntmps69
  go_wp2_with (go_at_call 43; go_must (refine (HT.out _).mono ?_; rintro e w1 ⟨y, rfl, hb1⟩; have ho := HO.out y))
  go_ret2
  exact ⟨rfl, hb1⟩

set_option maxRecDepth 100000 in
set_option maxHeartbeats 400000 in
theorem Whole_big (b : Nat) (w : World) (hb : b < 18446744073709551616) (hf : b % 9223372036854775808 / 4503599627370496 < 2047) (hc : 4890909195324358656 ≤ b % 9223372036854775808) :
    Calls Tryz.prog 69 #[.float .f64 b] w fun e w' => e = .returned (.tuple #[.string ⟨#[]⟩, .bool false]) ∧ Below w.heap.size w w' := by
  by_cases hd : denOf b ∣ numOf b
  · have ho := ord_ne (trW b) b ((trunc_order b hb hf).2 hd)
    have HT := Lib.hid (fun w => Trunc_fin b hf w)
    obtain ⟨r, hr⟩ : ∃ r, r = b % 9223372036854775808 := ⟨_, rfl⟩
    have HA := Lib.hid (fun w => Abs_all b r hb hr w)
    have hg : (FloatKind.f64.format.order r 4890909195324358656 == some .gt || FloatKind.f64.format.order r 4890909195324358656 == some .eq) = true := by
      have := order_big r (by omega) (by omega)
      rw [decide_eq_true (by omega)] at this
      exact this
    clear hb hf hd hr hc
    go_enter Tryz.func69, Tryz.ntmps69
    go_wp2_with (first | (go_at_call 43; go_must (refine (HT.out _).mono ?_; rintro e w1 ⟨rfl, rfl⟩)) | (go_at_call 44; go_must (refine (HA.out _).mono ?_; rintro e w1 ⟨rfl, rfl⟩)))
    go_ret2
    exact ⟨rfl, Below.refl _ _⟩
  · exact Whole_part b w hb hf hd

set_option maxRecDepth 100000 in
set_option maxHeartbeats 400000 in
theorem Whole_inf (b : Nat) (w : World) (hb : b < 18446744073709551616) (h : b % 9223372036854775808 = 9218868437227405312) :
    Calls Tryz.prog 69 #[.float .f64 b] w fun e w' => e = .returned (.tuple #[.string ⟨#[]⟩, .bool false]) ∧ Below w.heap.size w w' := by
  have ho := ord_ne b b (inf_order b h)
  have HT := Lib.hid (fun w => Trunc_inf b hb h w)
  have HA := Lib.hid (fun w => Abs_all b 9218868437227405312 hb h.symm w)
  have hg : (FloatKind.f64.format.order 9218868437227405312 4890909195324358656 == some .gt || FloatKind.f64.format.order 9218868437227405312 4890909195324358656 == some .eq) = true := inf_big
  clear hb h
  go_enter Tryz.func69, Tryz.ntmps69
  go_wp2_with (first | (go_at_call 43; go_must (refine (HT.out _).mono ?_; rintro e w1 ⟨rfl, rfl⟩)) | (go_at_call 44; go_must (refine (HA.out _).mono ?_; rintro e w1 ⟨rfl, rfl⟩)))
  go_ret2
  exact ⟨rfl, Below.refl _ _⟩

set_option maxRecDepth 100000 in
set_option maxHeartbeats 400000 in
theorem Whole_yes (b : Nat) (w : World) (hb : b < 18446744073709551616) (hc : b % 9223372036854775808 < 4890909195324358656) (hd : denOf b ∣ numOf b) (htab : Lib.TabIs Tryz.prog w "internal/strconv.uint64pow10" .u64 Lib.pow10Tab) :
    Calls Tryz.prog 69 #[.float .f64 b] w fun e w' => e = .returned (.tuple #[.string ⟨(Lib.itoa (wholeN b)).toArray⟩, .bool true]) ∧ Below w.heap.size w w' := by
  have ho := ord_ne (trW b) b ((trunc_order b hb (finite_of hc)).2 hd)
  have HT := Lib.hid (fun w => Trunc_fin b (finite_of hc) w)
  obtain ⟨r, hr⟩ : ∃ r, r = b % 9223372036854775808 := ⟨_, rfl⟩
  have HA := Lib.hid (fun w => Abs_all b r hb hr w)
  have hg : (FloatKind.f64.format.order r 4890909195324358656 == some .gt || FloatKind.f64.format.order r 4890909195324358656 == some .eq) = false := by
    have := order_big r (by omega) (by omega)
    rw [decide_eq_false (by omega)] at this
    exact this
  have hcv := fun W => run_convert_float_int (P := Tryz.prog) W 22 2 .f64 .i64 b _ (by kernel_rfl) (by kernel_rfl) (toInt_word b hb hc)
  have HF := Lib.hid (Tryz.strconv_FormatInt_10 (wholeN b) (wholeN_bd b hc).1 (wholeN_bd b hc).2 w htab)
  generalize wholeN b = N at *
  clear hb hc hd hr htab
  go_enter Tryz.func69, Tryz.ntmps69
  go_wp2_with (first | (go_at_call 43; go_must (refine (HT.out _).mono ?_; rintro e w1 ⟨rfl, rfl⟩)) | (go_at_call 44; go_must (refine (HA.out _).mono ?_; rintro e w1 ⟨rfl, rfl⟩)) | (go_at_call 88; go_must (refine (HF.out).mono ?_; rintro e w1 ⟨rfl, k, os, rfl⟩)))
  go_ret2
  exact ⟨rfl, below_more _ _ _⟩
end Go.Proofs.YtnddldnabldnoaaGreatDoor.whole
