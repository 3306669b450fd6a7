/- Powers of binary64: what is asked of the second number, in words. -/
import Derived.Test.YtnddldnabldnoaaGreatDoorWhole2
namespace Go.Proofs.YtnddldnabldnoaaGreatDoor.pow8
set_option linter.unusedVariables false set_option linter.unusedSimpArgs false
open Go.Proofs.YtnddldnabldnoaaGreatDoor.deci Go.Proofs.YtnddldnabldnoaaGreatDoor.FloatMath Go.Proofs.YtnddldnabldnoaaGreatDoor.whole
open Ieee

theorem mag_mod (y : Nat) : magOf (y % 9223372036854775808) = magOf y := by
  unfold magOf
  rw [show y % 9223372036854775808 % 9223372036854775808 = y % 9223372036854775808 by omega, show y % 9223372036854775808 % 4503599627370496 = y % 4503599627370496 by omega]
theorem exp_mod (y : Nat) : expOf (y % 9223372036854775808) = expOf y := by
  unfold expOf
  rw [show y % 9223372036854775808 % 9223372036854775808 = y % 9223372036854775808 by omega]
theorem num_mod (y : Nat) : numOf (y % 9223372036854775808) = numOf y := by unfold numOf; rw [mag_mod, exp_mod]
theorem den_mod (y : Nat) : denOf (y % 9223372036854775808) = denOf y := by unfold denOf; rw [exp_mod]

/-- What a finite number's size is against 1024. -/
theorem big_iff (y : Nat) (hf : y % 9223372036854775808 / 4503599627370496 < 2047) :
    4503599627370496 * 2 ^ (-42 - min (expOf y) (-42)).toNat < magOf y * 2 ^ (expOf y - min (expOf y) (-42)).toNat ↔ 4652218415073722368 < y % 9223372036854775808 := by
  have hm := mag_lt y
  rw [pow53] at hm
  by_cases h1 : -42 < expOf y
  · have hr := rung_of y (by omega)
    have hm2 := mag_ge y (by omega)
    rw [pow52] at hm2
    rw [show (-42 - min (expOf y) (-42)).toNat = 0 by omega, Nat.pow_zero, Nat.mul_one]
    have h2 : 2 ^ 1 ≤ 2 ^ (expOf y - min (expOf y) (-42)).toNat := Nat.pow_le_pow_right (by omega) (by omega)
    have h3 := Nat.mul_le_mul hm2 h2
    constructor
    · intro _; omega
    · intro _; omega
  · by_cases h2 : expOf y = -42
    · have hr := rung_of y (by omega)
      rw [h2] at hr ⊢
      rw [show ((-42 : Int) - min (-42) (-42)).toNat = 0 by omega, Nat.pow_zero, Nat.mul_one, Nat.mul_one]
      rw [show ((-42 : Int) + 1074).toNat = 1032 by omega] at hr
      omega
    · have h3 : 2 ^ 1 ≤ 2 ^ (-42 - min (expOf y) (-42)).toNat := Nat.pow_le_pow_right (by omega) (by omega)
      have h4 := Nat.mul_le_mul_left 4503599627370496 h3
      rw [show (expOf y - min (expOf y) (-42)).toNat = 0 by omega, Nat.pow_zero, Nat.mul_one]
      have h5 : y % 9223372036854775808 < 4652218415073722368 := by
        unfold expOf at h1 h2
        split at h1 <;> omega
      omega

theorem read_1024 : double.read 4652218415073722368 = .number false 4503599627370496 (-42) := by
  rw [read_finite _ (by decide)]; decide
theorem read_m1024 : double.read 13875590451928498176 = .number true 4503599627370496 (-42) := by
  rw [read_finite _ (by decide)]; decide
theorem read_0 : double.read 0 = .number false 0 (-1074) := by
  rw [read_finite _ (by decide)]; decide

theorem beq_of_iff {α : Type} [BEq α] [LawfulBEq α] {a b : α} {p : Prop} [Decidable p] (h : a = b ↔ p) : (a == b) = decide p := by
  by_cases hp : p
  · rw [decide_eq_true hp, h.2 hp]; simp
  · rw [decide_eq_false hp]; simpa using fun e => hp (h.1 e)

theorem gt_1024 (y : Nat) (hb : y < 18446744073709551616) (hf : y % 9223372036854775808 / 4503599627370496 < 2047) :
    (double.order y 4652218415073722368 == some .gt) = decide (y < 9223372036854775808 ∧ 4652218415073722368 < y % 9223372036854775808) := by
  refine beq_of_iff ?_
  have hx := big_iff y hf
  have hy : 0 < 4503599627370496 * 2 ^ (-42 - min (expOf y) (-42)).toNat := Nat.mul_pos (by omega) (Nat.two_pow_pos _)
  unfold Format.order
  rw [read_finite y hf, read_1024]
  unfold Datum.order signed
  simp only [Nat.shiftLeft_eq, Bool.false_eq_true, if_false, Option.some.injEq]
  generalize magOf y * 2 ^ (expOf y - min (expOf y) (-42)).toNat = X at *
  generalize 4503599627370496 * 2 ^ (-42 - min (expOf y) (-42)).toNat = Y at *
  by_cases hn : y < 9223372036854775808
  · rw [if_neg (by simp; omega), Int.compare_eq_gt]
    omega
  · rw [if_pos (by simp; omega), Int.compare_eq_gt]
    omega

theorem lt_m1024 (y : Nat) (hb : y < 18446744073709551616) (hf : y % 9223372036854775808 / 4503599627370496 < 2047) :
    (double.order y 13875590451928498176 == some .lt) = decide (9223372036854775808 ≤ y ∧ 4652218415073722368 < y % 9223372036854775808) := by
  refine beq_of_iff ?_
  have hx := big_iff y hf
  have hy : 0 < 4503599627370496 * 2 ^ (-42 - min (expOf y) (-42)).toNat := Nat.mul_pos (by omega) (Nat.two_pow_pos _)
  unfold Format.order
  rw [read_finite y hf, read_m1024]
  unfold Datum.order signed
  simp only [Nat.shiftLeft_eq, if_true, Option.some.injEq]
  generalize magOf y * 2 ^ (expOf y - min (expOf y) (-42)).toNat = X at *
  generalize 4503599627370496 * 2 ^ (-42 - min (expOf y) (-42)).toNat = Y at *
  by_cases hn : y < 9223372036854775808
  · rw [if_neg (by simp; omega), Int.compare_eq_lt]
    omega
  · rw [if_pos (by simp; omega), Int.compare_eq_lt]
    omega

theorem lt_0 (y : Nat) (hb : y < 18446744073709551616) (hf : y % 9223372036854775808 / 4503599627370496 < 2047) :
    (double.order y 0 == some .lt) = decide (9223372036854775808 ≤ y ∧ magOf y ≠ 0) := by
  refine beq_of_iff ?_
  have he := exp_ge y
  have hx : magOf y * 2 ^ (expOf y - min (expOf y) (-1074)).toNat = 0 ↔ magOf y = 0 := by
    constructor
    · intro h
      rcases Nat.mul_eq_zero.1 h with h | h
      · exact h
      · have := Nat.two_pow_pos (expOf y - min (expOf y) (-1074)).toNat; omega
    · intro h; rw [h, Nat.zero_mul]
  unfold Format.order
  rw [read_finite y hf, read_0]
  unfold Datum.order signed
  simp only [Nat.shiftLeft_eq, Bool.false_eq_true, if_false, Nat.zero_mul, Option.some.injEq]
  generalize magOf y * 2 ^ (expOf y - min (expOf y) (-1074)).toNat = X at *
  by_cases hn : y < 9223372036854775808
  · rw [if_neg (by simp; omega), Int.compare_eq_lt]
    omega
  · rw [if_pos (by simp; omega), Int.compare_eq_lt]
    omega

theorem ord_sym (a b : Datum) : a.order b = some .eq ↔ b.order a = some .eq := by
  have h : ∀ a c : Int, compare a c = .eq ↔ a = c := fun a c => by rw [Std.LawfulEqCmp.compare_eq_iff_eq]
  have h2 : ∀ a c : Nat, compare a c = .eq ↔ a = c := fun a c => by rw [Std.LawfulEqCmp.compare_eq_iff_eq]
  cases a <;> cases b <;> simp only [Datum.order, Option.some.injEq, reduceCtorEq, h, h2]
  · rename_i s m i t n j
    rw [Int.min_comm j i]
    exact eq_comm
  · rename_i s m i t; cases t <;> simp
  · rename_i s t n j; cases s <;> simp
  · exact eq_comm
theorem order_sym (a b : Nat) : double.order a b = some .eq ↔ double.order b a = some .eq := ord_sym _ _

/-- How many times. -/
def cntN (y : Nat) : Nat := numOf y / denOf y
theorem cnt_le (y : Nat) (hf : y % 9223372036854775808 / 4503599627370496 < 2047) (h : ¬ 4652218415073722368 < y % 9223372036854775808) : cntN y ≤ 1024 := by
  have hx := big_iff y hf
  have he : expOf y ≤ -42 := by unfold expOf; split <;> omega
  have hx2 := Nat.le_of_not_lt (fun e => h (hx.1 e))
  rw [show (expOf y - min (expOf y) (-42)).toNat = 0 by omega, Nat.pow_zero, Nat.mul_one] at hx2
  unfold cntN numOf denOf
  rw [show (expOf y).toNat = 0 by omega, Nat.pow_zero, Nat.mul_one]
  refine Nat.div_le_of_le_mul (Nat.le_trans hx2 (Nat.le_of_eq ?_))
  rw [show (4503599627370496 : Nat) = 2 ^ 52 by decide, show (1024 : Nat) = 2 ^ 10 by decide, ← Nat.pow_add, ← Nat.pow_add]
  congr 1
  omega
theorem whole_abs (y : Nat) : wholeN (y % 9223372036854775808) = (cntN y : Nat) := by
  unfold wholeN cntN
  rw [if_neg (by omega), num_mod, den_mod]
theorem whole_self (y : Nat) : wholeN y = if 9223372036854775808 ≤ y then -((cntN y : Nat) : Int) else (cntN y : Nat) := rfl
theorem neg_iff (y : Nat) (hd : denOf y ∣ numOf y) : (9223372036854775808 ≤ y ∧ magOf y ≠ 0) ↔ wholeN y < 0 := by
  have hc : cntN y = 0 ↔ magOf y = 0 := by
    unfold cntN
    obtain ⟨q, hq⟩ := hd
    rw [hq, Nat.mul_div_cancel_left _ (denOf_pos y)]
    constructor
    · intro h
      rw [h, Nat.mul_zero] at hq
      unfold numOf at hq
      rcases Nat.mul_eq_zero.1 hq with h | h
      · exact h
      · have := Nat.two_pow_pos (expOf y).toNat; omega
    · intro h
      unfold numOf at hq
      rw [h, Nat.zero_mul] at hq
      rcases Nat.mul_eq_zero.1 hq.symm with h | h
      · have := denOf_pos y; omega
      · exact h
  rw [whole_self]
  split <;> omega
end Go.Proofs.YtnddldnabldnoaaGreatDoor.pow8
