/- Words of binary64: what is cut to a whole number, how words compare. -/
import Derived.Test.YtnddldnabldnoaaGreatDoorDeci2b
namespace Go.Proofs.YtnddldnabldnoaaGreatDoor.deci
def wholeN (b : Nat) : Int := if 9223372036854775808 ≤ b then -((numOf b / denOf b : Nat) : Int) else ((numOf b / denOf b : Nat) : Int)
theorem denOf_pos (b : Nat) : 0 < denOf b := Nat.two_pow_pos _
theorem finite_of {b : Nat} (hc : b % 9223372036854775808 < 4890909195324358656) : b % 9223372036854775808 / 4503599627370496 < 2047 := by omega
end Go.Proofs.YtnddldnabldnoaaGreatDoor.deci
namespace Go.Proofs.YtnddldnabldnoaaGreatDoor.FloatMath
set_option linter.unusedVariables false set_option linter.unusedSimpArgs false
open Ieee Go.Proofs.YtnddldnabldnoaaGreatDoor.deci

theorem read_finite (b : Nat) (hf : b % 9223372036854775808 / 4503599627370496 < 2047) : double.read b = .number (b / 9223372036854775808 % 2 == 1) (magOf b) (expOf b) := by
  unfold Format.read
  rw [signWeight, binade, infRung, least]
  simp only
  unfold magOf expOf
  by_cases hs : b % 9223372036854775808 < 4503599627370496
  · rw [if_pos hs, if_pos (by omega), if_pos (by omega)]
    congr 1
    omega
  · rw [if_neg hs, if_pos (by omega), if_neg (by omega), if_neg (by omega)]
    congr 1
    · omega
    · omega

theorem zero_cut (neg : Bool) (n k : Nat) : Toward.zero.cut neg n k = n / 2 ^ k := by
  unfold Toward.cut
  simp only [Nat.one_shiftLeft, Bool.toNat_false, Nat.add_zero]
  by_cases h : k ≤ n.log2 + 2
  · rw [Nat.min_eq_left h]
  · rw [Nat.min_eq_right (by omega)]
    have h1 := lt_log2 n
    have h2 : n < 2 ^ (n.log2 + 2) := Nat.lt_of_lt_of_le h1 (Nat.pow_le_pow_right (by omega) (by omega))
    have h3 : n < 2 ^ k := Nat.lt_of_lt_of_le h1 (Nat.pow_le_pow_right (by omega) (by omega))
    rw [Nat.div_eq_of_lt h2, Nat.div_eq_of_lt h3]

/-- The word of a finite number that is cut to a whole number. -/
def trW (b : Nat) : Nat := double.nearest (b / 9223372036854775808 % 2 == 1) (numOf b / denOf b) 0

theorem trunc_word (b : Nat) (hf : b % 9223372036854775808 / 4503599627370496 < 2047) : double.write ((double.read b).integral .zero) = trW b := by
  rw [read_finite b hf]
  unfold Datum.integral Format.write trW
  simp only
  rw [zero_cut, Nat.shiftLeft_eq]
  rfl

theorem order_eq (s : Bool) (m n : Nat) (i j : Int) : (Datum.number s m i).order (.number s n j) = some .eq ↔ m * 2 ^ (i - min i j).toNat = n * 2 ^ (j - min i j).toNat := by
  unfold Datum.order signed
  simp only [Option.some.injEq, Nat.shiftLeft_eq]
  generalize m * 2 ^ (i - min i j).toNat = x
  generalize n * 2 ^ (j - min i j).toNat = y
  have h : ∀ a c : Int, compare a c = .eq ↔ a = c := fun a c => by rw [Std.LawfulEqCmp.compare_eq_iff_eq]
  rw [h]
  cases s
  · simp only [Bool.false_eq_true, if_false]; omega
  · simp only [if_true]; omega

theorem mag_lt (b : Nat) : magOf b < 2 ^ 53 := by rw [pow53]; unfold magOf; split <;> omega
theorem mag_ge (b : Nat) (h : -1074 < expOf b) : 2 ^ 52 ≤ magOf b := by
  rw [pow52]; unfold expOf at h; unfold magOf
  split
  · rename_i h0; rw [if_pos h0] at h; omega
  · omega
theorem exp_ge (b : Nat) : -1074 ≤ expOf b := by unfold expOf; split <;> omega

theorem rung_of (b : Nat) (h : -1074 < expOf b) : (expOf b + 1074).toNat * 4503599627370496 + magOf b = b % 9223372036854775808 := by
  unfold expOf magOf at *
  split
  · rename_i h0; rw [if_pos h0] at h; omega
  · omega

theorem word_self (b : Nat) (hb : b < 18446744073709551616) : double.word (b / 9223372036854775808 % 2 == 1) (b % 9223372036854775808) = b := by
  unfold Format.word
  rw [signWeight]
  by_cases h : b / 9223372036854775808 % 2 = 1
  · simp only [h, beq_self_eq_true, if_true]; omega
  · have e : (b / 9223372036854775808 % 2 == 1) = false := by simpa using h
    rw [e]
    simp
    omega

theorem log2_eq {m k : Nat} (h0 : 2 ^ k ≤ m) (h1 : m < 2 ^ (k + 1)) : m.log2 = k := by
  have hp := Nat.two_pow_pos k
  have a := (Nat.le_log2 (n := m) (by omega)).2 h0
  have b := (Nat.log2_lt (n := m) (k := k + 1) (by omega)).2 h1
  omega

/-- A whole number cut is itself, and no other is. -/
theorem trunc_order (b : Nat) (hb : b < 18446744073709551616) (hf : b % 9223372036854775808 / 4503599627370496 < 2047) : double.order (trW b) b = some .eq ↔ denOf b ∣ numOf b := by
  have hpos : 0 < denOf b := (Nat.two_pow_pos _)
  unfold Format.order
  by_cases hV : numOf b / denOf b = 0
  · have e : double.read (trW b) = .number (b / 9223372036854775808 % 2 == 1) 0 (-1074) := by
      unfold trW Format.nearest
      rw [hV, if_pos rfl, read_word _ _ (by omega), if_pos (by omega)]
    rw [e, read_finite b hf, order_eq, Nat.zero_mul]
    have hlt : numOf b < denOf b := by
      rcases Nat.div_eq_zero_iff.1 hV with h | h
      · omega
      · exact h
    constructor
    · intro h
      have hm : magOf b = 0 := by
        rcases Nat.mul_eq_zero.1 h.symm with h | h
        · exact h
        · have := Nat.two_pow_pos (expOf b - min (-1074) (expOf b)).toNat; omega
      unfold numOf
      rw [hm, Nat.zero_mul]
      exact Nat.dvd_zero _
    · intro h
      have hn := Nat.eq_zero_of_dvd_of_lt h hlt
      unfold numOf at hn
      rcases Nat.mul_eq_zero.1 hn with h | h
      · rw [h, Nat.zero_mul]
      · have := Nat.two_pow_pos (expOf b).toNat; omega
  · by_cases he : 0 ≤ expOf b
    · have hden : denOf b = 1 := by unfold denOf; rw [show (-(expOf b)).toNat = 0 by omega]
      rw [hden, Nat.div_one] at hV
      have hm1 := mag_lt b
      have hm2 := mag_ge b (by omega)
      have hlog : (numOf b).log2 = 52 + (expOf b).toNat := by
        apply log2_eq
        · unfold numOf; rw [Nat.pow_add]; exact Nat.mul_le_mul_right _ hm2
        · unfold numOf; rw [show 52 + (expOf b).toNat + 1 = 53 + (expOf b).toNat by omega, Nat.pow_add]; exact Nat.mul_lt_mul_of_pos_right hm1 (Nat.two_pow_pos _)
      have hr := rung_of b (by omega)
      have hx := nearest_exact (b / 9223372036854775808 % 2 == 1) (numOf b) (magOf b) 0 (expOf b) (by omega) (by rw [hlog]; omega) (by rw [show (0 - expOf b).toNat = 0 by omega, Nat.pow_zero, Nat.mul_one, show (expOf b - 0).toNat = (expOf b).toNat by omega]; rfl) (by rw [hr]; omega)
      have ht : trW b = b := by
        unfold trW
        rw [hden, Nat.div_one, hx.1, hr, word_self b hb]
      rw [ht, read_finite b hf, order_eq, hden]
      exact ⟨fun _ => Nat.one_dvd _, fun _ => rfl⟩
    · have hnum : numOf b = magOf b := by unfold numOf; rw [show (expOf b).toNat = 0 by omega]; simp
      obtain ⟨V, hVd⟩ : ∃ V, V = numOf b / denOf b := ⟨_, rfl⟩
      have hV53 : V < 2 ^ 53 := by rw [hVd, hnum]; exact Nat.lt_of_le_of_lt (Nat.div_le_self _ _) (mag_lt b)
      have hVp : 0 < V := by omega
      have hlog : V.log2 ≤ 52 := by have := (Nat.log2_lt (n := V) (k := 53) (by omega)).2 hV53; omega
      have hkl : V * 2 ^ (52 - V.log2) < 2 ^ 53 := by
        have h1 := lt_log2 V
        calc V * 2 ^ (52 - V.log2) < 2 ^ (V.log2 + 1) * 2 ^ (52 - V.log2) := Nat.mul_lt_mul_of_pos_right h1 (Nat.two_pow_pos _)
          _ = 2 ^ (V.log2 + 1 + (52 - V.log2)) := (Nat.pow_add 2 _ _).symm
          _ = 2 ^ 53 := by rw [show V.log2 + 1 + (52 - V.log2) = 53 by omega]
      rw [pow53] at hkl
      have hx := nearest_exact (b / 9223372036854775808 % 2 == 1) V (V * 2 ^ (52 - V.log2)) 0 (V.log2 - 52) hVp (by omega) (by rw [show ((V.log2 : Int) - 52 - 0).toNat = 0 by omega, show (0 - ((V.log2 : Int) - 52)).toNat = 52 - V.log2 by omega]; simp) (by omega)
      have ht : double.read (trW b) = .number (b / 9223372036854775808 % 2 == 1) (V * 2 ^ (52 - V.log2)) (V.log2 - 52) := by unfold trW; rw [← hVd]; exact hx.2
      rw [ht, read_finite b hf, order_eq, hnum]
      obtain ⟨B, hB⟩ : ∃ B, B = min ((V.log2 : Int) - 52) (expOf b) := ⟨_, rfl⟩
      rw [← hB]
      have e1 : V * 2 ^ (52 - V.log2) * 2 ^ ((V.log2 : Int) - 52 - B).toNat = V * denOf b * 2 ^ (expOf b - B).toNat := by
        unfold denOf
        rw [Nat.mul_assoc, Nat.mul_assoc, ← Nat.pow_add, ← Nat.pow_add]
        congr 2
        omega
      rw [e1]
      constructor
      · intro h
        have := Nat.eq_of_mul_eq_mul_right (Nat.two_pow_pos _) h
        exact ⟨V, by rw [← this, Nat.mul_comm]⟩
      · rintro ⟨q, hq⟩
        have : V = q := by rw [hVd, hnum, hq, Nat.mul_div_cancel_left _ hpos]
        rw [this, hq, Nat.mul_comm q]

/-- Numbers that aren't below 0 compare as their words do: against 2^63. -/
theorem order_big (r : Nat) (h : r / 4503599627370496 < 2047) (hr : r < 9223372036854775808) : (double.order r 4890909195324358656 == some .gt || double.order r 4890909195324358656 == some .eq) = decide (4890909195324358656 ≤ r) := by
  have e0 : r % 9223372036854775808 = r := Nat.mod_eq_of_lt hr
  have hf : r % 9223372036854775808 / 4503599627370496 < 2047 := by rw [e0]; exact h
  have hc : double.read 4890909195324358656 = .number false 4503599627370496 11 := by
    rw [read_finite _ (by decide)]
    decide
  have hs : (r / 9223372036854775808 % 2 == 1) = false := by rw [Nat.div_eq_of_lt hr]; rfl
  unfold Format.order
  rw [read_finite r hf, hc, hs]
  unfold Datum.order signed
  simp only [Nat.shiftLeft_eq, Bool.false_eq_true, if_false]
  have hm1 := mag_lt r
  rw [pow53] at hm1
  obtain ⟨x, hx⟩ : ∃ x : Nat, x = magOf r * 2 ^ (expOf r - min (expOf r) 11).toNat := ⟨_, rfl⟩
  obtain ⟨y, hy⟩ : ∃ y : Nat, y = 4503599627370496 * 2 ^ (11 - min (expOf r) 11).toNat := ⟨_, rfl⟩
  rw [← hx, ← hy]
  by_cases hbig : 4890909195324358656 ≤ r
  · have he : 11 ≤ expOf r := by unfold expOf; rw [e0, if_neg (by omega)]; omega
    have hm2 := mag_ge r (by omega)
    rw [pow52] at hm2
    have hle : y ≤ x := by
      rw [hx, hy, show (11 - min (expOf r) 11).toNat = 0 by omega, Nat.pow_zero, Nat.mul_one]
      exact Nat.le_trans hm2 (Nat.le_mul_of_pos_right _ (Nat.two_pow_pos _))
    rw [decide_eq_true hbig]
    rcases Nat.lt_or_eq_of_le hle with h1 | h1
    · rw [show compare (x : Int) (y : Int) = .gt by rw [Int.compare_eq_gt]; omega]; rfl
    · rw [h1, show compare (x : Int) (x : Int) = .eq by rw [Std.LawfulEqCmp.compare_eq_iff_eq]]; rfl
  · have he : expOf r ≤ 10 := by unfold expOf; rw [e0]; split <;> omega
    have hlt : x < y := by
      rw [hx, hy, show (expOf r - min (expOf r) 11).toNat = 0 by omega, Nat.pow_zero, Nat.mul_one]
      have : 2 ^ 1 ≤ 2 ^ (11 - min (expOf r) 11).toNat := Nat.pow_le_pow_right (by omega) (by omega)
      have := Nat.mul_le_mul_left 4503599627370496 this
      omega
    rw [decide_eq_false hbig, show compare (x : Int) (y : Int) = .lt by rw [Int.compare_eq_lt]; omega]
    rfl

theorem read_inf (b : Nat) (h : b % 9223372036854775808 = 9218868437227405312) : double.read b = .infinity (b / 9223372036854775808 % 2 == 1) := by
  unfold Format.read
  rw [signWeight, binade, infRung]
  simp only
  rw [if_neg (by omega), if_neg (by omega), if_pos h]
theorem read_nan (b : Nat) (h : 9218868437227405312 < b % 9223372036854775808) : double.read b = .nan (b / 9223372036854775808 % 2 == 1) (b % 9223372036854775808 - 9218868437227405312) := by
  unfold Format.read
  rw [signWeight, binade, infRung]
  simp only
  rw [if_neg (by omega), if_neg (by omega), if_neg (by omega)]
theorem inf_word (b : Nat) (hb : b < 18446744073709551616) (h : b % 9223372036854775808 = 9218868437227405312) : double.write ((double.read b).integral .zero) = b := by
  rw [read_inf b h]
  show double.word _ double.infRung = b
  rw [infRung, ← h, word_self b hb]
theorem inf_order (b : Nat) (h : b % 9223372036854775808 = 9218868437227405312) : double.order b b = some .eq := by
  unfold Format.order
  rw [read_inf b h]
  unfold Datum.order
  simp
theorem inf_big : (double.order 9218868437227405312 4890909195324358656 == some .gt || double.order 9218868437227405312 4890909195324358656 == some .eq) = true := by decide
theorem nan_order (a b : Nat) (h : 9218868437227405312 < b % 9223372036854775808) : double.order a b = none := by
  unfold Format.order
  rw [read_nan b h]
  unfold Datum.order
  split <;> simp_all
end Go.Proofs.YtnddldnabldnoaaGreatDoor.FloatMath
