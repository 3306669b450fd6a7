/- Words of binary64 that say a number exactly: read behind written. -/
import Ieee.Arith
namespace Go.Proofs.YtnddldnabldnoaaGreatDoor.FloatMath
set_option linter.unusedVariables false set_option linter.unusedSimpArgs false
open Ieee

theorem log2_le {m : Nat} (h : 0 < m) : 2 ^ m.log2 ≤ m := Nat.log2_self_le (by omega)
theorem lt_log2 (m : Nat) : m < 2 ^ (m.log2 + 1) := Nat.lt_log2_self

theorem cut_exact (neg : Bool) (n k : Nat) (h : 2 ^ k ∣ n) : Toward.even.cut neg n k = n / 2 ^ k := by
  obtain ⟨q, rfl⟩ := h
  have hp : 0 < 2 ^ k := Nat.two_pow_pos k
  rw [Nat.mul_div_cancel_left _ hp]
  have hmin : min k ((2 ^ k * q).log2 + 2) = k ∨ q = 0 := by
    by_cases hq : q = 0
    · exact Or.inr hq
    · left
      have : k ≤ (2 ^ k * q).log2 := by
        rw [Nat.le_log2 (by have := Nat.mul_pos hp (Nat.pos_of_ne_zero hq); omega)]
        exact Nat.le_mul_of_pos_right _ (Nat.pos_of_ne_zero hq)
      omega
  unfold Toward.cut
  rcases hmin with e | rfl
  · rw [e]
    simp only [Nat.one_shiftLeft]
    rw [Nat.mul_mod_right, Nat.mul_div_cancel_left _ hp]
    have : (2 ^ k < 2 * 0 || (2 ^ k == 2 * 0 && q % 2 == 1)) = false := by
      simp
    simp only [this]
    rfl
  · simp [Nat.one_shiftLeft]


theorem least : Format.leastPlace double = -1074 := by decide
theorem binade : Format.binade double = 4503599627370496 := by decide
theorem infRung : Format.infRung double = 9218868437227405312 := by decide
theorem signWeight : Format.signWeight double = 9223372036854775808 := by decide
theorem fraction : Format.fractionBits double = 52 := rfl

theorem kept_lt {mag kept : Nat} {place last : Int} (hlast : place + mag.log2 - 52 ≤ last) (hk : kept * 2 ^ (last - place).toNat = mag * 2 ^ (place - last).toNat) : kept < 2 ^ 53 := by
  have h2 := lt_log2 mag
  by_cases h : last ≤ place
  · have e1 : (last - place).toNat = 0 := by omega
    rw [e1, Nat.pow_zero, Nat.mul_one] at hk
    rw [hk]
    have e2 : mag.log2 + 1 + (place - last).toNat ≤ 53 := by omega
    calc mag * 2 ^ (place - last).toNat < 2 ^ (mag.log2 + 1) * 2 ^ (place - last).toNat := Nat.mul_lt_mul_of_pos_right h2 (Nat.two_pow_pos _)
      _ = 2 ^ (mag.log2 + 1 + (place - last).toNat) := (Nat.pow_add 2 _ _).symm
      _ ≤ 2 ^ 53 := Nat.pow_le_pow_right (by omega) e2
  · have e1 : (place - last).toNat = 0 := by omega
    rw [e1, Nat.pow_zero, Nat.mul_one] at hk
    have e2 : mag.log2 + 1 ≤ 53 + (last - place).toNat := by omega
    have h3 : kept * 2 ^ (last - place).toNat < 2 ^ 53 * 2 ^ (last - place).toNat := by
      rw [hk, ← Nat.pow_add]
      exact Nat.lt_of_lt_of_le h2 (Nat.pow_le_pow_right (by omega) e2)
    exact Nat.lt_of_mul_lt_mul_right h3

theorem kept_ge {mag kept : Nat} {place last : Int} (hm : 0 < mag) (hlast : place + mag.log2 - 52 = last) (hk : kept * 2 ^ (last - place).toNat = mag * 2 ^ (place - last).toNat) : 2 ^ 52 ≤ kept := by
  have h2 := log2_le hm
  by_cases h : last ≤ place
  · have e1 : (last - place).toNat = 0 := by omega
    rw [e1, Nat.pow_zero, Nat.mul_one] at hk
    rw [hk]
    have e2 : 52 = mag.log2 + (place - last).toNat := by omega
    rw [e2, Nat.pow_add]
    exact Nat.mul_le_mul_right _ h2
  · have e1 : (place - last).toNat = 0 := by omega
    rw [e1, Nat.pow_zero, Nat.mul_one] at hk
    have e2 : mag.log2 = 52 + (last - place).toNat := by omega
    have h3 : 2 ^ 52 * 2 ^ (last - place).toNat ≤ kept * 2 ^ (last - place).toNat := by
      rw [hk, ← Nat.pow_add, ← e2]; exact h2
    exact Nat.le_of_mul_le_mul_right h3 (Nat.two_pow_pos _)

/-- The word of a rung, read. -/
theorem read_word (neg : Bool) (rung : Nat) (h : rung < 9218868437227405312) :
    double.read (double.word neg rung) = if rung < 4503599627370496 then .number neg rung (-1074) else .number neg (4503599627370496 + rung % 4503599627370496) (-1074 + (rung / 4503599627370496 - 1 : Nat)) := by
  have h1 : double.word neg rung / 9223372036854775808 % 2 = neg.toNat ∧ double.word neg rung % 9223372036854775808 = rung := by
    unfold Format.word
    rw [signWeight]
    cases neg
    · simp; omega
    · simp; omega
  unfold Format.read
  rw [signWeight, binade, infRung, least]
  simp only [h1.1, h1.2]
  rw [show (neg.toNat == 1) = neg by cases neg <;> rfl]
  by_cases hs : rung < 4503599627370496
  · rw [if_pos hs, if_pos hs]
  · rw [if_neg hs, if_neg hs, if_pos h]

theorem pow52 : (2 : Nat) ^ 52 = 4503599627370496 := by decide
theorem pow53 : (2 : Nat) ^ 53 = 9007199254740992 := by decide

/-- A number that binary64 has, written: the word, and what it reads as. -/
theorem nearest_exact (neg : Bool) (mag kept : Nat) (place last : Int) (hm : 0 < mag) (hlast : last = max (place + mag.log2 - 52) (-1074))
    (hk : kept * 2 ^ (last - place).toNat = mag * 2 ^ (place - last).toNat) (hin : (last + 1074).toNat * 4503599627370496 + kept < 9218868437227405312) :
    double.nearest neg mag place = double.word neg ((last + 1074).toNat * 4503599627370496 + kept) ∧ double.read (double.nearest neg mag place) = .number neg kept last := by
  have hlt := kept_lt (mag := mag) (kept := kept) (place := place) (last := last) (by omega) hk
  rw [pow53] at hlt
  have e : double.nearest neg mag place = double.word neg ((last + 1074).toNat * 4503599627370496 + kept) := by
    unfold Format.nearest
    rw [if_neg (by omega), fraction, least, binade, infRung]
    simp only
    have hl : max (place + (mag.log2 : Int) - ((52 : Nat) : Int)) (-1074) = last := hlast.symm
    rw [hl, Nat.shiftLeft_eq]
    rw [cut_exact _ _ _ ⟨kept, by rw [← hk, Nat.mul_comm]⟩, ← hk, Nat.mul_div_cancel _ (Nat.two_pow_pos _)]
    rw [show last - -1074 = last + 1074 by omega, Nat.min_eq_left (by omega)]
  refine ⟨e, ?_⟩
  rw [e, read_word _ _ hin]
  by_cases hs : place + mag.log2 - 52 < -1074
  · have hl : last = -1074 := by omega
    subst hl
    by_cases h52 : kept < 4503599627370496
    · rw [if_pos (by simpa using h52)]
      simp
    · rw [if_neg (by simpa using h52)]
      have e1 : ((-1074 + 1074 : Int).toNat * 4503599627370496 + kept) / 4503599627370496 = 1 := by
        rw [show (-1074 + 1074 : Int).toNat = 0 by decide]; omega
      have e2 : ((-1074 + 1074 : Int).toNat * 4503599627370496 + kept) % 4503599627370496 = kept - 4503599627370496 := by
        rw [show (-1074 + 1074 : Int).toNat = 0 by decide]; omega
      rw [e1, e2]
      simp
      omega
  · have hl : place + mag.log2 - 52 = last := by omega
    have hge := kept_ge hm hl hk
    rw [pow52] at hge
    rw [if_neg (by omega)]
    have e1 : ((last + 1074).toNat * 4503599627370496 + kept) / 4503599627370496 = (last + 1074).toNat + 1 := by omega
    have e2 : ((last + 1074).toNat * 4503599627370496 + kept) % 4503599627370496 = kept - 4503599627370496 := by omega
    rw [e1, e2, show 4503599627370496 + (kept - 4503599627370496) = kept by omega, show -1074 + (((last + 1074).toNat + 1 - 1 : Nat) : Int) = last by omega]

end Go.Proofs.YtnddldnabldnoaaGreatDoor.FloatMath
