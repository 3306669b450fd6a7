/- Words of binary64 that say a number exactly: read behind written. Words of binary64 that stand for whole numbers: what is written of a whole number is whole, a sum of whole ones is whole, and how they compare. What the program's calls on floats answer: the nearest of some places. What RoundToEven and a sum of floats answer, for every word; IsNaN. words.Substr where its numbers are numbers: the bytes between two places. words.Substr where a number is none: the empty text. The document's Substr. The law WordsSubstr. -/
import Ieee.Arith
import Derived.Test.YtacbpdnpepgngaaWdW
import Derived.Lib.MinMax
import Derived.Laws.FloatArith
import Derived.Test.YtacbpdnpepgngaaWdK
import Derived.Deep.RegionWith

namespace Go.Proofs.Ytacbpdnpepgngaa.FloatMath
set_option linter.unusedVariables false set_option linter.unusedSimpArgs false
open Ieee

theorem log2_le {m : Nat} (h : 0 < m) : 2 ^ m.log2 ≤ m := Nat.log2_self_le (by omega)
theorem lt_log2 (m : Nat) : m < 2 ^ (m.log2 + 1) := Nat.lt_log2_self

theorem cut_exact (neg : Bool) (n k : Nat) (h : 2 ^ k ∣ n) : Toward.even.cut neg n k = n / 2 ^ k := by
  obtain ⟨q, rfl⟩ := h
  have hp : 0 < 2 ^ k := Nat.two_pow_pos k
  rw [Nat.mul_div_cancel_left _ hp]
  have hmin : min k ((2 ^ k * q).log2 + 2) = k ∨ q = 0 := by
    by_cases hq : q = 0
    · exact Or.inr hq
    · left
      have : k ≤ (2 ^ k * q).log2 := by
        rw [Nat.le_log2 (by have := Nat.mul_pos hp (Nat.pos_of_ne_zero hq); omega)]
        exact Nat.le_mul_of_pos_right _ (Nat.pos_of_ne_zero hq)
      omega
  unfold Toward.cut
  rcases hmin with e | rfl
  · rw [e]
    simp only [Nat.one_shiftLeft]
    rw [Nat.mul_mod_right, Nat.mul_div_cancel_left _ hp]
    have : (2 ^ k < 2 * 0 || (2 ^ k == 2 * 0 && q % 2 == 1)) = false := by
      simp
    simp only [this]
    rfl
  · simp [Nat.one_shiftLeft]


theorem least : Format.leastPlace double = -1074 := by decide
theorem binade : Format.binade double = 4503599627370496 := by decide
theorem infRung : Format.infRung double = 9218868437227405312 := by decide
theorem signWeight : Format.signWeight double = 9223372036854775808 := by decide
theorem fraction : Format.fractionBits double = 52 := rfl

theorem kept_lt {mag kept : Nat} {place last : Int} (hlast : place + mag.log2 - 52 ≤ last) (hk : kept * 2 ^ (last - place).toNat = mag * 2 ^ (place - last).toNat) : kept < 2 ^ 53 := by
  have h2 := lt_log2 mag
  by_cases h : last ≤ place
  · have e1 : (last - place).toNat = 0 := by omega
    rw [e1, Nat.pow_zero, Nat.mul_one] at hk
    rw [hk]
    have e2 : mag.log2 + 1 + (place - last).toNat ≤ 53 := by omega
    calc mag * 2 ^ (place - last).toNat < 2 ^ (mag.log2 + 1) * 2 ^ (place - last).toNat := Nat.mul_lt_mul_of_pos_right h2 (Nat.two_pow_pos _)
      _ = 2 ^ (mag.log2 + 1 + (place - last).toNat) := (Nat.pow_add 2 _ _).symm
      _ ≤ 2 ^ 53 := Nat.pow_le_pow_right (by omega) e2
  · have e1 : (place - last).toNat = 0 := by omega
    rw [e1, Nat.pow_zero, Nat.mul_one] at hk
    have e2 : mag.log2 + 1 ≤ 53 + (last - place).toNat := by omega
    have h3 : kept * 2 ^ (last - place).toNat < 2 ^ 53 * 2 ^ (last - place).toNat := by
      rw [hk, ← Nat.pow_add]
      exact Nat.lt_of_lt_of_le h2 (Nat.pow_le_pow_right (by omega) e2)
    exact Nat.lt_of_mul_lt_mul_right h3

theorem kept_ge {mag kept : Nat} {place last : Int} (hm : 0 < mag) (hlast : place + mag.log2 - 52 = last) (hk : kept * 2 ^ (last - place).toNat = mag * 2 ^ (place - last).toNat) : 2 ^ 52 ≤ kept := by
  have h2 := log2_le hm
  by_cases h : last ≤ place
  · have e1 : (last - place).toNat = 0 := by omega
    rw [e1, Nat.pow_zero, Nat.mul_one] at hk
    rw [hk]
    have e2 : 52 = mag.log2 + (place - last).toNat := by omega
    rw [e2, Nat.pow_add]
    exact Nat.mul_le_mul_right _ h2
  · have e1 : (place - last).toNat = 0 := by omega
    rw [e1, Nat.pow_zero, Nat.mul_one] at hk
    have e2 : mag.log2 = 52 + (last - place).toNat := by omega
    have h3 : 2 ^ 52 * 2 ^ (last - place).toNat ≤ kept * 2 ^ (last - place).toNat := by
      rw [hk, ← Nat.pow_add, ← e2]; exact h2
    exact Nat.le_of_mul_le_mul_right h3 (Nat.two_pow_pos _)

/-- The word of a rung, read. -/
theorem read_word (neg : Bool) (rung : Nat) (h : rung < 9218868437227405312) :
    double.read (double.word neg rung) = if rung < 4503599627370496 then .number neg rung (-1074) else .number neg (4503599627370496 + rung % 4503599627370496) (-1074 + (rung / 4503599627370496 - 1 : Nat)) := by
  have h1 : double.word neg rung / 9223372036854775808 % 2 = neg.toNat ∧ double.word neg rung % 9223372036854775808 = rung := by
    unfold Format.word
    rw [signWeight]
    cases neg
    · simp; omega
    · simp; omega
  unfold Format.read
  rw [signWeight, binade, infRung, least]
  simp only [h1.1, h1.2]
  rw [show (neg.toNat == 1) = neg by cases neg <;> rfl]
  by_cases hs : rung < 4503599627370496
  · rw [if_pos hs, if_pos hs]
  · rw [if_neg hs, if_neg hs, if_pos h]

theorem pow52 : (2 : Nat) ^ 52 = 4503599627370496 := by decide
theorem pow53 : (2 : Nat) ^ 53 = 9007199254740992 := by decide

/-- A number that binary64 has, written: the word, and what it reads as. -/
theorem nearest_exact (neg : Bool) (mag kept : Nat) (place last : Int) (hm : 0 < mag) (hlast : last = max (place + mag.log2 - 52) (-1074))
    (hk : kept * 2 ^ (last - place).toNat = mag * 2 ^ (place - last).toNat) (hin : (last + 1074).toNat * 4503599627370496 + kept < 9218868437227405312) :
    double.nearest neg mag place = double.word neg ((last + 1074).toNat * 4503599627370496 + kept) ∧ double.read (double.nearest neg mag place) = .number neg kept last := by
  have hlt := kept_lt (mag := mag) (kept := kept) (place := place) (last := last) (by omega) hk
  rw [pow53] at hlt
  have e : double.nearest neg mag place = double.word neg ((last + 1074).toNat * 4503599627370496 + kept) := by
    unfold Format.nearest
    rw [if_neg (by omega), fraction, least, binade, infRung]
    simp only
    have hl : max (place + (mag.log2 : Int) - ((52 : Nat) : Int)) (-1074) = last := hlast.symm
    rw [hl, Nat.shiftLeft_eq]
    rw [cut_exact _ _ _ ⟨kept, by rw [← hk, Nat.mul_comm]⟩, ← hk, Nat.mul_div_cancel _ (Nat.two_pow_pos _)]
    rw [show last - -1074 = last + 1074 by omega, Nat.min_eq_left (by omega)]
  refine ⟨e, ?_⟩
  rw [e, read_word _ _ hin]
  by_cases hs : place + mag.log2 - 52 < -1074
  · have hl : last = -1074 := by omega
    subst hl
    by_cases h52 : kept < 4503599627370496
    · rw [if_pos (by simpa using h52)]
      simp
    · rw [if_neg (by simpa using h52)]
      have e1 : ((-1074 + 1074 : Int).toNat * 4503599627370496 + kept) / 4503599627370496 = 1 := by
        rw [show (-1074 + 1074 : Int).toNat = 0 by decide]; omega
      have e2 : ((-1074 + 1074 : Int).toNat * 4503599627370496 + kept) % 4503599627370496 = kept - 4503599627370496 := by
        rw [show (-1074 + 1074 : Int).toNat = 0 by decide]; omega
      rw [e1, e2]
      simp
      omega
  · have hl : place + mag.log2 - 52 = last := by omega
    have hge := kept_ge hm hl hk
    rw [pow52] at hge
    rw [if_neg (by omega)]
    have e1 : ((last + 1074).toNat * 4503599627370496 + kept) / 4503599627370496 = (last + 1074).toNat + 1 := by omega
    have e2 : ((last + 1074).toNat * 4503599627370496 + kept) % 4503599627370496 = kept - 4503599627370496 := by omega
    rw [e1, e2, show 4503599627370496 + (kept - 4503599627370496) = kept by omega, show -1074 + (((last + 1074).toNat + 1 - 1 : Nat) : Int) = last by omega]

end Go.Proofs.Ytacbpdnpepgngaa.FloatMath

namespace Go.Proofs.Ytacbpdnpepgngaa.flt
set_option linter.unusedVariables false set_option linter.unusedSimpArgs false
open Ieee Go.Proofs.Ytacbpdnpepgngaa.FloatMath

/-- One, in units of the least place. -/
def ex : Nat := 1074
theorem ex_eq : ex = 1074 := rfl
def one : Nat := 2 ^ ex
theorem one_pos : 0 < one := Nat.two_pow_pos _
theorem one_split (e d : Nat) (h : e + d = ex) : one = 2 ^ e * 2 ^ d := by
  unfold one
  rw [← Nat.pow_add, h]
theorem one_over (e d : Nat) (h : e = ex + d) : 2 ^ e = one * 2 ^ d := by
  unfold one
  rw [← Nat.pow_add, h]

/-- A datum that is a whole number, or an infinity. -/
def Whl : Datum → Prop
  | .number _ m i => -1074 ≤ i ∧ ∃ q, m * 2 ^ (i + 1074).toNat = one * q
  | .infinity _ => True
  | .nan _ _ => False

theorem signed_eq (s : Bool) (m u : Nat) : signed s m u = (if s then -1 else 1) * ((m * 2 ^ u : Nat) : Int) := by
  unfold signed
  rw [Nat.shiftLeft_eq]
  cases s <;> simp
theorem signed_up (s : Bool) (m u v : Nat) : signed s m (u + v) = signed s m u * ((2 ^ v : Nat) : Int) := by
  rw [signed_eq, signed_eq, Nat.pow_add, ← Nat.mul_assoc, Int.natCast_mul, Int.mul_assoc]
theorem compare_mul (a b : Int) (c : Nat) (h : 0 < c) : compare (a * c) (b * c) = compare a b := by
  have hc : (0 : Int) < c := by omega
  rcases Int.lt_trichotomy a b with h1 | h1 | h1
  · rw [Int.compare_eq_lt.2 h1, Int.compare_eq_lt.2 (Int.mul_lt_mul_of_pos_right h1 hc)]
  · subst h1; rw [Int.compare_eq_eq.2 rfl, Int.compare_eq_eq.2 rfl]
  · rw [Int.compare_eq_gt.2 h1, Int.compare_eq_gt.2 (Int.mul_lt_mul_of_pos_right h1 hc)]
theorem order_num (s t : Bool) (m n : Nat) (i j : Int) (hi : -1074 ≤ i) (hj : -1074 ≤ j) :
    (Datum.number s m i).order (.number t n j) = some (compare (signed s m (i + 1074).toNat) (signed t n (j + 1074).toNat)) := by
  unfold Datum.order
  simp only [Option.some.injEq]
  rw [show (i + 1074).toNat = (i - min i j).toNat + (min i j + 1074).toNat by omega, show (j + 1074).toNat = (j - min i j).toNat + (min i j + 1074).toNat by omega, signed_up, signed_up, compare_mul _ _ _ (Nat.two_pow_pos _)]

theorem whl_nearest (s : Bool) (m : Nat) (i : Int) (hi : -1074 ≤ i) (q : Nat) (hq : m * 2 ^ (i + 1074).toNat = one * q) : Whl (double.read (double.nearest s m i)) := by
  by_cases hm : m = 0
  · subst hm
    rw [show double.nearest s 0 i = double.word s 0 from by unfold Format.nearest; rw [if_pos rfl], read_word s 0 (by omega), if_pos (by omega)]
    exact ⟨by omega, 0, by simp⟩
  · obtain ⟨last, hl⟩ : ∃ last, max (i + (m.log2 : Int) - 52) (-1074) = last := ⟨_, rfl⟩
    by_cases h0 : last ≤ 0
    · have hk : ∃ kept, kept * 2 ^ (last - i).toNat = m * 2 ^ (i - last).toNat ∧ kept * 2 ^ (last + 1074).toNat = one * q := by
        by_cases hli : last ≤ i
        · refine ⟨m * 2 ^ (i - last).toNat, ?_, ?_⟩
          · rw [show (last - i).toNat = 0 by omega, Nat.pow_zero, Nat.mul_one]
          · rw [Nat.mul_assoc, ← Nat.pow_add, show (i - last).toNat + (last + 1074).toNat = (i + 1074).toNat by omega, hq]
        · have hmq : m = 2 ^ (-i).toNat * q := by
            rw [one_split (i + 1074).toNat (-i).toNat (by rw [ex_eq]; omega), Nat.mul_comm m, Nat.mul_assoc] at hq
            exact Nat.eq_of_mul_eq_mul_left (Nat.two_pow_pos _) hq
          refine ⟨q * 2 ^ (-last).toNat, ?_, ?_⟩
          · rw [show (i - last).toNat = 0 by omega, Nat.pow_zero, Nat.mul_one, Nat.mul_assoc, ← Nat.pow_add, show (-last).toNat + (last - i).toNat = (-i).toNat by omega, Nat.mul_comm, ← hmq]
          · rw [Nat.mul_assoc, ← Nat.pow_add, show (-last).toNat + (last + 1074).toNat = ex by rw [ex_eq]; omega, Nat.mul_comm]
            rfl
      obtain ⟨kept, hk1, hk2⟩ := hk
      have hlt := kept_lt (mag := m) (kept := kept) (place := i) (last := last) (by omega) hk1
      rw [pow53] at hlt
      rw [(nearest_exact s m kept i last (by omega) hl.symm hk1 (by omega)).2]
      exact ⟨by omega, q, hk2⟩
    · have e : double.nearest s m i = double.word s (min ((last + 1074).toNat * 4503599627370496 + Toward.even.cut s (m <<< (i - last).toNat) (last - i).toNat) 9218868437227405312) := by
        unfold Format.nearest
        rw [if_neg hm, fraction, least, binade, infRung]
        simp only
        rw [show max (i + (m.log2 : Int) - ((52 : Nat) : Int)) (-1074) = last from hl, show last - -1074 = last + 1074 by omega]
      rw [e]
      generalize Toward.even.cut s (m <<< (i - last).toNat) (last - i).toNat = c
      by_cases hr : (last + 1074).toNat * 4503599627370496 + c < 9218868437227405312
      · rw [Nat.min_eq_left (by omega), read_word _ _ hr, if_neg (by omega)]
        have h2 : 1075 ≤ ((last + 1074).toNat * 4503599627370496 + c) / 4503599627370496 := by omega
        generalize ((last + 1074).toNat * 4503599627370496 + c) / 4503599627370496 = g at h2
        generalize ((last + 1074).toNat * 4503599627370496 + c) % 4503599627370496 = y
        refine ⟨by omega, (4503599627370496 + y) * 2 ^ (g - 1075), ?_⟩
        rw [one_over (-1074 + ((g - 1 : Nat) : Int) + 1074).toNat (g - 1075) (by rw [ex_eq]; omega), Nat.mul_left_comm]
      · rw [Nat.min_eq_right (by omega)]
        have h3 : double.read (double.word s 9218868437227405312) = .infinity s := by cases s <;> decide
        rw [h3]
        trivial
theorem whl_write (d : Datum) (h : Whl d) : Whl (double.read (double.write d)) := by
  cases d with
  | number s m i =>
    obtain ⟨h1, q, h2⟩ := h
    exact whl_nearest s m i h1 q h2
  | infinity s =>
    have h3 : double.read (double.write (.infinity s)) = .infinity s := by cases s <;> decide
    rw [h3]
    trivial
  | nan s t => exact h.elim
theorem whl_integral (d : Datum) (w : Toward) (h : ∀ s t, d ≠ .nan s t) : Whl (d.integral w) := by
  cases d with
  | number s m i =>
    refine ⟨by omega, w.cut s (m <<< i.toNat) (-i).toNat, ?_⟩
    generalize w.cut s (m <<< i.toNat) (-i).toNat = x
    rw [show ((0 : Int) + 1074).toNat = ex by rw [ex_eq]; rfl, show one = 2 ^ ex from rfl, Nat.mul_comm]
  | infinity s => trivial
  | nan s t => exact absurd rfl (h s t)
theorem signed_dvd (s : Bool) (m u q : Nat) (h : m * 2 ^ u = one * q) : (one : Int) ∣ signed s m u := by
  rw [signed_eq, h, Int.natCast_mul]
  exact ⟨(if s then -1 else 1) * (q : Int), by rw [← Int.mul_assoc, ← Int.mul_assoc, Int.mul_comm (one : Int)]⟩
theorem whl_sum (d e c : Datum) (hd : Whl d) (he : Whl e) (h : d.sum e = some c) : Whl c := by
  cases d with
  | nan s t => exact hd.elim
  | infinity s =>
    cases e with
    | nan s t => exact he.elim
    | infinity t =>
      unfold Datum.sum at h
      simp only at h
      split at h
      · cases h; trivial
      · cases h
    | number t n j => cases h; trivial
  | number s m i =>
    cases e with
    | nan s t => exact he.elim
    | infinity t => cases h; trivial
    | number t n j =>
      obtain ⟨h1, q1, g1⟩ := hd
      obtain ⟨h2, q2, g2⟩ := he
      unfold Datum.sum at h
      simp only [Option.some.injEq] at h
      subst h
      have k1 := signed_dvd s m _ q1 g1
      have k2 := signed_dvd t n _ q2 g2
      rw [show (i + 1074).toNat = (i - min i j).toNat + (min i j + 1074).toNat by omega, signed_up] at k1
      rw [show (j + 1074).toNat = (j - min i j).toNat + (min i j + 1074).toNat by omega, signed_up] at k2
      have k3 := Int.dvd_add k1 k2
      rw [← Int.add_mul] at k3
      refine ⟨by omega, ?_⟩
      have k4 := Int.natAbs_dvd_natAbs.2 k3
      rw [Int.natAbs_mul, Int.natAbs_natCast, Int.natAbs_natCast] at k4
      obtain ⟨q, hq⟩ := k4
      exact ⟨q, hq⟩

/-- A small whole number's word. -/
def fl (k : Nat) : Nat := double.nearest false k 0
theorem fl_read (k : Nat) (h1 : 1 ≤ k) (h2 : k ≤ 600) : ∃ kept last, double.read (fl k) = .number false kept last ∧ -1074 ≤ last ∧ kept * 2 ^ (last + 1074).toNat = one * k := by
  have hlog : k.log2 < 10 := by
    refine (Nat.log2_lt (by omega)).2 ?_
    omega
  obtain ⟨last, hl⟩ : ∃ last, max (0 + (k.log2 : Int) - 52) (-1074) = last := ⟨_, rfl⟩
  have hk1 : (k * 2 ^ (0 - last).toNat) * 2 ^ (last - 0).toNat = k * 2 ^ (0 - last).toNat := by
    rw [show (last - 0).toNat = 0 by omega, Nat.pow_zero, Nat.mul_one]
  have hlt := kept_lt (mag := k) (kept := k * 2 ^ (0 - last).toNat) (place := 0) (last := last) (by omega) hk1
  rw [pow53] at hlt
  refine ⟨_, last, (nearest_exact false k _ 0 last (by omega) hl.symm hk1 (by omega)).2, by omega, ?_⟩
  rw [Nat.mul_assoc, ← Nat.pow_add, show (0 - last).toNat + (last + 1074).toNat = ex by rw [ex_eq]; omega, Nat.mul_comm]
  rfl

/-- A word that compares with the small whole numbers as z does. -/
structure Wh (b : Nat) (z : Int) : Prop where
  left : ∀ k : Nat, 1 ≤ k → k ≤ 600 → double.order b (fl k) = some (compare z (k : Int))
  right : ∀ k : Nat, 1 ≤ k → k ≤ 600 → double.order (fl k) b = some (compare (k : Int) z)
  self : double.order b b = some .eq
  int : 1 ≤ z → z ≤ 600 → (double.read b).toInt .zero = some z
theorem signed_one (s : Bool) (m u q : Nat) (h : m * 2 ^ u = one * q) : signed s m u = (if s then -(q : Int) else (q : Int)) * (one : Nat) := by
  rw [signed_eq, h, Int.natCast_mul]
  cases s
  · simp [Int.mul_comm]
  · rw [if_pos rfl, if_pos rfl, Int.neg_mul, Int.one_mul, Int.neg_mul, Int.mul_comm]
theorem zero_cut (neg : Bool) (n k : Nat) : Toward.zero.cut neg n k = n / 2 ^ k := by
  unfold Toward.cut
  simp only [Nat.one_shiftLeft, Bool.toNat_false, Nat.add_zero]
  by_cases h : k ≤ n.log2 + 2
  · rw [Nat.min_eq_left h]
  · rw [Nat.min_eq_right (by omega)]
    have h1 := lt_log2 n
    have h2 : n < 2 ^ (n.log2 + 2) := Nat.lt_of_lt_of_le h1 (Nat.pow_le_pow_right (by omega) (by omega))
    have h3 : n < 2 ^ k := Nat.lt_of_lt_of_le h1 (Nat.pow_le_pow_right (by omega) (by omega))
    rw [Nat.div_eq_of_lt h2, Nat.div_eq_of_lt h3]
theorem wh_num (b : Nat) (s : Bool) (m : Nat) (i : Int) (q : Nat) (hr : double.read b = .number s m i) (hi : -1074 ≤ i) (hq : m * 2 ^ (i + 1074).toNat = one * q) : Wh b (if s then -(q : Int) else (q : Int)) := by
  refine ⟨?_, ?_, ?_, ?_⟩
  · intro k h1 h2
    obtain ⟨kept, last, g1, g2, g3⟩ := fl_read k h1 h2
    unfold Format.order
    rw [hr, g1, order_num _ _ _ _ _ _ hi g2, signed_one s m _ q hq, signed_one false kept _ k g3, compare_mul _ _ _ one_pos]
    rfl
  · intro k h1 h2
    obtain ⟨kept, last, g1, g2, g3⟩ := fl_read k h1 h2
    unfold Format.order
    rw [hr, g1, order_num _ _ _ _ _ _ g2 hi, signed_one s m _ q hq, signed_one false kept _ k g3, compare_mul _ _ _ one_pos]
    rfl
  · unfold Format.order
    rw [hr, order_num _ _ _ _ _ _ hi hi, Int.compare_eq_eq.2 rfl]
  · intro h1 h2
    rw [hr]
    show some (signed s (Toward.zero.cut s (m <<< i.toNat) (-i).toNat) 0) = _
    rw [zero_cut, Nat.shiftLeft_eq]
    have hc : m * 2 ^ i.toNat / 2 ^ (-i).toNat = q := by
      by_cases h0 : 0 ≤ i
      · rw [show (-i).toNat = 0 by omega, Nat.pow_zero, Nat.div_one]
        rw [one_over (i + 1074).toNat i.toNat (by rw [ex_eq]; omega), Nat.mul_left_comm] at hq
        exact Nat.eq_of_mul_eq_mul_left one_pos hq
      · rw [show i.toNat = 0 by omega, Nat.pow_zero, Nat.mul_one]
        rw [one_split (i + 1074).toNat (-i).toNat (by rw [ex_eq]; omega), Nat.mul_comm m, Nat.mul_assoc] at hq
        rw [Nat.eq_of_mul_eq_mul_left (Nat.two_pow_pos _) hq, Nat.mul_div_cancel_left _ (Nat.two_pow_pos _)]
    rw [hc, signed_eq]
    cases s <;> simp
theorem wh_of (b : Nat) (h : Whl (double.read b)) : ∃ z, Wh b z := by
  cases hr : double.read b with
  | nan s t => rw [hr] at h; exact h.elim
  | infinity s =>
    refine ⟨if s then -1000 else 1000, ?_, ?_, ?_, ?_⟩
    · intro k h1 h2
      obtain ⟨kept, last, g1, g2, g3⟩ := fl_read k h1 h2
      unfold Format.order
      rw [hr, g1]
      cases s
      · exact congrArg some (Int.compare_eq_gt.2 (show (k : Int) < 1000 by omega)).symm
      · exact congrArg some (Int.compare_eq_lt.2 (show (-1000 : Int) < k by omega)).symm
    · intro k h1 h2
      obtain ⟨kept, last, g1, g2, g3⟩ := fl_read k h1 h2
      unfold Format.order
      rw [hr, g1]
      cases s
      · exact congrArg some (Int.compare_eq_lt.2 (show (k : Int) < 1000 by omega)).symm
      · exact congrArg some (Int.compare_eq_gt.2 (show (-1000 : Int) < k by omega)).symm
    · unfold Format.order
      rw [hr]
      cases s <;> rfl
    · intro h1 h2
      cases s <;> simp at h1 h2
  | number s m i =>
    rw [hr] at h
    obtain ⟨hi, q, hq⟩ := h
    exact ⟨_, wh_num b s m i q hr hi hq⟩
theorem wh_fl (k : Nat) (h1 : 1 ≤ k) (h2 : k ≤ 600) : Wh (fl k) k := by
  obtain ⟨kept, last, g1, g2, g3⟩ := fl_read k h1 h2
  exact wh_num (fl k) false kept last k g1 g2 g3
end Go.Proofs.Ytacbpdnpepgngaa.flt

namespace Go.Proofs.Ytacbpdnpepgngaa.wrd
set_option linter.unusedVariables false set_option linter.unusedSimpArgs false
open Go.ChangeShapes Go.WideShapes Go.ChangeAt Go.RowKit Go.Proofs.Ytacbpdnpepgngaa.base Go.Proofs.Ytacbpdnpepgngaa.flt

theorem one_word : fl 1 = 4607182418800017408 := by decide +kernel
theorem max_run (x : Nat) (z : Int) (h : Wh x z) : ∃ y, Wh y (if z < 1 then 1 else z) ∧ ∀ W, (Builtin.max_ #[25, 25] 25 #[.float .f64 x, .float .f64 4607182418800017408]).run Try.prog W = .ok (.float .f64 y) W := by
  have h1 : FloatKind.f64.format.order x 4607182418800017408 = some (compare z 1) := by
    rw [← one_word]
    exact h.left 1 (by omega) (by omega)
  have hf := wh_fl 1 (by omega) (by omega)
  rw [one_word] at hf
  rcases Int.lt_trichotomy z 1 with hc | hc | hc
  · rw [Int.compare_eq_lt.2 hc] at h1
    refine ⟨4607182418800017408, ?_, fun W => ?_⟩
    · rw [if_pos hc]; exact hf
    · simp [Builtin.max_, Builtin.max2, h1]
  · rw [Int.compare_eq_eq.2 hc] at h1
    subst hc
    refine ⟨if (FloatKind.f64.decode x).neg then 4607182418800017408 else x, ?_, fun W => ?_⟩
    · rw [if_neg (show ¬ (1 : Int) < 1 by omega)]
      split
      · exact hf
      · exact h
    · simp [Builtin.max_, Builtin.max2, h1]
  · rw [Int.compare_eq_gt.2 hc] at h1
    refine ⟨x, ?_, fun W => ?_⟩
    · rw [if_neg (by omega)]; exact h
    · simp [Builtin.max_, Builtin.max2, h1]
theorem min_run (x : Nat) (z : Int) (h : Wh x z) (k : Nat) (k1 : 1 ≤ k) (k2 : k ≤ 600) : ∃ y, Wh y (if z < k then z else k) ∧ ∀ W, (Builtin.min_ #[25, 25] 25 #[.float .f64 x, .float .f64 (fl k)]).run Try.prog W = .ok (.float .f64 y) W := by
  have h1 : FloatKind.f64.format.order x (fl k) = some (compare z k) := h.left k k1 k2
  have hf := wh_fl k k1 k2
  rcases Int.lt_trichotomy z k with hc | hc | hc
  · rw [Int.compare_eq_lt.2 hc] at h1
    refine ⟨x, ?_, fun W => ?_⟩
    · rw [if_pos hc]; exact h
    · simp [Builtin.min_, Builtin.min2, h1]
  · rw [Int.compare_eq_eq.2 hc] at h1
    subst hc
    refine ⟨if (FloatKind.f64.decode x).neg then x else fl k, ?_, fun W => ?_⟩
    · rw [if_neg (show ¬ (k : Int) < k by omega)]
      split
      · exact h
      · exact hf
    · simp [Builtin.min_, Builtin.min2, h1]
  · rw [Int.compare_eq_gt.2 hc] at h1
    refine ⟨fl k, ?_, fun W => ?_⟩
    · rw [if_neg (by omega)]; exact hf
    · simp [Builtin.min_, Builtin.min2, h1]
theorem conv_int (k : Nat) (n : Int) (hn : n = k) (W : World) : (convert 3 25 (.int .i64 n)).run Try.prog W = .ok (.float .f64 (fl k)) W := by
  subst hn
  have e : fl k = FloatKind.f64.nearest (k : Int) := by
    show Ieee.double.nearest false k 0 = Ieee.double.nearest (decide ((k : Int) < 0)) (k : Int).natAbs 0
    rw [show decide ((k : Int) < 0) = false from decide_eq_false (by omega), Int.natAbs_natCast]
  have hs : Try.prog.underlying 3 = some (.int .i64) := by kernel_rfl
  have hd : Try.prog.underlying 25 = some (.float .f64) := by kernel_rfl
  rw [e]
  simp [convert, run_underlying hs, run_underlying hd, Conv.intToFloat]
theorem conv_of (b : Nat) (n : Int) (h : Wh b n) (h1 : 1 ≤ n) (h2 : n ≤ 600) (W : World) : (convert 25 3 (.float .f64 b)).run Try.prog W = .ok (.int .i64 n) W := by
  refine run_convert_float_int (P := Try.prog) W 25 3 .f64 .i64 b n (by kernel_rfl) (by kernel_rfl) ?_
  unfold floatToIntVal
  rw [show (FloatKind.f64.decode b).toInt .zero = some n from h.int h1 h2]
  simp only
  rw [if_pos]
  exact ⟨show (-9223372036854775808 : Int) ≤ n by omega, show n ≤ (9223372036854775807 : Int) by omega⟩

/-- The nearest of the places from 1 to m + 1. -/
def nearZ (z : Int) (m : Nat) : Int := if z < 1 then 1 else if z < (m : Int) + 1 then z else (m : Int) + 1
theorem nearZ_in (z : Int) (m : Nat) : 1 ≤ nearZ z m ∧ nearZ z m ≤ (m : Int) + 1 := by
  unfold nearZ
  split
  · omega
  · split <;> omega
theorem near_all (x : Nat) (z : Int) (h : Wh x z) (m : Nat) (hm : m ≤ 500) (w : World) : Calls Try.prog 21 #[.float .f64 x, .int .i64 (m : Int)] w fun e w' => e = .returned (.int .i64 (nearZ z m)) ∧ w' = w := by
  obtain ⟨y1, hy1, r1⟩ := max_run x z h
  obtain ⟨y2, hy2, r2⟩ := min_run y1 _ hy1 (m + 1) (by omega) (by omega)
  have h1 := r1 w
  have h2 := conv_int (m + 1) ((m : Int) + 1) (by omega) w
  have h3 := r2 w
  have hz : (if (if z < 1 then 1 else z) < ((m + 1 : Nat) : Int) then (if z < 1 then 1 else z) else ((m + 1 : Nat) : Int)) = nearZ z m := by
    unfold nearZ
    rw [show ((m + 1 : Nat) : Int) = (m : Int) + 1 by omega]
    by_cases hc : z < 1
    · simp only [if_pos hc]
      by_cases hm0 : (1 : Int) < (m : Int) + 1
      · rw [if_pos hm0]
      · rw [if_neg hm0]; omega
    · simp only [if_neg hc]
  rw [hz] at hy2
  have hb := nearZ_in z m
  have h4 := conv_of y2 _ hy2 hb.1 (by omega) w
  clear hz hy2 hy1 r1 r2 h hb
  generalize nearZ z m = p at *
  go_enter Try.func21, Try.ntmps21
  go_wp2
  go_ret
  exact ⟨rfl, rfl⟩
end Go.Proofs.Ytacbpdnpepgngaa.wrd

namespace Go.Proofs.Ytacbpdnpepgngaa.wrd
set_option linter.unusedVariables false set_option linter.unusedSimpArgs false
open Go.ChangeShapes Go.WideShapes Go.ChangeAt Go.RowKit Go.Proofs.Ytacbpdnpepgngaa.base Go.Proofs.Ytacbpdnpepgngaa.flt

/-- No number. -/
def NaN (b : Nat) : Prop := ∃ s t, Ieee.double.read b = .nan s t
theorem nan_order {b : Nat} (h : NaN b) : (FloatKind.f64.format.order b b != some .eq) = true := by
  obtain ⟨s, t, e⟩ := h
  show (Ieee.double.order b b != some .eq) = true
  unfold Ieee.Format.order
  rw [e]
  rfl
theorem wh_order {b : Nat} {z : Int} (h : Wh b z) : (FloatKind.f64.format.order b b != some .eq) = false := by
  rw [show FloatKind.f64.format.order b b = some .eq from h.self]
  rfl
theorem nan_yes (x : Nat) (hx : NaN x) (w : World) : Calls Try.prog 20 #[.float .f64 x] w fun e w' => e = .returned (.bool true) ∧ w' = w := by
  have hx := nan_order hx
  go_enter Try.func20, Try.ntmps20
  go_wp2
  go_ret
  exact ⟨rfl, rfl⟩
theorem even_good (b : Nat) (h : ¬ NaN b) : ∃ y, Whl (Ieee.double.read y) ∧ ∀ W, (callFunc 18 #[.float .f64 b]).run Try.prog W = .ok (.value (.float .f64 y)) W := by
  have hn : ∀ s t, FloatKind.f64.decode b ≠ .nan s t := fun s t e => h ⟨s, t, e⟩
  exact ⟨_, whl_write _ (whl_integral _ .even hn), run_even b _ hn rfl⟩
theorem word_nan (s : Bool) (t : Nat) (h0 : 0 < t) (h1 : t < 4503599627370496) : NaN (Ieee.double.word s (9218868437227405312 + t)) := by
  refine ⟨s, t, ?_⟩
  have h : Ieee.double.word s (9218868437227405312 + t) / 9223372036854775808 % 2 = s.toNat ∧ Ieee.double.word s (9218868437227405312 + t) % 9223372036854775808 = 9218868437227405312 + t := by
    unfold Ieee.Format.word
    rw [FloatMath.signWeight]
    cases s
    · simp; omega
    · simp; omega
  unfold Ieee.Format.read
  rw [FloatMath.signWeight, FloatMath.binade, FloatMath.infRung, FloatMath.least]
  simp only [h.1, h.2]
  rw [if_neg (by omega), if_neg (by omega), if_neg (by omega), show (s.toNat == 1) = s by cases s <;> rfl, show 9218868437227405312 + t - 9218868437227405312 = t by omega]
theorem add_none {a b : Nat} (h : NaN a ∨ NaN b) : Ieee.double.add a b = none := by
  unfold Ieee.Format.add
  rcases h with ⟨s, t, e⟩ | ⟨s, t, e⟩
  · rw [e]
    cases Ieee.double.read b <;> rfl
  · rw [e]
    cases Ieee.double.read a <;> rfl
def nanC (c x : Nat) (W : World) : Nat := Question.cut (.nanBits .f64 c x) (W.tape W.drawn (.nanBits .f64 c x))
theorem nan_nanC (c x : Nat) (W : World) : NaN (nanC c x W) := by
  unfold nanC Question.cut
  generalize W.tape W.drawn (Question.nanBits FloatKind.f64 c x) = t
  simp only
  have h1 : t / 2 % (2 ^ 52 - 1) < 4503599627370495 := Nat.mod_lt _ (by decide)
  have h2 := Nat.mod_lt t (show 0 < 2 by decide)
  rw [show (2 : Nat) ^ 63 = 9223372036854775808 by decide, show (0x7ff0000000000000 : Nat) = 9218868437227405312 by decide]
  generalize t / 2 % (2 ^ 52 - 1) = u at *
  have e : t % 2 * 9223372036854775808 + 9218868437227405312 + 1 + u = Ieee.double.word (decide (t % 2 = 1)) (9218868437227405312 + (u + 1)) := by
    unfold Ieee.Format.word
    rw [FloatMath.signWeight]
    by_cases h : t % 2 = 1
    · rw [if_pos (by simpa using h)]; omega
    · rw [if_neg (by simpa using h)]; omega
  rw [e]
  exact word_nan _ _ (by omega) (by omega)
theorem sum_none (W : World) (a b : Nat) (h : Ieee.double.add a b = none) : (binOp .add 25 (.float .f64 a) (.float .f64 b)).run Try.prog W = .ok (.float .f64 (nanC a b W)) W.drew := by
  have h' : FloatKind.f64.format.add a b = none := h
  simp [binOp, Op.floatArith, h', nanC, Question.forced]
theorem sum_some {a b c : Nat} (ha : Whl (Ieee.double.read a)) (hb : Whl (Ieee.double.read b)) (h : Ieee.double.add a b = some c) : Whl (Ieee.double.read c) ∧ ∀ W, (binOp .add 25 (.float .f64 a) (.float .f64 b)).run Try.prog W = .ok (.float .f64 c) W := by
  refine ⟨?_, fun W => run_float_arith W .add 25 .f64 a b c h⟩
  unfold Ieee.Format.add at h
  cases hs : (Ieee.double.read a).sum (Ieee.double.read b) with
  | none => rw [hs] at h; cases h
  | some d =>
    rw [hs] at h
    obtain rfl : Ieee.double.write d = c := by simpa using h
    exact whl_write d (whl_sum _ _ _ ha hb hs)
theorem nan_small {b : Nat} {s : Bool} {t : Nat} (e : Ieee.double.read b = .nan s t) : 0 < t ∧ t < 4503599627370496 := by
  unfold Ieee.Format.read at e
  rw [FloatMath.signWeight, FloatMath.binade, FloatMath.infRung, FloatMath.least] at e
  simp only at e
  split at e
  · cases e
  · split at e
    · cases e
    · split at e
      · cases e
      · injection e with e1 e2
        omega
theorem quiet_nan (s : Bool) (t : Nat) (h : t < 4503599627370496) : NaN (FloatKind.f64.encode (.nan s (FloatKind.f64.format.quiet t))) := by
  show NaN (Ieee.double.word s (Ieee.double.infRung + (t ||| 2 ^ 51) % Ieee.double.binade))
  rw [FloatMath.infRung, FloatMath.binade]
  have h1 : t ||| 2 ^ 51 < 2 ^ 52 := Nat.or_lt_two_pow (by omega) (by decide)
  have h2 : 2 ^ 51 ≤ t ||| 2 ^ 51 := Nat.right_le_or
  generalize t ||| 2 ^ 51 = q at *
  rw [Nat.mod_eq_of_lt (by omega)]
  exact word_nan s q (by omega) (by omega)
theorem even_nan (b : Nat) (h : NaN b) (W : World) : ∃ y W', NaN y ∧ (W' = W ∨ W' = W.drew) ∧ (callFunc 18 #[.float .f64 b]).run Try.prog W = .ok (.value (.float .f64 y)) W' := by
  obtain ⟨s, t, e⟩ := h
  have hd : FloatKind.f64.decode b = .nan s t := e
  have hq := quiet_nan s t (nan_small e).2
  have key : ∀ R, (Extern.MathFloor.toIntegral "math.RoundToEven" .even #[.float .f64 b]).run Try.prog W = R → ∃ y W', NaN y ∧ (W' = W ∨ W' = W.drew) ∧ R = .ok (.float .f64 y) W' := by
    intro R hR
    delta Extern.MathFloor.toIntegral at hR
    conv at hR => lhs; arg 2; whnf
    revert hR
    cases hd2 : FloatKind.f64.decode b with
    | infinity s2 => rw [hd2] at hd; cases hd
    | number s2 m2 i2 => rw [hd2] at hd; cases hd
    | nan s2 t2 =>
      rw [hd2] at hd
      cases hd
      intro hR
      by_cases hqt : FloatKind.f64.format.quiet t = t
      · have hR2 : (if FloatKind.f64.format.quiet t = t then _ else _ : Sem Value).run Try.prog W = R := hR
        rw [if_pos hqt] at hR2
        exact ⟨b, W, ⟨s, t, e⟩, Or.inl rfl, hR2.symm⟩
      · have hR2 : (if FloatKind.f64.format.quiet t = t then _ else _ : Sem Value).run Try.prog W = R := hR
        rw [if_neg hqt] at hR2
        have hR3 : Result.ok (Value.float .f64 (if (_ : Bool) = true then b else FloatKind.f64.encode (.nan s (FloatKind.f64.format.quiet t)))) W.drew = R := hR2
        refine ⟨_, W.drew, ?_, Or.inr rfl, hR3.symm⟩
        split
        · exact ⟨s, t, e⟩
        · exact hq
  obtain ⟨y, W', h1, h2, h3⟩ := key _ rfl
  refine ⟨y, W', h1, h2, ?_⟩
  rw [run_ext, h3]
  rfl
end Go.Proofs.Ytacbpdnpepgngaa.wrd

namespace Go.Proofs.Ytacbpdnpepgngaa.wrd
set_option linter.unusedVariables false set_option linter.unusedSimpArgs false
open Go.ChangeShapes Go.WideShapes Go.ChangeAt Go.RowKit Go.Proofs.Ytacbpdnpepgngaa.base Go.Proofs.Ytacbpdnpepgngaa.flt

/-- The bytes from place p up to place q. -/
def cutS (s : ByteArray) (p q : Int) : ByteArray := if q ≤ p then ByteArray.empty else s.extract (p.toNat - 1) (q.toNat - 1)
theorem inf_near : ∃ z, Wh 9218868437227405312 z ∧ ∀ m, m ≤ 500 → nearZ z m = (m : Int) + 1 := by
  have hw : Whl (Ieee.double.read 9218868437227405312) := by
    rw [show Ieee.double.read 9218868437227405312 = .infinity false by decide +kernel]
    trivial
  obtain ⟨z, hz⟩ := wh_of _ hw
  refine ⟨z, hz, fun m hm => ?_⟩
  have h1 := hz.left 600 (by omega) (by omega)
  rw [show Ieee.double.order 9218868437227405312 (fl 600) = some .gt by decide +kernel] at h1
  have h2 : compare z ((600 : Nat) : Int) = .gt := by simpa using h1.symm
  have h3 := Int.compare_eq_gt.1 h2
  unfold nearZ
  rw [if_neg (show ¬ z < 1 by omega), if_neg (show ¬ z < (m : Int) + 1 by omega)]

set_option maxHeartbeats 4000000 in
theorem substr_all (w : World) (s : ByteArray) (hs : s.size ≤ 500) (m n a : Nat) (za : Int) (ha : Wh a za) (he : ∀ W, (callFunc 18 #[.float .f64 m]).run Try.prog W = .ok (.value (.float .f64 a)) W) :
    Calls Try.prog 9 #[.string s, .float .f64 m, .float .f64 n, .bool false] w fun e w' => e = .returned (.string (cutS s (nearZ za s.size) ((s.size : Int) + 1))) ∧ Frm No w w' := by
  have h2 := he w
  obtain ⟨zi, hi, hn⟩ := inf_near
  have HA := Lib.hid (fun W => near_all a za ha s.size hs W)
  have HI := Lib.hid (fun W => near_all 9218868437227405312 zi hi s.size hs W)
  rw [hn s.size hs] at HI
  have HNa := Lib.hid (fun W => nan_not a (wh_order ha) W)
  have HNi := Lib.hid (fun W => nan_not 9218868437227405312 (wh_order hi) W)
  have hp := nearZ_in za s.size
  unfold cutS
  clear he hn
  generalize nearZ za s.size = p at *
  obtain ⟨hp1, hp2⟩ := hp
  have HC := Lib.hid (fun (t : ByteArray) (ht : t.size ≤ 100000) W => clone_all t W ht)
  by_cases hq : (s.size : Int) + 1 ≤ p
  · rw [if_pos hq]
    go_enter Try.func9, Try.ntmps9
    go_wp2_with (first | (go_at_call 19; go_must (refine (inf_one _).mono ?_; rintro e w1 ⟨rfl, rfl⟩)) | (go_at_call 20; (with_reducible refine (HNa.out _).mono ?_); rintro e w1 ⟨rfl, rfl⟩) | (go_at_call 20; (with_reducible refine (HNi.out _).mono ?_); rintro e w1 ⟨rfl, rfl⟩) | (go_at_call 21; (with_reducible refine (HA.out _).mono ?_); rintro e w1 ⟨rfl, rfl⟩) | (go_at_call 21; (with_reducible refine (HI.out _).mono ?_); rintro e w1 ⟨rfl, rfl⟩))
    go_ret
    exact ⟨rfl, Frm.refl No _⟩
  · rw [if_neg hq]
    have hsz : ∀ x y, (s.extract x y).size ≤ 100000 := fun x y => by
      rw [ByteArray.size_extract]
      omega
    rw [show ((s.size : Int) + 1).toNat - 1 = s.size by omega]
    go_enter Try.func9, Try.ntmps9
    go_wp2_with (first | (go_at_call 19; go_must (refine (inf_one _).mono ?_; rintro e w1 ⟨rfl, rfl⟩)) | (go_at_call 20; (with_reducible refine (HNa.out _).mono ?_); rintro e w1 ⟨rfl, rfl⟩) | (go_at_call 20; (with_reducible refine (HNi.out _).mono ?_); rintro e w1 ⟨rfl, rfl⟩) | (go_at_call 21; (with_reducible refine (HA.out _).mono ?_); rintro e w1 ⟨rfl, rfl⟩) | (go_at_call 21; (with_reducible refine (HI.out _).mono ?_); rintro e w1 ⟨rfl, rfl⟩) | (go_at_call 22; go_must (refine (HC.out _ (hsz _ _) _).mono ?_; rintro e w1 ⟨rfl, hf1⟩)))
    go_ret
    exact ⟨rfl, hf1⟩
set_option maxHeartbeats 4000000 in
theorem substr_two (w : World) (s : ByteArray) (hs : s.size ≤ 500) (m n a b c : Nat) (za zc : Int) (ha : Wh a za) (hc : Wh c zc) (he : ∀ W, (callFunc 18 #[.float .f64 m]).run Try.prog W = .ok (.value (.float .f64 a)) W) (hb : ∀ W, (callFunc 18 #[.float .f64 n]).run Try.prog W = .ok (.value (.float .f64 b)) W) (hsum : ∀ W, (binOp .add 25 (.float .f64 a) (.float .f64 b)).run Try.prog W = .ok (.float .f64 c) W) :
    Calls Try.prog 9 #[.string s, .float .f64 m, .float .f64 n, .bool true] w fun e w' => e = .returned (.string (cutS s (nearZ za s.size) (nearZ zc s.size))) ∧ Frm No w w' := by
  have h2 := he w
  have h3 := hb w
  have h4 := hsum w
  have HA := Lib.hid (fun W => near_all a za ha s.size hs W)
  have HI := Lib.hid (fun W => near_all c zc hc s.size hs W)
  have HNa := Lib.hid (fun W => nan_not a (wh_order ha) W)
  have HNc := Lib.hid (fun W => nan_not c (wh_order hc) W)
  have hp := nearZ_in za s.size
  have hq0 := nearZ_in zc s.size
  unfold cutS
  clear he hb hsum
  generalize nearZ za s.size = p at *
  generalize nearZ zc s.size = q at *
  obtain ⟨hp1, hp2⟩ := hp
  obtain ⟨hq1, hq2⟩ := hq0
  have HC := Lib.hid (fun (t : ByteArray) (ht : t.size ≤ 100000) W => clone_all t W ht)
  by_cases hq : q ≤ p
  · rw [if_pos hq]
    go_enter Try.func9, Try.ntmps9
    go_wp2_with (first | (go_at_call 19; go_must (refine (inf_one _).mono ?_; rintro e w1 ⟨rfl, rfl⟩)) | (go_at_call 20; (with_reducible refine (HNa.out _).mono ?_); rintro e w1 ⟨rfl, rfl⟩) | (go_at_call 20; (with_reducible refine (HNc.out _).mono ?_); rintro e w1 ⟨rfl, rfl⟩) | (go_at_call 21; (with_reducible refine (HA.out _).mono ?_); rintro e w1 ⟨rfl, rfl⟩) | (go_at_call 21; (with_reducible refine (HI.out _).mono ?_); rintro e w1 ⟨rfl, rfl⟩))
    go_ret
    exact ⟨rfl, Frm.refl No _⟩
  · rw [if_neg hq]
    have hsz : ∀ x y, (s.extract x y).size ≤ 100000 := fun x y => by
      rw [ByteArray.size_extract]
      omega
    go_enter Try.func9, Try.ntmps9
    go_wp2_with (first | (go_at_call 19; go_must (refine (inf_one _).mono ?_; rintro e w1 ⟨rfl, rfl⟩)) | (go_at_call 20; (with_reducible refine (HNa.out _).mono ?_); rintro e w1 ⟨rfl, rfl⟩) | (go_at_call 20; (with_reducible refine (HNc.out _).mono ?_); rintro e w1 ⟨rfl, rfl⟩) | (go_at_call 21; (with_reducible refine (HA.out _).mono ?_); rintro e w1 ⟨rfl, rfl⟩) | (go_at_call 21; (with_reducible refine (HI.out _).mono ?_); rintro e w1 ⟨rfl, rfl⟩) | (go_at_call 22; go_must (refine (HC.out _ (hsz _ _) _).mono ?_; rintro e w1 ⟨rfl, hf1⟩)))
    go_ret
    exact ⟨by first | rfl | simp, hf1⟩
end Go.Proofs.Ytacbpdnpepgngaa.wrd

namespace Go.Proofs.Ytacbpdnpepgngaa.wrd
set_option linter.unusedVariables false set_option linter.unusedSimpArgs false
open Go.ChangeShapes Go.WideShapes Go.ChangeAt Go.RowKit Go.Proofs.Ytacbpdnpepgngaa.base Go.Proofs.Ytacbpdnpepgngaa.flt

set_option maxHeartbeats 4000000 in
theorem substr_nan (w w1 : World) (s : ByteArray) (m n f : Nat) (h2 : (callFunc 18 #[.float .f64 m]).run Try.prog w = .ok (.value (.float .f64 f)) w1) (hf : NaN f) (hw : Frm No w w1) :
    Calls Try.prog 9 #[.string s, .float .f64 m, .float .f64 n, .bool false] w fun e w' => e = .returned (.string ByteArray.empty) ∧ Frm No w w' := by
  have HN := Lib.hid (fun W => nan_yes f hf W)
  have HW := Lib.hid hw
  clear hf hw
  go_enter Try.func9, Try.ntmps9
  go_wp2_with (first | (go_at_call 19; go_must (refine (inf_one _).mono ?_; rintro e w2 ⟨rfl, rfl⟩)) | (go_at_call 20; go_must (refine (HN.out _).mono ?_; rintro e w3 ⟨rfl, rfl⟩)))
  go_ret
  exact ⟨rfl, HW.out⟩
set_option maxHeartbeats 4000000 in
theorem substr_none (w w1 w2 : World) (s : ByteArray) (m n f g : Nat) (h2 : (callFunc 18 #[.float .f64 m]).run Try.prog w = .ok (.value (.float .f64 f)) w1) (h3 : (callFunc 18 #[.float .f64 n]).run Try.prog w1 = .ok (.value (.float .f64 g)) w2) (hadd : Ieee.double.add f g = none)
    (hf : NaN f ∨ (FloatKind.f64.format.order f f != some .eq) = false) (hw1 : Frm No w w1) (hw2 : Frm No w1 w2) :
    Calls Try.prog 9 #[.string s, .float .f64 m, .float .f64 n, .bool true] w fun e w' => e = .returned (.string ByteArray.empty) ∧ Frm No w w' := by
  have h4 := sum_none w2 f g hadd
  have HM := Lib.hid (fun W => nan_yes _ (nan_nanC f g w2) W)
  have HW := Lib.hid ((hw1.trans hw2).trans (Frm.refl No w2).drew)
  generalize nanC f g w2 = y at *
  clear hadd hw1 hw2
  rcases hf with hf | hf
  · have HN := Lib.hid (fun W => nan_yes f hf W)
    clear hf
    go_enter Try.func9, Try.ntmps9
    go_wp2_with (first | (go_at_call 19; go_must (refine (inf_one _).mono ?_; rintro e w2 ⟨rfl, rfl⟩)) | (go_at_call 20; go_must (refine (HN.out _).mono ?_; rintro e w3 ⟨rfl, rfl⟩)))
    go_ret
    exact ⟨rfl, HW.out⟩
  · have HN := Lib.hid (fun W => nan_not f hf W)
    clear hf
    go_enter Try.func9, Try.ntmps9
    go_wp2_with (first | (go_at_call 19; go_must (refine (inf_one _).mono ?_; rintro e w2 ⟨rfl, rfl⟩)) | (go_at_call 20; (with_reducible refine (HN.out _).mono ?_); rintro e w3 ⟨rfl, rfl⟩) | (go_at_call 20; (with_reducible refine (HM.out _).mono ?_); rintro e w3 ⟨rfl, rfl⟩))
    go_ret
    exact ⟨rfl, HW.out⟩
end Go.Proofs.Ytacbpdnpepgngaa.wrd

namespace Go.Proofs.Ytacbpdnpepgngaa.wrd
set_option linter.unusedVariables false set_option linter.unusedSimpArgs false
open Go.ChangeShapes Go.WideShapes Go.ChangeAt Go.RowKit Go.Proofs.Ytacbpdnpepgngaa.base Go.Proofs.Ytacbpdnpepgngaa.flt

theorem near_le (z : Int) (m j : Nat) (h1 : 1 ≤ j) (h2 : j ≤ m) : nearZ z m ≤ (j : Int) ↔ z ≤ (j : Int) := by
  unfold nearZ
  split
  · omega
  · split <;> omega
theorem near_lt (z : Int) (m j : Nat) (h1 : 1 ≤ j) (h2 : j ≤ m) : (j : Int) < nearZ z m ↔ (j : Int) < z := by
  unfold nearZ
  split
  · omega
  · split <;> omega
/-- What is taken before place j. -/
def tookS (s : ByteArray) (p q : Int) (j : Nat) : ByteArray := cutS s p (if q < (j : Int) then q else (j : Int))
theorem took_one (s : ByteArray) (p q : Int) (hp : 1 ≤ p) : tookS s p q 1 = ByteArray.empty := by
  unfold tookS cutS
  rw [if_pos (by split <;> omega)]
theorem took_end (s : ByteArray) (p q : Int) (hq : q ≤ (s.size : Int) + 1) : tookS s p q (s.size + 1) = cutS s p q := by
  unfold tookS
  by_cases h : q < ((s.size + 1 : Nat) : Int)
  · rw [if_pos h]
  · rw [if_neg h]
    congr 1
    omega
theorem took_in (s : ByteArray) (p q : Int) (j : Nat) (hp : 1 ≤ p) (hj : 1 ≤ j) (h1 : p ≤ (j : Int)) (h2 : (j : Int) < q) (hs : j ≤ s.size) : tookS s p q j ++ s.extract (j - 1) j = tookS s p q (j + 1) := by
  unfold tookS
  rw [if_neg (show ¬ q < (j : Int) by omega), if_neg (show ¬ q < ((j + 1 : Nat) : Int) by omega)]
  unfold cutS
  rw [if_neg (show ¬ ((j + 1 : Nat) : Int) ≤ p by omega)]
  by_cases h : (j : Int) ≤ p
  · rw [if_pos h]
    obtain rfl : p = (j : Int) := by omega
    rw [ByteArray.empty_append]
    congr 1
  · rw [if_neg h]
    simp only [Int.toNat_natCast]
    rw [ByteArray.extract_append_extract]
    congr 1 <;> omega
theorem took_out (s : ByteArray) (p q : Int) (j : Nat) (hj : 1 ≤ j) (h : (j : Int) < p ∨ q ≤ (j : Int)) : tookS s p q j = tookS s p q (j + 1) := by
  unfold tookS
  rcases h with h | h
  · unfold cutS
    rw [if_pos (by split <;> omega), if_pos (by split <;> omega)]
  · by_cases h2 : q < (j : Int)
    · rw [if_pos h2, if_pos (by omega)]
    · rw [if_neg h2, if_pos (by omega)]
      congr 1
      omega

theorem took_size (s : ByteArray) (p q : Int) (j : Nat) : (tookS s p q j).size ≤ s.size := by
  unfold tookS
  generalize (if q < (j : Int) then q else (j : Int)) = r
  unfold cutS
  split
  · simp
  · rw [ByteArray.size_extract]; omega
theorem cmp3 (x z : Int) : (compare x z = .lt ∧ x < z) ∨ (compare x z = .eq ∧ x = z) ∨ (compare x z = .gt ∧ z < x) := by
  rcases Int.lt_trichotomy x z with h | h | h
  · exact .inl ⟨Int.compare_eq_lt.2 h, h⟩
  · exact .inr (.inl ⟨Int.compare_eq_eq.2 h, h⟩)
  · exact .inr (.inr ⟨Int.compare_eq_gt.2 h, h⟩)

set_option maxHeartbeats 8000000 in
/-- The document's Substr where its numbers are numbers, and there is no second. -/
theorem subD_all (w w1 w2 : World) (s : ByteArray) (hs : s.size ≤ 500) (m n a b c : Nat) (za : Int) (ha : Wh a za) (hm : (FloatKind.f64.format.order m m != some .eq) = false) 
    (he : ∀ W, (callFunc 18 #[.float .f64 m]).run Try.prog W = .ok (.value (.float .f64 a)) W) (hb : (callFunc 18 #[.float .f64 n]).run Try.prog w = .ok (.value (.float .f64 b)) w1) (hsum : (binOp .add 25 (.float .f64 a) (.float .f64 b)).run Try.prog w1 = .ok (.float .f64 c) w2) (hw : Frm No w w2) :
    Calls Try.prog 10 #[.string s, .float .f64 m, .float .f64 n, .bool false] w fun e w' => e = .returned (.string (cutS s (nearZ za s.size) ((s.size : Int) + 1))) ∧ Frm No w w' := by
  have h2 := he w
  have HW := Lib.hid hw
  have hp := nearZ_in za s.size
  have HL := Lib.hid (fun j h1 h2 => near_le za s.size j h1 h2)
  have HR := Lib.hid (fun (j : Nat) (h1 : 1 ≤ j) (h2 : j ≤ 600) => ha.right j h1 h2)
  have HCV := Lib.hid (fun (j : Nat) W => conv_int j (j : Int) rfl W)
  have hq : 1 ≤ (s.size : Int) + 1 ∧ (s.size : Int) + 1 ≤ (s.size : Int) + 1 := ⟨by omega, by omega⟩
  clear he hw ha
  generalize nearZ za s.size = p at *
  have HP := Lib.hid hp
  have HQ := Lib.hid hq
  have HST := Lib.hid (took_one s p ((s.size : Int) + 1) hp.1)
  have HE := Lib.hid (took_end s p ((s.size : Int) + 1) hq.2)
  clear hp hq
  go_enter Try.func10, Try.ntmps10
  go_wp2_with fail
  go_loopw [11, 12] (fun ov iv wr => ∃ k : Nat, 1 ≤ k ∧ k ≤ s.size + 1 ∧ iv = .int .i64 (k : Int) ∧ ov = .string (tookS s p ((s.size : Int) + 1) k) ∧ wr = w2) (fun _ iv _ => s.size + 1 - (intOf iv).toNat)
  case atStart => exact ⟨1, by omega, by omega, rfl, by rw [HST.out]; rfl, rfl⟩
  case round =>
    obtain ⟨k, hk1, hk2, rfl, rfl, rfl⟩ := hrel
    by_cases hlt : k ≤ s.size
    · have hcv := HCV.out k
      have hor : FloatKind.f64.format.order (fl k) a = some (compare (k : Int) za) := HR.out k hk1 (by omega)
      have hle := HL.out k hk1 hlt
      have hbig : ¬ (9223372036854775807 < (tookS s p ((s.size : Int) + 1) k).size + (k - (k - 1))) := by have := took_size s p ((s.size : Int) + 1) k; omega
      rcases cmp3 (k : Int) za with ⟨e1, e2⟩ | ⟨e1, e2⟩ | ⟨e1, e2⟩
      · rw [e1] at hor
        have HT := Lib.hid (took_out s p ((s.size : Int) + 1) k hk1 (.inl (by omega)))
        clear e1 e2 hle
        · go_wp2_with fail
          go_roundw
          case rel => exact ⟨k + 1, by omega, by omega, by go_num, by rw [HT.out], trivial⟩
          case measure => simp [intOf]; omega
      all_goals
        · rw [e1] at hor
          have HT := Lib.hid (took_in s p ((s.size : Int) + 1) k HP.out.1 hk1 (by omega) (by omega) hlt)
          clear e1 e2 hle
          go_wp2_with fail
          go_roundw
          case rel => exact ⟨k + 1, by omega, by omega, by go_num, by rw [HT.out], trivial⟩
          case measure => simp [intOf]; omega
    · obtain rfl : k = s.size + 1 := by omega
      rw [HE.out]
      go_wp2_with fail
      go_ret
      exact ⟨rfl, HW.out⟩

set_option maxHeartbeats 8000000 in
/-- The document's Substr where its numbers are numbers and their sum is one. -/
theorem subD_two (w w1 w2 : World) (s : ByteArray) (hs : s.size ≤ 500) (m n a b c : Nat) (za zc : Int) (ha : Wh a za) (hc : Wh c zc) (hm : (FloatKind.f64.format.order m m != some .eq) = false) (hn : (FloatKind.f64.format.order n n != some .eq) = false) 
    (he : ∀ W, (callFunc 18 #[.float .f64 m]).run Try.prog W = .ok (.value (.float .f64 a)) W) (hb : (callFunc 18 #[.float .f64 n]).run Try.prog w = .ok (.value (.float .f64 b)) w1) (hsum : (binOp .add 25 (.float .f64 a) (.float .f64 b)).run Try.prog w1 = .ok (.float .f64 c) w2) (hw : Frm No w w2) :
    Calls Try.prog 10 #[.string s, .float .f64 m, .float .f64 n, .bool true] w fun e w' => e = .returned (.string (cutS s (nearZ za s.size) (nearZ zc s.size))) ∧ Frm No w w' := by
  have h2 := he w
  have HW := Lib.hid hw
  have hp := nearZ_in za s.size
  have HL := Lib.hid (fun j h1 h2 => near_le za s.size j h1 h2)
  have HR := Lib.hid (fun (j : Nat) (h1 : 1 ≤ j) (h2 : j ≤ 600) => ha.right j h1 h2)
  have HCV := Lib.hid (fun (j : Nat) W => conv_int j (j : Int) rfl W)
  have hq := nearZ_in zc s.size
  have HL2 := Lib.hid (fun j h1 h2 => near_lt zc s.size j h1 h2)
  have HR2 := Lib.hid (fun (j : Nat) (h1 : 1 ≤ j) (h2 : j ≤ 600) => hc.right j h1 h2)
  have hcc := wh_order hc
  clear he hw ha hc
  generalize nearZ za s.size = p at *
  generalize nearZ zc s.size = q at *
  have HP := Lib.hid hp
  have HQ := Lib.hid hq
  have HST := Lib.hid (took_one s p q hp.1)
  have HE := Lib.hid (took_end s p q hq.2)
  clear hp hq
  go_enter Try.func10, Try.ntmps10
  go_wp2_with fail
  go_loopw [11, 12] (fun ov iv wr => ∃ k : Nat, 1 ≤ k ∧ k ≤ s.size + 1 ∧ iv = .int .i64 (k : Int) ∧ ov = .string (tookS s p q k) ∧ wr = w2) (fun _ iv _ => s.size + 1 - (intOf iv).toNat)
  case atStart => exact ⟨1, by omega, by omega, rfl, by rw [HST.out]; rfl, rfl⟩
  case round =>
    obtain ⟨k, hk1, hk2, rfl, rfl, rfl⟩ := hrel
    by_cases hlt : k ≤ s.size
    · have hcv := HCV.out k
      have hor : FloatKind.f64.format.order (fl k) a = some (compare (k : Int) za) := HR.out k hk1 (by omega)
      have hle := HL.out k hk1 hlt
      have hbig : ¬ (9223372036854775807 < (tookS s p q k).size + (k - (k - 1))) := by have := took_size s p q k; omega
      have hor2 : FloatKind.f64.format.order (fl k) c = some (compare (k : Int) zc) := HR2.out k hk1 (by omega)
      have hle2 := HL2.out k hk1 hlt
      rcases cmp3 (k : Int) za with ⟨e1, e2⟩ | ⟨e1, e2⟩ | ⟨e1, e2⟩
      · rw [e1] at hor
        have HT := Lib.hid (took_out s p q k hk1 (.inl (by omega)))
        clear e1 e2 hle hle2 hor2
        · go_wp2_with fail
          go_roundw
          case rel => exact ⟨k + 1, by omega, by omega, by go_num, by rw [HT.out], trivial⟩
          case measure => simp [intOf]; omega
      all_goals
        rw [e1] at hor
        rcases cmp3 (k : Int) zc with ⟨f1, f2⟩ | ⟨f1, f2⟩ | ⟨f1, f2⟩
        · rw [f1] at hor2
          have HT := Lib.hid (took_in s p q k HP.out.1 hk1 (by omega) (by omega) hlt)
          clear e1 e2 f1 f2 hle hle2
          go_wp2_with fail
          go_roundw
          case rel => exact ⟨k + 1, by omega, by omega, by go_num, by rw [HT.out], trivial⟩
          case measure => simp [intOf]; omega
        · rw [f1] at hor2
          have HT := Lib.hid (took_out s p q k hk1 (.inr (by omega)))
          clear e1 e2 f1 f2 hle hle2
          go_wp2_with fail
          go_roundw
          case rel => exact ⟨k + 1, by omega, by omega, by go_num, by rw [HT.out], trivial⟩
          case measure => simp [intOf]; omega
        · rw [f1] at hor2
          have HT := Lib.hid (took_out s p q k hk1 (.inr (by omega)))
          clear e1 e2 f1 f2 hle hle2
          go_wp2_with fail
          go_roundw
          case rel => exact ⟨k + 1, by omega, by omega, by go_num, by rw [HT.out], trivial⟩
          case measure => simp [intOf]; omega
    · obtain rfl : k = s.size + 1 := by omega
      rw [HE.out]
      go_wp2_with fail
      go_ret
      exact ⟨rfl, HW.out⟩
end Go.Proofs.Ytacbpdnpepgngaa.wrd

namespace Go.Proofs.Ytacbpdnpepgngaa.wrd
set_option linter.unusedVariables false set_option linter.unusedSimpArgs false
open Go.ChangeShapes Go.WideShapes Go.ChangeAt Go.RowKit Go.Proofs.Ytacbpdnpepgngaa.base Go.Proofs.Ytacbpdnpepgngaa.flt

theorem not_nan_order {b : Nat} (h : ¬ NaN b) : (FloatKind.f64.format.order b b != some .eq) = false := by
  show (Ieee.double.order b b != some .eq) = false
  unfold Ieee.Format.order
  cases e : Ieee.double.read b with
  | nan s t => exact absurd ⟨s, t, e⟩ h
  | infinity s => cases s <;> rfl
  | number s m i =>
    unfold Ieee.Datum.order
    simp [Int.compare_eq_eq.2 rfl]
theorem subD_m (w : World) (s : ByteArray) (m n : Nat) (has : Bool) (hm : (FloatKind.f64.format.order m m != some .eq) = true) :
    Calls Try.prog 10 #[.string s, .float .f64 m, .float .f64 n, .bool has] w fun e w' => e = .returned (.string ByteArray.empty) ∧ Frm No w w' := by
  go_enter Try.func10, Try.ntmps10
  go_wp2_with fail
  go_ret
  exact ⟨rfl, Frm.refl No _⟩
theorem subD_n (w : World) (s : ByteArray) (m n : Nat) (hm : (FloatKind.f64.format.order m m != some .eq) = false) (hn : (FloatKind.f64.format.order n n != some .eq) = true) :
    Calls Try.prog 10 #[.string s, .float .f64 m, .float .f64 n, .bool true] w fun e w' => e = .returned (.string ByteArray.empty) ∧ Frm No w w' := by
  go_enter Try.func10, Try.ntmps10
  go_wp2_with fail
  go_ret
  exact ⟨rfl, Frm.refl No _⟩
set_option maxHeartbeats 2000000 in
theorem subD_none (w : World) (s : ByteArray) (m n a b : Nat) (hm : (FloatKind.f64.format.order m m != some .eq) = false) (hn : (FloatKind.f64.format.order n n != some .eq) = false)
    (he : ∀ W, (callFunc 18 #[.float .f64 m]).run Try.prog W = .ok (.value (.float .f64 a)) W) (hb : ∀ W, (callFunc 18 #[.float .f64 n]).run Try.prog W = .ok (.value (.float .f64 b)) W) (hadd : Ieee.double.add a b = none) :
    Calls Try.prog 10 #[.string s, .float .f64 m, .float .f64 n, .bool true] w fun e w' => e = .returned (.string ByteArray.empty) ∧ Frm No w w' := by
  have h2 := he w
  have h3 := hb w
  have h4 := sum_none w a b hadd
  have hc := nan_order (nan_nanC a b w)
  generalize nanC a b w = y at *
  clear he hb hadd
  go_enter Try.func10, Try.ntmps10
  go_wp2_with fail
  go_ret
  exact ⟨rfl, (Frm.refl No _).drew⟩

/-- Both Substr answer the same text, at every two words. -/
theorem both (s : ByteArray) (hs : s.size ≤ 500) (m n : Nat) (has : Bool) : ∀ w, ∃ r : ByteArray,
    (Calls Try.prog 9 #[.string s, .float .f64 m, .float .f64 n, .bool has] w fun e w' => e = .returned (.string r) ∧ Frm No w w') ∧
    ∀ w2, Calls Try.prog 10 #[.string s, .float .f64 m, .float .f64 n, .bool has] w2 fun e w' => e = .returned (.string r) ∧ Frm No w2 w' := by
  intro w
  by_cases hm : NaN m
  · refine ⟨ByteArray.empty, ?_, fun w2 => subD_m w2 s m n has (nan_order hm)⟩
    obtain ⟨f, w1, hf, hw1, hr⟩ := even_nan m hm w
    have hF1 : Frm No w w1 := by rcases hw1 with rfl | rfl; exact Frm.refl No _; exact (Frm.refl No _).drew
    cases has
    · exact substr_nan w w1 s m n f hr hf hF1
    · by_cases hn : NaN n
      · obtain ⟨g, w2, hg, hw2, hr2⟩ := even_nan n hn w1
        have hF2 : Frm No w1 w2 := by rcases hw2 with rfl | rfl; exact Frm.refl No _; exact (Frm.refl No _).drew
        exact substr_none w w1 w2 s m n f g hr hr2 (add_none (.inl hf)) (.inl hf) hF1 hF2
      · obtain ⟨g, _, hr2⟩ := even_good n hn
        exact substr_none w w1 w1 s m n f g hr (hr2 w1) (add_none (.inl hf)) (.inl hf) hF1 (Frm.refl No _)
  · obtain ⟨a, ha, hra⟩ := even_good m hm
    obtain ⟨za, hza⟩ := wh_of a ha
    have hmo : (FloatKind.f64.format.order m m != some .eq) = false := not_nan_order hm
    cases has
    · refine ⟨_, substr_all w s hs m n a za hza hra, fun w2 => ?_⟩
      by_cases hn : NaN n
      · obtain ⟨g, w3, hg, hw3, hr2⟩ := even_nan n hn w2
        have hF : Frm No w2 w3 := by rcases hw3 with rfl | rfl; exact Frm.refl No _; exact (Frm.refl No _).drew
        exact subD_all w2 w3 w3.drew s hs m n a g _ za hza hmo hra hr2 (sum_none w3 a g (add_none (.inr hg))) (hF.trans (Frm.refl No _).drew)
      · obtain ⟨g, hg, hr2⟩ := even_good n hn
        cases hadd : Ieee.double.add a g with
        | none => exact subD_all w2 w2 w2.drew s hs m n a g _ za hza hmo hra (hr2 w2) (sum_none w2 a g hadd) (Frm.refl No _).drew
        | some c => exact subD_all w2 w2 w2 s hs m n a g c za hza hmo hra (hr2 w2) ((sum_some ha hg hadd).2 w2) (Frm.refl No _)
    · by_cases hn : NaN n
      · refine ⟨ByteArray.empty, ?_, fun w2 => subD_n w2 s m n hmo (nan_order hn)⟩
        obtain ⟨g, w2, hg, hw2, hr2⟩ := even_nan n hn w
        have hF2 : Frm No w w2 := by rcases hw2 with rfl | rfl; exact Frm.refl No _; exact (Frm.refl No _).drew
        exact substr_none w w w2 s m n a g (hra w) hr2 (add_none (.inr hg)) (.inr (wh_order hza)) (Frm.refl No _) hF2
      · have hno : (FloatKind.f64.format.order n n != some .eq) = false := not_nan_order hn
        obtain ⟨g, hg, hr2⟩ := even_good n hn
        cases hadd : Ieee.double.add a g with
        | none => exact ⟨ByteArray.empty, substr_none w w w s m n a g (hra w) (hr2 w) hadd (.inr (wh_order hza)) (Frm.refl No _) (Frm.refl No _), fun w2 => subD_none w2 s m n a g hmo hno hra hr2 hadd⟩
        | some c =>
          obtain ⟨hcw, hrc⟩ := sum_some ha hg hadd
          obtain ⟨zc, hzc⟩ := wh_of c hcw
          exact ⟨_, substr_two w s hs m n a g c za zc hza hzc hra hr2 hrc, fun w2 => subD_two w2 w2 w2 s hs m n a g c za zc hza hzc hmo hno hra (hr2 w2) (hrc w2) (Frm.refl No _)⟩

set_option maxRecDepth 100000 in
/-- What comes in for two words. -/
theorem arr_open {H : Type} {enc : TypeId × Value → H} {w : World} {base : Nat} {sp : Nat → Bool} {held : Bool} {n : Nat} {cs : List Value} {x : DataW H × List MemPlace} (h : DataW.trod enc Try.prog w base sp held n 23 cs = some x) :
    ∃ a b : Nat, cs = [.int .u64 (a : Int), .int .u64 (b : Int)] := by
  obtain ⟨xs, m, _, ex, hlen, hl, hel⟩ := DataW.trod_array Try.underlying23 h
  have c1 : Try.prog.cellsOf 22 = 1 := by kernel_rfl
  have c2 : Try.prog.cellsOf 23 = 2 := by kernel_rfl
  rw [c2] at hlen
  obtain ⟨u, v, rfl⟩ : ∃ u v, cs = [u, v] := by
    match cs, hlen with
    | [u, v], _ => exact ⟨u, v, rfl⟩
  have g0 := hel 0 (by decide)
  have g1 := hel 1 (by decide)
  generalize Try.prog.cellsOf 22 = C at *
  subst c1
  simp only [Nat.zero_mul, Nat.one_mul, List.drop_zero, List.drop_succ_cons, List.take_succ_cons, List.take_zero] at g0 g1
  rw [List.getElem?_eq_getElem (by omega)] at g0 g1
  obtain ⟨a, ea, _, wa⟩ := DataW.trod_int Try.underlying22 g0
  obtain ⟨b, eb, _, wb⟩ := DataW.trod_int Try.underlying22 g1
  have ha : 0 ≤ a ∧ a ≤ 18446744073709551615 := by
    simpa [Lit.wf, IntKind.min, IntKind.max, IntKind.signed, IntKind.bits] using wa
  have hb : 0 ≤ b ∧ b ≤ 18446744073709551615 := by
    simpa [Lit.wf, IntKind.min, IntKind.max, IntKind.signed, IntKind.bits] using wb
  cases ea
  cases eb
  exact ⟨a.toNat, b.toNat, by rw [Int.toNat_of_nonneg ha.1, Int.toNat_of_nonneg hb.1]⟩
set_option maxHeartbeats 2000000 in
set_option maxRecDepth 100000 in
theorem substr_law (w : World) (s : ByteArray) (m n : Nat) (has : Bool) : Calls Try.prog 3 #[.string s, .agg #[.int .u64 (m : Int), .int .u64 (n : Int)], .bool has] w fun e w' => e = .returned (.bool true) ∧ Frm No w w' := by
  have hf1 : ∀ W : World, (callFunc 8 #[.int .u64 (m : Int)]).run Try.prog W = .ok (.value (.float .f64 m)) W := fun W => run_frombits (m : Int) W
  have hf2 : ∀ W : World, (callFunc 8 #[.int .u64 (n : Int)]).run Try.prog W = .ok (.value (.float .f64 n)) W := fun W => run_frombits (n : Int) W
  have HB := Lib.hid (Box.new w 23 #[.int .u64 (m : Int), .int .u64 (n : Int)])
  have HF := Lib.hid ((Frm.refl No w).alloc (.cells #[.int .u64 (m : Int), .int .u64 (n : Int)] 23))
  by_cases hs : s.size ≤ 500
  · have ht : decide ((500 : Int) < (s.size : Int)) = false := by rw [decide_eq_false_iff_not]; omega
    have HK := Lib.hid (both s hs m n has)
    clear hs
    go_enter Try.func3, Try.ntmps3
    go_wp2_with (go_at_call 7; go_must (refine (awake_all _).mono ?_; rintro en w1 ⟨rfl, hfa⟩; have HB1 := Lib.hid (HB.out.frm hfa id); have HF1 := Lib.hid (HF.out.trans hfa); have e0 : w1.cell? ⟨w.heap.size, 0, none⟩ = some (.int .u64 (m : Int)) := HB1.out.cell 0; have e1 : w1.cell? ⟨w.heap.size, 1, none⟩ = some (.int .u64 (n : Int)) := HB1.out.cell 1; clear hfa))
    go_quiet (fail)
    obtain ⟨r, hk1, hk2⟩ := HK.out (w1.drewN nq)
    have HK1 := Lib.hid hk1
    have HK2 := Lib.hid hk2
    clear hk1 hk2
    go_wp2_with (first | (go_at_call 9; go_must (refine (HK1.out).mono ?_; rintro en w2 ⟨rfl, hf2⟩; have HF2 := Lib.hid hf2; clear hf2)) | (go_at_call 10; go_must (refine (HK2.out _).mono ?_; rintro en w3 ⟨rfl, hf3⟩; have HF3 := Lib.hid hf3; clear hf3)))
    go_ret
    exact ⟨by first | rfl | simp, ((HF1.out.drewN _).trans HF2.out).trans HF3.out⟩
  · have ht : decide ((500 : Int) < (s.size : Int)) = true := by rw [decide_eq_true_iff]; omega
    clear hs
    go_enter Try.func3, Try.ntmps3
    go_wp2_with (go_at_call 7; go_must (refine (awake_all _).mono ?_; rintro en w1 ⟨rfl, hfa⟩; have HF1 := Lib.hid (HF.out.trans hfa); clear hfa))
    go_ret
    exact ⟨rfl, HF1.out⟩
end Go.Proofs.Ytacbpdnpepgngaa.wrd
