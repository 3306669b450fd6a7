/- No run in this text: atof64's ways (too big, too small, one product, two products alike) answer the word of the float nearest to the text's decimal.
   L: the text's digits, the first not 0; p: the power of ten behind the first nineteen. No run in this text: the word that the document's Value puts together is the nearest float's. No run in this text: the document's digits as a fraction that is halved and doubled: what its tests and its rounding say of it. Words of binary64 that say a number exactly: read behind written. No run in this text: what strconv's short way of one product or one quotient computes, with its sign. No run in this text: words of one sign that stand alike are one word; exponents that are cut short. Small laws on byte slices that a call makes itself, over whatever program. Halving digits with a point comes to an end (apart from memory). No run in this text: how great what uscale answers in parseFloat64 can be; the table's rows are words of 64 bits, their upper half with its highest bit. No run in this text: what holds in floatBits' two loops, round after round, and behind them. No run in this text: the pinned tables of strconv, row by row, are what the pure texts take for them. No run in this text: what a slice that a row lays reads as in memory. -/
import Derived.Test.YtcjeeoadgoghfaaGreatDoorGNear5
import Ieee.Arith
import Derived.WalkKit
import Derived.ProofKit
import Derived.Below
import Derived.BigQuiet
import Derived.Deep.QuietTactic
import Derived.WalkLawsBesides
import Derived.WalkSpells
import Derived.Lib.Hide
import Derived.Maps.AppendAt
import Derived.Laws.IdiomStrings
import Derived.OwnWalk
import Derived.Lib.AppendStr
import Derived.Lib.OthersKept
import GoSem.PinnedTables
import Derived.Lay
import Derived.Lib.LaidU8
import Derived.ChangeSame
import Derived.OpenShut

namespace Go.Proofs.YtcjeeoadgoghfaaGreatDoor.Usc
set_option linter.unusedVariables false set_option linter.unusedSimpArgs false
open Go.Proofs.YtcjeeoadgoghfaaGreatDoor.Deci

/-- readFloat's mantissa, its digits, whether some are left out. -/
def manL (L : List Nat) : Nat := val (L.take 19)
def cntL (L : List Nat) : Nat := min 19 L.length
def cutL (L : List Nat) : Bool := (L.drop 19).any (· != 0)

theorem cnt_len (L : List Nat) : (L.take 19).length = cntL L := List.length_take
theorem man_split (L : List Nat) : val L = manL L * 10 ^ (L.length - cntL L) + val (L.drop 19) := by
  have h := val_append (L.take 19) (L.drop 19)
  rw [List.take_append_drop, List.length_drop] at h
  rw [h, manL, show L.length - 19 = L.length - cntL L by unfold cntL; omega]
theorem val_none0 : ∀ l : List Nat, (l.any (· != 0)) = false → val l = 0
  | [], _ => rfl
  | d :: t, h => by
    rw [List.any_cons, Bool.or_eq_false_iff] at h
    have hd : d = 0 := by simpa using h.1
    rw [val_cons, val_none0 t h.2, hd, Nat.zero_mul]
theorem man_exact {L : List Nat} (h : cutL L = false) : val L = manL L * 10 ^ (L.length - cntL L) := by rw [man_split, val_none0 _ h, Nat.add_zero]
theorem man_low (L : List Nat) : manL L * 10 ^ (L.length - cntL L) ≤ val L := by rw [man_split L]; exact Nat.le_add_right _ _
theorem man_high {L : List Nat} (hd : Digs L) : val L ≤ (manL L + 1) * 10 ^ (L.length - cntL L) := by
  have h := val_lt (L.drop 19) (fun d h => hd d (List.mem_of_mem_drop h))
  rw [List.length_drop, show L.length - 19 = L.length - cntL L by unfold cntL; omega] at h
  rw [man_split L, Nat.add_mul, Nat.one_mul]
  exact Nat.add_le_add_left (Nat.le_of_lt h) _
theorem man_lt {L : List Nat} (hd : Digs L) : manL L < 10 ^ cntL L := by
  rw [← cnt_len]; exact val_lt _ (fun d h => hd d (List.mem_of_mem_take h))
theorem man_pos {d : Nat} {t : List Nat} (h : 1 ≤ d) : 1 ≤ manL (d :: t) := by
  rw [manL, List.take_succ_cons]
  exact Nat.le_trans (Nat.pow_pos (by decide)) (val_ge d _ h)

/-- Ten's powers side by side. -/
theorem ten_up (D z : Nat) (p q : Int) (h : p = q + z) : tenN D p * tenD q = tenN (D * 10 ^ z) q * tenD p := by
  subst h; exact (ten_trim D z q).symm
theorem tenN_le {D E : Nat} (q : Int) (h : D ≤ E) : tenN D q ≤ tenN E q := Nat.mul_le_mul_right _ h
theorem low_ten {D E z : Nat} {p q : Int} (h : p = q + z) (hl : D * 10 ^ z ≤ E) : tenN D p * tenD q ≤ tenN E q * tenD p := by
  rw [ten_up D z p q h]; exact Nat.mul_le_mul_right _ (tenN_le q hl)
theorem high_ten {D E z : Nat} {p q : Int} (h : p = q + z) (hl : E ≤ D * 10 ^ z) : tenN E q * tenD p ≤ tenN D p * tenD q := by
  rw [ten_up D z p q h]; exact Nat.mul_le_mul_right _ (tenN_le q hl)

/-- Nothing left out: the mantissa is the decimal. -/
theorem at_exact {L : List Nat} {p q : Int} {x : Nat} (hp : p = q + (L.length - cntL L : Nat)) (hc : cutL L = false) (h : NB (tenN (manL L) p) (tenD p) x) : NB (tenN (val L) q) (tenD q) x := by
  refine NB_congr (tenD_pos p) (tenD_pos q) ?_ h
  rw [ten_up _ _ p q hp, man_exact hc]
/-- Two mantissas with one answer. -/
theorem at_both {L : List Nat} {p q : Int} {x : Nat} (hd : Digs L) (hp : p = q + (L.length - cntL L : Nat)) (h : NB (tenN (manL L) p) (tenD p) x) (h1 : NB (tenN (manL L + 1) p) (tenD p) x) : NB (tenN (val L) q) (tenD q) x :=
  NB_squeeze (tenD_pos p) (tenD_pos p) (tenD_pos q) (low_ten hp (man_low L)) (high_ten hp (man_high hd)) h h1

/-- One product, by the table. -/
theorem at_table {d b : Nat} {p : Int} (i : Nat) (hi : p + 348 = i) (hi6 : i < 696) (hb1 : 1 ≤ b) (hb64 : b ≤ 64) (hd1 : 2 ^ (b - 1) ≤ d) (hd2 : d < 2 ^ b) : NB (tenN d p) (tenD p) (parF d b i (rowHi i) (rowLo i)) := by
  have h := parF_table d b i hi6 hb1 hb64 hd1 hd2
  have e1 : tenN d p = valN d i := by unfold tenN valN; rw [show p.toNat = i - 348 by omega]
  have e2 : tenD p = valD i := by unfold tenD valD; rw [show (-p).toNat = 348 - i by omega]
  rw [e1, e2]; exact h

theorem big_two : 2 ^ 1024 ≤ 10 ^ 311 := by decide +kernel
theorem small_two : 10 ^ 20 * 2 ^ 1075 < 10 ^ 346 := by decide +kernel
theorem nat_one {m : Nat} (hm : 1 ≤ m) (X : Nat) : X ≤ m * X := by
  have := Nat.mul_le_mul_right X hm; rwa [Nat.one_mul] at this
theorem NB_top {a b T : Nat} (hT : T = 2 ^ 1024) (hb : 0 < b) (h : T * b ≤ a) : NB a b (2047 * 2 ^ 52) := NB_inf hb (hT ▸ h)
/-- Too big. -/
theorem ten_inf {m : Nat} {p : Int} (hm : 1 ≤ m) (hp : 310 < p) : NB (tenN m p) (tenD p) (2047 * 2 ^ 52) := by
  have e : tenD p = 1 := by unfold tenD; rw [show (-p).toNat = 0 by omega, Nat.pow_zero]
  obtain ⟨T, hT⟩ : ∃ T : Nat, T = 2 ^ 1024 := ⟨_, rfl⟩
  refine NB_top hT (tenD_pos p) ?_
  rw [e, Nat.mul_one]
  have h1 : T ≤ 10 ^ 311 := by rw [hT]; exact big_two
  exact Nat.le_trans (Nat.le_trans h1 (pow_mono 10 311 p.toNat (by decide) (by omega))) (nat_one hm _)
/-- Too small. -/
theorem ten_zero {m : Nat} {p : Int} (hm : m ≤ 10 ^ 20) (hp : p < -345) : NB (tenN m p) (tenD p) 0 := by
  refine NB_zero (tenD_pos p) ?_
  have e : tenN m p = m := by unfold tenN; rw [show p.toNat = 0 by omega, Nat.pow_zero, Nat.mul_one]
  rw [e]
  unfold tenD
  exact Nat.lt_of_le_of_lt (Nat.mul_le_mul_right _ hm) (Nat.lt_of_lt_of_le small_two (pow_mono 10 346 (-p).toNat (by decide) (by omega)))

theorem top_man {L : List Nat} (hd : Digs L) : manL L + 1 ≤ 10 ^ 20 :=
  Nat.le_trans (man_lt hd) (pow_mono 10 (cntL L) 20 (by decide) (by unfold cntL; omega))
theorem NB_big {a b : Nat} (hb : 0 < b) {c d : Nat} (hd : 0 < d) (h : c * b ≤ a * d) (hc : NB c d (2047 * 2 ^ 52)) : NB a b (2047 * 2 ^ 52) := by
  obtain ⟨x, hx⟩ := NB_ex a b hb
  have h1 := NB_mono hd hb h hc hx
  have h2 := NB_le_inf hb hx
  have h3 : x = 2047 * 2 ^ 52 := Nat.le_antisymm h2 h1
  rw [← h3]; exact hx
theorem NB_small {a b : Nat} (hb : 0 < b) {c d : Nat} (hd : 0 < d) (h : a * d ≤ c * b) (hc : NB c d 0) : NB a b 0 := by
  obtain ⟨x, hx⟩ := NB_ex a b hb
  have h1 := NB_mono hb hd h hx hc
  have h3 : x = 0 := Nat.le_zero.mp h1
  rw [← h3]; exact hx
theorem at_inf {L : List Nat} {p q : Int} (hm : 1 ≤ manL L) (hp : p = q + (L.length - cntL L : Nat)) (h : 310 < p) : NB (tenN (val L) q) (tenD q) (2047 * 2 ^ 52) :=
  NB_big (tenD_pos q) (tenD_pos p) (low_ten hp (man_low L)) (ten_inf hm h)
theorem at_zero {L : List Nat} {p q : Int} (hd : Digs L) (hp : p = q + (L.length - cntL L : Nat)) (h : p < -345) : NB (tenN (val L) q) (tenD q) 0 :=
  NB_small (tenD_pos q) (tenD_pos p) (high_ten hp (man_high hd)) (ten_zero (top_man hd) h)

/-- Where the slow way begins, its bounds hold. -/
theorem slow_bounds {L : List Nat} {p q : Int} (hd : Digs L) (hn : L.length ≤ 700) (hp : p = q + (L.length - cntL L : Nat)) (h : -345 ≤ p) : val L < 10 ^ 700 ∧ -1030 ≤ q := by
  refine ⟨Nat.lt_of_lt_of_le (val_lt L hd) (pow_mono 10 L.length 700 (by decide) hn), ?_⟩
  have : L.length - cntL L ≤ 681 := by unfold cntL; omega
  omega

/-- The exponent's digits, as the code sums them (it stops at 10000). -/
def expF (e : Nat) (c : Nat) : Nat := if e < 10000 then 10 * e + c else e
def expL (l : List Nat) : Nat := l.foldl expF 0
theorem expF_same : ∀ (l : List Nat) (e v : Nat), (e = v ∨ (10000 ≤ e ∧ 10000 ≤ v)) → l.foldl expF e = l.foldl (fun a d => 10 * a + d) v ∨ (10000 ≤ l.foldl expF e ∧ 10000 ≤ l.foldl (fun a d => 10 * a + d) v)
  | [], e, v, h => h
  | d :: t, e, v, h => by
    rw [List.foldl_cons, List.foldl_cons]
    refine expF_same t _ _ ?_
    unfold expF
    rcases h with h | ⟨h1, h2⟩
    · subst h
      split
      · exact Or.inl rfl
      · exact Or.inr ⟨by omega, by omega⟩
    · rw [if_neg (by omega)]
      exact Or.inr ⟨h1, by omega⟩
theorem expL_same (l : List Nat) : expL l = val l ∨ (10000 ≤ expL l ∧ 10000 ≤ val l) := expF_same l 0 0 (Or.inl rfl)
theorem expL_lt (l : List Nat) (hd : Digs l) : expL l < 100010 := by
  suffices h : ∀ (l : List Nat) (e : Nat), Digs l → e < 100010 → l.foldl expF e < 100010 from h l 0 hd (by decide)
  intro l
  induction l with
  | nil => intro e _ h; exact h
  | cons d t ih =>
    intro e hd he
    rw [List.foldl_cons]
    refine ih _ (fun x hx => hd x (List.mem_cons_of_mem _ hx)) ?_
    have := hd d List.mem_cons_self
    unfold expF
    split <;> omega

/-- readFloat's loop over the digits: behind the first k of them. -/
theorem man_few {L : List Nat} {k : Nat} (hk : k < 19) (h : k < L.length) : manL (L.take (k + 1)) = 10 * manL (L.take k) + L[k] := by
  unfold manL
  rw [List.take_take, List.take_take, Nat.min_eq_right (by omega), Nat.min_eq_right (by omega), List.take_succ_eq_append_getElem h, val_snoc]
theorem man_many {L : List Nat} {k : Nat} (hk : 19 ≤ k) : manL (L.take (k + 1)) = manL (L.take k) := by
  unfold manL
  rw [List.take_take, List.take_take, Nat.min_eq_left (by omega), Nat.min_eq_left (by omega)]
theorem cut_few {L : List Nat} {k : Nat} (hk : k ≤ 19) : cutL (L.take k) = false := by
  unfold cutL
  rw [List.drop_eq_nil_of_le (by rw [List.length_take]; omega)]
  rfl
theorem cut_many {L : List Nat} {k : Nat} (hk : 19 ≤ k) (h : k < L.length) : cutL (L.take (k + 1)) = (cutL (L.take k) || L[k] != 0) := by
  unfold cutL
  rw [List.take_succ_eq_append_getElem h, List.drop_append_of_le_length (by rw [List.length_take]; omega), List.any_append]
  simp
theorem man_one {d : Nat} {t : List Nat} : manL ((d :: t).take 1) = d := by
  simp [manL, val_cons, val_nil]
theorem man_word {L : List Nat} (hd : Digs L) (k : Nat) : manL (L.take k) < 10 ^ 19 :=
  Nat.lt_of_lt_of_le (man_lt (fun d h => hd d (List.mem_of_mem_take h))) (pow_mono 10 _ 19 (by decide) (by unfold cntL; omega))
theorem man_room {L : List Nat} (hd : Digs L) {k : Nat} (hk : k < 19) : manL (L.take k) < 10 ^ 18 :=
  Nat.lt_of_lt_of_le (man_lt (fun d h => hd d (List.mem_of_mem_take h))) (pow_mono 10 _ 18 (by decide) (by unfold cntL; rw [List.length_take]; omega))
/-- The exponent behind one more digit. -/
theorem expL_snoc (l : List Nat) (c : Nat) : expL (l ++ [c]) = expF (expL l) c := by unfold expL; rw [List.foldl_append]; rfl
/-- RoundedInteger's two loops: the digits ahead of the point, and 0 for each that is not there. -/
theorem whole_step {l : List Nat} {k : Nat} (h : k < l.length) : val (l.take (k + 1)) = 10 * val (l.take k) + l[k] := by
  rw [List.take_succ_eq_append_getElem h, val_snoc]
end Go.Proofs.YtcjeeoadgoghfaaGreatDoor.Usc

namespace Go.Proofs.YtcjeeoadgoghfaaGreatDoor.Usc
set_option linter.unusedVariables false

/-- The document's word of m behind the rounding, and of the exponent e. -/
def docW (m : Nat) (e : Int) : Nat :=
  if m = 9007199254740992 then (if e + 1 > 971 then 9218868437227405312 else (e + 1 + 1075).toNat * 4503599627370496 + 4503599627370496 - 4503599627370496)
  else if m < 4503599627370496 then m else if e > 971 then 9218868437227405312 else (e + 1075).toNat * 4503599627370496 + m - 4503599627370496
theorem doc_fin {m : Nat} {e : Int} (he : -1074 ≤ e) (hm : m ≤ 9007199254740992) : docW m e = finF m (-e) := by
  have e52 : (2 : Nat) ^ 52 = 4503599627370496 := by decide
  have e53 : (2 : Nat) ^ 53 = 9007199254740992 := by decide
  have ei : (2047 : Nat) * 4503599627370496 = 9218868437227405312 := by decide
  unfold docW finF packF
  simp only [e52, e53]
  repeat' split
  all_goals omega
theorem doc_near {a b : Nat} {e : Int} (hb : 0 < b) (he : -1074 ≤ e) (h1 : numF (-e) a < 2 ^ 53 * denF (-e) b) (h2 : e = -1074 ∨ 2 ^ 52 * denF (-e) b ≤ numF (-e) a) (hm : rnd (numF (-e) a) (denF (-e) b) ≤ 9007199254740992) :
    NB a b (docW (rnd (numF (-e) a) (denF (-e) b)) e) :=
  ⟨-e, by omega, h1, by rcases h2 with h | h; exact Or.inl (by omega); exact Or.inr h, doc_fin he hm⟩
end Go.Proofs.YtcjeeoadgoghfaaGreatDoor.Usc

namespace Go.Proofs.YtcjeeoadgoghfaaGreatDoor.Usc
set_option linter.unusedVariables false
open Go.Proofs.YtcjeeoadgoghfaaGreatDoor.Deci

theorem rep_congr {l : List Nat} {p : Int} {a b c d : Nat} (hb : 0 < b) (h : Rep l p a b) (e : a * d = c * b) : Rep l p c d := by
  unfold Rep at h ⊢
  apply Nat.eq_of_mul_eq_mul_right hb
  generalize val l * 10 ^ (p - l.length).toNat = X at *
  generalize 10 ^ (l.length - p).toNat = Y at *
  calc X * d * b = X * b * d := by ac_rfl
    _ = a * Y * d := by rw [h]
    _ = a * d * Y := by ac_rfl
    _ = c * b * Y := by rw [e]
    _ = c * Y * b := by ac_rfl
theorem fine_congr {l : List Nat} {p : Int} {a b c d : Nat} (hb : 0 < b) (h : Fine l p a b) (e : a * d = c * b) : Fine l p c d :=
  Fine.make h.digs h.tight h.led h.zero (rep_congr hb h.rep e)
/-- The fraction, e times halved. -/
def FX (a0 b0 : Nat) (e : Int) (l : List Nat) (p : Int) : Prop := Fine l p (numF (-e) a0) (denF (-e) b0)
theorem FX.half {a0 b0 : Nat} {e : Int} {l : List Nat} {p : Int} (hb : 0 < b0) (h : FX a0 b0 e l p) : FX a0 b0 (e + 1) (trimD (hlfL l)) (pt (trimD (hlfL l)) (hlfP l p)) := by
  refine fine_congr (Nat.mul_pos (by decide) (denF_pos _ hb)) (Fine.half h) ?_
  have s := scale_up (-(e + 1)) (-e) (by omega) a0 b0
  rw [show (-e - -(e + 1)).toNat = 1 by omega, Nat.pow_one] at s
  rw [s]; ac_rfl
theorem FX.dbl {a0 b0 : Nat} {e : Int} {l : List Nat} {p : Int} (hb : 0 < b0) (h : FX a0 b0 e l p) : FX a0 b0 (e - 1) (trimD (dblL l)) (pt (trimD (dblL l)) (dblP l p)) := by
  refine fine_congr (denF_pos _ hb) (Fine.double h) ?_
  have s := scale_up (-e) (-(e - 1)) (by omega) a0 b0
  rw [show (-(e - 1) - -e).toNat = 1 by omega, Nat.pow_one] at s
  rw [s]

/-- The rounding. -/
theorem fine_round {l : List Nat} {p : Int} {a b : Nat} (hb : 0 < b) (h : Fine l p a b) : rInt l p false = rnd a b := by
  rw [rInt_round l p false h.digs h.tight]
  refine round_cut (tenD_pos _) hb false (fun _ => ?_) (fun h => by cases h) (fun k hk => ?_)
  · have r := h.rep
    unfold Rep at r
    unfold tenN tenD
    rw [show (-(p - (l.length : Int))).toNat = ((l.length : Int) - p).toNat by omega]
    exact r
  · have r := h.rep
    unfold Rep at r
    have e : tenN (val l) (p - l.length) * b = a * tenD (p - l.length) := by
      unfold tenN tenD
      rw [show (-(p - (l.length : Int))).toNat = ((l.length : Int) - p).toNat by omega]
      exact r
    have hm := tenD_pos (p - (l.length : Int))
    generalize tenN (val l) (p - l.length) = n at *
    generalize tenD (p - (l.length : Int)) = m at *
    have h1 := Nat.mul_lt_mul_of_pos_right hk hb
    have e2 : 2 * n * b = 2 * a * m := by rw [Nat.mul_assoc, e]; ac_rfl
    rw [e2] at h1
    have e3 : (2 * k + 1) * m * b = (2 * k + 1) * b * m := by ac_rfl
    rw [e3] at h1
    exact Nat.lt_of_mul_lt_mul_right h1
end Go.Proofs.YtcjeeoadgoghfaaGreatDoor.Usc

namespace Go.Proofs.YtcjeeoadgoghfaaGreatDoor.FloatMath
set_option linter.unusedVariables false set_option linter.unusedSimpArgs false
open Ieee

theorem log2_le {m : Nat} (h : 0 < m) : 2 ^ m.log2 ≤ m := Nat.log2_self_le (by omega)
theorem lt_log2 (m : Nat) : m < 2 ^ (m.log2 + 1) := Nat.lt_log2_self

theorem cut_exact (neg : Bool) (n k : Nat) (h : 2 ^ k ∣ n) : Toward.even.cut neg n k = n / 2 ^ k := by
  obtain ⟨q, rfl⟩ := h
  have hp : 0 < 2 ^ k := Nat.two_pow_pos k
  rw [Nat.mul_div_cancel_left _ hp]
  have hmin : min k ((2 ^ k * q).log2 + 2) = k ∨ q = 0 := by
    by_cases hq : q = 0
    · exact Or.inr hq
    · left
      have : k ≤ (2 ^ k * q).log2 := by
        rw [Nat.le_log2 (by have := Nat.mul_pos hp (Nat.pos_of_ne_zero hq); omega)]
        exact Nat.le_mul_of_pos_right _ (Nat.pos_of_ne_zero hq)
      omega
  unfold Toward.cut
  rcases hmin with e | rfl
  · rw [e]
    simp only [Nat.one_shiftLeft]
    rw [Nat.mul_mod_right, Nat.mul_div_cancel_left _ hp]
    have : (2 ^ k < 2 * 0 || (2 ^ k == 2 * 0 && q % 2 == 1)) = false := by
      simp
    simp only [this]
    rfl
  · simp [Nat.one_shiftLeft]


theorem least : Format.leastPlace double = -1074 := by decide
theorem binade : Format.binade double = 4503599627370496 := by decide
theorem infRung : Format.infRung double = 9218868437227405312 := by decide
theorem signWeight : Format.signWeight double = 9223372036854775808 := by decide
theorem fraction : Format.fractionBits double = 52 := rfl

theorem kept_lt {mag kept : Nat} {place last : Int} (hlast : place + mag.log2 - 52 ≤ last) (hk : kept * 2 ^ (last - place).toNat = mag * 2 ^ (place - last).toNat) : kept < 2 ^ 53 := by
  have h2 := lt_log2 mag
  by_cases h : last ≤ place
  · have e1 : (last - place).toNat = 0 := by omega
    rw [e1, Nat.pow_zero, Nat.mul_one] at hk
    rw [hk]
    have e2 : mag.log2 + 1 + (place - last).toNat ≤ 53 := by omega
    calc mag * 2 ^ (place - last).toNat < 2 ^ (mag.log2 + 1) * 2 ^ (place - last).toNat := Nat.mul_lt_mul_of_pos_right h2 (Nat.two_pow_pos _)
      _ = 2 ^ (mag.log2 + 1 + (place - last).toNat) := (Nat.pow_add 2 _ _).symm
      _ ≤ 2 ^ 53 := Nat.pow_le_pow_right (by omega) e2
  · have e1 : (place - last).toNat = 0 := by omega
    rw [e1, Nat.pow_zero, Nat.mul_one] at hk
    have e2 : mag.log2 + 1 ≤ 53 + (last - place).toNat := by omega
    have h3 : kept * 2 ^ (last - place).toNat < 2 ^ 53 * 2 ^ (last - place).toNat := by
      rw [hk, ← Nat.pow_add]
      exact Nat.lt_of_lt_of_le h2 (Nat.pow_le_pow_right (by omega) e2)
    exact Nat.lt_of_mul_lt_mul_right h3

theorem kept_ge {mag kept : Nat} {place last : Int} (hm : 0 < mag) (hlast : place + mag.log2 - 52 = last) (hk : kept * 2 ^ (last - place).toNat = mag * 2 ^ (place - last).toNat) : 2 ^ 52 ≤ kept := by
  have h2 := log2_le hm
  by_cases h : last ≤ place
  · have e1 : (last - place).toNat = 0 := by omega
    rw [e1, Nat.pow_zero, Nat.mul_one] at hk
    rw [hk]
    have e2 : 52 = mag.log2 + (place - last).toNat := by omega
    rw [e2, Nat.pow_add]
    exact Nat.mul_le_mul_right _ h2
  · have e1 : (place - last).toNat = 0 := by omega
    rw [e1, Nat.pow_zero, Nat.mul_one] at hk
    have e2 : mag.log2 = 52 + (last - place).toNat := by omega
    have h3 : 2 ^ 52 * 2 ^ (last - place).toNat ≤ kept * 2 ^ (last - place).toNat := by
      rw [hk, ← Nat.pow_add, ← e2]; exact h2
    exact Nat.le_of_mul_le_mul_right h3 (Nat.two_pow_pos _)

/-- The word of a rung, read. -/
theorem read_word (neg : Bool) (rung : Nat) (h : rung < 9218868437227405312) :
    double.read (double.word neg rung) = if rung < 4503599627370496 then .number neg rung (-1074) else .number neg (4503599627370496 + rung % 4503599627370496) (-1074 + (rung / 4503599627370496 - 1 : Nat)) := by
  have h1 : double.word neg rung / 9223372036854775808 % 2 = neg.toNat ∧ double.word neg rung % 9223372036854775808 = rung := by
    unfold Format.word
    rw [signWeight]
    cases neg
    · simp; omega
    · simp; omega
  unfold Format.read
  rw [signWeight, binade, infRung, least]
  simp only [h1.1, h1.2]
  rw [show (neg.toNat == 1) = neg by cases neg <;> rfl]
  by_cases hs : rung < 4503599627370496
  · rw [if_pos hs, if_pos hs]
  · rw [if_neg hs, if_neg hs, if_pos h]

theorem pow52 : (2 : Nat) ^ 52 = 4503599627370496 := by decide
theorem pow53 : (2 : Nat) ^ 53 = 9007199254740992 := by decide

/-- A number that binary64 has, written: the word, and what it reads as. -/
theorem nearest_exact (neg : Bool) (mag kept : Nat) (place last : Int) (hm : 0 < mag) (hlast : last = max (place + mag.log2 - 52) (-1074))
    (hk : kept * 2 ^ (last - place).toNat = mag * 2 ^ (place - last).toNat) (hin : (last + 1074).toNat * 4503599627370496 + kept < 9218868437227405312) :
    double.nearest neg mag place = double.word neg ((last + 1074).toNat * 4503599627370496 + kept) ∧ double.read (double.nearest neg mag place) = .number neg kept last := by
  have hlt := kept_lt (mag := mag) (kept := kept) (place := place) (last := last) (by omega) hk
  rw [pow53] at hlt
  have e : double.nearest neg mag place = double.word neg ((last + 1074).toNat * 4503599627370496 + kept) := by
    unfold Format.nearest
    rw [if_neg (by omega), fraction, least, binade, infRung]
    simp only
    have hl : max (place + (mag.log2 : Int) - ((52 : Nat) : Int)) (-1074) = last := hlast.symm
    rw [hl, Nat.shiftLeft_eq]
    rw [cut_exact _ _ _ ⟨kept, by rw [← hk, Nat.mul_comm]⟩, ← hk, Nat.mul_div_cancel _ (Nat.two_pow_pos _)]
    rw [show last - -1074 = last + 1074 by omega, Nat.min_eq_left (by omega)]
  refine ⟨e, ?_⟩
  rw [e, read_word _ _ hin]
  by_cases hs : place + mag.log2 - 52 < -1074
  · have hl : last = -1074 := by omega
    subst hl
    by_cases h52 : kept < 4503599627370496
    · rw [if_pos (by simpa using h52)]
      simp
    · rw [if_neg (by simpa using h52)]
      have e1 : ((-1074 + 1074 : Int).toNat * 4503599627370496 + kept) / 4503599627370496 = 1 := by
        rw [show (-1074 + 1074 : Int).toNat = 0 by decide]; omega
      have e2 : ((-1074 + 1074 : Int).toNat * 4503599627370496 + kept) % 4503599627370496 = kept - 4503599627370496 := by
        rw [show (-1074 + 1074 : Int).toNat = 0 by decide]; omega
      rw [e1, e2]
      simp
      omega
  · have hl : place + mag.log2 - 52 = last := by omega
    have hge := kept_ge hm hl hk
    rw [pow52] at hge
    rw [if_neg (by omega)]
    have e1 : ((last + 1074).toNat * 4503599627370496 + kept) / 4503599627370496 = (last + 1074).toNat + 1 := by omega
    have e2 : ((last + 1074).toNat * 4503599627370496 + kept) % 4503599627370496 = kept - 4503599627370496 := by omega
    rw [e1, e2, show 4503599627370496 + (kept - 4503599627370496) = kept by omega, show -1074 + (((last + 1074).toNat + 1 - 1 : Nat) : Int) = last by omega]

end Go.Proofs.YtcjeeoadgoghfaaGreatDoor.FloatMath

namespace Go.Proofs.YtcjeeoadgoghfaaGreatDoor.Usc
set_option linter.unusedVariables false
open Ieee Go.Proofs.YtcjeeoadgoghfaaGreatDoor.FloatMath

theorem near_sign (neg : Bool) (mag : Nat) (place : Int) : double.nearest neg mag place = double.word neg (double.nearest false mag place) := by
  unfold Format.nearest
  by_cases h : mag = 0
  · rw [if_pos h, if_pos h, d_word]
  · rw [if_neg h, if_neg h, d_word]
    simp only [cut_rnd]
/-- A whole number below 2^53 as a word of either sign. -/
theorem exa_word (m : Nat) (h1 : 1 ≤ m) (h2 : m < 2 ^ 53) : ∃ x k : Nat, ∃ l : Int, (∀ s, double.nearest s m 0 = double.word s x) ∧ (∀ s, double.read (double.word s x) = .number s k l) ∧ 0 < k ∧ l ≤ 0 ∧ k = m * 2 ^ (-l).toNat ∧ NB m 1 x ∧ x < 9218868437227405312 := by
  have l1 : m.log2 ≤ 52 := by
    have : m.log2 < 53 := (Nat.log2_lt (by omega)).2 h2
    omega
  have e53 : (2 : Nat) ^ 53 = 9007199254740992 := by decide
  obtain ⟨l, hl⟩ : ∃ l : Int, l = (m.log2 : Int) - 52 := ⟨_, rfl⟩
  have hlast : l = max (0 + (m.log2 : Int) - 52) (-1074) := by omega
  have hk : (m * 2 ^ (-l).toNat) * 2 ^ (l - 0).toNat = m * 2 ^ (0 - l).toNat := by
    rw [show (l - 0).toNat = 0 by omega, show (0 - l).toNat = (-l).toNat by omega]; omega
  have hlt := kept_lt (mag := m) (kept := m * 2 ^ (-l).toNat) (place := 0) (last := l) (by omega) hk
  have hin : (l + 1074).toNat * 4503599627370496 + m * 2 ^ (-l).toNat < 9218868437227405312 := by
    have : (l + 1074).toNat * 4503599627370496 ≤ 1074 * 4503599627370496 := Nat.mul_le_mul_right _ (by omega)
    omega
  have hne := fun s => nearest_exact s m (m * 2 ^ (-l).toNat) 0 l (by omega) hlast hk hin
  refine ⟨(l + 1074).toNat * 4503599627370496 + m * 2 ^ (-l).toNat, m * 2 ^ (-l).toNat, l, fun s => (hne s).1, fun s => ?_, Nat.mul_pos (by omega) (Nat.two_pow_pos _), by omega, rfl, ?_, hin⟩
  · rw [← (hne s).1]; exact (hne s).2
  · have h := nearest_NB m 0 (by omega)
    rw [(hne false).1, d_word] at h
    have e0 : (0 : Int).toNat = 0 := rfl
    have e1 : (-(0 : Int)).toNat = 0 := rfl
    rw [e0, e1, Nat.pow_zero, Nat.mul_one] at h
    exact h

/-- Ten's powers as words. -/
def p10 (i : Nat) : Nat := [4607182418800017408, 4621819117588971520, 4636737291354636288, 4652007308841189376, 4666723172467343360, 4681608360884174848, 4696837146684686336, 4711630319722168320, 4726483295884279808, 4741671816366391296, 4756540486875873280, 4771362005757984768, 4786511204640096256, 4801453603149578240, 4816244402031689728, 4831355200913801216, 4846369599423283200, 4861130398305394688, 4876203697187506176, 4891288408196988160, 4906019910204099648, 4921056587992461136, 4936209963552724370].getD i 0
theorem p10_reads : ∀ i, i < 23 → (match double.read (p10 i) with | .number false n j => decide (0 < n ∧ n * 2 ^ j.toNat = 10 ^ i * 2 ^ (-j).toNat) | _ => false) = true := by decide +kernel
theorem p10_read {i : Nat} (h : i < 23) : ∃ n : Nat, ∃ j : Int, double.read (p10 i) = .number false n j ∧ 0 < n ∧ n * 2 ^ j.toNat = 10 ^ i * 2 ^ (-j).toNat := by
  have := p10_reads i h
  cases hr : double.read (p10 i) with
  | number s n j =>
    rw [hr] at this
    cases s with
    | false => simp only [decide_eq_true_eq] at this; exact ⟨n, j, rfl, this.1, this.2⟩
    | true => cases this
  | infinity s => rw [hr] at this; cases this
  | nan s n => rw [hr] at this; cases this

theorem two_mul_pow {m n T L A B J K : Nat} (h : A + K + L = B + J) (e : n * 2 ^ J = T * 2 ^ K) : m * 2 ^ L * n * 2 ^ A * 1 = m * T * 2 ^ B := by
  apply Nat.eq_of_mul_eq_mul_right (Nat.two_pow_pos J)
  have e1 : m * 2 ^ L * n * 2 ^ A * 1 * 2 ^ J = m * (n * 2 ^ J) * (2 ^ L * 2 ^ A) := by rw [Nat.mul_one]; ac_rfl
  have e2 : m * T * 2 ^ B * 2 ^ J = m * T * 2 ^ (B + J) := by rw [Nat.pow_add, Nat.mul_assoc (m * T)]
  rw [e1, e2, e, ← h, Nat.pow_add, Nat.pow_add]
  ac_rfl
theorem two_div_pow {m n T L A B J K : Nat} (h : A + L + J = B + K) (e : n * 2 ^ J = T * 2 ^ K) : m * 2 ^ L * 2 ^ A * T = m * (n * 2 ^ B) := by
  apply Nat.eq_of_mul_eq_mul_right (Nat.two_pow_pos K)
  have e1 : m * 2 ^ L * 2 ^ A * T * 2 ^ K = m * (T * 2 ^ K) * (2 ^ L * 2 ^ A) := by ac_rfl
  have e2 : m * (n * 2 ^ B) * 2 ^ K = m * n * 2 ^ (B + K) := by rw [Nat.pow_add]; ac_rfl
  rw [e1, e2, ← e, ← h, Nat.pow_add, Nat.pow_add]
  ac_rfl
/-- What lies in a slot: m's word of sign s. -/
def Exa (m : Nat) (s : Bool) (a : Nat) : Prop := ∃ x k : Nat, ∃ l : Int, a = double.word s x ∧ (∀ s, double.read (double.word s x) = .number s k l) ∧ 0 < k ∧ l ≤ 0 ∧ k = m * 2 ^ (-l).toNat
theorem exa_mul {m i a : Nat} {s : Bool} (h : Exa m s a) (hi : i < 23) : ∃ y, double.mul a (p10 i) = some (double.word s y) ∧ NB (m * 10 ^ i) 1 y := by
  obtain ⟨x, k, l, rfl, hr, hk, hl, e⟩ := h
  obtain ⟨n, j, hn, hn0, en⟩ := p10_read hi
  have hx : double.read x = .number false k l := by have := hr false; rwa [d_word] at this
  obtain ⟨w, h1, h2⟩ := mul_near x (p10 i) k n l j hx hn hk hn0
  refine ⟨w, ?_, ?_⟩
  · unfold Format.mul at h1 ⊢
    rw [hx, hn] at h1
    rw [hr s, hn]
    have h1' : double.nearest false (k * n) (l + j) = w := Option.some.inj h1
    show some (double.nearest (s ^^ false) (k * n) (l + j)) = _
    rw [Bool.xor_false, near_sign, h1']
  · refine NB_congr (Nat.two_pow_pos _) (by decide) ?_ h2
    subst e
    exact two_mul_pow (by omega) en
theorem exa_div {m i a : Nat} {s : Bool} (h : Exa m s a) (hi : i < 23) : ∃ y, double.div a (p10 i) = some (double.word s y) ∧ NB m (10 ^ i) y := by
  obtain ⟨x, k, l, rfl, hr, hk, hl, e⟩ := h
  obtain ⟨n, j, hn, hn0, en⟩ := p10_read hi
  have hx : double.read x = .number false k l := by have := hr false; rwa [d_word] at this
  obtain ⟨w, h1, h2⟩ := div_near x (p10 i) k n l j hx hn hk hn0
  refine ⟨w, ?_, ?_⟩
  · unfold Format.div at h1 ⊢
    rw [hx, hn] at h1
    rw [hr s, hn]
    unfold Datum.quotient at h1 ⊢
    simp only at h1 ⊢
    rw [if_neg (by omega)] at h1 ⊢
    simp only [Option.map_some, Option.some.injEq, Bool.xor_false] at h1 ⊢
    show double.nearest s _ _ = _
    rw [near_sign]
    congr 1
  · refine NB_congr (Nat.mul_pos hn0 (Nat.two_pow_pos _)) (Nat.pow_pos (by decide)) ?_ h2
    subst e
    exact two_div_pow (by omega) en

/-- Too great: the test says so. -/
theorem big_order (s : Bool) (y : Nat) (h1 : 4845873199050653696 ≤ y) (h2 : y ≤ 2047 * 2 ^ 52) :
    (s = false → double.order (double.word s y) 4831355200913801216 = some .gt) ∧ (s = true → double.order (double.word s y) 14054727237768577024 = some .lt) := by
  have r1 : double.read 4831355200913801216 = .number false 8000000000000000 (-3) := by decide +kernel
  have r2 : double.read 14054727237768577024 = .number true 8000000000000000 (-3) := by decide +kernel
  have ei : (2047 : Nat) * 2 ^ 52 = 9218868437227405312 := by decide
  rw [ei] at h2
  by_cases hy : y = 9218868437227405312
  · subst hy
    have ri : ∀ s, double.read (double.word s 9218868437227405312) = .infinity s := by decide +kernel
    unfold Format.order
    rw [ri, r1, r2]
    constructor <;> (intro h; subst h; rfl)
  · have hr := read_word s y (by omega)
    rw [if_neg (by omega)] at hr
    unfold Format.order
    rw [hr, r1, r2]
    obtain ⟨Y, hY⟩ : ∃ Y : Nat, y / 4503599627370496 = Y + 1076 := ⟨y / 4503599627370496 - 1076, by omega⟩
    have hb : min (-1074 + ((y / 4503599627370496 - 1 : Nat) : Int)) (-3) = -3 := by omega
    have e1 : (-1074 + ((y / 4503599627370496 - 1 : Nat) : Int) - -3).toNat = Y + 4 := by omega
    have e2 : ((-3 : Int) - -3).toNat = 0 := by decide
    have hp : 1 ≤ 2 ^ Y := Nat.one_le_two_pow
    have hbig : 8000000000000000 < (4503599627370496 + y % 4503599627370496) * 2 ^ (Y + 4) := by
      rw [Nat.pow_add]
      have : 4503599627370496 * (1 * 2 ^ 4) ≤ (4503599627370496 + y % 4503599627370496) * (2 ^ Y * 2 ^ 4) := Nat.mul_le_mul (by omega) (Nat.mul_le_mul hp (Nat.le_refl _))
      omega
    generalize (4503599627370496 + y % 4503599627370496) = M at *
    unfold Datum.order
    simp only [hb, e1, e2]
    unfold signed
    simp only [Nat.shiftLeft_eq, Nat.pow_zero, Nat.mul_one]
    generalize M * 2 ^ (Y + 4) = Z at *
    constructor
    · intro h; subst h
      simp only [Bool.false_eq_true, if_false, Option.some.injEq]
      rw [Int.compare_eq_gt]; omega
    · intro h; subst h
      simp only [if_true, Option.some.injEq]
      rw [Int.compare_eq_lt]; omega
/-- Before: it isn't so great that the product isn't exact. -/
theorem exa_twice {m i y : Nat} {s : Bool} (hm : 1 ≤ m) (hy : NB (m * 10 ^ i) 1 y) (h1 : ¬ (double.order (double.word s y) 4831355200913801216 = some .gt)) (h2 : ¬ (double.order (double.word s y) 14054727237768577024 = some .lt)) : Exa (m * 10 ^ i) s (double.word s y) := by
  have hpos : 1 ≤ m * 10 ^ i := Nat.mul_pos hm (Nat.pow_pos (by decide))
  have hlt : m * 10 ^ i < 2 ^ 53 := by
    refine Decidable.byContradiction fun hn => ?_
    obtain ⟨x, k, l, -, -, -, -, -, hx, -⟩ := exa_word (2 ^ 53 - 1) (by decide) (by decide)
    have h53 : NB (2 ^ 53) 1 4845873199050653696 := by
      have h := nearest_NB (2 ^ 53) 0 (by decide)
      have e0 : (0 : Int).toNat = 0 := rfl
      have e1 : (-(0 : Int)).toNat = 0 := rfl
      rw [e0, e1, Nat.pow_zero, Nat.mul_one, show double.nearest false (2 ^ 53) 0 = 4845873199050653696 by decide +kernel] at h
      exact h
    have g1 := NB_mono (by decide) (by decide) (show 2 ^ 53 * 1 ≤ m * 10 ^ i * 1 by omega) h53 hy
    have g2 := NB_le_inf (by decide) hy
    have g := big_order s y g1 g2
    cases s with
    | false => exact h1 (g.1 rfl)
    | true => exact h2 (g.2 rfl)
  obtain ⟨x, k, l, hn, hr, hk, hl, e, hx, -⟩ := exa_word (m * 10 ^ i) hpos hlt
  obtain rfl := NB_one (by decide) hx hy
  exact ⟨x, k, l, rfl, hr, hk, hl, e⟩
end Go.Proofs.YtcjeeoadgoghfaaGreatDoor.Usc

namespace Go.Proofs.YtcjeeoadgoghfaaGreatDoor.Usc
set_option linter.unusedVariables false
open Ieee Go.Proofs.YtcjeeoadgoghfaaGreatDoor.FloatMath Go.Proofs.YtcjeeoadgoghfaaGreatDoor.Deci

def vm (x : Nat) : Nat := if x < 4503599627370496 then x else 4503599627370496 + x % 4503599627370496
def vp (x : Nat) : Nat := if x < 4503599627370496 then 0 else x / 4503599627370496 - 1
theorem read_fin (s : Bool) {x : Nat} (h : x < 9218868437227405312) : double.read (double.word s x) = .number s (vm x) (-1074 + (vp x : Int)) := by
  rw [read_word s x h]
  unfold vm vp
  by_cases hx : x < 4503599627370496
  · rw [if_pos hx, if_pos hx, if_pos hx]; rfl
  · rw [if_neg hx, if_neg hx, if_neg hx]
theorem read_inf : ∀ s, double.read (double.word s 9218868437227405312) = .infinity s := by decide +kernel
theorem vm_one {x y : Nat} (h : vm x * 2 ^ (vp x - min (vp x) (vp y)) = vm y * 2 ^ (vp y - min (vp x) (vp y))) : x = y := by
  have low : ∀ {x y : Nat}, vm x = vm y * 2 ^ (vp y - vp x) → vp x ≤ vp y → vp x = vp y := by
    intro x y h hle
    refine Decidable.byContradiction fun hne => ?_
    have h1 : vm x < 9007199254740992 := by unfold vm; split <;> omega
    have h2 : 4503599627370496 ≤ vm y := by
      have : ¬ y < 4503599627370496 := by intro hy; unfold vp at hne hle; rw [if_pos hy] at hne hle; omega
      unfold vm; rw [if_neg this]; omega
    have h3 : 2 ^ 1 ≤ 2 ^ (vp y - vp x) := Nat.pow_le_pow_right (by decide) (by omega)
    have h4 := Nat.mul_le_mul h2 h3
    omega
  have hp : vp x = vp y := by
    rcases Nat.le_total (vp x) (vp y) with hle | hle
    · rw [Nat.min_eq_left hle, Nat.sub_self, Nat.pow_zero, Nat.mul_one] at h
      exact low h hle
    · rw [Nat.min_eq_right hle, Nat.sub_self, Nat.pow_zero, Nat.mul_one] at h
      exact (low h.symm hle).symm
  rw [hp, Nat.min_self, Nat.sub_self, Nat.pow_zero, Nat.mul_one, Nat.mul_one] at h
  unfold vm at h
  unfold vp at hp
  by_cases hx : x < 4503599627370496 <;> by_cases hy : y < 4503599627370496
  · rwa [if_pos hx, if_pos hy] at h
  · rw [if_pos hx, if_neg hy] at h; omega
  · rw [if_neg hx, if_pos hy] at h; omega
  · rw [if_neg hx, if_neg hy] at h hp; omega
/-- Words of one sign, none of them a NaN: they stand alike just where they are one word. -/
theorem ord_word (s : Bool) {x y : Nat} (hx : x ≤ 2047 * 2 ^ 52) (hy : y ≤ 2047 * 2 ^ 52) : (double.order (double.word s x) (double.word s y) == some .eq) = decide (x = y) := by
  have ei : (2047 : Nat) * 2 ^ 52 = 9218868437227405312 := by decide
  rw [ei] at hx hy
  unfold Format.order
  by_cases hxi : x = 9218868437227405312 <;> by_cases hyi : y = 9218868437227405312
  · subst hxi; subst hyi
    rw [read_inf]
    cases s <;> decide
  · subst hxi
    rw [read_inf, read_fin s (by omega)]
    rw [decide_eq_false (fun h => hyi h.symm)]
    cases s <;> rfl
  · subst hyi
    rw [read_inf, read_fin s (by omega)]
    rw [decide_eq_false hxi]
    cases s <;> rfl
  · rw [read_fin s (by omega), read_fin s (by omega)]
    unfold Datum.order
    have e1 : (-1074 + (vp x : Int) - min (-1074 + (vp x : Int)) (-1074 + (vp y : Int))).toNat = vp x - min (vp x) (vp y) := by omega
    have e2 : (-1074 + (vp y : Int) - min (-1074 + (vp x : Int)) (-1074 + (vp y : Int))).toNat = vp y - min (vp x) (vp y) := by omega
    simp only [e1, e2]
    have hone := fun h => vm_one (x := x) (y := y) h
    unfold signed
    simp only [Nat.shiftLeft_eq]
    by_cases he : x = y
    · subst he
      rw [decide_eq_true rfl]
      cases s <;> simp
    · rw [decide_eq_false he]
      generalize vm x * 2 ^ (vp x - min (vp x) (vp y)) = X at *
      generalize vm y * 2 ^ (vp y - min (vp x) (vp y)) = Y at *
      have hXY : X ≠ Y := fun h => he (hone h)
      rw [beq_eq_false_iff_ne]
      intro h
      have h2 := Option.some.inj h
      cases s
      · simp only [Bool.false_eq_true, if_false] at h2
        rw [Int.compare_eq_eq] at h2; omega
      · simp only [if_true] at h2
        rw [Int.compare_eq_eq] at h2; omega

/-- The power of ten that a text says, its digits' value e. -/
def dpt (en : Bool) (e : Nat) : Int := 1 + (if en then -(e : Int) else (e : Int))
theorem cap_exp {d : Nat} {ds es : List Nat} {en : Bool} {x : Nat} (hd : Digs (d :: ds)) (h1 : 1 ≤ d) (hn : (d :: ds).length ≤ 700)
    (h : NB (tenN (val (d :: ds)) (dpt en (expL es) - ((d :: ds).length : Int))) (tenD (dpt en (expL es) - ((d :: ds).length : Int))) x) : NB (tenN (val (d :: ds)) (dpt en (val es) - ((d :: ds).length : Int))) (tenD (dpt en (val es) - ((d :: ds).length : Int))) x := by
  rcases expL_same es with e | ⟨e1, e2⟩
  · rwa [e] at h
  · have hm : 1 ≤ manL (d :: ds) := man_pos h1
    generalize d :: ds = L at *
    have hc : cntL L ≤ 19 := Nat.min_le_left _ _
    have hc2 : cntL L ≤ L.length := Nat.min_le_right _ _
    unfold dpt at h ⊢
    cases en with
    | false =>
      simp only [Bool.false_eq_true, if_false] at h ⊢
      have g1 := at_inf (L := L) (q := 1 + (expL es : Int) - (L.length : Int)) hm rfl (by omega)
      have g2 := at_inf (L := L) (q := 1 + (val es : Int) - (L.length : Int)) hm rfl (by omega)
      rw [NB_one (tenD_pos _) h g1]; exact g2
    | true =>
      simp only [if_true] at h ⊢
      have g1 := at_zero (L := L) (q := 1 + -(expL es : Int) - (L.length : Int)) hd rfl (by omega)
      have g2 := at_zero (L := L) (q := 1 + -(val es : Int) - (L.length : Int)) hd rfl (by omega)
      rw [NB_one (tenD_pos _) h g1]; exact g2
theorem pow_split (b x y m e : Nat) (h1 : b ^ x ≤ m) (h2 : 1 ≤ b) (h3 : y ≤ e) : b ^ (x + y) ≤ m * b ^ e := by
  rw [Nat.pow_add]; exact Nat.mul_le_mul h1 (Nat.pow_le_pow_right h2 h3)
/-- The slow way is taken of no very great number. -/
theorem slow_top {d : Nat} {ds : List Nat} {p D : Int} {x y : Nat} (h1 : 1 ≤ d) (hn : 20 ≤ (d :: ds).length) (hp : p = D - 19) (hx : NB (tenN (manL (d :: ds)) p) (tenD p) x) (hy : NB (tenN (manL (d :: ds) + 1) p) (tenD p) y) (hne : x ≠ y) : D ≤ 310 := by
  refine Decidable.byContradiction fun hD => hne ?_
  have hm : 10 ^ 18 ≤ manL (d :: ds) := by
    rw [manL, List.take_succ_cons]
    refine Nat.le_trans ?_ (val_ge d _ h1)
    refine Nat.pow_le_pow_right (by decide) ?_
    rw [List.length_take]
    simp only [List.length_cons] at hn
    omega
  have hbig : ∀ m, 10 ^ 18 ≤ m → NB (tenN m p) (tenD p) (2047 * 2 ^ 52) := by
    intro m hm
    obtain ⟨T, hT⟩ : ∃ T : Nat, T = 2 ^ 1024 := ⟨_, rfl⟩
    have h310 : T ≤ 10 ^ (18 + 292) := by rw [hT]; decide +kernel
    refine NB_top hT (tenD_pos p) ?_
    have e1 : tenD p = 1 := by unfold tenD; rw [show (-p).toNat = 0 by omega]
    rw [e1, Nat.mul_one]
    unfold tenN
    refine Nat.le_trans h310 ?_
    exact pow_split 10 18 292 m p.toNat hm (by decide) (by omega)
  exact (NB_one (tenD_pos p) hx (hbig _ hm)).trans (NB_one (tenD_pos p) hy (hbig _ (by omega))).symm
end Go.Proofs.YtcjeeoadgoghfaaGreatDoor.Usc

namespace Go.Proofs.YtcjeeoadgoghfaaGreatDoor
set_option linter.unusedVariables false
open Go.ChangeShapes Go.WideShapes Go.ChangeAt Go.RowKit

theorem ret_int {k : IntKind} {a b : Int} (h : a = b) : Ending.returned (.int k a) = .returned (.int k b) := by rw [h]
theorem ret_bool {a b : Bool} (h : a = b) : Ending.returned (.bool a) = .returned (.bool b) := by rw [h]
theorem ret_str {a b : List UInt8} (h : a = b) : Ending.returned (.string ⟨a.toArray⟩) = .returned (.string ⟨b.toArray⟩) := by rw [h]

theorem extract_list (s : ByteArray) (a b : Nat) : s.extract a b = ⟨((s.data.toList.take b).drop a).toArray⟩ := by
  apply ByteArray.ext
  apply Array.toList_inj.1
  simp [ByteArray.data_extract, Array.toList_extract, List.extract_eq_take_drop, List.drop_take]

/-- The text of some bytes. -/
theorem str_eta (s : ByteArray) : (⟨s.data.toList.toArray⟩ : ByteArray) = s := by
  apply ByteArray.ext
  simp

theorem app_list (a b : List UInt8) : (⟨a.toArray⟩ ++ ⟨b.toArray⟩ : ByteArray) = ⟨(a ++ b).toArray⟩ := by
  apply ByteArray.ext
  apply Array.toList_inj.1
  simp
theorem get_list (s : ByteArray) (k : Nat) (h : k < s.size) : s.data.toList[k]? = some s[k] := by
  rw [List.getElem?_eq_getElem (by simpa using h)]
  rfl
theorem len_list (s : ByteArray) : s.data.toList.length = s.size := by simp
theorem take_snoc (s : ByteArray) (k : Nat) (h : k < s.size) : s.data.toList.take (k + 1) = s.data.toList.take k ++ [s[k]] := by
  rw [List.take_succ_eq_append_getElem (by simpa using h)]; rfl

def bV (b : UInt8) : Value := .int .u8 (b.toNat : Int)

/-- v is a slice of bytes of the call's own (from block B on): the bytes l. -/
def OwnB (w : World) (B : Nat) (e : TypeId) (v : Value) (l : List UInt8) : Prop := w.ownsRow B e 1 v l.length (l.map bV)

theorem OwnB.nil (w : World) (B : Nat) (e : TypeId) : OwnB w B e (.slice none 0 0) [] := World.ownsRow_nil _ _ _ _

theorem OwnB.alloc {w : World} {B : Nat} {e : TypeId} {v : Value} {l : List UInt8} (h : OwnB w B e v l) (o : Obj) : OwnB (w.alloc o) B e v l := World.ownsRow.alloc h o

theorem OwnB.drew {w : World} {B : Nat} {e : TypeId} {v : Value} {l : List UInt8} (h : OwnB w B e v l) : OwnB w.drew B e v l := h

theorem OwnB.mono {w : World} {B B' : Nat} {e : TypeId} {v : Value} {l : List UInt8} (h : OwnB w B e v l) (hb : B' ≤ B) : OwnB w B' e v l :=
  ⟨h.1, h.2.elim Or.inl (fun ⟨g, cap, cur, hv, hg, r⟩ => Or.inr ⟨g, cap, cur, hv, Nat.le_trans hb hg, r⟩)⟩

/-- What is owned below some block stays so where only blocks from there on are new or written. -/
theorem OwnB.below {w w' : World} {B : Nat} {e : TypeId} {v : Value} {l : List UInt8} (h : OwnB w B e v l) (hb : Below w.heap.size w w') : OwnB w' B e v l := by
  refine ⟨h.1, h.2.elim Or.inl (fun ⟨g, cap, cur, hv, hg, hh, r⟩ => Or.inr ⟨g, cap, cur, hv, hg, ?_, r⟩)⟩
  rw [hb.block g (by exact (Array.getElem?_eq_some_iff.1 hh).1)]
  exact hh

theorem OwnB.forms {w : World} {B : Nat} {e : TypeId} {v : Value} {l : List UInt8} (h : OwnB w B e v l) : (v = .slice none 0 0 ∧ l = []) ∨ ∃ g cap, v = .slice (some ⟨g, 0, none⟩) l.length cap := by
  rcases h.2 with ⟨h0, h1⟩ | ⟨g, cap, _, hv, _⟩
  · exact Or.inl ⟨h0, List.eq_nil_of_length_eq_zero h1⟩
  · exact Or.inr ⟨g, cap, hv⟩

/-- 'string(b)'. -/
theorem OwnB.str {P : Program} {w : World} {B : Nat} {e : TypeId} {v : Value} {l : List UInt8} (h : OwnB w B e v l) (src dst : TypeId) (hs : P.underlying src = some (.slice e)) (he : P.underlying e = some (.int .u8)) (hd : P.underlying dst = some .string) :
    (convert src dst v).run P w = .ok (.string ⟨l.toArray⟩) w := by
  rcases h.2 with ⟨h0, h1⟩ | ⟨g, cap, cur, hv, hg, hh, hn, hm, hc, ht⟩
  · obtain rfl : l = [] := List.eq_nil_of_length_eq_zero h1
    subst h0
    rw [run_convert_bytes_string w src dst e _ _ _ hs he hd]
    rfl
  · subst hv
    refine run_convert_bytes_back w src dst e _ _ l hs he hd ?_
    intro j hj
    have hx := World.ownsRow.cells h (g := g) rfl j (bV l[j]) (by rw [List.getElem?_map, List.getElem?_eq_getElem hj]; rfl)
    exact hx

theorem OwnB.len {P : Program} {w : World} {B : Nat} {e : TypeId} {v : Value} {l : List UInt8} (h : OwnB w B e v l) (t ty : TypeId) (ht : P.underlying t = some (.slice (P.elem t))) :
    (Builtin.len_ #[t] ty #[v]).run P w = .ok (goInt l.length) w := by
  rcases h.forms with ⟨rfl, rfl⟩ | ⟨g, cap, rfl⟩
  · exact run_len_slice w t ty none 0 0 ht
  · exact run_len_slice w t ty _ _ _ ht

/-- 'append(b, c)': the byte lies in a new block of its own. -/
theorem wpList_app1 {P : Program} (w : World) {ops : Array Oper} {rest : List Oper} {o : Oper} {a : Act} {Q : Exit → Act → World → Prop} (hgd : o.guard = none) (s x : Operand) (t : TypeId)
    (ho : o.op = .call { callee := .builtin .append, args := #[s, x], argTypes := #[t, t] })
    (B : Nat) (e : TypeId) (ht : P.underlying t = some (.slice e)) (hinf : (P.info? e).map (fun i => (i.zero, i.size, i.bytes)) = some (some (.int .u8 0), 1, 1))
    (v : Value) (l : List UInt8) (hs : a.eval s = v) (hown : OwnB w B e v l) (n : Int)
    (hx : a.eval x = .slice (some ⟨w.heap.size, 0, none⟩) 1 1) (b : UInt8) (hn : n = (b.toNat : Int)) (hl : l.length + 1 ≤ 140737488355328) (hB : B ≤ w.heap.size)
    (h : ∀ v' w', OwnB w' B e v' (l ++ [b]) → Below B w w' → wpList P ops Q rest (a.put o.dst v') w') :
    wpList P ops Q (o :: rest) a (w.alloc (.cells #[.int .u8 n] e)) := by
  obtain ⟨i0, hi, hz0, hz1, hz2⟩ := info_parts hinf
  subst hn
  refine wpList_append_own _ hgd s x t ho B e i0 (.int .u8 0) 1 1 ht hi hz0 hz1 hz2 rfl (by decide) v _ _ hs (World.ownsRow.alloc hown _) ⟨w.heap.size, 0, none⟩ 1 1 [bV b] hx rfl (cell_one_new _ _ _) (fun u hu => by simp at hu; subst hu; rfl) (by unfold maxLen; omega) (by omega) (by simp; omega) ?_
  intro v' w' hown' hg _
  refine h v' w' ?_ ?_
  · have e2 : l.length + 1 = (l ++ [b]).length := by simp
    have e3 : l.map bV ++ [bV b] = (l ++ [b]).map bV := by simp
    unfold OwnB
    rw [← e2, ← e3]
    exact hown'
  · exact ((Below.refl _ _).alloc hB _).grown hg (by simp; omega) (fun q hq => ((World.ownsRow.lt hown) q hq).1)

/-- 'append(b, c0, c1, ..)': the bytes lie in a new block of their own. -/
theorem wpList_appN {P : Program} (w : World) {ops : Array Oper} {rest : List Oper} {o : Oper} {a : Act} {Q : Exit → Act → World → Prop} (hgd : o.guard = none) (s x : Operand) (t : TypeId)
    (ho : o.op = .call { callee := .builtin .append, args := #[s, x], argTypes := #[t, t] })
    (B : Nat) (e : TypeId) (ht : P.underlying t = some (.slice e)) (hinf : (P.info? e).map (fun i => (i.zero, i.size, i.bytes)) = some (some (.int .u8 0), 1, 1))
    (v : Value) (l : List UInt8) (hs : a.eval s = v) (hown : OwnB w B e v l) (C : Array Value) (news : List UInt8) (hC : C = (news.map bV).toArray) (N : Nat) (hN : N = news.length)
    (hx : a.eval x = .slice (some ⟨w.heap.size, 0, none⟩) N N) (hl : l.length + news.length ≤ 140737488355328) (hB : B ≤ w.heap.size)
    (h : ∀ v' w', OwnB w' B e v' (l ++ news) → Below B w w' → wpList P ops Q rest (a.put o.dst v') w') :
    wpList P ops Q (o :: rest) a (w.alloc (.cells C e)) := by
  obtain ⟨i0, hi, hz0, hz1, hz2⟩ := info_parts hinf
  subst hC hN
  refine wpList_append_own _ hgd s x t ho B e i0 (.int .u8 0) 1 1 ht hi hz0 hz1 hz2 rfl (by decide) v _ _ hs (World.ownsRow.alloc hown _) ⟨w.heap.size, 0, none⟩ news.length news.length (news.map bV) hx (by simp) ?_ (fun u hu => by obtain ⟨b, _, rfl⟩ := List.mem_map.1 hu; rfl) (by unfold maxLen; omega) (by omega) (by simp; omega) ?_
  · intro j u hj
    rw [Addr.add_lit, Nat.zero_add]
    simp only [World.cell?, heap_alloc_new]
    simpa using hj
  · intro v' w' hown' hg _
    refine h v' w' ?_ ?_
    · have e2 : l.length + news.length = (l ++ news).length := by simp
      have e3 : l.map bV ++ news.map bV = (l ++ news).map bV := by simp
      unfold OwnB
      rw [← e2, ← e3]
      exact hown'
    · exact ((Below.refl _ _).alloc hB _).grown hg (by simp; omega) (fun q hq => ((World.ownsRow.lt hown) q hq).1)

theorem strCells_bV (s : ByteArray) : Lib.strCells s = s.data.toList.map bV := rfl

/-- 'append(b, s...)' of a string. -/
theorem wpList_appS {P : Program} (w : World) {ops : Array Oper} {rest : List Oper} {o : Oper} {a : Act} {Q : Exit → Act → World → Prop} (hgd : o.guard = none) (s x : Operand) (t u : TypeId)
    (ho : o.op = .call { callee := .builtin .append, args := #[s, x], argTypes := #[t, u] })
    (B : Nat) (e : TypeId) (ht : P.underlying t = some (.slice e)) (hu : P.underlying u = some .string) (hinf : (P.info? e).map (fun i => (i.zero, i.size, i.bytes)) = some (some (.int .u8 0), 1, 1))
    (v : Value) (l : List UInt8) (hs : a.eval s = v) (hown : OwnB w B e v l) (str : ByteArray) (news : List UInt8) (hx : a.eval x = .string str) (hnews : str.data.toList = news)
    (hl : l.length + news.length ≤ 140737488355328) (hB : B ≤ w.heap.size)
    (h : ∀ v' w', OwnB w' B e v' (l ++ news) → Below B w w' → wpList P ops Q rest (a.put o.dst v') w') :
    wpList P ops Q (o :: rest) a w := by
  obtain ⟨i0, hi, hz0, hz1, hz2⟩ := info_parts hinf
  subst hnews
  have hsz : str.data.toList.length = str.size := by simp
  refine Lib.wpList_append_own_string w hgd s x t u ho B e i0 ht hu hi hz0 hz1 hz2 v _ _ hs hown str hx (by unfold maxLen; omega) (by omega) hB ?_
  intro v' w' hown' hg _
  refine h v' w' ?_ ?_
  · unfold OwnB
    rw [List.length_append, List.map_append, hsz]
    exact hown'
  · exact (Below.refl _ _).grown hg hB (fun q hq => ((World.ownsRow.lt hown) q hq).1)

/-- 'string([]byte{..})' of bytes that were just laid. -/
theorem str_lit {P : Program} (w : World) (C : Array Value) (news : List UInt8) (hC : C = (news.map bV).toArray) (N : Nat) (hN : N = news.length) (src dst e : TypeId) (hs : P.underlying src = some (.slice e)) (he : P.underlying e = some (.int .u8)) (hd : P.underlying dst = some .string) :
    (convert src dst (.slice (some ⟨w.heap.size, 0, none⟩) N N)).run P (w.alloc (.cells C e)) = .ok (.string ⟨news.toArray⟩) (w.alloc (.cells C e)) := by
  subst hC hN
  refine run_convert_bytes_back _ src dst e _ _ news hs he hd ?_
  intro j hj
  rw [Addr.add_lit, Nat.zero_add]
  simp only [World.cell?, heap_alloc_new]
  rw [List.getElem?_toArray, List.getElem?_map, List.getElem?_eq_getElem hj]
  rfl

theorem OwnB.iterAt {w : World} {B : Nat} {e : TypeId} {v : Value} {l : List UInt8} (h : OwnB w B e v l) {k : Nat} (hk : k < B) (s : ByteArray) (pos : Nat) : OwnB (w.iterAt k s pos) B e v l := by
  refine ⟨h.1, h.2.elim Or.inl (fun ⟨g, cap, cur, hv, hg, hh, r⟩ => Or.inr ⟨g, cap, cur, hv, hg, ?_, r⟩)⟩
  rw [Lib.iterAt_other _ _ _ _ _ (by omega)]
  exact hh

/-- Block g holds the bytes l at its head; no cell of it is frozen. -/
def RowB (w : World) (g : Nat) (e : TypeId) (l : List UInt8) : Prop :=
  ∃ (C : Array Value) (N : Nat), w.heap[g]? = some (.cells C e (N, N + 1)) ∧ C.size = N ∧ l.length ≤ N ∧ ∀ j (h : j < l.length), C[j]? = some (bV l[j])

theorem RowB.cell {w : World} {g : Nat} {e : TypeId} {l : List UInt8} (h : RowB w g e l) {j : Nat} {c : UInt8} (hj : l[j]? = some c) : w.cell? ⟨g, j, none⟩ = some (.int .u8 (c.toNat : Int)) := by
  obtain ⟨C, N, hh, _, _, hc⟩ := h
  obtain ⟨h1, rfl⟩ := List.getElem?_eq_some_iff.1 hj
  simp only [World.cell?, hh]
  exact hc j h1

theorem RowB.free {w : World} {g : Nat} {e : TypeId} {l : List UInt8} (h : RowB w g e l) {j : Nat} {c : UInt8} (hj : l[j]? = some c) : w.frozen? ⟨g, j, none⟩ = false := by
  obtain ⟨C, N, hh, hN, hl, _⟩ := h
  obtain ⟨h1, rfl⟩ := List.getElem?_eq_some_iff.1 hj
  simp only [World.frozen?, hh, Bool.and_eq_false_iff, decide_eq_false_iff_not]
  left
  omega

theorem RowB.set {w : World} {g : Nat} {e : TypeId} {l : List UInt8} (h : RowB w g e l) (j : Nat) (hj : j < l.length) (n : Int) (b : UInt8) (hn : n = (b.toNat : Int)) : RowB (w.setCell ⟨g, j, none⟩ (.int .u8 n)) g e (l.set j b) := by
  subst hn
  obtain ⟨C, N, hh, hN, hl, hc⟩ := h
  refine ⟨C.setIfInBounds j (bV b), N, ?_, by simpa using hN, by simpa using hl, ?_⟩
  · rw [setCell_eq_setRow w g j C e (N, N + 1) _ hh]
    exact setRow_heap w g _ _ e _ hh
  · intro i hi
    simp only [List.length_set] at hi
    rw [Array.getElem?_setIfInBounds, List.getElem_set]
    by_cases hij : j = i
    · subst hij
      rw [if_pos rfl, if_pos (by omega), if_pos rfl]
    · rw [if_neg hij, if_neg hij]
      exact hc i hi

theorem RowB.str {P : Program} {w : World} {g : Nat} {e : TypeId} {l : List UInt8} (h : RowB w g e l) (n : Nat) (hn : n = l.length) (cap : Nat) (src dst : TypeId) (hs : P.underlying src = some (.slice e)) (he : P.underlying e = some (.int .u8)) (hd : P.underlying dst = some .string) :
    (convert src dst (.slice (some ⟨g, 0, none⟩) n cap)).run P w = .ok (.string ⟨l.toArray⟩) w := by
  subst hn
  refine run_convert_bytes_back w src dst e _ _ l hs he hd ?_
  intro j hj
  rw [Addr.add_lit, Nat.zero_add]
  exact h.cell (List.getElem?_eq_getElem hj)

/-- '[]byte(s)'. -/
theorem RowB.made (w : World) (s : ByteArray) (e : TypeId) (cap : Nat) : RowB (w.drew.alloc (.cells (bytesRow s cap) e ((bytesRow s cap).size, (bytesRow s cap).size + 1))) w.heap.size e s.data.toList := by
  refine ⟨bytesRow s cap, _, ?_, rfl, by simp [bytesRow], ?_⟩
  · exact heap_alloc_new w.drew _
  · intro j hj
    have hj' : j < s.size := by simpa using hj
    have hj2 : j < s.data.size := by simpa using hj
    unfold bytesRow
    rw [Array.getElem?_append_left (by simpa using hj2), Array.getElem?_map, Array.getElem?_eq_getElem hj2]
    simp [bV]
end Go.Proofs.YtcjeeoadgoghfaaGreatDoor

namespace Go.Proofs.YtcjeeoadgoghfaaGreatDoor.Deci
set_option linter.unusedVariables false set_option linter.unusedSimpArgs false

theorem trimD_head {c : Nat} (h : c ≠ 0) (s : List Nat) : ∃ s', trimD (c :: s) = c :: s' := by
  obtain ⟨k, h1, _⟩ := trimD_spec (c :: s)
  cases ht : trimD (c :: s) with
  | nil =>
    rw [ht] at h1
    cases k with
    | zero => simp at h1
    | succ k =>
      rw [List.replicate_succ] at h1
      simp at h1
      exact absurd h1.1 h
  | cons d t =>
    rw [ht] at h1
    simp at h1
    exact ⟨t, by rw [h1.1]⟩
/-- A number for how great digits with a point are. -/
def ms (l : List Nat) (p : Int) : Int := 10 * p + (l.headD 0 : Nat)
theorem hlf_less {l : List Nat} (hd : Digs l) (hl : Led l) (hne : l ≠ []) (p : Int) : trimD (hlfL l) ≠ [] ∧ ms (trimD (hlfL l)) (hlfP l p) < ms l p ∧ (hlfP l p = p ∨ hlfP l p = p - 1) := by
  cases l with
  | nil => exact absurd rfl hne
  | cons d t =>
    have h0 := hl d t rfl
    have h9 := hd d (List.mem_cons_self ..)
    have hR : hlfR (d :: t) = d / 2 :: (if 0 < rem (d % 2) t then hlf (d % 2) t ++ [5] else hlf (d % 2) t) := by
      unfold hlfR
      show (if 0 < rem ((10 * 0 + d) % 2) t then ((10 * 0 + d) / 2 :: hlf ((10 * 0 + d) % 2) t) ++ [5] else (10 * 0 + d) / 2 :: hlf ((10 * 0 + d) % 2) t) = _
      rw [Nat.mul_zero, Nat.zero_add]
      split <;> rfl
    by_cases h2 : 2 ≤ d
    · have hL : hlfL (d :: t) = hlfR (d :: t) ∧ hlfP (d :: t) p = p := by
        unfold hlfL hlfP
        rw [hR]
        have hq : d / 2 ≠ 0 := by omega
        constructor
        · split
          · rename_i u e
            simp at e
            omega
          · rfl
        · split
          · rename_i u e
            simp at e
            omega
          · rfl
      rw [hL.1, hL.2, hR]
      obtain ⟨s', hs⟩ := trimD_head (show d / 2 ≠ 0 by omega) (if 0 < rem (d % 2) t then hlf (d % 2) t ++ [5] else hlf (d % 2) t)
      rw [hs]
      exact ⟨by simp, by show 10 * p + ((d / 2 : Nat) : Int) < 10 * p + (d : Int); omega, Or.inl rfl⟩
    · obtain rfl : d = 1 := by omega
      have hX : ∃ c s, (if 0 < rem (1 % 2) t then hlf (1 % 2) t ++ [5] else hlf (1 % 2) t) = c :: s ∧ 5 ≤ c ∧ c ≤ 9 := by
        cases t with
        | nil => exact ⟨5, [], rfl, by omega, by omega⟩
        | cons c s =>
          have hc := hd c (by simp)
          have e : hlf (1 % 2) (c :: s) = (10 * 1 + c) / 2 :: hlf ((10 * 1 + c) % 2) s := rfl
          rw [e]
          split
          · exact ⟨_, _, rfl, by omega, by omega⟩
          · exact ⟨_, _, rfl, by omega, by omega⟩
      obtain ⟨c, s, hX, h5, hc9⟩ := hX
      have hL : hlfL (1 :: t) = c :: s ∧ hlfP (1 :: t) p = p - 1 := by
        unfold hlfL hlfP
        rw [hR, hX]
        exact ⟨rfl, rfl⟩
      rw [hL.1, hL.2]
      obtain ⟨s', hs⟩ := trimD_head (show c ≠ 0 by omega) s
      rw [hs]
      exact ⟨by simp, by show 10 * (p - 1) + (c : Int) < 10 * p + ((1 : Nat) : Int); omega, Or.inr rfl⟩
theorem digs53 : trimD (digs 9007199254740992) = digs 9007199254740992 ∧ (digs 9007199254740992).length = 16 ∧ trimD (digs 4503599627370496) = digs 4503599627370496 ∧ (digs 4503599627370496).length = 16 := by decide +kernel
end Go.Proofs.YtcjeeoadgoghfaaGreatDoor.Deci

namespace Go.Proofs.YtcjeeoadgoghfaaGreatDoor.Usc
set_option linter.unusedVariables false

theorem usc_small (d b i hi lo : Nat) (hi6 : i < 696) (hb1 : 1 ≤ b) (hb64 : b ≤ 64) (hd1 : 2 ^ (b - 1) ≤ d) (hd2 : d < 2 ^ b) (hlo : lo < 2 ^ 64)
    (hN2 : numP i + lo * denP i ≤ hi * 2 ^ 64 * denP i) (hN1 : hi * 2 ^ 64 * denP i < numP i + lo * denP i + denP i)
    (f : Int) (hf : (if 53 - (b : Int) - lpOf ((i : Int) - 348) < 1074 then 53 - (b : Int) - lpOf ((i : Int) - 348) else 1074) = f) (s : Nat) (hs : (61 - (b : Int) - lpOf ((i : Int) - 348) - f).toNat = s) :
    8 ≤ s ∧ 61 - (b : Int) - lpOf ((i : Int) - 348) - f = s ∧ usc (d * 2 ^ (64 - b)) hi lo s ≤ 2 ^ 56 - 7 := by
  have hv := valD_pos i
  have hD := denP_pos i
  have hx1 : 2 ^ 63 ≤ d * 2 ^ (64 - b) := by
    have e : (2 : Nat) ^ 63 = 2 ^ (b - 1) * 2 ^ (64 - b) := by rw [← Nat.pow_add]; congr 1; omega
    rw [e]
    exact Nat.mul_le_mul_right _ hd1
  have hx2 : d * 2 ^ (64 - b) < 2 ^ 64 := by
    have e : (2 : Nat) ^ 64 = 2 ^ b * 2 ^ (64 - b) := by rw [← Nat.pow_add]; congr 1; omega
    rw [e]
    exact Nat.mul_lt_mul_of_pos_right hd2 (Nat.pow_pos (by omega))
  obtain ⟨bn1, bn2⟩ := bnd hi6
  have rat := ratio d i (64 - b)
  generalize hl : lpOf ((i : Int) - 348) = l at *
  have hf2 : f = 53 - (b : Int) - l ∧ f < 1074 ∨ f = 1074 ∧ 1074 ≤ 53 - (b : Int) - l := by
    rw [← hf]
    split <;> omega
  have hs8 : 8 ≤ s := by omega
  have hsf : (f < 1074 ∧ s = 8) ∨ f = 1074 := by omega
  have R := rat (s + 130) f (by omega)
  obtain ⟨A, hA⟩ : ∃ A, numF f (valN d i) = A := ⟨_, rfl⟩
  obtain ⟨B, hB⟩ : ∃ B, denF f (valD i) = B := ⟨_, rfl⟩
  have hB0 : 0 < B := by rw [← hB]; exact denF_pos f hv
  rw [hA, hB] at R
  generalize d * 2 ^ (64 - b) = x at *
  have upper := lin_up hD R.symm (Nat.le_of_lt hx2) bn2
  rw [Nat.pow_add] at upper
  refine ⟨hs8, by omega, ?_⟩
  have hu : usc x hi lo s = unr (4 * A) B := by
    rw [usc_right x hi lo s (numP i) (denP i) hx2 (by omega) hlo hD hN2 hN1 (fun k h1 h2 => row_none hi6 s hs8 hx1 hx2 k h1 h2)]
    apply unr_ratio (Nat.mul_pos (Nat.mul_pos (by decide) (Nat.mul_pos (by decide) hD)) (Nat.pow_pos (by decide))) hB0
    rw [R, Nat.pow_add]
    have e : (2 : Nat) ^ 130 = 4 * (2 ^ 64 * 2 ^ 64) := by decide
    rw [e]
    ac_rfl
  have p8 : 2 ^ 8 ≤ 2 ^ s := Nat.pow_le_pow_right (by omega) hs8
  have t : A * (2 ^ 8 * 2 ^ 130) ≤ A * (2 ^ s * 2 ^ 130) := Nat.mul_le_mul_left _ (Nat.mul_le_mul_right _ p8)
  have t2 := Nat.le_trans t upper
  have h54 : A ≤ (2 ^ 54 - 2) * B := by omega
  rw [hu]
  have hq : 4 * A / B ≤ 4 * (2 ^ 54 - 2) := by
    apply (Nat.div_le_iff_le_mul_add_pred hB0).2
    have : B * (4 * (2 ^ 54 - 2)) = 4 * ((2 ^ 54 - 2) * B) := by ac_rfl
    omega
  unfold unr orb
  split
  · split <;> omega
  · omega
theorem usc_table (d b i : Nat) (hi6 : i < 696) (hb1 : 1 ≤ b) (hb64 : b ≤ 64) (hd1 : 2 ^ (b - 1) ≤ d) (hd2 : d < 2 ^ b)
    (f : Int) (hf : (if 53 - (b : Int) - lpOf ((i : Int) - 348) < 1074 then 53 - (b : Int) - lpOf ((i : Int) - 348) else 1074) = f) (s : Nat) (hs : (61 - (b : Int) - lpOf ((i : Int) - 348) - f).toNat = s) :
    8 ≤ s ∧ 61 - (b : Int) - lpOf ((i : Int) - 348) - f = s ∧ usc (d * 2 ^ (64 - b)) (rowHi i) (rowLo i) s ≤ 2 ^ 56 - 7 := by
  obtain ⟨h1, h2, h3⟩ := row_good i
  exact usc_small d b i _ _ hi6 hb1 hb64 hd1 hd2 h1 h2 h3 f hf s hs
set_option maxRecDepth 100000 in
theorem rows_top : (List.range 696).all (fun i => decide (2 ^ 63 ≤ rowHi i) && decide (rowHi i < 2 ^ 64)) = true := by decide +kernel
theorem row_top {i : Nat} (h : i < 696) : 2 ^ 63 ≤ rowHi i ∧ rowHi i < 2 ^ 64 := by
  have h1 := List.all_eq_true.1 rows_top i (List.mem_range.2 h)
  simpa using h1
theorem row_low (i : Nat) : rowLo i < 2 ^ 64 := (row_good i).1
end Go.Proofs.YtcjeeoadgoghfaaGreatDoor.Usc

namespace Go.Proofs.YtcjeeoadgoghfaaGreatDoor.Usc
set_option linter.unusedVariables false set_option linter.unusedSimpArgs false
open Go.Proofs.YtcjeeoadgoghfaaGreatDoor.Deci

theorem App.lt_one {X j n m a b : Nat} (hX : 0 < X) (hj : j ≤ X) (h : App X j n m a b) (hn : 2 * n < m) (hb : 0 < b) : a < b := by
  have h2 := h.2
  have h3 : n * b * (X + j) ≤ n * b * (2 * X) := Nat.mul_le_mul_left _ (by omega)
  have h4 : a * m * X ≤ 2 * n * b * X := by
    refine Nat.le_trans h2 (Nat.le_trans h3 ?_)
    rw [show n * b * (2 * X) = 2 * n * b * X by ac_rfl]
    exact Nat.le_refl _
  have h5 : a * m ≤ 2 * n * b := Nat.le_of_mul_le_mul_right h4 hX
  have h6 : 2 * n * b < m * b := Nat.mul_lt_mul_of_pos_right hn hb
  have h7 : a * m < b * m := by rw [Nat.mul_comm b m]; omega
  exact Nat.lt_of_mul_lt_mul_right h7
theorem ge_mono {e f : Int} (h : e ≤ f) {a b : Nat} (hb : 0 < b) (hg : denF e b ≤ numF e a) : denF f b ≤ numF f a := by
  have s := scale_up e f h a b
  have hp : 0 < 2 ^ (f - e).toNat := Nat.pow_pos (by decide)
  have h1 : denF e b * denF f b ≤ numF f a * denF e b := by
    rw [s]
    have h2 : denF e b * denF f b ≤ numF e a * denF f b := Nat.mul_le_mul_right _ hg
    have h3 : 1 * (numF e a * denF f b) ≤ 2 ^ (f - e).toNat * (numF e a * denF f b) := Nat.mul_le_mul_right _ hp
    rw [Nat.mul_assoc]
    omega
  rw [Nat.mul_comm (numF f a)] at h1
  exact Nat.le_of_mul_le_mul_left h1 (denF_pos e hb)

theorem pos798 : 0 < 10 ^ 798 := by decide +kernel
theorem big798 : 100000 ≤ 10 ^ 798 := by decide +kernel
theorem j798 {j : Nat} (h : j ≤ 10000) : j ≤ 10 ^ 798 ∧ 4 * j ≤ 10 ^ 798 := by
  have := big798
  omega

/-- Bounds of the value, behind names (their powers are too great to be written out). -/
def Lt310 (a b : Nat) : Prop := a < 10 ^ 310 * b
def Le331 (a b : Nat) : Prop := b ≤ a * 10 ^ 331
theorem Lt310.out {a b : Nat} (h : Lt310 a b) : a < 10 ^ 310 * b := h
theorem Le331.out {a b : Nat} (h : Le331 a b) : b ≤ a * 10 ^ 331 := h

/-- In the first loop. -/
structure L1 (a0 b0 : Nat) (e : Int) (j : Nat) (l : List Nat) (dp : Int) (tr : Bool) : Prop where
  run : Run a0 b0 e 0 j e (val l) (dp - l.length) tr
  le : e ≤ 0
  ge : -1060 ≤ e
  cnt : (j : Int) ≤ -e
  up : e = 0 ∨ denF (e + 27) b0 ≤ numF (e + 27) a0
theorem L1.step {a0 b0 : Nat} {e : Int} {j : Nat} {l : List Nat} {dp : Int} {tr : Bool} (h : L1 a0 b0 e j l dp tr) (hb0 : 0 < b0) (hg : Fair l) (hp : 0 < dp) (hx : Lt310 a0 b0) (k : Nat) (hk : 1 ≤ k) (hk2 : k ≤ 27) :
    L1 a0 b0 (e - k) (j + 1) (cut8 (digs (val l * 5 ^ k))) (ptS (val l * 5 ^ k) l (dp - k)) (cutT tr (digs (val l * 5 ^ k))) := by
  obtain ⟨hr, hle, hge, hc, hu⟩ := h
  have hj := j798 (j := j) (by omega)
  obtain ⟨g1, g2⟩ := right_end (tenD_pos _) hb0 (hr.inv hb0 hj.1).1 (point_ge hg hp) hx.out
  refine ⟨(hr.widen (by omega) (Int.le_refl _)).shr k (Int.le_refl _) (by omega), by omega, by omega, by omega, Or.inr (ge_mono (by omega) hb0 g1)⟩

/-- In the second loop. -/
structure L2 (a0 b0 : Nat) (lo e : Int) (j : Nat) (l : List Nat) (dp : Int) (tr : Bool) : Prop where
  run : Run a0 b0 lo (max 0 e) j e (val l) (dp - l.length) tr
  lo0 : lo ≤ 0
  low : -1060 ≤ lo
  ge : lo ≤ e
  le : e ≤ 1130
  cnt : (j : Int) ≤ e - 2 * lo
  up : lo = 0 ∨ denF (lo + 27) b0 ≤ numF (lo + 27) a0
  room : lo = 0 ∨ e ≤ lo + 54
theorem L1.next {a0 b0 : Nat} {e : Int} {j : Nat} {l : List Nat} {dp : Int} {tr : Bool} (h : L1 a0 b0 e j l dp tr) : L2 a0 b0 e e j l dp tr := by
  obtain ⟨hr, hle, hge, hc, hu⟩ := h
  exact ⟨hr.widen (Int.le_refl _) (by omega), hle, hge, Int.le_refl _, by omega, by omega, hu, Or.inr (by omega)⟩
theorem L2.below {a0 b0 : Nat} {lo e : Int} {j : Nat} {l : List Nat} {dp : Int} {tr : Bool} (h : L2 a0 b0 lo e j l dp tr) (ha0 : 0 < a0) (hb0 : 0 < b0) (hg : Fair l) (hp : dp ≤ 0) (hx : Le331 a0 b0) : e < 1100 := by
  obtain ⟨hr, hlo, hlow, hge, hle, hc, hu, hro⟩ := h
  have hj := j798 (j := j) (by omega)
  exact left_end (tenD_pos _) hj.2 pos798 ha0 (hr.inv hb0 hj.1).1 (point_lt hg hp) hb0 hx.out
theorem L2.step {a0 b0 : Nat} {lo e : Int} {j : Nat} {l : List Nat} {dp : Int} {tr : Bool} (h : L2 a0 b0 lo e j l dp tr) (ha0 : 0 < a0) (hb0 : 0 < b0) (hg : Fair l) (hp : dp < 0 ∨ (dp = 0 ∧ l.getD 0 0 < 5)) (hx : Le331 a0 b0) (k : Nat) (hk : 1 ≤ k) (hk2 : k ≤ 27) :
    L2 a0 b0 lo (e + k) (j + 1) (cut8 (digs (val l * 2 ^ k))) (ptS (val l * 2 ^ k) l dp) (cutT tr (digs (val l * 2 ^ k))) := by
  have hb := h.below ha0 hb0 hg (by omega) hx
  obtain ⟨hr, hlo, hlow, hge, hle, hc, hu, hro⟩ := h
  have hj := j798 (j := j) (by omega)
  have hlt := (hr.inv hb0 hj.1).1.lt_one pos798 hj.1 (dig_lt hg hp) (denF_pos e hb0)
  have hro2 : lo = 0 ∨ e < lo + 27 := by
    rcases hu with hu | hu
    · exact Or.inl hu
    · right
      rcases Int.lt_or_le e (lo + 27) with g | g
      · exact g
      · have := ge_mono g hb0 hu
        omega
  exact ⟨(hr.widen (Int.le_refl _) (by omega)).shl k (by omega) (by omega), hlo, hlow, by omega, by omega, by omega, hu, by omega⟩

/-- Behind both. -/
theorem L2.last {D0 : Nat} {q0 lo e : Int} {j : Nat} {l : List Nat} {tr : Bool} (h : L2 (tenN D0 q0) (tenD q0) lo e j l 0 tr) (hD : D0 < 10 ^ 700) (hq : -1030 ≤ q0) (ha0 : 0 < tenN D0 q0) (hg : Fair l) (h5 : 5 ≤ l.getD 0 0) (hx : Le331 (tenN D0 q0) (tenD q0))
    (he : e ≤ 1021) : e < 1100 ∧ NB (tenN D0 q0) (tenD q0) (bitsF (rInt (cut8 (digs (val l * 2 ^ 53))) (ptS (val l * 2 ^ 53) l 0) (cutT tr (digs (val l * 2 ^ 53)))) (e + 53)) ∧ rInt (cut8 (digs (val l * 2 ^ 53))) (ptS (val l * 2 ^ 53) l 0) (cutT tr (digs (val l * 2 ^ 53))) ≤ 2 ^ 53 := by
  have hb := h.below ha0 (tenD_pos q0) hg (Int.le_refl _) hx
  obtain ⟨hr, hlo, hlow, hge, hle, hc, hu, hro⟩ := h
  have hL : lastF e = e + 53 := by unfold lastF; rw [if_pos he]
  have h10 : 10000 ≤ 10 ^ 10 := by decide
  have r2 := (hr.widen (lo' := lo) (hi' := max 0 (e + 53)) (Int.le_refl _) (by omega)).shl 53 (by omega) (by omega)
  have e53 : ((53 : Nat) : Int) = 53 := rfl
  rw [e53, ← hL] at r2
  have g := fb_all hD hq (by omega) hr hg h5 (by omega) (by omega) (by omega) r2 (good_digs (Nat.mul_pos hg.pos (Nat.pow_pos (by decide)))) (by omega) (by omega) (by omega)
  rw [hL] at g
  exact ⟨hb, g⟩
theorem L2.last2 {D0 : Nat} {q0 lo e : Int} {j j' : Nat} {l l2 : List Nat} {tr tr2 : Bool} {dp2 : Int} (h : L2 (tenN D0 q0) (tenD q0) lo e j l 0 tr) (hD : D0 < 10 ^ 700) (hq : -1030 ≤ q0) (ha0 : 0 < tenN D0 q0) (hg : Fair l) (h5 : 5 ≤ l.getD 0 0) (hx : Le331 (tenN D0 q0) (tenD q0))
    (he : 1021 < e) (h2 : Run (tenN D0 q0) (tenD q0) 0 1130 j' 1021 (val l2) (dp2 - l2.length) tr2) (hj' : j' ≤ 10000) (hg2 : Fair l2) : NB (tenN D0 q0) (tenD q0) (bitsF (rInt (cut8 (digs (val l2 * 2 ^ 53))) (ptS (val l2 * 2 ^ 53) l2 dp2) (cutT tr2 (digs (val l2 * 2 ^ 53)))) 1074) ∧ rInt (cut8 (digs (val l2 * 2 ^ 53))) (ptS (val l2 * 2 ^ 53) l2 dp2) (cutT tr2 (digs (val l2 * 2 ^ 53))) ≤ 2 ^ 53 := by
  have hb := h.below ha0 (tenD_pos q0) hg (Int.le_refl _) hx
  obtain ⟨hr, hlo, hlow, hge, hle, hc, hu, hro⟩ := h
  have hL : lastF e = 1074 := by unfold lastF; rw [if_neg (by omega)]
  have h10 : 10000 ≤ 10 ^ 10 := by decide
  have r2 := h2.shl 53 (by omega) (by omega)
  have e53 : (1021 : Int) + ((53 : Nat) : Int) = 1074 := rfl
  rw [e53, ← hL] at r2
  have g := fb_all hD hq (by omega) hr hg h5 (by omega) (by omega) (by omega) r2 (good_digs (Nat.mul_pos hg2.pos (Nat.pow_pos (by decide)))) (by omega) (by omega) (by omega)
  rw [hL] at g
  exact g
/-- What the point of the text's decimal says. -/
theorem small_point {l : List Nat} {dp : Int} (hg : Fair l) (hp : -330 ≤ dp) : Le331 (tenN (val l) (dp - l.length)) (tenD (dp - l.length)) := by
  obtain ⟨hd, hl, hne, _⟩ := hg
  have hlen := List.length_pos_iff.2 hne
  have hv : 10 ^ (l.length - 1) ≤ val l := by
    cases l with
    | nil => exact absurd rfl hne
    | cons d t =>
      have := val_ge d t (by have := hl d t rfl; omega)
      simpa using this
  unfold Le331 tenN tenD
  obtain ⟨E, hE⟩ : ∃ E, E = 331 := ⟨_, rfl⟩
  rw [← hE]
  have h1 : 10 ^ (-(dp - (l.length : Int))).toNat ≤ 10 ^ (l.length - 1) * 10 ^ E := by
    rw [← Nat.pow_add]
    exact Nat.pow_le_pow_right (by decide) (by omega)
  refine Nat.le_trans h1 (Nat.mul_le_mul_right _ ?_)
  have hp : 0 < 10 ^ (dp - (l.length : Int)).toNat := Nat.pow_pos (by decide)
  exact Nat.le_trans hv (Nat.le_mul_of_pos_right _ hp)
theorem great_point {l : List Nat} {dp : Int} (hg : Fair l) (hp : dp ≤ 310) : Lt310 (tenN (val l) (dp - l.length)) (tenD (dp - l.length)) := by
  obtain ⟨hd, hl, hne, _⟩ := hg
  have hv := val_lt l hd
  unfold Lt310 tenN tenD
  obtain ⟨E, hE⟩ : ∃ E, E = 310 := ⟨_, rfl⟩
  rw [← hE]
  rcases Int.lt_or_le (dp - l.length) 0 with h | h
  · rw [show (dp - (l.length : Int)).toNat = 0 by omega, Nat.pow_zero, Nat.mul_one, ← Nat.pow_add]
    exact Nat.lt_of_lt_of_le hv (Nat.pow_le_pow_right (by decide) (by omega))
  · rw [show (-(dp - (l.length : Int))).toNat = 0 by omega, Nat.pow_zero, Nat.mul_one]
    have h2 : val l * 10 ^ (dp - (l.length : Int)).toNat < 10 ^ l.length * 10 ^ (dp - (l.length : Int)).toNat := Nat.mul_lt_mul_of_pos_right hv (Nat.pow_pos (by decide))
    rw [← Nat.pow_add] at h2
    exact Nat.lt_of_lt_of_le h2 (Nat.pow_le_pow_right (by decide) (by omega))
end Go.Proofs.YtcjeeoadgoghfaaGreatDoor.Usc

namespace Go.Proofs.YtcjeeoadgoghfaaGreatDoor.Usc
set_option linter.unusedVariables false set_option linter.unusedSimpArgs false
open Go.Proofs.YtcjeeoadgoghfaaGreatDoor.Deci

set_option maxRecDepth 100000 in
theorem rows_all : ((List.range 696).all fun i => Go.Pinned.pow10Rows[i]? == some (rowHi i, rowLo i)) = true := by decide +kernel
theorem row_eq {i : Nat} (h : i < 696) : Go.Pinned.pow10Rows[i]? = some (rowHi i, rowLo i) :=
  beq_iff_eq.1 (List.all_eq_true.1 rows_all i (List.mem_range.2 h))

/-- A row of leftcheats is right: the text's digits say 5 ^ k, and so many digits has 2 ^ k. -/
def rowC (k : Nat) : Bool := match Go.Pinned.cheatRows[k]? with
  | none => false
  | some (d, s) => decide (0 < d) && decide (10 ^ (d - 1) ≤ 2 ^ k) && decide (2 ^ k < 10 ^ d) && (s.all fun c => decide (48 ≤ c.toNat) && decide (c.toNat ≤ 57)) && decide (s.head? ≠ some 48) && decide (val (s.map fun c => c.toNat - 48) = 5 ^ k)
set_option maxRecDepth 100000 in
theorem cheats_all : ((List.range 60).all fun i => rowC (i + 1)) = true := by decide +kernel
theorem cheat_eq {k : Nat} (h1 : 1 ≤ k) (h2 : k ≤ 60) : ∃ s : List UInt8, Go.Pinned.cheatRows[k]? = some (cutD k, s) ∧ s.map (fun c => c.toNat - 48) = cutS k ∧ ∀ c ∈ s, 48 ≤ c.toNat ∧ c.toNat ≤ 57 := by
  have h := List.all_eq_true.1 cheats_all (k - 1) (List.mem_range.2 (by omega))
  rw [show k - 1 + 1 = k by omega] at h
  unfold rowC at h
  split at h
  · cases h
  · rename_i d s he
    simp only [Bool.and_eq_true, decide_eq_true_eq, List.all_eq_true] at h
    obtain ⟨⟨⟨⟨⟨h1, h2⟩, h3⟩, h4⟩, h5⟩, h6⟩ := h
    refine ⟨s, ?_, ?_, h4⟩
    · rw [he]
      have : cutD k = d := by
        unfold cutD
        obtain ⟨e, rfl⟩ : ∃ e, d = e + 1 := ⟨d - 1, by omega⟩
        exact digs_length (by simpa using h2) h3
      rw [this]
    · unfold cutS
      rw [← h6]
      refine (digs_val _ ?_ ?_).symm
      · intro x hx
        obtain ⟨c, hc, rfl⟩ := List.mem_map.1 hx
        have := h4 c hc
        omega
      · intro x t e
        cases s with
        | nil => cases e
        | cons c r =>
          have e1 : c.toNat - 48 = x := (List.cons.inj e).1
          have e2 := h4 c List.mem_cons_self
          intro e3
          refine h5 ?_
          rw [List.head?_cons]
          congr 1
          exact UInt8.toNat_inj.1 (by show c.toNat = 48; omega)
end Go.Proofs.YtcjeeoadgoghfaaGreatDoor.Usc

namespace Go.Proofs.YtcjeeoadgoghfaaGreatDoor.tabr
set_option linter.unusedVariables false set_option linter.unusedSimpArgs false
open Go Go.ChangeShapes

section
variable {H : Type} {enc : TypeId × Value → H} {P : Program} {w : World} {base : Nat} {spare : Nat → Bool} {held : Bool} {fuel : Nat} {t : TypeId} {cs : List Value} {x : DataW H × List MemPlace}
theorem trod_flt {k : FloatKind} (ht : P.underlying t = some (.float k)) (h : DataW.trod enc P w base spare held fuel t cs = some x) : ∃ b, cs = [.float k b] ∧ x = (.lit (.float k b), []) := by
  cases fuel with
  | zero => simp [DataW.trod] at h
  | succ n =>
    unfold DataW.trod at h
    rw [ht] at h
    split at h <;> simp_all
theorem trod_ifc {ms : Array (String × TypeId)} (ht : P.underlying t = some (.interface ms)) (h : DataW.trod enc P w base spare held fuel t cs = some x) : cs = [.nilIface] ∨ ∃ u v, cs = [.iface u v] := by
  cases fuel with
  | zero => simp [DataW.trod] at h
  | succ n =>
    unfold DataW.trod at h
    rw [ht] at h
    split at h <;> simp_all
theorem add_two (B o a b : Nat) : ((⟨B, o, none⟩ : Addr).add a).add b = ⟨B, o + a + b, none⟩ := by
  unfold Addr.add
  split <;> split <;> simp_all
theorem slice_open {e : TypeId} (ht : P.underlying t = some (.slice e)) {es : List (DataW H)} {p : List MemPlace} (h : DataW.trod enc P w base (fun _ => true) held fuel t cs = some (.slice es [], p)) (hne : 0 < es.length) (hc : 0 < P.cellsOf e) :
    ∃ B o n : Nat, cs = [.slice (some ⟨B, o, none⟩) es.length es.length] ∧ ∀ i d, es[i]? = some d → ∃ c q, (∀ j, j < P.cellsOf e → w.cell? ⟨B, o + i * P.cellsOf e + j, none⟩ = c[j]?) ∧ c.length = P.cellsOf e ∧ DataW.trod enc P w base (fun _ => true) held n e c = some (d, q) := by
  rcases DataW.trod_slice ht h with ⟨_, he⟩ | ⟨⟨B, o, sp⟩, len, cap, elems, rest, n, _, hcs, hx, _, hl, _, hlen, hel, hsp, _⟩
  · cases he
  · have e1 := (Prod.mk.inj hx).1
    obtain ⟨e2, e3⟩ := DataW.slice.inj e1
    obtain ⟨s1, _⟩ := hsp rfl
    have hr : rest = [] := List.map_eq_nil_iff.1 e3.symm
    have hr0 : rest.length = 0 := by rw [hr]; rfl
    have hl1 : es.length = elems.length := by rw [e2, List.length_map]
    have hcap : cap = len := by omega
    have hrow : ∀ i, i < len → ∃ c y, w.cells? base ((⟨B, o, sp⟩ : Addr).add (i * P.cellsOf e)) (P.cellsOf e) = some c ∧ elems[i]? = some y ∧ DataW.trod enc P w base (fun _ => true) held n e c = some y := by
      intro i hi
      have h0 := hel i hi
      have h1 : elems[i]? = some (elems[i]'(by omega)) := List.getElem?_eq_getElem (by omega)
      obtain ⟨c, hc, hy⟩ := Option.bind_eq_some_iff.1 (h0.trans h1)
      exact ⟨c, _, hc, h1, hy⟩
    have hspot : sp = none := by
      obtain ⟨c, y, h1, _, _⟩ := hrow 0 (by omega)
      obtain ⟨_, h2, h3⟩ := World.cells?_some h1
      have h4 := h3 0 hc
      rw [Nat.zero_mul, show (⟨B, o, sp⟩ : Addr).add 0 = ⟨B, o, sp⟩ from if_pos rfl, show (⟨B, o, sp⟩ : Addr).add 0 = ⟨B, o, sp⟩ from if_pos rfl, List.getElem?_eq_getElem (by omega)] at h4
      exact Go.Proofs.cell_spot h4
    subst hspot
    refine ⟨B, o, n, by rw [hcs, hcap, ← hlen, hl1], fun i d hi => ?_⟩
    have hi1 : i < es.length := by
      rcases Nat.lt_or_ge i es.length with h' | h'
      · exact h'
      · rw [List.getElem?_eq_none h'] at hi; cases hi
    obtain ⟨c, y, h1, h2, h3⟩ := hrow i (by omega)
    obtain ⟨_, h4, h5⟩ := World.cells?_some h1
    have hd : y.1 = d := by
      rw [e2, List.getElem?_map, h2] at hi
      exact Option.some.inj hi
    refine ⟨c, y.2, fun j hj => ?_, h4, by rw [h3, ← hd]⟩
    rw [← h5 j hj, add_two]
end
end Go.Proofs.YtcjeeoadgoghfaaGreatDoor.tabr
