/- Contracts of count, upper, interval, atRepeat. -/
import Derived.Test.YtfgdhafpiikpjaaNums
namespace Go.Proofs.Ytfgdhafpiikpjaa.nums
set_option linter.unusedVariables false set_option linter.unusedSimpArgs false
open Go.ChangeShapes Go.WideShapes Go.ChangeAt Go.RowKit Go.Proofs.Ytfgdhafpiikpjaa.base Go.Proofs.Ytfgdhafpiikpjaa.read Go.Proofs.Ytfgdhafpiikpjaa.spec

/-- How many bytes aren't read yet, told by the memory. -/
def left (R : Nat) (s : ByteArray) (w : World) : Nat := s.size - (intOf ((w.cell? ⟨R, 1, none⟩).getD (.bool false))).toNat
theorem left_eq {w : World} {R : Nat} {s : ByteArray} {d : Nat} {l : List UInt8} (h : Rd w R s d l) : left R s w = l.length := by
  obtain ⟨i, h, e⟩ := h
  unfold left
  rw [h.c1, ← e, sx_len]
  simp [intOf]

theorem cnt_le (sum : Nat) (sm : Bool) (l : List UInt8) (h : sum ≤ 256) : (cnt sum sm l).1 ≤ 256 := by
  induction l generalizing sum sm with
  | nil => exact h
  | cons x t ih =>
    rw [cnt]
    split
    · exact ih _ _ (Nat.min_le_right _ _)
    · exact h

set_option maxHeartbeats 400000 in
theorem count_all (w : World) (R : Nat) (s : ByteArray) (d : Nat) (l : List UInt8) (h : Rd w R s d l) :
    Calls Try.prog 89 #[.pointer (some ⟨R, 0, none⟩)] w fun e w' => e = .returned (.tuple #[.int .i64 ((cnt 0 false l).1 : Nat), .bool ((cnt 0 false l).2.1 && decide ((cnt 0 false l).1 ≤ 255))]) ∧ Rd w' R s d (cnt 0 false l).2.2 ∧ Frm (At R) w w' := by
  have H := Lib.hid h
  clear h
  go_enter Try.func89, Try.ntmps89
  go_wp2
  go_loopw [4, 5] (fun sv mv wr => ∃ (sum : Nat) (sm : Bool) (l' : List UInt8), sv = .int .i64 sum ∧ mv = .bool sm ∧ sum ≤ 256 ∧ cnt sum sm l' = cnt 0 false l ∧ Rd wr R s d l' ∧ Frm (At R) w wr) (fun _ _ wr => left R s wr)
  case atStart => exact ⟨0, false, l, rfl, rfl, by omega, rfl, H.out, Frm.refl _ w⟩
  case round =>
    obtain ⟨sum, sm, l', rfl, rfl, hs, hc, hr, hf⟩ := hrel
    have HR := Lib.hid hr
    have HF := Lib.hid hf
    have HC := Lib.hid hc
    have HL := Lib.hid (left_eq hr)
    clear hr hf hc
    cases hd : dgt 10 l' with
    | none =>
      have HD := Lib.hid hd
      have HE := Lib.hid (show cnt 0 false l = (sum, sm, l') by
        rw [← HC.out]
        cases l' with
        | nil => rfl
        | cons x t =>
          simp only [dgt] at hd
          split at hd
          · cases hd
          · rw [cnt, if_neg (by assumption)])
      clear hd
      cases sm with
      | false =>
        go_wp2_with (go_at_call 83; go_must (refine (digit_no _ R s d l' 10 (by omega) (by exact HR.out) HD.out).mono ?_; rintro e _ ⟨rfl, n1, rfl⟩))
        refine bodyPost_ret (v := .tuple #[.int .i64 sum, .bool false]) (by simp [results, Try.results89, go_sem]) rfl ⟨by rw [HE.out]; rfl, by rw [HE.out]; exact HR.out, HF.out.drewN n1⟩
      | true =>
        by_cases hle : sum ≤ 255
        · go_wp2_with (go_at_call 83; go_must (refine (digit_no _ R s d l' 10 (by omega) (by exact HR.out) HD.out).mono ?_; rintro e _ ⟨rfl, n1, rfl⟩))
          refine bodyPost_ret (v := .tuple #[.int .i64 sum, .bool true]) (by simp [results, Try.results89, go_sem, show (sum : Int) ≤ 255 by omega]) rfl ⟨by rw [HE.out]; simp [hle], by rw [HE.out]; exact HR.out, HF.out.drewN n1⟩
        · go_wp2_with (go_at_call 83; go_must (refine (digit_no _ R s d l' 10 (by omega) (by exact HR.out) HD.out).mono ?_; rintro e _ ⟨rfl, n1, rfl⟩))
          refine bodyPost_ret (v := .tuple #[.int .i64 sum, .bool false]) (by simp [results, Try.results89, go_sem, show ¬ (sum : Int) ≤ 255 by omega]) rfl ⟨by rw [HE.out]; simp; omega, by rw [HE.out]; exact HR.out, HF.out.drewN n1⟩
    | some p =>
      obtain ⟨n, t⟩ := p
      have HD := Lib.hid hd
      have hn := dgt_lt hd
      have HE := Lib.hid (show cnt (min (sum * 10 + n) 256) true t = cnt 0 false l ∧ l'.length = t.length + 1 by
        rw [← HC.out]
        cases l' with
        | nil => cases hd
        | cons x t' =>
          simp only [dgt] at hd
          split at hd
          · cases hd
            exact ⟨by rw [cnt, if_pos (by assumption)], rfl⟩
          · cases hd)
      have hmin : ((min (sum * 10 + n) 256 : Nat) : Int) = min ((sum : Int) * 10 + n) 256 := by omega
      clear hd
      go_wp2_with (go_at_call 83; go_must (refine (digit_yes _ R s d l' t 10 n (by omega) (by exact HR.out) HD.out).mono ?_; rintro e w1 ⟨rfl, hr1, hf1⟩))
      all_goals go_roundw
      case rel => exact ⟨min (sum * 10 + n) 256, true, t, by go_num, rfl, by omega, HE.out.1, hr1, HF.out.trans hf1⟩
      case measure =>
        have a1 := left_eq hr1
        have a2 := HL.out
        have a3 := HE.out.2
        omega

theorem count_ok (w : World) (R : Nat) (s : ByteArray) (d n : Nat) (l l' : List UInt8) (h : Rd w R s d l) (hc : count l = some (n, l')) :
    Calls Try.prog 89 #[.pointer (some ⟨R, 0, none⟩)] w fun e w' => e = .returned (.tuple #[.int .i64 (n : Nat), .bool true]) ∧ n ≤ 255 ∧ Rd w' R s d l' ∧ Frm (At R) w w' := by
  unfold count at hc
  split at hc
  · rename_i hb
    cases hc
    refine (count_all w R s d l h).mono ?_
    rintro e w' ⟨rfl, h1, h2⟩
    simp only [Bool.and_eq_true, decide_eq_true_eq] at hb
    exact ⟨by rw [hb.1, decide_eq_true hb.2]; rfl, hb.2, h1, h2⟩
  · cases hc
theorem count_no (w : World) (R : Nat) (s : ByteArray) (d : Nat) (l : List UInt8) (h : Rd w R s d l) (hc : count l = none) :
    Calls Try.prog 89 #[.pointer (some ⟨R, 0, none⟩)] w fun e w' => ∃ (n : Nat) (l' : List UInt8), e = .returned (.tuple #[.int .i64 (n : Nat), .bool false]) ∧ n ≤ 256 ∧ Rd w' R s d l' ∧ Frm (At R) w w' := by
  unfold count at hc
  split at hc
  · cases hc
  · rename_i hb
    refine (count_all w R s d l h).mono ?_
    rintro e w' ⟨rfl, h1, h2⟩
    exact ⟨_, _, by rw [show ((cnt 0 false l).2.1 && decide ((cnt 0 false l).1 ≤ 255)) = false by simpa using hb], cnt_le 0 false l (by omega), h1, h2⟩

theorem upper_ok (w : World) (R : Nat) (s : ByteArray) (d lo : Nat) (hi : Int) (l l' : List UInt8) (h : Rd w R s d l) (hc : upper lo l = some (hi, l')) (hlo : lo ≤ 255) :
    Calls Try.prog 90 #[.pointer (some ⟨R, 0, none⟩), .int .i64 lo] w fun e w' => e = .returned (.tuple #[.int .i64 hi, .bool true]) ∧ -1 ≤ hi ∧ hi ≤ 255 ∧ Rd w' R s d l' ∧ Frm (At R) w w' := by
  have H := Lib.hid h
  clear h
  unfold upper at hc
  split at hc
  · rename_i hb
    cases hc
    go_enter Try.func90, Try.ntmps90
    go_wp2_with (go_at_call 67; go_must (refine (at_all _ R s d l 125 _ rfl (by exact H.out)).mono ?_; rintro e _ ⟨rfl, n1, rfl⟩))
    exact bodyPost_ret (v := .tuple #[.int .i64 (-1), .bool true]) (by simp [results, Try.results90, go_sem]) rfl ⟨rfl, by omega, by omega, H.out, (Frm.refl (At R) w).drewN n1⟩
  · rename_i hb
    have hb' : hd l 125 = false := by simpa using hb
    split at hc
    · cases hc
    · rename_i n l1 hn
      split at hc
      · rename_i hle
        cases hc
        have HN := Lib.hid hn
        have hle' : (lo : Int) ≤ (n : Int) := by omega
        clear hn hb hle
        go_enter Try.func90, Try.ntmps90
        go_wp2_with (first | (go_at_call 67; go_must (refine (at_all _ R s d l 125 _ rfl (by exact H.out)).mono ?_; rintro e _ ⟨rfl, n1, rfl⟩)) | (go_at_call 89; go_must (refine (count_ok _ R s d n l l' (by exact H.out) HN.out).mono ?_; rintro e w1 ⟨rfl, hn255, hr1, hf1⟩)))
        exact bodyPost_ret (v := .tuple #[.int .i64 n, .bool true]) (by simp [results, Try.results90, go_sem]) rfl ⟨rfl, by omega, by omega, hr1, ((Frm.refl (At R) w).drewN n1).trans hf1⟩
      · cases hc
theorem upper_no (w : World) (R : Nat) (s : ByteArray) (d lo : Nat) (l : List UInt8) (h : Rd w R s d l) (hc : upper lo l = none) (hlo : lo ≤ 255) :
    Calls Try.prog 90 #[.pointer (some ⟨R, 0, none⟩), .int .i64 lo] w fun e w' => ∃ (n : Nat) (l' : List UInt8), e = .returned (.tuple #[.int .i64 n, .bool false]) ∧ n ≤ 256 ∧ Rd w' R s d l' ∧ Frm (At R) w w' := by
  have H := Lib.hid h
  clear h
  unfold upper at hc
  split at hc
  · cases hc
  · rename_i hb
    have hb' : hd l 125 = false := by simpa using hb
    split at hc
    · rename_i hn
      have HN := Lib.hid hn
      clear hn hb hc
      go_enter Try.func90, Try.ntmps90
      go_wp2_with (first | (go_at_call 67; go_must (refine (at_all _ R s d l 125 _ rfl (by exact H.out)).mono ?_; rintro e _ ⟨rfl, n1, rfl⟩)) | (go_at_call 89; go_must (refine (count_no _ R s d l (by exact H.out) HN.out).mono ?_; rintro e w1 ⟨n, l', rfl, hn256, hr1, hf1⟩)))
      exact bodyPost_ret (v := .tuple #[.int .i64 n, .bool false]) (by simp [results, Try.results90, go_sem]) rfl ⟨n, l', rfl, hn256, hr1, ((Frm.refl (At R) w).drewN n1).trans hf1⟩
    · rename_i n l1 hn
      split at hc
      · cases hc
      · rename_i hle
        have HN := Lib.hid hn
        have hle' : (n : Int) < (lo : Int) := by omega
        clear hn hb hle hc
        go_enter Try.func90, Try.ntmps90
        go_wp2_with (first | (go_at_call 67; go_must (refine (at_all _ R s d l 125 _ rfl (by exact H.out)).mono ?_; rintro e _ ⟨rfl, n1, rfl⟩)) | (go_at_call 89; go_must (refine (count_ok _ R s d n l l1 (by exact H.out) HN.out).mono ?_; rintro e w1 ⟨rfl, hn255, hr1, hf1⟩)))
        exact bodyPost_ret (v := .tuple #[.int .i64 n, .bool false]) (by simp [results, Try.results90, go_sem] <;> omega) rfl ⟨n, l1, rfl, by omega, hr1, ((Frm.refl (At R) w).drewN n1).trans hf1⟩

theorem interval_ok (w : World) (R : Nat) (s : ByteArray) (d lo : Nat) (hi : Int) (l l' : List UInt8) (h : Rd w R s d l) (hc : interval l = some ((lo, hi), l')) :
    Calls Try.prog 85 #[.pointer (some ⟨R, 0, none⟩)] w fun e w' => e = .returned (.tuple #[.int .i64 lo, .int .i64 hi, .bool true]) ∧ lo ≤ 255 ∧ -1 ≤ hi ∧ hi ≤ 255 ∧ Rd w' R s d l' ∧ Frm (At R) w w' := by
  have H := Lib.hid h
  clear h
  unfold interval at hc
  split at hc
  · cases hc
  · rename_i m l1 hm
    have HM := Lib.hid hm
    clear hm
    split at hc
    · rename_i hb
      split at hc
      · cases hc
      · rename_i hi' l2 hu
        have HU := Lib.hid hu
        clear hu
        split at hc
        · rename_i hb2
          cases hc
          go_enter Try.func85, Try.ntmps85
          go_wp2_with (first | (go_at_call 89; go_must (refine (count_ok _ R s d lo l l1 (by exact H.out) HM.out).mono ?_; rintro e w1 ⟨rfl, hn255, hr1, hf1⟩; have HR1 := Lib.hid hr1; have HF1 := Lib.hid hf1; clear hr1 hf1)) | (go_at_call_of 60 (Value.int .u8 44); go_must (refine (take_all w1 R s d l1 44 _ rfl (by exact HR1.out)).mono ?_; rintro e w2 ⟨rfl, hr2, hf2⟩; rw [if_pos hb] at hr2; have HR2 := Lib.hid hr2; have HF2 := Lib.hid hf2; clear hr2 hf2)) | (go_at_call 90; go_must (refine (upper_ok _ R s d lo hi l1.tail l2 (by exact HR2.out) HU.out hn255).mono ?_; rintro e w3 ⟨rfl, hb3, hb4, hr3, hf3⟩; have HR3 := Lib.hid hr3; have HF3 := Lib.hid hf3; clear hr3 hf3)) | (go_at_call_of 60 (Value.int .u8 125); go_must (refine (take_all w3 R s d l2 125 _ rfl (by exact HR3.out)).mono ?_; rintro e w4 ⟨rfl, hr4, hf4⟩; rw [if_pos hb2] at hr4)))
          exact bodyPost_ret (v := .tuple #[.int .i64 lo, .int .i64 hi, .bool true]) (by simp [results, Try.results85, go_sem]) rfl ⟨rfl, hn255, hb3, hb4, hr4, HF1.out.trans (HF2.out.trans (HF3.out.trans hf4))⟩
        · cases hc
    · rename_i hb
      have hb' : hd l1 44 = false := by simpa using hb
      split at hc
      · rename_i hb2
        cases hc
        go_enter Try.func85, Try.ntmps85
        go_wp2_with (first | (go_at_call 89; go_must (refine (count_ok _ R s d lo l l1 (by exact H.out) HM.out).mono ?_; rintro e w1 ⟨rfl, hn255, hr1, hf1⟩; have HR1 := Lib.hid hr1; have HF1 := Lib.hid hf1; clear hr1 hf1)) | (go_at_call_of 60 (Value.int .u8 44); go_must (refine (take_all w1 R s d l1 44 _ rfl (by exact HR1.out)).mono ?_; rintro e w2 ⟨rfl, hr2, hf2⟩; rw [if_neg hb] at hr2; have HR2 := Lib.hid hr2; have HF2 := Lib.hid hf2; clear hr2 hf2)) | (go_at_call_of 60 (Value.int .u8 125); go_must (refine (take_all w2 R s d l1 125 _ rfl (by exact HR2.out)).mono ?_; rintro e w4 ⟨rfl, hr4, hf4⟩; rw [if_pos hb2] at hr4)))
        exact bodyPost_ret (v := .tuple #[.int .i64 lo, .int .i64 lo, .bool true]) (by simp [results, Try.results85, go_sem]) rfl ⟨rfl, hn255, by omega, by omega, hr4, HF1.out.trans (HF2.out.trans hf4)⟩
      · cases hc
end Go.Proofs.Ytfgdhafpiikpjaa.nums
