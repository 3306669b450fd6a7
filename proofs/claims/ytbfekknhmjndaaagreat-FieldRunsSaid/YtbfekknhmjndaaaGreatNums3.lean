/- Contracts of octal, escape, count, upper, interval, atRepeat. Contracts of count, upper, interval, atRepeat. Contracts of interval where there is none, and of atRepeat. -/
import Derived.Test.YtbfekknhmjndaaaGreatSpec

namespace Go.Proofs.YtbfekknhmjndaaaGreat.nums
set_option linter.unusedVariables false set_option linter.unusedSimpArgs false
open Go.ChangeShapes Go.WideShapes Go.ChangeAt Go.RowKit Go.Proofs.YtbfekknhmjndaaaGreat.base Go.Proofs.YtbfekknhmjndaaaGreat.read Go.Proofs.YtbfekknhmjndaaaGreat.spec

theorem dgt_lt {b n : Nat} {l t : List UInt8} (h : dgt b l = some (n, t)) : n < b := by
  cases l with
  | nil => cases h
  | cons x t' =>
    simp only [dgt] at h
    split at h
    · cases h; assumption
    · cases h

set_option maxHeartbeats 400000 in
theorem octal_all (w : World) (R : Nat) (s : ByteArray) (d : Nat) (l : List UInt8) (h : Rd w R s d l) :
    Calls Tryz.prog 124 #[.pointer (some ⟨R, 0, none⟩)] w fun e w' => e = .returned (.tuple #[.int .u8 ((octF 3 0 false l).1 % 256 : Nat), .bool (octF 3 0 false l).2.1]) ∧ Rd w' R s d (octF 3 0 false l).2.2 ∧ Frm (At R) w w' := by
  have H := Lib.hid h
  clear h
  go_enter Tryz.func124, Tryz.ntmps124
  go_wp2
  go_loopw [4, 5, 8] (fun sv mv kv wr => ∃ (k sum : Nat) (sm : Bool) (l' : List UInt8), k ≤ 3 ∧ sv = .int .i64 sum ∧ mv = .bool sm ∧ kv = .int .i64 k ∧ sum < 8 ^ k ∧ octF (3 - k) sum sm l' = octF 3 0 false l ∧ Rd wr R s d l' ∧ Frm (At R) w wr) (fun _ _ kv _ => (3 - intOf kv).toNat)
  case atStart => exact ⟨0, 0, false, l, by omega, rfl, rfl, rfl, by simp, rfl, H.out, Frm.refl _ w⟩
  case round =>
    obtain ⟨k, sum, sm, l', hk, rfl, rfl, rfl, hs, ho, hr, hf⟩ := hrel
    have hs3 : sum < 512 := Nat.lt_of_lt_of_le hs (by rw [show (512 : Nat) = 8 ^ 3 from rfl]; exact Nat.pow_le_pow_right (by omega) hk)
    have HR := Lib.hid hr
    have HF := Lib.hid hf
    have HO := Lib.hid ho
    have HS := Lib.hid hs
    clear hr hf ho hs
    by_cases hk3 : k < 3
    · obtain ⟨j, hj⟩ : ∃ j, j = 3 - k - 1 := ⟨_, rfl⟩
      have HJ := Lib.hid (show 3 - k = j + 1 by omega)
      clear hj
      cases hd : dgt 8 l' with
      | none =>
        have HD := Lib.hid hd
        have HE := Lib.hid (show octF 3 0 false l = (sum, sm, l') by rw [← HO.out, HJ.out]; simp only [octF, hd])
        clear hd
        go_wp2_with (go_at_call 107; go_must (refine (digit_no _ R s d l' 8 (by omega) (by exact HR.out) HD.out).mono ?_; rintro e _ ⟨rfl, n1, rfl⟩))
        refine bodyPost_ret (v := .tuple #[.int .u8 (sum % 256 : Nat), .bool sm]) (by simp [results, Tryz.results124, go_sem]) rfl ⟨by rw [HE.out], by rw [HE.out]; exact HR.out, HF.out.drewN n1⟩
      | some p =>
        obtain ⟨n, t⟩ := p
        have HD := Lib.hid hd
        have hn := dgt_lt hd
        have HE := Lib.hid (show octF j (sum * 8 + n) true t = octF 3 0 false l by rw [← HO.out, HJ.out]; simp only [octF, hd])
        clear hd
        go_wp2_with (go_at_call 107; go_must (refine (digit_yes _ R s d l' t 8 n (by omega) (by exact HR.out) HD.out).mono ?_; rintro e w1 ⟨rfl, hr1, hf1⟩))
        go_roundw
        case rel => exact ⟨k + 1, sum * 8 + n, true, t, by omega, by go_num, rfl, by go_num, by have := HS.out; rw [Nat.pow_succ]; omega, by rw [show 3 - (k + 1) = j by have := HJ.out; omega]; exact HE.out, hr1, HF.out.trans hf1⟩
        case measure => simp [intOf]; omega
    · obtain rfl : k = 3 := by omega
      have HE := Lib.hid (show octF 3 0 false l = (sum, sm, l') by rw [← HO.out]; rfl)
      go_wp2
      refine bodyPost_ret (v := .tuple #[.int .u8 (sum % 256 : Nat), .bool sm]) (by simp [results, Tryz.results124, go_sem]) rfl ⟨by rw [HE.out], by rw [HE.out]; exact HR.out, HF.out⟩
theorem octF_true (k s : Nat) (l : List UInt8) : (octF k s true l).2.1 = true := by
  induction k generalizing s l with
  | zero => rfl
  | succ k ih =>
    simp only [octF]
    split
    · rfl
    · exact ih _ _
theorem octF_no (l : List UInt8) (h : (octF 3 0 false l).2.1 = false) : octF 3 0 false l = (0, false, l) := by
  cases hd : dgt 8 l with
  | none => show octF (2 + 1) 0 false l = _; rw [octF, hd]
  | some p =>
    have e : octF 3 0 false l = octF 2 (0 * 8 + p.1) true p.2 := by show octF (2 + 1) 0 false l = _; rw [octF, hd]
    rw [e, octF_true] at h
    cases h

theorem escape_bad (w : World) (R : Nat) (s : ByteArray) (d f : Nat) (l : List UInt8) (h : Rd w R s d l) (he : esc l = .bad f) :
    Calls Tryz.prog 113 #[.pointer (some ⟨R, 0, none⟩)] w fun e w' => e = .returned (.tuple #[.int .u8 0, .int .i64 f]) ∧ f = 4 ∧ Rd w' R s d l ∧ Frm (At R) w w' := by
  have H := Lib.hid h
  cases l with
  | cons c t =>
    simp only [esc] at he
    split at he <;> cases he
  | nil =>
    cases he
    clear h
    go_enter Tryz.func113, Tryz.ntmps113
    go_wp2_with (go_at_call 48; go_must (refine (done_all _ R s d [] (by exact H.out)).mono ?_; rintro e _ ⟨rfl, n1, rfl⟩))
    exact bodyPost_ret (v := .tuple #[.int .u8 0, .int .i64 4]) (by simp [results, Tryz.results113, go_sem]) rfl (by first | exact ⟨rfl, rfl, H.out, (Frm.refl (At R) w).drewN n1⟩ | exact ⟨rfl, trivial, H.out, (Frm.refl (At R) w).drewN n1⟩)

theorem esc_cases (c : UInt8) : c = 97 ∨ c = 98 ∨ c = 102 ∨ c = 110 ∨ c = 114 ∨ c = 116 ∨ c = 118 ∨ (((c.toNat : Int) == 97) = false ∧ ((c.toNat : Int) == 98) = false ∧ ((c.toNat : Int) == 102) = false ∧ ((c.toNat : Int) == 110) = false ∧ ((c.toNat : Int) == 114) = false ∧ ((c.toNat : Int) == 116) = false ∧ ((c.toNat : Int) == 118) = false ∧ escByte c = c) := by
  have h : ∀ n : Fin 256, UInt8.ofNat n.val = 97 ∨ UInt8.ofNat n.val = 98 ∨ UInt8.ofNat n.val = 102 ∨ UInt8.ofNat n.val = 110 ∨ UInt8.ofNat n.val = 114 ∨ UInt8.ofNat n.val = 116 ∨ UInt8.ofNat n.val = 118 ∨ (((n.val : Int) == 97) = false ∧ ((n.val : Int) == 98) = false ∧ ((n.val : Int) == 102) = false ∧ ((n.val : Int) == 110) = false ∧ ((n.val : Int) == 114) = false ∧ ((n.val : Int) == 116) = false ∧ ((n.val : Int) == 118) = false ∧ escByte (UInt8.ofNat n.val) = UInt8.ofNat n.val) := by decide +kernel
  have := h ⟨c.toNat, c.toNat_lt⟩
  simpa using this

set_option maxHeartbeats 400000 in
theorem escape_ok (w : World) (R : Nat) (s : ByteArray) (d : Nat) (l l' : List UInt8) (b : UInt8) (h : Rd w R s d l) (he : esc l = .ok b l') :
    Calls Tryz.prog 113 #[.pointer (some ⟨R, 0, none⟩)] w fun e w' => e = .returned (.tuple #[.int .u8 (b.toNat : Int), .int .i64 0]) ∧ Rd w' R s d l' ∧ Frm (At R) w w' := by
  have H := Lib.hid h
  clear h
  cases l with
  | nil => cases he
  | cons c t =>
    by_cases ho : (octF 3 0 false (c :: t)).2.1 = true
    · obtain ⟨rfl, rfl⟩ : UInt8.ofNat (octF 3 0 false (c :: t)).1 = b ∧ (octF 3 0 false (c :: t)).2.2 = l' := by
        simp only [esc, if_pos ho] at he
        cases he
        exact ⟨rfl, rfl⟩
      clear he
      have HB := Lib.hid (show (((octF 3 0 false (c :: t)).1 % 256 : Nat) : Int) = ((UInt8.ofNat (octF 3 0 false (c :: t)).1).toNat : Int) by simp)
      have HC := Lib.hid (octal_all (l := c :: t))
      go_enter Tryz.func113, Tryz.ntmps113
      go_wp2_with (first | (go_at_call 48; go_must (refine (done_all _ R s d _ (by exact H.out)).mono ?_; rintro e _ ⟨rfl, n1, rfl⟩)) | (go_at_call 124; go_must (refine (HC.out _ R s d (by exact H.out)).mono ?_; rintro e w1 ⟨rfl, hr1, hf1⟩)))
      exact bodyPost_ret (v := .tuple #[.int .u8 ((octF 3 0 false (c :: t)).1 % 256 : Nat), .int .i64 0]) (by simp [results, Tryz.results113, go_sem]) rfl ⟨by rw [HB.out], hr1, ((Frm.refl (At R) w).drewN n1).trans hf1⟩
    · have hn := octF_no (c :: t) (by simpa using ho)
      obtain ⟨rfl, rfl⟩ : escByte c = b ∧ t = l' := by
        simp only [esc, if_neg ho] at he
        cases he
        exact ⟨rfl, rfl⟩
      have HN := Lib.hid hn
      have hn1 : (octF 3 0 false (c :: t)).2.1 = false := by rw [hn]
      have hn2 : (octF 3 0 false (c :: t)).1 = 0 := by rw [hn]
      clear he hn ho
      rcases esc_cases c with rfl | rfl | rfl | rfl | rfl | rfl | rfl | ⟨f1, f2, f3, f4, f5, f6, f7, f8⟩
      · go_enter Tryz.func113, Tryz.ntmps113
        go_wp2_with (first | (go_at_call 48; go_must (refine (done_all _ R s d _ (by exact H.out)).mono ?_; rintro e _ ⟨rfl, n1, rfl⟩)) | (go_at_call 124; go_must (refine (octal_all _ R s d _ (by exact H.out)).mono ?_; rintro e w1 ⟨rfl, hr1, hf1⟩; have HR1 := Lib.hid hr1; have HF1 := Lib.hid hf1; clear hr1 hf1)) | (go_at_call 99; go_must (refine (next_all _ R s d _ t (by have := HR1.out; rw [HN.out] at this; exact this)).mono ?_; rintro e w2 ⟨rfl, hr2, hf2⟩)))
        exact bodyPost_ret (v := .tuple #[.int .u8 7, .int .i64 0]) (by simp [results, Tryz.results113, go_sem]) rfl ⟨rfl, hr2, ((Frm.refl (At R) w).drewN n1).trans (HF1.out.trans hf2)⟩
      · go_enter Tryz.func113, Tryz.ntmps113
        go_wp2_with (first | (go_at_call 48; go_must (refine (done_all _ R s d _ (by exact H.out)).mono ?_; rintro e _ ⟨rfl, n1, rfl⟩)) | (go_at_call 124; go_must (refine (octal_all _ R s d _ (by exact H.out)).mono ?_; rintro e w1 ⟨rfl, hr1, hf1⟩; have HR1 := Lib.hid hr1; have HF1 := Lib.hid hf1; clear hr1 hf1)) | (go_at_call 99; go_must (refine (next_all _ R s d _ t (by have := HR1.out; rw [HN.out] at this; exact this)).mono ?_; rintro e w2 ⟨rfl, hr2, hf2⟩)))
        exact bodyPost_ret (v := .tuple #[.int .u8 8, .int .i64 0]) (by simp [results, Tryz.results113, go_sem]) rfl ⟨rfl, hr2, ((Frm.refl (At R) w).drewN n1).trans (HF1.out.trans hf2)⟩
      · go_enter Tryz.func113, Tryz.ntmps113
        go_wp2_with (first | (go_at_call 48; go_must (refine (done_all _ R s d _ (by exact H.out)).mono ?_; rintro e _ ⟨rfl, n1, rfl⟩)) | (go_at_call 124; go_must (refine (octal_all _ R s d _ (by exact H.out)).mono ?_; rintro e w1 ⟨rfl, hr1, hf1⟩; have HR1 := Lib.hid hr1; have HF1 := Lib.hid hf1; clear hr1 hf1)) | (go_at_call 99; go_must (refine (next_all _ R s d _ t (by have := HR1.out; rw [HN.out] at this; exact this)).mono ?_; rintro e w2 ⟨rfl, hr2, hf2⟩)))
        exact bodyPost_ret (v := .tuple #[.int .u8 12, .int .i64 0]) (by simp [results, Tryz.results113, go_sem]) rfl ⟨rfl, hr2, ((Frm.refl (At R) w).drewN n1).trans (HF1.out.trans hf2)⟩
      · go_enter Tryz.func113, Tryz.ntmps113
        go_wp2_with (first | (go_at_call 48; go_must (refine (done_all _ R s d _ (by exact H.out)).mono ?_; rintro e _ ⟨rfl, n1, rfl⟩)) | (go_at_call 124; go_must (refine (octal_all _ R s d _ (by exact H.out)).mono ?_; rintro e w1 ⟨rfl, hr1, hf1⟩; have HR1 := Lib.hid hr1; have HF1 := Lib.hid hf1; clear hr1 hf1)) | (go_at_call 99; go_must (refine (next_all _ R s d _ t (by have := HR1.out; rw [HN.out] at this; exact this)).mono ?_; rintro e w2 ⟨rfl, hr2, hf2⟩)))
        exact bodyPost_ret (v := .tuple #[.int .u8 10, .int .i64 0]) (by simp [results, Tryz.results113, go_sem]) rfl ⟨rfl, hr2, ((Frm.refl (At R) w).drewN n1).trans (HF1.out.trans hf2)⟩
      · go_enter Tryz.func113, Tryz.ntmps113
        go_wp2_with (first | (go_at_call 48; go_must (refine (done_all _ R s d _ (by exact H.out)).mono ?_; rintro e _ ⟨rfl, n1, rfl⟩)) | (go_at_call 124; go_must (refine (octal_all _ R s d _ (by exact H.out)).mono ?_; rintro e w1 ⟨rfl, hr1, hf1⟩; have HR1 := Lib.hid hr1; have HF1 := Lib.hid hf1; clear hr1 hf1)) | (go_at_call 99; go_must (refine (next_all _ R s d _ t (by have := HR1.out; rw [HN.out] at this; exact this)).mono ?_; rintro e w2 ⟨rfl, hr2, hf2⟩)))
        exact bodyPost_ret (v := .tuple #[.int .u8 13, .int .i64 0]) (by simp [results, Tryz.results113, go_sem]) rfl ⟨rfl, hr2, ((Frm.refl (At R) w).drewN n1).trans (HF1.out.trans hf2)⟩
      · go_enter Tryz.func113, Tryz.ntmps113
        go_wp2_with (first | (go_at_call 48; go_must (refine (done_all _ R s d _ (by exact H.out)).mono ?_; rintro e _ ⟨rfl, n1, rfl⟩)) | (go_at_call 124; go_must (refine (octal_all _ R s d _ (by exact H.out)).mono ?_; rintro e w1 ⟨rfl, hr1, hf1⟩; have HR1 := Lib.hid hr1; have HF1 := Lib.hid hf1; clear hr1 hf1)) | (go_at_call 99; go_must (refine (next_all _ R s d _ t (by have := HR1.out; rw [HN.out] at this; exact this)).mono ?_; rintro e w2 ⟨rfl, hr2, hf2⟩)))
        exact bodyPost_ret (v := .tuple #[.int .u8 9, .int .i64 0]) (by simp [results, Tryz.results113, go_sem]) rfl ⟨rfl, hr2, ((Frm.refl (At R) w).drewN n1).trans (HF1.out.trans hf2)⟩
      · go_enter Tryz.func113, Tryz.ntmps113
        go_wp2_with (first | (go_at_call 48; go_must (refine (done_all _ R s d _ (by exact H.out)).mono ?_; rintro e _ ⟨rfl, n1, rfl⟩)) | (go_at_call 124; go_must (refine (octal_all _ R s d _ (by exact H.out)).mono ?_; rintro e w1 ⟨rfl, hr1, hf1⟩; have HR1 := Lib.hid hr1; have HF1 := Lib.hid hf1; clear hr1 hf1)) | (go_at_call 99; go_must (refine (next_all _ R s d _ t (by have := HR1.out; rw [HN.out] at this; exact this)).mono ?_; rintro e w2 ⟨rfl, hr2, hf2⟩)))
        exact bodyPost_ret (v := .tuple #[.int .u8 11, .int .i64 0]) (by simp [results, Tryz.results113, go_sem]) rfl ⟨rfl, hr2, ((Frm.refl (At R) w).drewN n1).trans (HF1.out.trans hf2)⟩
      · go_enter Tryz.func113, Tryz.ntmps113
        go_wp2_with (first | (go_at_call 48; go_must (refine (done_all _ R s d _ (by exact H.out)).mono ?_; rintro e _ ⟨rfl, n1, rfl⟩)) | (go_at_call 124; go_must (refine (octal_all _ R s d _ (by exact H.out)).mono ?_; rintro e w1 ⟨rfl, hr1, hf1⟩; have HR1 := Lib.hid hr1; have HF1 := Lib.hid hf1; clear hr1 hf1)) | (go_at_call 99; go_must (refine (next_all _ R s d _ t (by have := HR1.out; rw [HN.out] at this; exact this)).mono ?_; rintro e w2 ⟨rfl, hr2, hf2⟩)))
        exact bodyPost_ret (v := .tuple #[.int .u8 (c.toNat : Int), .int .i64 0]) (by simp [results, Tryz.results113, go_sem]) rfl ⟨by rw [f8], hr2, ((Frm.refl (At R) w).drewN n1).trans (HF1.out.trans hf2)⟩
end Go.Proofs.YtbfekknhmjndaaaGreat.nums

namespace Go.Proofs.YtbfekknhmjndaaaGreat.nums
set_option linter.unusedVariables false set_option linter.unusedSimpArgs false
open Go.ChangeShapes Go.WideShapes Go.ChangeAt Go.RowKit Go.Proofs.YtbfekknhmjndaaaGreat.base Go.Proofs.YtbfekknhmjndaaaGreat.read Go.Proofs.YtbfekknhmjndaaaGreat.spec

/-- How many bytes aren't read yet, told by the memory. -/
def left (R : Nat) (s : ByteArray) (w : World) : Nat := s.size - (intOf ((w.cell? ⟨R, 1, none⟩).getD (.bool false))).toNat
theorem left_eq {w : World} {R : Nat} {s : ByteArray} {d : Nat} {l : List UInt8} (h : Rd w R s d l) : left R s w = l.length := by
  obtain ⟨i, h, e⟩ := h
  unfold left
  rw [h.c1, ← e, sx_len]
  simp [intOf]

theorem cnt_le (sum : Nat) (sm : Bool) (l : List UInt8) (h : sum ≤ 256) : (cnt sum sm l).1 ≤ 256 := by
  induction l generalizing sum sm with
  | nil => exact h
  | cons x t ih =>
    rw [cnt]
    split
    · exact ih _ _ (Nat.min_le_right _ _)
    · exact h

set_option maxHeartbeats 400000 in
theorem count_all (w : World) (R : Nat) (s : ByteArray) (d : Nat) (l : List UInt8) (h : Rd w R s d l) :
    Calls Tryz.prog 115 #[.pointer (some ⟨R, 0, none⟩)] w fun e w' => e = .returned (.tuple #[.int .i64 ((cnt 0 false l).1 : Nat), .bool ((cnt 0 false l).2.1 && decide ((cnt 0 false l).1 ≤ 255))]) ∧ Rd w' R s d (cnt 0 false l).2.2 ∧ Frm (At R) w w' := by
  have H := Lib.hid h
  clear h
  go_enter Tryz.func115, Tryz.ntmps115
  go_wp2
  go_loopw [4, 5] (fun sv mv wr => ∃ (sum : Nat) (sm : Bool) (l' : List UInt8), sv = .int .i64 sum ∧ mv = .bool sm ∧ sum ≤ 256 ∧ cnt sum sm l' = cnt 0 false l ∧ Rd wr R s d l' ∧ Frm (At R) w wr) (fun _ _ wr => left R s wr)
  case atStart => exact ⟨0, false, l, rfl, rfl, by omega, rfl, H.out, Frm.refl _ w⟩
  case round =>
    obtain ⟨sum, sm, l', rfl, rfl, hs, hc, hr, hf⟩ := hrel
    have HR := Lib.hid hr
    have HF := Lib.hid hf
    have HC := Lib.hid hc
    have HL := Lib.hid (left_eq hr)
    clear hr hf hc
    cases hd : dgt 10 l' with
    | none =>
      have HD := Lib.hid hd
      have HE := Lib.hid (show cnt 0 false l = (sum, sm, l') by
        rw [← HC.out]
        cases l' with
        | nil => rfl
        | cons x t =>
          simp only [dgt] at hd
          split at hd
          · cases hd
          · rw [cnt, if_neg (by assumption)])
      clear hd
      cases sm with
      | false =>
        go_wp2_with (go_at_call 107; go_must (refine (digit_no _ R s d l' 10 (by omega) (by exact HR.out) HD.out).mono ?_; rintro e _ ⟨rfl, n1, rfl⟩))
        refine bodyPost_ret (v := .tuple #[.int .i64 sum, .bool false]) (by simp [results, Tryz.results115, go_sem]) rfl ⟨by rw [HE.out]; rfl, by rw [HE.out]; exact HR.out, HF.out.drewN n1⟩
      | true =>
        by_cases hle : sum ≤ 255
        · go_wp2_with (go_at_call 107; go_must (refine (digit_no _ R s d l' 10 (by omega) (by exact HR.out) HD.out).mono ?_; rintro e _ ⟨rfl, n1, rfl⟩))
          refine bodyPost_ret (v := .tuple #[.int .i64 sum, .bool true]) (by simp [results, Tryz.results115, go_sem, show (sum : Int) ≤ 255 by omega]) rfl ⟨by rw [HE.out]; simp [hle], by rw [HE.out]; exact HR.out, HF.out.drewN n1⟩
        · go_wp2_with (go_at_call 107; go_must (refine (digit_no _ R s d l' 10 (by omega) (by exact HR.out) HD.out).mono ?_; rintro e _ ⟨rfl, n1, rfl⟩))
          refine bodyPost_ret (v := .tuple #[.int .i64 sum, .bool false]) (by simp [results, Tryz.results115, go_sem, show ¬ (sum : Int) ≤ 255 by omega]) rfl ⟨by rw [HE.out]; simp; omega, by rw [HE.out]; exact HR.out, HF.out.drewN n1⟩
    | some p =>
      obtain ⟨n, t⟩ := p
      have HD := Lib.hid hd
      have hn := dgt_lt hd
      have HE := Lib.hid (show cnt (min (sum * 10 + n) 256) true t = cnt 0 false l ∧ l'.length = t.length + 1 by
        rw [← HC.out]
        cases l' with
        | nil => cases hd
        | cons x t' =>
          simp only [dgt] at hd
          split at hd
          · cases hd
            exact ⟨by rw [cnt, if_pos (by assumption)], rfl⟩
          · cases hd)
      have hmin : ((min (sum * 10 + n) 256 : Nat) : Int) = min ((sum : Int) * 10 + n) 256 := by omega
      clear hd
      go_wp2_with (go_at_call 107; go_must (refine (digit_yes _ R s d l' t 10 n (by omega) (by exact HR.out) HD.out).mono ?_; rintro e w1 ⟨rfl, hr1, hf1⟩))
      all_goals go_roundw
      case rel => exact ⟨min (sum * 10 + n) 256, true, t, by go_num, rfl, by omega, HE.out.1, hr1, HF.out.trans hf1⟩
      case measure =>
        have a1 := left_eq hr1
        have a2 := HL.out
        have a3 := HE.out.2
        omega

theorem count_ok (w : World) (R : Nat) (s : ByteArray) (d n : Nat) (l l' : List UInt8) (h : Rd w R s d l) (hc : count l = some (n, l')) :
    Calls Tryz.prog 115 #[.pointer (some ⟨R, 0, none⟩)] w fun e w' => e = .returned (.tuple #[.int .i64 (n : Nat), .bool true]) ∧ n ≤ 255 ∧ Rd w' R s d l' ∧ Frm (At R) w w' := by
  unfold count at hc
  split at hc
  · rename_i hb
    cases hc
    refine (count_all w R s d l h).mono ?_
    rintro e w' ⟨rfl, h1, h2⟩
    simp only [Bool.and_eq_true, decide_eq_true_eq] at hb
    exact ⟨by rw [hb.1, decide_eq_true hb.2]; rfl, hb.2, h1, h2⟩
  · cases hc
theorem count_no (w : World) (R : Nat) (s : ByteArray) (d : Nat) (l : List UInt8) (h : Rd w R s d l) (hc : count l = none) :
    Calls Tryz.prog 115 #[.pointer (some ⟨R, 0, none⟩)] w fun e w' => ∃ (n : Nat) (l' : List UInt8), e = .returned (.tuple #[.int .i64 (n : Nat), .bool false]) ∧ n ≤ 256 ∧ Rd w' R s d l' ∧ Frm (At R) w w' := by
  unfold count at hc
  split at hc
  · cases hc
  · rename_i hb
    refine (count_all w R s d l h).mono ?_
    rintro e w' ⟨rfl, h1, h2⟩
    exact ⟨_, _, by rw [show ((cnt 0 false l).2.1 && decide ((cnt 0 false l).1 ≤ 255)) = false by simpa using hb], cnt_le 0 false l (by omega), h1, h2⟩

theorem upper_ok (w : World) (R : Nat) (s : ByteArray) (d lo : Nat) (hi : Int) (l l' : List UInt8) (h : Rd w R s d l) (hc : upper lo l = some (hi, l')) (hlo : lo ≤ 255) :
    Calls Tryz.prog 116 #[.pointer (some ⟨R, 0, none⟩), .int .i64 lo] w fun e w' => e = .returned (.tuple #[.int .i64 hi, .bool true]) ∧ -1 ≤ hi ∧ hi ≤ 255 ∧ Rd w' R s d l' ∧ Frm (At R) w w' := by
  have H := Lib.hid h
  clear h
  unfold upper at hc
  split at hc
  · rename_i hb
    cases hc
    go_enter Tryz.func116, Tryz.ntmps116
    go_wp2_with (go_at_call 80; go_must (refine (at_all _ R s d l 125 _ rfl (by exact H.out)).mono ?_; rintro e _ ⟨rfl, n1, rfl⟩))
    exact bodyPost_ret (v := .tuple #[.int .i64 (-1), .bool true]) (by simp [results, Tryz.results116, go_sem]) rfl ⟨rfl, by omega, by omega, H.out, (Frm.refl (At R) w).drewN n1⟩
  · rename_i hb
    have hb' : hd l 125 = false := by simpa using hb
    split at hc
    · cases hc
    · rename_i n l1 hn
      split at hc
      · rename_i hle
        cases hc
        have HN := Lib.hid hn
        have hle' : (lo : Int) ≤ (n : Int) := by omega
        clear hn hb hle
        go_enter Tryz.func116, Tryz.ntmps116
        go_wp2_with (first | (go_at_call 80; go_must (refine (at_all _ R s d l 125 _ rfl (by exact H.out)).mono ?_; rintro e _ ⟨rfl, n1, rfl⟩)) | (go_at_call 115; go_must (refine (count_ok _ R s d n l l' (by exact H.out) HN.out).mono ?_; rintro e w1 ⟨rfl, hn255, hr1, hf1⟩)))
        exact bodyPost_ret (v := .tuple #[.int .i64 n, .bool true]) (by simp [results, Tryz.results116, go_sem]) rfl ⟨rfl, by omega, by omega, hr1, ((Frm.refl (At R) w).drewN n1).trans hf1⟩
      · cases hc
theorem upper_no (w : World) (R : Nat) (s : ByteArray) (d lo : Nat) (l : List UInt8) (h : Rd w R s d l) (hc : upper lo l = none) (hlo : lo ≤ 255) :
    Calls Tryz.prog 116 #[.pointer (some ⟨R, 0, none⟩), .int .i64 lo] w fun e w' => ∃ (n : Nat) (l' : List UInt8), e = .returned (.tuple #[.int .i64 n, .bool false]) ∧ n ≤ 256 ∧ Rd w' R s d l' ∧ Frm (At R) w w' := by
  have H := Lib.hid h
  clear h
  unfold upper at hc
  split at hc
  · cases hc
  · rename_i hb
    have hb' : hd l 125 = false := by simpa using hb
    split at hc
    · rename_i hn
      have HN := Lib.hid hn
      clear hn hb hc
      go_enter Tryz.func116, Tryz.ntmps116
      go_wp2_with (first | (go_at_call 80; go_must (refine (at_all _ R s d l 125 _ rfl (by exact H.out)).mono ?_; rintro e _ ⟨rfl, n1, rfl⟩)) | (go_at_call 115; go_must (refine (count_no _ R s d l (by exact H.out) HN.out).mono ?_; rintro e w1 ⟨n, l', rfl, hn256, hr1, hf1⟩)))
      exact bodyPost_ret (v := .tuple #[.int .i64 n, .bool false]) (by simp [results, Tryz.results116, go_sem]) rfl ⟨n, l', rfl, hn256, hr1, ((Frm.refl (At R) w).drewN n1).trans hf1⟩
    · rename_i n l1 hn
      split at hc
      · cases hc
      · rename_i hle
        have HN := Lib.hid hn
        have hle' : (n : Int) < (lo : Int) := by omega
        clear hn hb hle hc
        go_enter Tryz.func116, Tryz.ntmps116
        go_wp2_with (first | (go_at_call 80; go_must (refine (at_all _ R s d l 125 _ rfl (by exact H.out)).mono ?_; rintro e _ ⟨rfl, n1, rfl⟩)) | (go_at_call 115; go_must (refine (count_ok _ R s d n l l1 (by exact H.out) HN.out).mono ?_; rintro e w1 ⟨rfl, hn255, hr1, hf1⟩)))
        exact bodyPost_ret (v := .tuple #[.int .i64 n, .bool false]) (by simp [results, Tryz.results116, go_sem] <;> omega) rfl ⟨n, l1, rfl, by omega, hr1, ((Frm.refl (At R) w).drewN n1).trans hf1⟩

theorem interval_ok (w : World) (R : Nat) (s : ByteArray) (d lo : Nat) (hi : Int) (l l' : List UInt8) (h : Rd w R s d l) (hc : interval l = some ((lo, hi), l')) :
    Calls Tryz.prog 109 #[.pointer (some ⟨R, 0, none⟩)] w fun e w' => e = .returned (.tuple #[.int .i64 lo, .int .i64 hi, .bool true]) ∧ lo ≤ 255 ∧ -1 ≤ hi ∧ hi ≤ 255 ∧ Rd w' R s d l' ∧ Frm (At R) w w' := by
  have H := Lib.hid h
  clear h
  unfold interval at hc
  split at hc
  · cases hc
  · rename_i m l1 hm
    have HM := Lib.hid hm
    clear hm
    split at hc
    · rename_i hb
      split at hc
      · cases hc
      · rename_i hi' l2 hu
        have HU := Lib.hid hu
        clear hu
        split at hc
        · rename_i hb2
          cases hc
          go_enter Tryz.func109, Tryz.ntmps109
          go_wp2_with (first | (go_at_call 115; go_must (refine (count_ok _ R s d lo l l1 (by exact H.out) HM.out).mono ?_; rintro e w1 ⟨rfl, hn255, hr1, hf1⟩; have HR1 := Lib.hid hr1; have HF1 := Lib.hid hf1; clear hr1 hf1)) | (go_at_call_of 63 (Value.int .u8 44); go_must (refine (take_all w1 R s d l1 44 _ rfl (by exact HR1.out)).mono ?_; rintro e w2 ⟨rfl, hr2, hf2⟩; rw [if_pos hb] at hr2; have HR2 := Lib.hid hr2; have HF2 := Lib.hid hf2; clear hr2 hf2)) | (go_at_call 116; go_must (refine (upper_ok _ R s d lo hi l1.tail l2 (by exact HR2.out) HU.out hn255).mono ?_; rintro e w3 ⟨rfl, hb3, hb4, hr3, hf3⟩; have HR3 := Lib.hid hr3; have HF3 := Lib.hid hf3; clear hr3 hf3)) | (go_at_call_of 63 (Value.int .u8 125); go_must (refine (take_all w3 R s d l2 125 _ rfl (by exact HR3.out)).mono ?_; rintro e w4 ⟨rfl, hr4, hf4⟩; rw [if_pos hb2] at hr4)))
          exact bodyPost_ret (v := .tuple #[.int .i64 lo, .int .i64 hi, .bool true]) (by simp [results, Tryz.results109, go_sem]) rfl ⟨rfl, hn255, hb3, hb4, hr4, HF1.out.trans (HF2.out.trans (HF3.out.trans hf4))⟩
        · cases hc
    · rename_i hb
      have hb' : hd l1 44 = false := by simpa using hb
      split at hc
      · rename_i hb2
        cases hc
        go_enter Tryz.func109, Tryz.ntmps109
        go_wp2_with (first | (go_at_call 115; go_must (refine (count_ok _ R s d lo l l1 (by exact H.out) HM.out).mono ?_; rintro e w1 ⟨rfl, hn255, hr1, hf1⟩; have HR1 := Lib.hid hr1; have HF1 := Lib.hid hf1; clear hr1 hf1)) | (go_at_call_of 63 (Value.int .u8 44); go_must (refine (take_all w1 R s d l1 44 _ rfl (by exact HR1.out)).mono ?_; rintro e w2 ⟨rfl, hr2, hf2⟩; rw [if_neg hb] at hr2; have HR2 := Lib.hid hr2; have HF2 := Lib.hid hf2; clear hr2 hf2)) | (go_at_call_of 63 (Value.int .u8 125); go_must (refine (take_all w2 R s d l1 125 _ rfl (by exact HR2.out)).mono ?_; rintro e w4 ⟨rfl, hr4, hf4⟩; rw [if_pos hb2] at hr4)))
        exact bodyPost_ret (v := .tuple #[.int .i64 lo, .int .i64 lo, .bool true]) (by simp [results, Tryz.results109, go_sem]) rfl ⟨rfl, hn255, by omega, by omega, hr4, HF1.out.trans (HF2.out.trans hf4)⟩
      · cases hc
end Go.Proofs.YtbfekknhmjndaaaGreat.nums

namespace Go.Proofs.YtbfekknhmjndaaaGreat.nums
set_option linter.unusedVariables false set_option linter.unusedSimpArgs false
open Go.ChangeShapes Go.WideShapes Go.ChangeAt Go.RowKit Go.Proofs.YtbfekknhmjndaaaGreat.base Go.Proofs.YtbfekknhmjndaaaGreat.read Go.Proofs.YtbfekknhmjndaaaGreat.spec

theorem interval_no (w : World) (R : Nat) (s : ByteArray) (d : Nat) (l : List UInt8) (h : Rd w R s d l) (hc : interval l = none) :
    Calls Tryz.prog 109 #[.pointer (some ⟨R, 0, none⟩)] w fun e w' => ∃ (a b : Int) (l' : List UInt8), e = .returned (.tuple #[.int .i64 a, .int .i64 b, .bool false]) ∧ Rd w' R s d l' ∧ Frm (At R) w w' := by
  have H := Lib.hid h
  clear h
  unfold interval at hc
  split at hc
  · rename_i hm
    have HM := Lib.hid hm
    clear hm hc
    go_enter Tryz.func109, Tryz.ntmps109
    go_wp2_with (go_at_call 115; go_must (refine (count_no _ R s d l (by exact H.out) HM.out).mono ?_; rintro e w1 ⟨n, l', rfl, hn256, hr1, hf1⟩))
    exact bodyPost_ret (v := .tuple #[.int .i64 0, .int .i64 0, .bool false]) (by simp [results, Tryz.results109, go_sem]) rfl ⟨0, 0, l', rfl, hr1, hf1⟩
  · rename_i m l1 hm
    have HM := Lib.hid hm
    clear hm
    split at hc
    · rename_i hb
      split at hc
      · rename_i hu
        have HU := Lib.hid hu
        clear hu hc
        go_enter Tryz.func109, Tryz.ntmps109
        go_wp2_with (first | (go_at_call 115; go_must (refine (count_ok _ R s d m l l1 (by exact H.out) HM.out).mono ?_; rintro e w1 ⟨rfl, hn255, hr1, hf1⟩; have HR1 := Lib.hid hr1; have HF1 := Lib.hid hf1; clear hr1 hf1)) | (go_at_call_of 63 (Value.int .u8 44); go_must (refine (take_all w1 R s d l1 44 _ rfl (by exact HR1.out)).mono ?_; rintro e w2 ⟨rfl, hr2, hf2⟩; rw [if_pos hb] at hr2; have HR2 := Lib.hid hr2; have HF2 := Lib.hid hf2; clear hr2 hf2)) | (go_at_call 116; go_must (refine (upper_no _ R s d m l1.tail (by exact HR2.out) HU.out hn255).mono ?_; rintro e w3 ⟨n3, l3, rfl, hb3, hr3, hf3⟩; have HR3 := Lib.hid hr3; have HF3 := Lib.hid hf3; clear hr3 hf3)))
        exact bodyPost_ret (v := .tuple #[.int .i64 m, .int .i64 n3, .bool false]) (by simp [results, Tryz.results109, go_sem]) rfl ⟨m, n3, l3, rfl, HR3.out, HF1.out.trans (HF2.out.trans HF3.out)⟩
      · rename_i hi' l2 hu
        have HU := Lib.hid hu
        clear hu
        split at hc
        · cases hc
        · rename_i hb2
          have hb2' : hd l2 125 = false := by simpa using hb2
          clear hc
          go_enter Tryz.func109, Tryz.ntmps109
          go_wp2_with (first | (go_at_call 115; go_must (refine (count_ok _ R s d m l l1 (by exact H.out) HM.out).mono ?_; rintro e w1 ⟨rfl, hn255, hr1, hf1⟩; have HR1 := Lib.hid hr1; have HF1 := Lib.hid hf1; clear hr1 hf1)) | (go_at_call_of 63 (Value.int .u8 44); go_must (refine (take_all w1 R s d l1 44 _ rfl (by exact HR1.out)).mono ?_; rintro e w2 ⟨rfl, hr2, hf2⟩; rw [if_pos hb] at hr2; have HR2 := Lib.hid hr2; have HF2 := Lib.hid hf2; clear hr2 hf2)) | (go_at_call 116; go_must (refine (upper_ok _ R s d m hi' l1.tail l2 (by exact HR2.out) HU.out hn255).mono ?_; rintro e w3 ⟨rfl, hb3, hb4, hr3, hf3⟩; have HR3 := Lib.hid hr3; have HF3 := Lib.hid hf3; clear hr3 hf3)) | (go_at_call_of 63 (Value.int .u8 125); go_must (refine (take_all w3 R s d l2 125 _ rfl (by exact HR3.out)).mono ?_; rintro e w4 ⟨rfl, hr4, hf4⟩; rw [if_neg hb2] at hr4)))
          exact bodyPost_ret (v := .tuple #[.int .i64 m, .int .i64 hi', .bool false]) (by simp [results, Tryz.results109, go_sem]) rfl ⟨m, hi', l2, rfl, hr4, HF1.out.trans (HF2.out.trans (HF3.out.trans hf4))⟩
    · rename_i hb
      have hb' : hd l1 44 = false := by simpa using hb
      split at hc
      · cases hc
      · rename_i hb2
        have hb2' : hd l1 125 = false := by simpa using hb2
        clear hc
        go_enter Tryz.func109, Tryz.ntmps109
        go_wp2_with (first | (go_at_call 115; go_must (refine (count_ok _ R s d m l l1 (by exact H.out) HM.out).mono ?_; rintro e w1 ⟨rfl, hn255, hr1, hf1⟩; have HR1 := Lib.hid hr1; have HF1 := Lib.hid hf1; clear hr1 hf1)) | (go_at_call_of 63 (Value.int .u8 44); go_must (refine (take_all w1 R s d l1 44 _ rfl (by exact HR1.out)).mono ?_; rintro e w2 ⟨rfl, hr2, hf2⟩; rw [if_neg hb] at hr2; have HR2 := Lib.hid hr2; have HF2 := Lib.hid hf2; clear hr2 hf2)) | (go_at_call_of 63 (Value.int .u8 125); go_must (refine (take_all w2 R s d l1 125 _ rfl (by exact HR2.out)).mono ?_; rintro e w4 ⟨rfl, hr4, hf4⟩; rw [if_neg hb2] at hr4)))
        exact bodyPost_ret (v := .tuple #[.int .i64 m, .int .i64 m, .bool false]) (by simp [results, Tryz.results109, go_sem]) rfl ⟨m, m, l1, rfl, hr4, HF1.out.trans (HF2.out.trans hf4)⟩

theorem hd_cons {l : List UInt8} {c : UInt8} (h : hd l c = true) : ∃ t, l = c :: t := by
  cases l with
  | nil => cases h
  | cons x t => simp only [hd, beq_iff_eq] at h; exact ⟨t, by rw [h]⟩

/-- A copy of the reader in a new block. -/
theorem Rd.copy {w : World} {R : Nat} {s : ByteArray} {d i : Nat} {l : List UInt8} (h : RdI w R s d i) (e : sx s i = l) (n : Nat) :
    Rd (((((w.drewN n).alloc (.cells #[.string ⟨#[]⟩, .int .i64 0, .int .i64 0] 92)).setCell ⟨w.heap.size, 0, none⟩ (.string s)).setCell ⟨w.heap.size, 1, none⟩ (.int .i64 i)).setCell ⟨w.heap.size, 2, none⟩ (.int .i64 d)) w.heap.size s d l ∧
    Frm No w (((((w.drewN n).alloc (.cells #[.string ⟨#[]⟩, .int .i64 0, .int .i64 0] 92)).setCell ⟨w.heap.size, 0, none⟩ (.string s)).setCell ⟨w.heap.size, 1, none⟩ (.int .i64 i)).setCell ⟨w.heap.size, 2, none⟩ (.int .i64 d)) := by
  have hF : Frm No w (((((w.drewN n).alloc (.cells #[.string ⟨#[]⟩, .int .i64 0, .int .i64 0] 92)).setCell ⟨w.heap.size, 0, none⟩ (.string s)).setCell ⟨w.heap.size, 1, none⟩ (.int .i64 i)).setCell ⟨w.heap.size, 2, none⟩ (.int .i64 d)) :=
    ((((((Frm.refl No w).drewN n).alloc _).setCell _ _ (fun hk => absurd hk (Nat.lt_irrefl _))).setCell _ _ (fun hk => absurd hk (Nat.lt_irrefl _))).setCell _ _ (fun hk => absurd hk (Nat.lt_irrefl _)))
  refine ⟨⟨i, ⟨(((Box.new (w.drewN n) 92 _).set 0 _).set 1 _).set 2 _, h.2.1, h.2.2.1, h.2.2.2.1, ?_, h.2.2.2.2.2.frm hF id⟩, e⟩, hF⟩
  have := h.1.lt
  omega

set_option maxHeartbeats 400000 in
theorem atRep_all (w : World) (R : Nat) (s : ByteArray) (d : Nat) (l : List UInt8) (h : Rd w R s d l) :
    Calls Tryz.prog 93 #[.pointer (some ⟨R, 0, none⟩)] w fun e w' => e = .returned (.bool (atRep l)) ∧ Frm No w w' := by
  have H := Lib.hid h
  by_cases h1 : hd l 42 = true
  · clear h
    go_enter Tryz.func93, Tryz.ntmps93
    go_wp2_with (go_at_call_of 80 (Value.int .u8 42); go_must (refine (at_all _ R s d l 42 _ rfl (by exact H.out)).mono ?_; rintro e _ ⟨rfl, n1, rfl⟩))
    go_ret
    exact ⟨ret_bool (by simp [atRep, h1]), (Frm.refl No w).drewN n1⟩
  have f1 : hd l 42 = false := by simpa using h1
  clear h1
  by_cases h1 : hd l 43 = true
  · clear h
    go_enter Tryz.func93, Tryz.ntmps93
    go_wp2_with (first | (go_at_call_of 80 (Value.int .u8 42); go_must (refine (at_all _ R s d l 42 _ rfl (by exact H.out)).mono ?_; rintro e _ ⟨rfl, n1, rfl⟩)) | (go_at_call_of 80 (Value.int .u8 43); go_must (refine (at_all _ R s d l 43 _ rfl (by exact H.out)).mono ?_; rintro e _ ⟨rfl, n2, rfl⟩)))
    go_ret
    exact ⟨ret_bool (by simp [atRep, h1]), (Frm.refl No w).drewN _⟩
  have f2 : hd l 43 = false := by simpa using h1
  clear h1
  by_cases h1 : hd l 63 = true
  · clear h
    go_enter Tryz.func93, Tryz.ntmps93
    go_wp2_with (first | (go_at_call_of 80 (Value.int .u8 42); go_must (refine (at_all _ R s d l 42 _ rfl (by exact H.out)).mono ?_; rintro e _ ⟨rfl, n1, rfl⟩)) | (go_at_call_of 80 (Value.int .u8 43); go_must (refine (at_all _ R s d l 43 _ rfl (by exact H.out)).mono ?_; rintro e _ ⟨rfl, n2, rfl⟩)) | (go_at_call_of 80 (Value.int .u8 63); go_must (refine (at_all _ R s d l 63 _ rfl (by exact H.out)).mono ?_; rintro e _ ⟨rfl, n3, rfl⟩)))
    go_ret
    exact ⟨ret_bool (by simp [atRep, h1]), (Frm.refl No w).drewN _⟩
  have f3 : hd l 63 = false := by simpa using h1
  clear h1
  by_cases h1 : hd l 123 = true
  · obtain ⟨t, rfl⟩ := hd_cons h1
    obtain ⟨i, h, e⟩ := h
    have HC := Lib.hid (fun n => Rd.copy h e n)
    have hc0 := h.c0
    have hc1 := h.c1
    have hc2 := h.c2
    have hsz := h.1.lt
    have Q1 := fr_new w
    have Q2 := cell_new w
    cases hd : dgt 10 t with
    | none =>
      have HD := Lib.hid hd
      have HX := Lib.hid (show false = atRep (123 :: t) by simp [atRep, f1, f2, f3, hd])
      clear hd h e
      go_enter Tryz.func93, Tryz.ntmps93
      go_wp2_with (first | (go_at_call_of 80 (Value.int .u8 42); go_must (refine (at_all _ R s d _ 42 _ rfl (by exact H.out)).mono ?_; rintro e _ ⟨rfl, n1, rfl⟩)) | (go_at_call_of 80 (Value.int .u8 43); go_must (refine (at_all _ R s d _ 43 _ rfl (by exact H.out)).mono ?_; rintro e _ ⟨rfl, n2, rfl⟩)) | (go_at_call_of 80 (Value.int .u8 63); go_must (refine (at_all _ R s d _ 63 _ rfl (by exact H.out)).mono ?_; rintro e _ ⟨rfl, n3, rfl⟩)) | (go_at_call_of 80 (Value.int .u8 123); go_must (refine (at_all _ R s d _ 123 _ rfl (by exact H.out)).mono ?_; rintro e _ ⟨rfl, n4, rfl⟩)) | (go_at_call 99; go_must (refine (next_all _ w.heap.size s d 123 t (by exact (HC.out _).1)).mono ?_; rintro e w2 ⟨rfl, hr2, hf2⟩; have HR2 := Lib.hid hr2; clear hr2)) | (go_at_call 107; go_must (refine (digit_no _ w.heap.size s d t 10 (by omega) (by exact HR2.out) HD.out).mono ?_; rintro e _ ⟨rfl, n6, rfl⟩)))
      go_ret
      exact ⟨ret_bool HX.out, ((HC.out _).2.then hf2 (fun k hk e => by cases e; exact absurd hk (Nat.lt_irrefl _))).drewN n6⟩
    | some p =>
      obtain ⟨n, t'⟩ := p
      have HD := Lib.hid hd
      have HX := Lib.hid (show true = atRep (123 :: t) by simp [atRep, f1, f2, f3, hd, h1])
      clear hd h e
      go_enter Tryz.func93, Tryz.ntmps93
      go_wp2_with (first | (go_at_call_of 80 (Value.int .u8 42); go_must (refine (at_all _ R s d _ 42 _ rfl (by exact H.out)).mono ?_; rintro e _ ⟨rfl, n1, rfl⟩)) | (go_at_call_of 80 (Value.int .u8 43); go_must (refine (at_all _ R s d _ 43 _ rfl (by exact H.out)).mono ?_; rintro e _ ⟨rfl, n2, rfl⟩)) | (go_at_call_of 80 (Value.int .u8 63); go_must (refine (at_all _ R s d _ 63 _ rfl (by exact H.out)).mono ?_; rintro e _ ⟨rfl, n3, rfl⟩)) | (go_at_call_of 80 (Value.int .u8 123); go_must (refine (at_all _ R s d _ 123 _ rfl (by exact H.out)).mono ?_; rintro e _ ⟨rfl, n4, rfl⟩)) | (go_at_call 99; go_must (refine (next_all _ w.heap.size s d 123 t (by exact (HC.out _).1)).mono ?_; rintro e w2 ⟨rfl, hr2, hf2⟩; have HR2 := Lib.hid hr2; clear hr2)) | (go_at_call 107; go_must (refine (digit_yes _ w.heap.size s d t t' 10 n (by omega) (by exact HR2.out) HD.out).mono ?_; rintro e w3 ⟨rfl, hr3, hf3⟩)))
      go_ret
      exact ⟨ret_bool HX.out, ((HC.out _).2.then hf2 (fun k hk e => by cases e; exact absurd hk (Nat.lt_irrefl _))).then hf3 (fun k hk e => by cases e; exact absurd hk (Nat.lt_irrefl _))⟩
  have f4 : hd l 123 = false := by simpa using h1
  clear h1 h
  go_enter Tryz.func93, Tryz.ntmps93
  go_wp2_with (first | (go_at_call_of 80 (Value.int .u8 42); go_must (refine (at_all _ R s d l 42 _ rfl (by exact H.out)).mono ?_; rintro e _ ⟨rfl, n1, rfl⟩)) | (go_at_call_of 80 (Value.int .u8 43); go_must (refine (at_all _ R s d l 43 _ rfl (by exact H.out)).mono ?_; rintro e _ ⟨rfl, n2, rfl⟩)) | (go_at_call_of 80 (Value.int .u8 63); go_must (refine (at_all _ R s d l 63 _ rfl (by exact H.out)).mono ?_; rintro e _ ⟨rfl, n3, rfl⟩)) | (go_at_call_of 80 (Value.int .u8 123); go_must (refine (at_all _ R s d l 123 _ rfl (by exact H.out)).mono ?_; rintro e _ ⟨rfl, n4, rfl⟩)))
  go_ret
  exact ⟨ret_bool (by simp [atRep, f1, f2, f3, f4]), (Frm.refl No w).drewN _⟩
end Go.Proofs.YtbfekknhmjndaaaGreat.nums
