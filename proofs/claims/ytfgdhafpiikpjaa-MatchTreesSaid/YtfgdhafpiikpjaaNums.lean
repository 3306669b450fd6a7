/- Contracts of octal, escape, count, upper, interval, atRepeat. -/
import Derived.Test.YtfgdhafpiikpjaaSpec
namespace Go.Proofs.Ytfgdhafpiikpjaa.nums
set_option linter.unusedVariables false set_option linter.unusedSimpArgs false
open Go.ChangeShapes Go.WideShapes Go.ChangeAt Go.RowKit Go.Proofs.Ytfgdhafpiikpjaa.base Go.Proofs.Ytfgdhafpiikpjaa.read Go.Proofs.Ytfgdhafpiikpjaa.spec

theorem dgt_lt {b n : Nat} {l t : List UInt8} (h : dgt b l = some (n, t)) : n < b := by
  cases l with
  | nil => cases h
  | cons x t' =>
    simp only [dgt] at h
    split at h
    · cases h; assumption
    · cases h

set_option maxHeartbeats 400000 in
theorem octal_all (w : World) (R : Nat) (s : ByteArray) (d : Nat) (l : List UInt8) (h : Rd w R s d l) :
    Calls Try.prog 97 #[.pointer (some ⟨R, 0, none⟩)] w fun e w' => e = .returned (.tuple #[.int .u8 ((octF 3 0 false l).1 % 256 : Nat), .bool (octF 3 0 false l).2.1]) ∧ Rd w' R s d (octF 3 0 false l).2.2 ∧ Frm (At R) w w' := by
  have H := Lib.hid h
  clear h
  go_enter Try.func97, Try.ntmps97
  go_wp2
  go_loopw [4, 5, 8] (fun sv mv kv wr => ∃ (k sum : Nat) (sm : Bool) (l' : List UInt8), k ≤ 3 ∧ sv = .int .i64 sum ∧ mv = .bool sm ∧ kv = .int .i64 k ∧ sum < 8 ^ k ∧ octF (3 - k) sum sm l' = octF 3 0 false l ∧ Rd wr R s d l' ∧ Frm (At R) w wr) (fun _ _ kv _ => (3 - intOf kv).toNat)
  case atStart => exact ⟨0, 0, false, l, by omega, rfl, rfl, rfl, by simp, rfl, H.out, Frm.refl _ w⟩
  case round =>
    obtain ⟨k, sum, sm, l', hk, rfl, rfl, rfl, hs, ho, hr, hf⟩ := hrel
    have hs3 : sum < 512 := Nat.lt_of_lt_of_le hs (by rw [show (512 : Nat) = 8 ^ 3 from rfl]; exact Nat.pow_le_pow_right (by omega) hk)
    have HR := Lib.hid hr
    have HF := Lib.hid hf
    have HO := Lib.hid ho
    have HS := Lib.hid hs
    clear hr hf ho hs
    by_cases hk3 : k < 3
    · obtain ⟨j, hj⟩ : ∃ j, j = 3 - k - 1 := ⟨_, rfl⟩
      have HJ := Lib.hid (show 3 - k = j + 1 by omega)
      clear hj
      cases hd : dgt 8 l' with
      | none =>
        have HD := Lib.hid hd
        have HE := Lib.hid (show octF 3 0 false l = (sum, sm, l') by rw [← HO.out, HJ.out]; simp only [octF, hd])
        clear hd
        go_wp2_with (go_at_call 83; go_must (refine (digit_no _ R s d l' 8 (by omega) (by exact HR.out) HD.out).mono ?_; rintro e _ ⟨rfl, n1, rfl⟩))
        refine bodyPost_ret (v := .tuple #[.int .u8 (sum % 256 : Nat), .bool sm]) (by simp [results, Try.results97, go_sem]) rfl ⟨by rw [HE.out], by rw [HE.out]; exact HR.out, HF.out.drewN n1⟩
      | some p =>
        obtain ⟨n, t⟩ := p
        have HD := Lib.hid hd
        have hn := dgt_lt hd
        have HE := Lib.hid (show octF j (sum * 8 + n) true t = octF 3 0 false l by rw [← HO.out, HJ.out]; simp only [octF, hd])
        clear hd
        go_wp2_with (go_at_call 83; go_must (refine (digit_yes _ R s d l' t 8 n (by omega) (by exact HR.out) HD.out).mono ?_; rintro e w1 ⟨rfl, hr1, hf1⟩))
        go_roundw
        case rel => exact ⟨k + 1, sum * 8 + n, true, t, by omega, by go_num, rfl, by go_num, by have := HS.out; rw [Nat.pow_succ]; omega, by rw [show 3 - (k + 1) = j by have := HJ.out; omega]; exact HE.out, hr1, HF.out.trans hf1⟩
        case measure => simp [intOf]; omega
    · obtain rfl : k = 3 := by omega
      have HE := Lib.hid (show octF 3 0 false l = (sum, sm, l') by rw [← HO.out]; rfl)
      go_wp2
      refine bodyPost_ret (v := .tuple #[.int .u8 (sum % 256 : Nat), .bool sm]) (by simp [results, Try.results97, go_sem]) rfl ⟨by rw [HE.out], by rw [HE.out]; exact HR.out, HF.out⟩
theorem octF_true (k s : Nat) (l : List UInt8) : (octF k s true l).2.1 = true := by
  induction k generalizing s l with
  | zero => rfl
  | succ k ih =>
    simp only [octF]
    split
    · rfl
    · exact ih _ _
theorem octF_no (l : List UInt8) (h : (octF 3 0 false l).2.1 = false) : octF 3 0 false l = (0, false, l) := by
  cases hd : dgt 8 l with
  | none => show octF (2 + 1) 0 false l = _; rw [octF, hd]
  | some p =>
    have e : octF 3 0 false l = octF 2 (0 * 8 + p.1) true p.2 := by show octF (2 + 1) 0 false l = _; rw [octF, hd]
    rw [e, octF_true] at h
    cases h

theorem escape_bad (w : World) (R : Nat) (s : ByteArray) (d f : Nat) (l : List UInt8) (h : Rd w R s d l) (he : esc l = .bad f) :
    Calls Try.prog 87 #[.pointer (some ⟨R, 0, none⟩)] w fun e w' => e = .returned (.tuple #[.int .u8 0, .int .i64 f]) ∧ f = 4 ∧ Rd w' R s d l ∧ Frm (At R) w w' := by
  have H := Lib.hid h
  cases l with
  | cons c t =>
    simp only [esc] at he
    split at he <;> cases he
  | nil =>
    cases he
    clear h
    go_enter Try.func87, Try.ntmps87
    go_wp2_with (go_at_call 46; go_must (refine (done_all _ R s d [] (by exact H.out)).mono ?_; rintro e _ ⟨rfl, n1, rfl⟩))
    exact bodyPost_ret (v := .tuple #[.int .u8 0, .int .i64 4]) (by simp [results, Try.results87, go_sem]) rfl (by first | exact ⟨rfl, rfl, H.out, (Frm.refl (At R) w).drewN n1⟩ | exact ⟨rfl, trivial, H.out, (Frm.refl (At R) w).drewN n1⟩)

theorem esc_cases (c : UInt8) : c = 97 ∨ c = 98 ∨ c = 102 ∨ c = 110 ∨ c = 114 ∨ c = 116 ∨ c = 118 ∨ (((c.toNat : Int) == 97) = false ∧ ((c.toNat : Int) == 98) = false ∧ ((c.toNat : Int) == 102) = false ∧ ((c.toNat : Int) == 110) = false ∧ ((c.toNat : Int) == 114) = false ∧ ((c.toNat : Int) == 116) = false ∧ ((c.toNat : Int) == 118) = false ∧ escByte c = c) := by
  have h : ∀ n : Fin 256, UInt8.ofNat n.val = 97 ∨ UInt8.ofNat n.val = 98 ∨ UInt8.ofNat n.val = 102 ∨ UInt8.ofNat n.val = 110 ∨ UInt8.ofNat n.val = 114 ∨ UInt8.ofNat n.val = 116 ∨ UInt8.ofNat n.val = 118 ∨ (((n.val : Int) == 97) = false ∧ ((n.val : Int) == 98) = false ∧ ((n.val : Int) == 102) = false ∧ ((n.val : Int) == 110) = false ∧ ((n.val : Int) == 114) = false ∧ ((n.val : Int) == 116) = false ∧ ((n.val : Int) == 118) = false ∧ escByte (UInt8.ofNat n.val) = UInt8.ofNat n.val) := by decide +kernel
  have := h ⟨c.toNat, c.toNat_lt⟩
  simpa using this

set_option maxHeartbeats 400000 in
theorem escape_ok (w : World) (R : Nat) (s : ByteArray) (d : Nat) (l l' : List UInt8) (b : UInt8) (h : Rd w R s d l) (he : esc l = .ok b l') :
    Calls Try.prog 87 #[.pointer (some ⟨R, 0, none⟩)] w fun e w' => e = .returned (.tuple #[.int .u8 (b.toNat : Int), .int .i64 0]) ∧ Rd w' R s d l' ∧ Frm (At R) w w' := by
  have H := Lib.hid h
  clear h
  cases l with
  | nil => cases he
  | cons c t =>
    by_cases ho : (octF 3 0 false (c :: t)).2.1 = true
    · obtain ⟨rfl, rfl⟩ : UInt8.ofNat (octF 3 0 false (c :: t)).1 = b ∧ (octF 3 0 false (c :: t)).2.2 = l' := by
        simp only [esc, if_pos ho] at he
        cases he
        exact ⟨rfl, rfl⟩
      clear he
      have HB := Lib.hid (show (((octF 3 0 false (c :: t)).1 % 256 : Nat) : Int) = ((UInt8.ofNat (octF 3 0 false (c :: t)).1).toNat : Int) by simp)
      have HC := Lib.hid (octal_all (l := c :: t))
      go_enter Try.func87, Try.ntmps87
      go_wp2_with (first | (go_at_call 46; go_must (refine (done_all _ R s d _ (by exact H.out)).mono ?_; rintro e _ ⟨rfl, n1, rfl⟩)) | (go_at_call 97; go_must (refine (HC.out _ R s d (by exact H.out)).mono ?_; rintro e w1 ⟨rfl, hr1, hf1⟩)))
      exact bodyPost_ret (v := .tuple #[.int .u8 ((octF 3 0 false (c :: t)).1 % 256 : Nat), .int .i64 0]) (by simp [results, Try.results87, go_sem]) rfl ⟨by rw [HB.out], hr1, ((Frm.refl (At R) w).drewN n1).trans hf1⟩
    · have hn := octF_no (c :: t) (by simpa using ho)
      obtain ⟨rfl, rfl⟩ : escByte c = b ∧ t = l' := by
        simp only [esc, if_neg ho] at he
        cases he
        exact ⟨rfl, rfl⟩
      have HN := Lib.hid hn
      have hn1 : (octF 3 0 false (c :: t)).2.1 = false := by rw [hn]
      have hn2 : (octF 3 0 false (c :: t)).1 = 0 := by rw [hn]
      clear he hn ho
      rcases esc_cases c with rfl | rfl | rfl | rfl | rfl | rfl | rfl | ⟨f1, f2, f3, f4, f5, f6, f7, f8⟩
      · go_enter Try.func87, Try.ntmps87
        go_wp2_with (first | (go_at_call 46; go_must (refine (done_all _ R s d _ (by exact H.out)).mono ?_; rintro e _ ⟨rfl, n1, rfl⟩)) | (go_at_call 97; go_must (refine (octal_all _ R s d _ (by exact H.out)).mono ?_; rintro e w1 ⟨rfl, hr1, hf1⟩; have HR1 := Lib.hid hr1; have HF1 := Lib.hid hf1; clear hr1 hf1)) | (go_at_call 75; go_must (refine (next_all _ R s d _ t (by have := HR1.out; rw [HN.out] at this; exact this)).mono ?_; rintro e w2 ⟨rfl, hr2, hf2⟩)))
        exact bodyPost_ret (v := .tuple #[.int .u8 7, .int .i64 0]) (by simp [results, Try.results87, go_sem]) rfl ⟨rfl, hr2, ((Frm.refl (At R) w).drewN n1).trans (HF1.out.trans hf2)⟩
      · go_enter Try.func87, Try.ntmps87
        go_wp2_with (first | (go_at_call 46; go_must (refine (done_all _ R s d _ (by exact H.out)).mono ?_; rintro e _ ⟨rfl, n1, rfl⟩)) | (go_at_call 97; go_must (refine (octal_all _ R s d _ (by exact H.out)).mono ?_; rintro e w1 ⟨rfl, hr1, hf1⟩; have HR1 := Lib.hid hr1; have HF1 := Lib.hid hf1; clear hr1 hf1)) | (go_at_call 75; go_must (refine (next_all _ R s d _ t (by have := HR1.out; rw [HN.out] at this; exact this)).mono ?_; rintro e w2 ⟨rfl, hr2, hf2⟩)))
        exact bodyPost_ret (v := .tuple #[.int .u8 8, .int .i64 0]) (by simp [results, Try.results87, go_sem]) rfl ⟨rfl, hr2, ((Frm.refl (At R) w).drewN n1).trans (HF1.out.trans hf2)⟩
      · go_enter Try.func87, Try.ntmps87
        go_wp2_with (first | (go_at_call 46; go_must (refine (done_all _ R s d _ (by exact H.out)).mono ?_; rintro e _ ⟨rfl, n1, rfl⟩)) | (go_at_call 97; go_must (refine (octal_all _ R s d _ (by exact H.out)).mono ?_; rintro e w1 ⟨rfl, hr1, hf1⟩; have HR1 := Lib.hid hr1; have HF1 := Lib.hid hf1; clear hr1 hf1)) | (go_at_call 75; go_must (refine (next_all _ R s d _ t (by have := HR1.out; rw [HN.out] at this; exact this)).mono ?_; rintro e w2 ⟨rfl, hr2, hf2⟩)))
        exact bodyPost_ret (v := .tuple #[.int .u8 12, .int .i64 0]) (by simp [results, Try.results87, go_sem]) rfl ⟨rfl, hr2, ((Frm.refl (At R) w).drewN n1).trans (HF1.out.trans hf2)⟩
      · go_enter Try.func87, Try.ntmps87
        go_wp2_with (first | (go_at_call 46; go_must (refine (done_all _ R s d _ (by exact H.out)).mono ?_; rintro e _ ⟨rfl, n1, rfl⟩)) | (go_at_call 97; go_must (refine (octal_all _ R s d _ (by exact H.out)).mono ?_; rintro e w1 ⟨rfl, hr1, hf1⟩; have HR1 := Lib.hid hr1; have HF1 := Lib.hid hf1; clear hr1 hf1)) | (go_at_call 75; go_must (refine (next_all _ R s d _ t (by have := HR1.out; rw [HN.out] at this; exact this)).mono ?_; rintro e w2 ⟨rfl, hr2, hf2⟩)))
        exact bodyPost_ret (v := .tuple #[.int .u8 10, .int .i64 0]) (by simp [results, Try.results87, go_sem]) rfl ⟨rfl, hr2, ((Frm.refl (At R) w).drewN n1).trans (HF1.out.trans hf2)⟩
      · go_enter Try.func87, Try.ntmps87
        go_wp2_with (first | (go_at_call 46; go_must (refine (done_all _ R s d _ (by exact H.out)).mono ?_; rintro e _ ⟨rfl, n1, rfl⟩)) | (go_at_call 97; go_must (refine (octal_all _ R s d _ (by exact H.out)).mono ?_; rintro e w1 ⟨rfl, hr1, hf1⟩; have HR1 := Lib.hid hr1; have HF1 := Lib.hid hf1; clear hr1 hf1)) | (go_at_call 75; go_must (refine (next_all _ R s d _ t (by have := HR1.out; rw [HN.out] at this; exact this)).mono ?_; rintro e w2 ⟨rfl, hr2, hf2⟩)))
        exact bodyPost_ret (v := .tuple #[.int .u8 13, .int .i64 0]) (by simp [results, Try.results87, go_sem]) rfl ⟨rfl, hr2, ((Frm.refl (At R) w).drewN n1).trans (HF1.out.trans hf2)⟩
      · go_enter Try.func87, Try.ntmps87
        go_wp2_with (first | (go_at_call 46; go_must (refine (done_all _ R s d _ (by exact H.out)).mono ?_; rintro e _ ⟨rfl, n1, rfl⟩)) | (go_at_call 97; go_must (refine (octal_all _ R s d _ (by exact H.out)).mono ?_; rintro e w1 ⟨rfl, hr1, hf1⟩; have HR1 := Lib.hid hr1; have HF1 := Lib.hid hf1; clear hr1 hf1)) | (go_at_call 75; go_must (refine (next_all _ R s d _ t (by have := HR1.out; rw [HN.out] at this; exact this)).mono ?_; rintro e w2 ⟨rfl, hr2, hf2⟩)))
        exact bodyPost_ret (v := .tuple #[.int .u8 9, .int .i64 0]) (by simp [results, Try.results87, go_sem]) rfl ⟨rfl, hr2, ((Frm.refl (At R) w).drewN n1).trans (HF1.out.trans hf2)⟩
      · go_enter Try.func87, Try.ntmps87
        go_wp2_with (first | (go_at_call 46; go_must (refine (done_all _ R s d _ (by exact H.out)).mono ?_; rintro e _ ⟨rfl, n1, rfl⟩)) | (go_at_call 97; go_must (refine (octal_all _ R s d _ (by exact H.out)).mono ?_; rintro e w1 ⟨rfl, hr1, hf1⟩; have HR1 := Lib.hid hr1; have HF1 := Lib.hid hf1; clear hr1 hf1)) | (go_at_call 75; go_must (refine (next_all _ R s d _ t (by have := HR1.out; rw [HN.out] at this; exact this)).mono ?_; rintro e w2 ⟨rfl, hr2, hf2⟩)))
        exact bodyPost_ret (v := .tuple #[.int .u8 11, .int .i64 0]) (by simp [results, Try.results87, go_sem]) rfl ⟨rfl, hr2, ((Frm.refl (At R) w).drewN n1).trans (HF1.out.trans hf2)⟩
      · go_enter Try.func87, Try.ntmps87
        go_wp2_with (first | (go_at_call 46; go_must (refine (done_all _ R s d _ (by exact H.out)).mono ?_; rintro e _ ⟨rfl, n1, rfl⟩)) | (go_at_call 97; go_must (refine (octal_all _ R s d _ (by exact H.out)).mono ?_; rintro e w1 ⟨rfl, hr1, hf1⟩; have HR1 := Lib.hid hr1; have HF1 := Lib.hid hf1; clear hr1 hf1)) | (go_at_call 75; go_must (refine (next_all _ R s d _ t (by have := HR1.out; rw [HN.out] at this; exact this)).mono ?_; rintro e w2 ⟨rfl, hr2, hf2⟩)))
        exact bodyPost_ret (v := .tuple #[.int .u8 (c.toNat : Int), .int .i64 0]) (by simp [results, Try.results87, go_sem]) rfl ⟨by rw [f8], hr2, ((Frm.refl (At R) w).drewN n1).trans (HF1.out.trans hf2)⟩
end Go.Proofs.Ytfgdhafpiikpjaa.nums
