/- Contracts of interval where there is none, and of atRepeat. -/
import Derived.Test.YtfgdhafpiikpjaaNums2
namespace Go.Proofs.Ytfgdhafpiikpjaa.nums
set_option linter.unusedVariables false set_option linter.unusedSimpArgs false
open Go.ChangeShapes Go.WideShapes Go.ChangeAt Go.RowKit Go.Proofs.Ytfgdhafpiikpjaa.base Go.Proofs.Ytfgdhafpiikpjaa.read Go.Proofs.Ytfgdhafpiikpjaa.spec

theorem interval_no (w : World) (R : Nat) (s : ByteArray) (d : Nat) (l : List UInt8) (h : Rd w R s d l) (hc : interval l = none) :
    Calls Try.prog 85 #[.pointer (some ⟨R, 0, none⟩)] w fun e w' => ∃ (a b : Int) (l' : List UInt8), e = .returned (.tuple #[.int .i64 a, .int .i64 b, .bool false]) ∧ Rd w' R s d l' ∧ Frm (At R) w w' := by
  have H := Lib.hid h
  clear h
  unfold interval at hc
  split at hc
  · rename_i hm
    have HM := Lib.hid hm
    clear hm hc
    go_enter Try.func85, Try.ntmps85
    go_wp2_with (go_at_call 89; go_must (refine (count_no _ R s d l (by exact H.out) HM.out).mono ?_; rintro e w1 ⟨n, l', rfl, hn256, hr1, hf1⟩))
    exact bodyPost_ret (v := .tuple #[.int .i64 0, .int .i64 0, .bool false]) (by simp [results, Try.results85, go_sem]) rfl ⟨0, 0, l', rfl, hr1, hf1⟩
  · rename_i m l1 hm
    have HM := Lib.hid hm
    clear hm
    split at hc
    · rename_i hb
      split at hc
      · rename_i hu
        have HU := Lib.hid hu
        clear hu hc
        go_enter Try.func85, Try.ntmps85
        go_wp2_with (first | (go_at_call 89; go_must (refine (count_ok _ R s d m l l1 (by exact H.out) HM.out).mono ?_; rintro e w1 ⟨rfl, hn255, hr1, hf1⟩; have HR1 := Lib.hid hr1; have HF1 := Lib.hid hf1; clear hr1 hf1)) | (go_at_call_of 60 (Value.int .u8 44); go_must (refine (take_all w1 R s d l1 44 _ rfl (by exact HR1.out)).mono ?_; rintro e w2 ⟨rfl, hr2, hf2⟩; rw [if_pos hb] at hr2; have HR2 := Lib.hid hr2; have HF2 := Lib.hid hf2; clear hr2 hf2)) | (go_at_call 90; go_must (refine (upper_no _ R s d m l1.tail (by exact HR2.out) HU.out hn255).mono ?_; rintro e w3 ⟨n3, l3, rfl, hb3, hr3, hf3⟩; have HR3 := Lib.hid hr3; have HF3 := Lib.hid hf3; clear hr3 hf3)))
        exact bodyPost_ret (v := .tuple #[.int .i64 m, .int .i64 n3, .bool false]) (by simp [results, Try.results85, go_sem]) rfl ⟨m, n3, l3, rfl, HR3.out, HF1.out.trans (HF2.out.trans HF3.out)⟩
      · rename_i hi' l2 hu
        have HU := Lib.hid hu
        clear hu
        split at hc
        · cases hc
        · rename_i hb2
          have hb2' : hd l2 125 = false := by simpa using hb2
          clear hc
          go_enter Try.func85, Try.ntmps85
          go_wp2_with (first | (go_at_call 89; go_must (refine (count_ok _ R s d m l l1 (by exact H.out) HM.out).mono ?_; rintro e w1 ⟨rfl, hn255, hr1, hf1⟩; have HR1 := Lib.hid hr1; have HF1 := Lib.hid hf1; clear hr1 hf1)) | (go_at_call_of 60 (Value.int .u8 44); go_must (refine (take_all w1 R s d l1 44 _ rfl (by exact HR1.out)).mono ?_; rintro e w2 ⟨rfl, hr2, hf2⟩; rw [if_pos hb] at hr2; have HR2 := Lib.hid hr2; have HF2 := Lib.hid hf2; clear hr2 hf2)) | (go_at_call 90; go_must (refine (upper_ok _ R s d m hi' l1.tail l2 (by exact HR2.out) HU.out hn255).mono ?_; rintro e w3 ⟨rfl, hb3, hb4, hr3, hf3⟩; have HR3 := Lib.hid hr3; have HF3 := Lib.hid hf3; clear hr3 hf3)) | (go_at_call_of 60 (Value.int .u8 125); go_must (refine (take_all w3 R s d l2 125 _ rfl (by exact HR3.out)).mono ?_; rintro e w4 ⟨rfl, hr4, hf4⟩; rw [if_neg hb2] at hr4)))
          exact bodyPost_ret (v := .tuple #[.int .i64 m, .int .i64 hi', .bool false]) (by simp [results, Try.results85, go_sem]) rfl ⟨m, hi', l2, rfl, hr4, HF1.out.trans (HF2.out.trans (HF3.out.trans hf4))⟩
    · rename_i hb
      have hb' : hd l1 44 = false := by simpa using hb
      split at hc
      · cases hc
      · rename_i hb2
        have hb2' : hd l1 125 = false := by simpa using hb2
        clear hc
        go_enter Try.func85, Try.ntmps85
        go_wp2_with (first | (go_at_call 89; go_must (refine (count_ok _ R s d m l l1 (by exact H.out) HM.out).mono ?_; rintro e w1 ⟨rfl, hn255, hr1, hf1⟩; have HR1 := Lib.hid hr1; have HF1 := Lib.hid hf1; clear hr1 hf1)) | (go_at_call_of 60 (Value.int .u8 44); go_must (refine (take_all w1 R s d l1 44 _ rfl (by exact HR1.out)).mono ?_; rintro e w2 ⟨rfl, hr2, hf2⟩; rw [if_neg hb] at hr2; have HR2 := Lib.hid hr2; have HF2 := Lib.hid hf2; clear hr2 hf2)) | (go_at_call_of 60 (Value.int .u8 125); go_must (refine (take_all w2 R s d l1 125 _ rfl (by exact HR2.out)).mono ?_; rintro e w4 ⟨rfl, hr4, hf4⟩; rw [if_neg hb2] at hr4)))
        exact bodyPost_ret (v := .tuple #[.int .i64 m, .int .i64 m, .bool false]) (by simp [results, Try.results85, go_sem]) rfl ⟨m, m, l1, rfl, hr4, HF1.out.trans (HF2.out.trans hf4)⟩

theorem hd_cons {l : List UInt8} {c : UInt8} (h : hd l c = true) : ∃ t, l = c :: t := by
  cases l with
  | nil => cases h
  | cons x t => simp only [hd, beq_iff_eq] at h; exact ⟨t, by rw [h]⟩

/-- A copy of the reader in a new block. -/
theorem Rd.copy {w : World} {R : Nat} {s : ByteArray} {d i : Nat} {l : List UInt8} (h : RdI w R s d i) (e : sx s i = l) (n : Nat) :
    Rd (((((w.drewN n).alloc (.cells #[.string ⟨#[]⟩, .int .i64 0, .int .i64 0] 86)).setCell ⟨w.heap.size, 0, none⟩ (.string s)).setCell ⟨w.heap.size, 1, none⟩ (.int .i64 i)).setCell ⟨w.heap.size, 2, none⟩ (.int .i64 d)) w.heap.size s d l ∧
    Frm No w (((((w.drewN n).alloc (.cells #[.string ⟨#[]⟩, .int .i64 0, .int .i64 0] 86)).setCell ⟨w.heap.size, 0, none⟩ (.string s)).setCell ⟨w.heap.size, 1, none⟩ (.int .i64 i)).setCell ⟨w.heap.size, 2, none⟩ (.int .i64 d)) := by
  have hF : Frm No w (((((w.drewN n).alloc (.cells #[.string ⟨#[]⟩, .int .i64 0, .int .i64 0] 86)).setCell ⟨w.heap.size, 0, none⟩ (.string s)).setCell ⟨w.heap.size, 1, none⟩ (.int .i64 i)).setCell ⟨w.heap.size, 2, none⟩ (.int .i64 d)) :=
    ((((((Frm.refl No w).drewN n).alloc _).setCell _ _ (fun hk => absurd hk (Nat.lt_irrefl _))).setCell _ _ (fun hk => absurd hk (Nat.lt_irrefl _))).setCell _ _ (fun hk => absurd hk (Nat.lt_irrefl _)))
  refine ⟨⟨i, ⟨(((Box.new (w.drewN n) 86 _).set 0 _).set 1 _).set 2 _, h.2.1, h.2.2.1, h.2.2.2.1, ?_, h.2.2.2.2.2.frm hF id⟩, e⟩, hF⟩
  have := h.1.lt
  omega

set_option maxHeartbeats 400000 in
theorem atRep_all (w : World) (R : Nat) (s : ByteArray) (d : Nat) (l : List UInt8) (h : Rd w R s d l) :
    Calls Try.prog 72 #[.pointer (some ⟨R, 0, none⟩)] w fun e w' => e = .returned (.bool (atRep l)) ∧ Frm No w w' := by
  have H := Lib.hid h
  by_cases h1 : hd l 42 = true
  · clear h
    go_enter Try.func72, Try.ntmps72
    go_wp2_with (go_at_call_of 67 (Value.int .u8 42); go_must (refine (at_all _ R s d l 42 _ rfl (by exact H.out)).mono ?_; rintro e _ ⟨rfl, n1, rfl⟩))
    go_ret
    exact ⟨ret_bool (by simp [atRep, h1]), (Frm.refl No w).drewN n1⟩
  have f1 : hd l 42 = false := by simpa using h1
  clear h1
  by_cases h1 : hd l 43 = true
  · clear h
    go_enter Try.func72, Try.ntmps72
    go_wp2_with (first | (go_at_call_of 67 (Value.int .u8 42); go_must (refine (at_all _ R s d l 42 _ rfl (by exact H.out)).mono ?_; rintro e _ ⟨rfl, n1, rfl⟩)) | (go_at_call_of 67 (Value.int .u8 43); go_must (refine (at_all _ R s d l 43 _ rfl (by exact H.out)).mono ?_; rintro e _ ⟨rfl, n2, rfl⟩)))
    go_ret
    exact ⟨ret_bool (by simp [atRep, h1]), (Frm.refl No w).drewN _⟩
  have f2 : hd l 43 = false := by simpa using h1
  clear h1
  by_cases h1 : hd l 63 = true
  · clear h
    go_enter Try.func72, Try.ntmps72
    go_wp2_with (first | (go_at_call_of 67 (Value.int .u8 42); go_must (refine (at_all _ R s d l 42 _ rfl (by exact H.out)).mono ?_; rintro e _ ⟨rfl, n1, rfl⟩)) | (go_at_call_of 67 (Value.int .u8 43); go_must (refine (at_all _ R s d l 43 _ rfl (by exact H.out)).mono ?_; rintro e _ ⟨rfl, n2, rfl⟩)) | (go_at_call_of 67 (Value.int .u8 63); go_must (refine (at_all _ R s d l 63 _ rfl (by exact H.out)).mono ?_; rintro e _ ⟨rfl, n3, rfl⟩)))
    go_ret
    exact ⟨ret_bool (by simp [atRep, h1]), (Frm.refl No w).drewN _⟩
  have f3 : hd l 63 = false := by simpa using h1
  clear h1
  by_cases h1 : hd l 123 = true
  · obtain ⟨t, rfl⟩ := hd_cons h1
    obtain ⟨i, h, e⟩ := h
    have HC := Lib.hid (fun n => Rd.copy h e n)
    have hc0 := h.c0
    have hc1 := h.c1
    have hc2 := h.c2
    have hsz := h.1.lt
    have Q1 := fr_new w
    have Q2 := cell_new w
    cases hd : dgt 10 t with
    | none =>
      have HD := Lib.hid hd
      have HX := Lib.hid (show false = atRep (123 :: t) by simp [atRep, f1, f2, f3, hd])
      clear hd h e
      go_enter Try.func72, Try.ntmps72
      go_wp2_with (first | (go_at_call_of 67 (Value.int .u8 42); go_must (refine (at_all _ R s d _ 42 _ rfl (by exact H.out)).mono ?_; rintro e _ ⟨rfl, n1, rfl⟩)) | (go_at_call_of 67 (Value.int .u8 43); go_must (refine (at_all _ R s d _ 43 _ rfl (by exact H.out)).mono ?_; rintro e _ ⟨rfl, n2, rfl⟩)) | (go_at_call_of 67 (Value.int .u8 63); go_must (refine (at_all _ R s d _ 63 _ rfl (by exact H.out)).mono ?_; rintro e _ ⟨rfl, n3, rfl⟩)) | (go_at_call_of 67 (Value.int .u8 123); go_must (refine (at_all _ R s d _ 123 _ rfl (by exact H.out)).mono ?_; rintro e _ ⟨rfl, n4, rfl⟩)) | (go_at_call 75; go_must (refine (next_all _ w.heap.size s d 123 t (by exact (HC.out _).1)).mono ?_; rintro e w2 ⟨rfl, hr2, hf2⟩; have HR2 := Lib.hid hr2; clear hr2)) | (go_at_call 83; go_must (refine (digit_no _ w.heap.size s d t 10 (by omega) (by exact HR2.out) HD.out).mono ?_; rintro e _ ⟨rfl, n6, rfl⟩)))
      go_ret
      exact ⟨ret_bool HX.out, ((HC.out _).2.then hf2 (fun k hk e => by cases e; exact absurd hk (Nat.lt_irrefl _))).drewN n6⟩
    | some p =>
      obtain ⟨n, t'⟩ := p
      have HD := Lib.hid hd
      have HX := Lib.hid (show true = atRep (123 :: t) by simp [atRep, f1, f2, f3, hd, h1])
      clear hd h e
      go_enter Try.func72, Try.ntmps72
      go_wp2_with (first | (go_at_call_of 67 (Value.int .u8 42); go_must (refine (at_all _ R s d _ 42 _ rfl (by exact H.out)).mono ?_; rintro e _ ⟨rfl, n1, rfl⟩)) | (go_at_call_of 67 (Value.int .u8 43); go_must (refine (at_all _ R s d _ 43 _ rfl (by exact H.out)).mono ?_; rintro e _ ⟨rfl, n2, rfl⟩)) | (go_at_call_of 67 (Value.int .u8 63); go_must (refine (at_all _ R s d _ 63 _ rfl (by exact H.out)).mono ?_; rintro e _ ⟨rfl, n3, rfl⟩)) | (go_at_call_of 67 (Value.int .u8 123); go_must (refine (at_all _ R s d _ 123 _ rfl (by exact H.out)).mono ?_; rintro e _ ⟨rfl, n4, rfl⟩)) | (go_at_call 75; go_must (refine (next_all _ w.heap.size s d 123 t (by exact (HC.out _).1)).mono ?_; rintro e w2 ⟨rfl, hr2, hf2⟩; have HR2 := Lib.hid hr2; clear hr2)) | (go_at_call 83; go_must (refine (digit_yes _ w.heap.size s d t t' 10 n (by omega) (by exact HR2.out) HD.out).mono ?_; rintro e w3 ⟨rfl, hr3, hf3⟩)))
      go_ret
      exact ⟨ret_bool HX.out, ((HC.out _).2.then hf2 (fun k hk e => by cases e; exact absurd hk (Nat.lt_irrefl _))).then hf3 (fun k hk e => by cases e; exact absurd hk (Nat.lt_irrefl _))⟩
  have f4 : hd l 123 = false := by simpa using h1
  clear h1 h
  go_enter Try.func72, Try.ntmps72
  go_wp2_with (first | (go_at_call_of 67 (Value.int .u8 42); go_must (refine (at_all _ R s d l 42 _ rfl (by exact H.out)).mono ?_; rintro e _ ⟨rfl, n1, rfl⟩)) | (go_at_call_of 67 (Value.int .u8 43); go_must (refine (at_all _ R s d l 43 _ rfl (by exact H.out)).mono ?_; rintro e _ ⟨rfl, n2, rfl⟩)) | (go_at_call_of 67 (Value.int .u8 63); go_must (refine (at_all _ R s d l 63 _ rfl (by exact H.out)).mono ?_; rintro e _ ⟨rfl, n3, rfl⟩)) | (go_at_call_of 67 (Value.int .u8 123); go_must (refine (at_all _ R s d l 123 _ rfl (by exact H.out)).mono ?_; rintro e _ ⟨rfl, n4, rfl⟩)))
  go_ret
  exact ⟨ret_bool (by simp [atRep, f1, f2, f3, f4]), (Frm.refl No w).drewN _⟩
end Go.Proofs.Ytfgdhafpiikpjaa.nums
