/- Contracts of the reader's small calls: sees, next, take, digit. -/
import Derived.Test.YthebpkcifnndnaaBase
import Derived.Lib.Strings
namespace Go.Proofs.Ythebpkcifnndnaa.read
set_option linter.unusedVariables false set_option linter.unusedSimpArgs false
open Go.ChangeShapes Go.WideShapes Go.ChangeAt Go.RowKit Go.Proofs.Ythebpkcifnndnaa.base

/-- Do a and b come next? -/
def pre2 (l : List UInt8) (a b : UInt8) : Bool := match l with
  | x :: y :: _ => x == a && y == b
  | _ => false

theorem next_all (w : World) (R : Nat) (s : ByteArray) (d : Nat) (x : UInt8) (t : List UInt8) (h : Rd w R s d (x :: t)) :
    Calls Try.prog 75 #[.pointer (some ⟨R, 0, none⟩)] w fun e w' => e = .returned (.int .u8 (x.toNat : Int)) ∧ Rd w' R s d t ∧ Frm (At R) w w' := by
  obtain ⟨i, h, e⟩ := h
  have hlt := sx_lt e
  have hx := sx_hd e
  have ht := Lib.hid (sx_tl e)
  have h0 := h.c0
  have h1 := h.c1
  have hf := h.1.f 1
  have hz := h.2.2.1
  have H := Lib.hid h
  have HX := Lib.hid (congrArg (fun c : UInt8 => (c.toNat : Int)) hx)
  clear h hx
  go_enter Try.func75, Try.ntmps75
  go_wp2
  go_quiet (fail)
  go_wp2
  go_ret
  refine ⟨ret_int (by exact HX.out), ⟨i + 1, ?_, ht.out⟩, ?_⟩
  · exact RdI.set (w := w.drewN nq) H.out (i + 1) (by omega) _ (by omega)
  · exact Frm.setCell (w := w.drewN nq) ((Frm.refl (At R) w).drewN nq) ⟨R, 1, none⟩ _ (fun _ => rfl)

theorem take_all (w : World) (R : Nat) (s : ByteArray) (d : Nat) (l : List UInt8) (c : UInt8) (n : Int) (hn : n = (c.toNat : Int)) (h : Rd w R s d l) :
    Calls Try.prog 60 #[.pointer (some ⟨R, 0, none⟩), .int .u8 n] w fun e w' => e = .returned (.bool (hd l c)) ∧ Rd w' R s d (if hd l c then l.tail else l) ∧ Frm (At R) w w' := by
  subst hn
  have H := Lib.hid h
  by_cases hc : hd l c = true
  · obtain ⟨x, t, rfl⟩ : ∃ x t, l = x :: t := by cases l with
      | nil => cases hc
      | cons x t => exact ⟨x, t, rfl⟩
    obtain ⟨i, h, e⟩ := h
    have hlt := sx_lt e
    have ht := Lib.hid (sx_tl e)
    have h0 := h.c0
    have h1 := h.c1
    have hf := h.1.f 1
    have hz := h.2.2.1
    have HI := Lib.hid h
    clear h e
    go_enter Try.func60, Try.ntmps60
    go_wp2_with (go_at_call 67; go_must (refine (at_all _ R s d (x :: t) c _ rfl (by exact H.out)).mono ?_; rintro e _ ⟨rfl, n1, rfl⟩))
    go_ret
    refine ⟨rfl, ?_, ?_⟩
    · exact ⟨i + 1, RdI.set (w := w.drewN n1) HI.out (i + 1) (by omega) _ (by omega), ht.out⟩
    · exact Frm.setCell (a := w) (w := w.drewN n1) ((Frm.refl (At R) w).drewN n1) ⟨R, 1, none⟩ _ (fun _ => rfl)
  · have hc' : hd l c = false := by simpa using hc
    go_enter Try.func60, Try.ntmps60
    go_wp2_with (go_at_call 67; go_must (refine (at_all _ R s d l c _ rfl (by exact H.out)).mono ?_; rintro e _ ⟨rfl, n1, rfl⟩))
    go_ret
    exact ⟨rfl, H.out, (Frm.refl (At R) w).drewN n1⟩

theorem pre2_of (s : ByteArray) (a b : UInt8) : (decide (2 ≤ s.size) && ((s.extract 0 2).toList == [a, b])) = pre2 s.data.toList a b := by
  rw [Lib.toList_data, extract_list]
  have hl := len_list s
  generalize s.data.toList = l at *
  rw [← hl]
  match l with
  | [] => rfl
  | [x] => rfl
  | x :: y :: t => simp [pre2]

theorem hasPrefix_2 (w : World) (s : ByteArray) (a b : UInt8) (hz : s.size ≤ 100000) :
    Calls Try.prog 98 #[.string s, .string ⟨#[a, b]⟩] w fun e w' => e = .returned (.bool (pre2 s.data.toList a b)) ∧ w' = w := by
  have hps : (⟨#[a, b]⟩ : ByteArray).size = 2 := rfl
  by_cases h2 : 2 ≤ s.size
  · have HP := Lib.hid (show ((s.extract 0 2).toList == [a, b]) = pre2 s.data.toList a b by
      rw [← pre2_of s a b, decide_eq_true h2]; rfl)
    go_enter Try.func98, Try.ntmps98
    go_wp2
    go_ret
    exact ⟨ret_bool HP.out, rfl⟩
  · have HP := Lib.hid (show false = pre2 s.data.toList a b by
      rw [← pre2_of s a b, decide_eq_false h2]; rfl)
    go_enter Try.func98, Try.ntmps98
    go_wp2
    go_ret
    exact ⟨ret_bool HP.out, rfl⟩

theorem sees_all (w : World) (R : Nat) (s : ByteArray) (d : Nat) (l : List UInt8) (a b : UInt8) (h : Rd w R s d l) :
    Calls Try.prog 91 #[.pointer (some ⟨R, 0, none⟩), .string ⟨#[a, b]⟩] w fun e w' => e = .returned (.bool (pre2 l a b)) ∧ ∃ n, w' = w.drewN n := by
  obtain ⟨i, h, e⟩ := h
  have H := Lib.hid h
  have hz := h.2.2.1
  have hr : (s.extract i s.size).size = s.size - i := by simp
  have HL := Lib.hid (show List.take (s.size - i) (List.drop i s.data.toList) = l by
    rw [← e]; simp [sx, List.take_of_length_le])
  clear h e
  go_enter Try.func91, Try.ntmps91
  go_wp2_with (first | (go_at_call 99; go_must (refine (rest_all _ R s d i (by exact H.out)).mono ?_; rintro e _ ⟨rfl, n1, rfl⟩)) | (go_at_call 98; go_must (refine (hasPrefix_2 _ (s.extract i s.size) a b (by omega)).mono ?_; rintro e _ ⟨rfl, rfl⟩)))
  go_ret
  exact ⟨ret_bool (by rw [HL.out]), _, rfl⟩

theorem u8_sub48 (x : UInt8) : ((x.toNat : Int) - 48) % 256 = ((x - 48).toNat : Int) := by
  have h : ∀ n : Fin 256, ((n.val : Int) - 48) % 256 = ((UInt8.ofNat n.val - 48).toNat : Int) := by decide +kernel
  have := h ⟨x.toNat, x.toNat_lt⟩
  simpa using this

/-- A digit below b, and what is behind it. -/
def dgt (b : Nat) (l : List UInt8) : Option (Nat × List UInt8) := match l with
  | [] => none
  | x :: t => if (x - 48).toNat < b then some ((x - 48).toNat, t) else none

theorem digit_no (w : World) (R : Nat) (s : ByteArray) (d : Nat) (l : List UInt8) (b : Nat) (hb : b ≤ 10) (h : Rd w R s d l) (hd : dgt b l = none) :
    Calls Try.prog 83 #[.pointer (some ⟨R, 0, none⟩), .int .i64 b] w fun e w' => e = .returned (.tuple #[.int .i64 0, .bool false]) ∧ ∃ n, w' = w.drewN n := by
  have H := Lib.hid h
  cases l with
  | nil =>
    clear hd
    go_enter Try.func83, Try.ntmps83
    go_wp2_with (go_at_call 46; go_must (refine (done_all _ R s d [] (by exact H.out)).mono ?_; rintro e _ ⟨rfl, n1, rfl⟩))
    exact bodyPost_ret (v := .tuple #[.int .i64 0, .bool false]) (by simp [results, Try.results83, go_sem]) rfl ⟨rfl, _, rfl⟩
  | cons x t =>
    obtain ⟨i, h, e⟩ := h
    have hlt := sx_lt e
    have hx := sx_hd e
    have h0 := h.c0
    have h1 := h.c1
    have hz := h.2.2.1
    have hm : ((s[i].toNat : Int) - 48) % 256 = ((x - 48).toNat : Int) := by
      rw [hx]; exact (u8_sub48 x)
    have hc : (b : Int) ≤ ((x - 48).toNat : Int) := by
      simp only [dgt] at hd
      split at hd
      · cases hd
      · omega
    clear h e hx hd
    go_enter Try.func83, Try.ntmps83
    go_wp2_with (go_at_call 46; go_must (refine (done_all _ R s d (x :: t) (by exact H.out)).mono ?_; rintro e _ ⟨rfl, n1, rfl⟩))
    go_quiet (fail)
    go_wp2
    exact bodyPost_ret (v := .tuple #[.int .i64 0, .bool false]) (by simp [results, Try.results83, go_sem]) rfl ⟨rfl, _, rfl⟩

theorem digit_yes (w : World) (R : Nat) (s : ByteArray) (d : Nat) (l t : List UInt8) (b n : Nat) (hb : b ≤ 10) (h : Rd w R s d l) (hd : dgt b l = some (n, t)) :
    Calls Try.prog 83 #[.pointer (some ⟨R, 0, none⟩), .int .i64 b] w fun e w' => e = .returned (.tuple #[.int .i64 n, .bool true]) ∧ Rd w' R s d t ∧ Frm (At R) w w' := by
  have H := Lib.hid h
  cases l with
  | nil => cases hd
  | cons x t' =>
    obtain ⟨i, h, e⟩ := h
    have hlt := sx_lt e
    have hx := sx_hd e
    have ht := Lib.hid (sx_tl e)
    have h0 := h.c0
    have h1 := h.c1
    have hf := h.1.f 1
    have hz := h.2.2.1
    have HI := Lib.hid h
    obtain ⟨rfl, rfl, hc⟩ : n = (x - 48).toNat ∧ t = t' ∧ (x - 48).toNat < b := by
      simp only [dgt] at hd
      split at hd
      · rename_i hc
        cases hd
        exact ⟨rfl, rfl, hc⟩
      · cases hd
    have hm : ((s[i].toNat : Int) - 48) % 256 = ((x - 48).toNat : Int) := by
      rw [hx]; exact (u8_sub48 x)
    have hc' : ((x - 48).toNat : Int) < (b : Int) := by omega
    clear h e hx hd
    go_enter Try.func83, Try.ntmps83
    go_wp2_with (go_at_call 46; go_must (refine (done_all _ R s d (x :: t) (by exact H.out)).mono ?_; rintro e _ ⟨rfl, n1, rfl⟩))
    go_quiet (fail)
    go_wp2
    refine bodyPost_ret (v := .tuple #[.int .i64 ((x - 48).toNat : Int), .bool true]) (by simp [results, Try.results83, go_sem, hm]) rfl ⟨rfl, ?_, ?_⟩
    · exact ⟨i + 1, RdI.set (w := w.drewN _) HI.out (i + 1) (by omega) _ (by omega), ht.out⟩
    · exact Frm.setCell (w := w.drewN _) ((Frm.refl (At R) w).drewN _) ⟨R, 1, none⟩ _ (fun _ => rfl)
end Go.Proofs.Ythebpkcifnndnaa.read
