/- Contracts of lex's smallest calls: isLetter, isDigit, digitsSize, prefixes. -/
import Derived.Test.YteaibkbdoocifaaDoorShelf
import Derived.Test.YteaibkbdoocifaaDoorFrm
import Derived.Test.YteaibkbdoocifaaDoorLexSpec
namespace Go.Proofs.YteaibkbdoocifaaDoor.lexs
set_option linter.unusedVariables false set_option linter.unusedSimpArgs false
open Go.ChangeShapes Go.WideShapes Go.ChangeAt Go.RowKit Go.Proofs.YteaibkbdoocifaaDoor.base

theorem isL_int (c : UInt8) : isL c = decide ((97 ≤ (c.toNat : Int) ∧ (c.toNat : Int) ≤ 122) ∨ (65 ≤ (c.toNat : Int) ∧ (c.toNat : Int) ≤ 90) ∨ (c.toNat : Int) = 95) := by
  have h : ∀ n : Fin 256, isL (UInt8.ofNat n.val) = decide ((97 ≤ (n.val : Int) ∧ (n.val : Int) ≤ 122) ∨ (65 ≤ (n.val : Int) ∧ (n.val : Int) ≤ 90) ∨ (n.val : Int) = 95) := by decide +kernel
  have := h ⟨c.toNat, c.toNat_lt⟩
  simpa using this
theorem isD_int (c : UInt8) : isD c = decide (48 ≤ (c.toNat : Int) ∧ (c.toNat : Int) ≤ 57) := by
  have h : ∀ n : Fin 256, isD (UInt8.ofNat n.val) = decide (48 ≤ (n.val : Int) ∧ (n.val : Int) ≤ 57) := by decide +kernel
  have := h ⟨c.toNat, c.toNat_lt⟩
  simpa using this
theorem isO_int (c : UInt8) : isO c = decide (48 ≤ (c.toNat : Int) ∧ (c.toNat : Int) ≤ 55) := by
  have h : ∀ n : Fin 256, isO (UInt8.ofNat n.val) = decide (48 ≤ (n.val : Int) ∧ (n.val : Int) ≤ 55) := by decide +kernel
  have := h ⟨c.toNat, c.toNat_lt⟩
  simpa using this

theorem isDigit_all (c : UInt8) (n : Int) (hn : n = (c.toNat : Int)) (w : World) :
    Calls Tryd.prog 76 #[.int .u8 n] w fun e w' => e = .returned (.bool (isD c)) ∧ w' = w := by
  have HD := Lib.hid (isD_int c)
  rw [← hn] at HD
  clear hn
  go_enter Tryd.func76, Tryd.ntmps76
  go_wp2
  all_goals
    go_ret
    exact ⟨ret_bool (by rw [HD.out]; simp; omega), rfl⟩

theorem isLetter_all (c : UInt8) (n : Int) (hn : n = (c.toNat : Int)) (w : World) :
    Calls Tryd.prog 74 #[.int .u8 n] w fun e w' => e = .returned (.bool (isL c)) ∧ w' = w := by
  have HD := Lib.hid (isL_int c)
  rw [← hn] at HD
  clear hn
  go_enter Tryd.func74, Tryd.ntmps74
  go_wp2
  all_goals
    go_ret
    exact ⟨ret_bool (by rw [HD.out, Bool.eq_iff_iff]; simp; omega), rfl⟩

/-- Where the bytes before place k are such and the one there isn't, the front is of k bytes. -/
theorem tw_at (p : UInt8 → Bool) (l : List UInt8) (k : Nat) (h : ∀ i (hi : i < l.length), i < k → p l[i] = true) (hk : k ≤ l.length) (he : ∀ hi : k < l.length, p l[k] = false) : (l.takeWhile p).length = k := by
  induction l generalizing k with
  | nil => simp at hk; simp [hk]
  | cons c t ih =>
    cases k with
    | zero =>
      have := he (by simp)
      simp at this
      rw [List.takeWhile_cons, if_neg (by simp [this])]; rfl
    | succ k =>
      have h0 := h 0 (by simp) (by omega)
      simp at h0
      rw [List.takeWhile_cons, if_pos h0, List.length_cons, ih k (fun i hi hik => by have := h (i + 1) (by simp; omega) (by omega); simpa using this) (by simp at hk; omega) (fun hi => by have := he (by simp; omega); simpa using this)]

set_option maxHeartbeats 400000 in
theorem digitsSize_all (s : ByteArray) (w : World) (hs : s.size ≤ 1000000) :
    Calls Tryd.prog 88 #[.string s] w fun e w' => e = .returned (.int .i64 (dg s.data.toList : Nat)) ∧ w' = w := by
  go_enter Tryd.func88, Tryd.ntmps88
  go_wp2
  go_loop [3] (fun iv => ∃ k : Nat, k ≤ s.size ∧ iv = .int .i64 k ∧ ∀ i (hi : i < s.size), i < k → isD s[i] = true) (fun iv => s.size - (intOf iv).toNat)
  case atStart => exact ⟨0, Nat.zero_le _, rfl, fun i _ h => by omega⟩
  case round =>
    obtain ⟨k, hk, rfl, hall⟩ := hrel
    have HALL := Lib.hid hall
    clear hall
    by_cases hlt : k < s.size
    · cases hd : isD s[k] with
      | true =>
        have HB := Lib.hid hd
        clear hd
        have HX := Lib.hid (show ∀ i (hi : i < s.size), i < k + 1 → isD s[i] = true by
          intro i hi hik
          by_cases e : i = k
          · subst e; exact HB.out
          · exact HALL.out i hi (by omega))
        go_wp2_with (go_at_call 76; go_must (refine (isDigit_all s[k] _ rfl _).mono ?_; rw [HB.out]; rintro e w' ⟨rfl, rfl⟩))
        go_round
        case rel => exact ⟨k + 1, by omega, by go_num, HX.out⟩
        case measure => simp [intOf]; omega
      | false =>
        have HB := Lib.hid hd
        clear hd
        have HE := Lib.hid (show dg s.data.toList = k from tw_at isD s.data.toList k (fun i hi hik => HALL.out i (by simpa using hi) hik) (by simp; omega) (fun hi => HB.out))
        go_wp2_with (go_at_call 76; go_must (refine (isDigit_all s[k] _ rfl _).mono ?_; rw [HB.out]; rintro e w' ⟨rfl, rfl⟩))
        go_ret
        exact ⟨ret_int (by rw [HE.out]), rfl⟩
    · obtain rfl : k = s.size := by omega
      have HE := Lib.hid (show dg s.data.toList = s.size from tw_at isD s.data.toList s.size (fun i hi hik => HALL.out i (by simpa using hi) hik) (by simp) (fun hi => absurd hi (by simp)))
      go_wp2
      go_ret
      exact ⟨ret_int (by rw [HE.out]), rfl⟩

theorem pre_one (l : List UInt8) (c : UInt8) : Lib.hasPrefix l [c] = (l.head? == some c) := by
  unfold Lib.hasPrefix
  cases l with
  | nil => rfl
  | cons d t => simp [List.isPrefixOf, eq_comm, BEq.comm]
/-- strings.HasPrefix of one byte; of two. -/
theorem hp1 (s : ByteArray) (c : UInt8) (w : World) : Calls Tryd.prog 82 #[.string s, .string ⟨#[c]⟩] w fun e w' => e = .returned (.bool (s.data.toList.head? == some c)) ∧ w' = w := by
  have := Tryd.strings_HasPrefix s ⟨#[c]⟩ w
  rw [show (⟨#[c]⟩ : ByteArray).data.toList = [c] from rfl, pre_one] at this
  exact this
theorem hp2 (s : ByteArray) (c d : UInt8) (w : World) : Calls Tryd.prog 82 #[.string s, .string ⟨#[c, d]⟩] w fun e w' => e = .returned (.bool (Lib.hasPrefix s.data.toList [c, d])) ∧ w' = w := by
  have := Tryd.strings_HasPrefix s ⟨#[c, d]⟩ w
  rw [show (⟨#[c, d]⟩ : ByteArray).data.toList = [c, d] from rfl] at this
  exact this
theorem pre_two (l : List UInt8) (c d : UInt8) : Lib.hasPrefix l [c, d] = (l.head? == some c && l.tail.head? == some d) := by
  unfold Lib.hasPrefix
  cases l with
  | nil => rfl
  | cons x t => cases t with
    | nil => simp [List.isPrefixOf]
    | cons y u => simp [List.isPrefixOf, eq_comm, BEq.comm]
theorem extract_drop (s : ByteArray) (k : Nat) : (s.extract k s.size).data.toList = s.data.toList.drop k := by
  rw [extract_list]
  simp [List.take_of_length_le]
theorem extract_take (s : ByteArray) (k : Nat) : (s.extract 0 k).data.toList = s.data.toList.take k := by
  rw [extract_list]
  simp
theorem list_size (l : List UInt8) : (⟨l.toArray⟩ : ByteArray).size = l.length := by show l.toArray.size = _; simp
end Go.Proofs.YteaibkbdoocifaaDoor.lexs
