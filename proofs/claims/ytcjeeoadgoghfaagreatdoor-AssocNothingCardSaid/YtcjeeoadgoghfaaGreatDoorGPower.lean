/- Contracts of dec's readers of texts: blankSize, signSize, leadingDigits, leadingPower. The contract of dec.powerOf. -/
import Derived.Test.YtcjeeoadgoghfaaGreatDoorShelf
import Derived.Test.YtcjeeoadgoghfaaGreatDoorGTabR
import Derived.Handy
import Derived.Outline

namespace Go.Proofs.YtcjeeoadgoghfaaGreatDoor.scan
set_option linter.unusedVariables false set_option linter.unusedSimpArgs false
open Go.ChangeShapes Go.WideShapes Go.ChangeAt Go.RowKit

def isB (c : UInt8) : Bool := c == 32 || c == 9 || c == 10
def isD (c : UInt8) : Bool := 48 ≤ c && c ≤ 57
/-- How many bytes at the beginning are blanks; digits. -/
def bl (l : List UInt8) : Nat := (l.takeWhile isB).length
def dg (l : List UInt8) : Nat := (l.takeWhile isD).length
/-- How many bytes a sign takes. -/
def sg (l : List UInt8) : Nat := match l with
  | [] => 0
  | c :: _ => if c = 43 ∨ c = 45 then 1 else 0

theorem tw_len (p : UInt8 → Bool) (l : List UInt8) : (l.takeWhile p).length ≤ l.length := by
  induction l with
  | nil => simp
  | cons c t ih => rw [List.takeWhile_cons]; split <;> simp; exact ih
/-- Where the bytes before place k are such and the one there isn't, the front is of k bytes. -/
theorem tw_at (p : UInt8 → Bool) (l : List UInt8) (k : Nat) (h : ∀ i (hi : i < l.length), i < k → p l[i] = true) (hk : k ≤ l.length) (he : ∀ hi : k < l.length, p l[k] = false) : (l.takeWhile p).length = k := by
  induction l generalizing k with
  | nil => simp at hk; simp [hk]
  | cons c t ih =>
    cases k with
    | zero =>
      have := he (by simp)
      simp at this
      rw [List.takeWhile_cons, if_neg (by simp [this])]; rfl
    | succ k =>
      have h0 := h 0 (by simp) (by omega)
      simp at h0
      rw [List.takeWhile_cons, if_pos h0, List.length_cons, ih k (fun i hi hik => by have := h (i + 1) (by simp; omega) (by omega); simpa using this) (by simp at hk; omega) (fun hi => by have := he (by simp; omega); simpa using this)]

theorem isB_int (c : UInt8) : isB c = decide ((c.toNat : Int) = 32 ∨ (c.toNat : Int) = 9 ∨ (c.toNat : Int) = 10) := by
  have h : ∀ n : Fin 256, isB (UInt8.ofNat n.val) = decide ((n.val : Int) = 32 ∨ (n.val : Int) = 9 ∨ (n.val : Int) = 10) := by decide +kernel
  have := h ⟨c.toNat, c.toNat_lt⟩
  simpa using this
theorem isD_int (c : UInt8) : isD c = decide (48 ≤ (c.toNat : Int) ∧ (c.toNat : Int) ≤ 57) := by
  have h : ∀ n : Fin 256, isD (UInt8.ofNat n.val) = decide (48 ≤ (n.val : Int) ∧ (n.val : Int) ≤ 57) := by decide +kernel
  have := h ⟨c.toNat, c.toNat_lt⟩
  simpa using this

set_option maxHeartbeats 400000 in
theorem blankSize_all (s : ByteArray) (w : World) (hs : s.size ≤ 140737488351232) :
    Calls Tryz.prog 45 #[.string s] w fun e w' => e = .returned (.int .i64 (bl s.data.toList : Nat)) ∧ w = w' := by
  go_enter Tryz.func45, Tryz.ntmps45
  go_wp2
  go_loop [3] (fun iv => ∃ k : Nat, k ≤ s.size ∧ iv = .int .i64 k ∧ ∀ i (hi : i < s.size), i < k → isB s[i] = true) (fun iv => s.size - (intOf iv).toNat)
  case atStart => exact ⟨0, Nat.zero_le _, rfl, fun i _ h => by omega⟩
  case round =>
    obtain ⟨k, hk, rfl, hall⟩ := hrel
    have HALL := Lib.hid hall
    clear hall
    by_cases hlt : k < s.size
    · have HB := Lib.hid (isB_int s[k])
      by_cases h1 : (s[k].toNat : Int) = 32 ∨ (s[k].toNat : Int) = 9 ∨ (s[k].toNat : Int) = 10
      · have HX := Lib.hid (show ∀ i (hi : i < s.size), i < k + 1 → isB s[i] = true by
          intro i hi hik
          by_cases e : i = k
          · subst e; rw [HB.out]; exact decide_eq_true h1
          · exact HALL.out i hi (by omega))
        by_cases e1 : (s[k].toNat : Int) = 32
        · have f1 : ((s[k].toNat : Int) == 32) = true := by rw [e1]; rfl
          clear h1 e1
          go_wp2
          go_round
          case rel => exact ⟨k + 1, by omega, by go_num, HX.out⟩
          case measure => simp [intOf]; omega
        · have f1 : ((s[k].toNat : Int) == 32) = false := by simpa using e1
          by_cases e2 : (s[k].toNat : Int) = 9
          · have f2 : ((s[k].toNat : Int) == 9) = true := by rw [e2]; rfl
            clear h1 e1 e2
            go_wp2
            go_round
            case rel => exact ⟨k + 1, by omega, by go_num, HX.out⟩
            case measure => simp [intOf]; omega
          · have f2 : ((s[k].toNat : Int) == 9) = false := by simpa using e2
            have f3 : ((s[k].toNat : Int) == 10) = true := by rw [show (s[k].toNat : Int) = 10 by omega]; rfl
            clear h1 e1 e2
            go_wp2
            go_round
            case rel => exact ⟨k + 1, by omega, by go_num, HX.out⟩
            case measure => simp [intOf]; omega
      · have f1 : ((s[k].toNat : Int) == 32) = false := by simp; omega
        have f2 : ((s[k].toNat : Int) == 9) = false := by simp; omega
        have f3 : ((s[k].toNat : Int) == 10) = false := by simp; omega
        have HE := Lib.hid (show bl s.data.toList = k from tw_at isB s.data.toList k (fun i hi hik => HALL.out i (by simpa using hi) hik) (by simp; omega) (fun hi => by
          have : isB s[k] = false := by rw [HB.out]; exact decide_eq_false h1
          exact this))
        clear h1
        go_wp2
        go_ret
        exact ⟨ret_int (by rw [HE.out]), rfl⟩
    · obtain rfl : k = s.size := by omega
      have HE := Lib.hid (show bl s.data.toList = s.size from tw_at isB s.data.toList s.size (fun i hi hik => HALL.out i (by simpa using hi) hik) (by simp) (fun hi => absurd hi (by simp)))
      go_wp2
      go_ret
      exact ⟨ret_int (by rw [HE.out]), rfl⟩

set_option maxHeartbeats 400000 in
theorem leadingDigits_all (s : ByteArray) (w : World) (hs : s.size ≤ 140737488351232) :
    Calls Tryz.prog 82 #[.string s] w fun e w' => e = .returned (.string ⟨(s.data.toList.take (dg s.data.toList)).toArray⟩) ∧ w = w' := by
  have hdl : dg s.data.toList ≤ s.size := by have := tw_len isD s.data.toList; simp only [Array.length_toList] at this; exact this
  go_enter Tryz.func82, Tryz.ntmps82
  go_wp2
  go_loop [3] (fun iv => ∃ k : Nat, k ≤ s.size ∧ iv = .int .i64 k ∧ ∀ i (hi : i < s.size), i < k → isD s[i] = true) (fun iv => s.size - (intOf iv).toNat)
  case atStart => exact ⟨0, Nat.zero_le _, rfl, fun i _ h => by omega⟩
  case round =>
    obtain ⟨k, hk, rfl, hall⟩ := hrel
    have HALL := Lib.hid hall
    clear hall
    by_cases hlt : k < s.size
    · have HB := Lib.hid (isD_int s[k])
      by_cases h1 : 48 ≤ (s[k].toNat : Int) ∧ (s[k].toNat : Int) ≤ 57
      · have HX := Lib.hid (show ∀ i (hi : i < s.size), i < k + 1 → isD s[i] = true by
          intro i hi hik
          by_cases e : i = k
          · subst e; rw [HB.out]; exact decide_eq_true h1
          · exact HALL.out i hi (by omega))
        obtain ⟨h1, h2⟩ := h1
        go_wp2
        go_round
        case rel => exact ⟨k + 1, by omega, by go_num, HX.out⟩
        case measure => simp [intOf]; omega
      · have HE := Lib.hid (show dg s.data.toList = k from tw_at isD s.data.toList k (fun i hi hik => HALL.out i (by simpa using hi) hik) (by simp; omega) (fun hi => by
          have : isD s[k] = false := by rw [HB.out]; exact decide_eq_false h1
          exact this))
        by_cases h2 : 48 ≤ (s[k].toNat : Int)
        · have h3 : 57 < (s[k].toNat : Int) := by omega
          clear h1
          go_wp2
          go_ret
          exact ⟨by rw [HE.out, extract_list]; rfl, rfl⟩
        · have h3 : (s[k].toNat : Int) < 48 := by omega
          clear h1 h2
          go_wp2
          go_ret
          exact ⟨by rw [HE.out, extract_list]; rfl, rfl⟩
    · obtain rfl : k = s.size := by omega
      have HE := Lib.hid (show dg s.data.toList = s.size from tw_at isD s.data.toList s.size (fun i hi hik => HALL.out i (by simpa using hi) hik) (by simp) (fun hi => absurd hi (by simp)))
      go_wp2
      go_ret
      exact ⟨by rw [HE.out, List.take_of_length_le (by simp), str_eta]; rfl, rfl⟩

theorem pre_one (l : List UInt8) (c : UInt8) : Lib.hasPrefix l [c] = (l.head? == some c) := by
  unfold Lib.hasPrefix
  cases l with
  | nil => rfl
  | cons d t => simp [List.isPrefixOf, eq_comm, BEq.comm]

theorem sg_le (l : List UInt8) : sg l ≤ l.length ∧ sg l ≤ 1 := by
  cases l with
  | nil => simp [sg]
  | cons c t => simp only [sg, List.length_cons]; split <;> omega

theorem signSize_all (s : ByteArray) (w : World) :
    Calls Tryz.prog 81 #[.string s] w fun e w' => e = .returned (.int .i64 (sg s.data.toList : Nat)) ∧ w = w' := by
  have ha := fun w => Tryz.strings_HasPrefix s ⟨#[43]⟩ w
  have hb := fun w => Tryz.strings_HasPrefix s ⟨#[45]⟩ w
  rw [show (⟨#[43]⟩ : ByteArray).data.toList = [43] from rfl, pre_one] at ha
  rw [show (⟨#[45]⟩ : ByteArray).data.toList = [45] from rfl, pre_one] at hb
  have hsg : sg s.data.toList = if (s.data.toList.head? == some 43) = true ∨ (s.data.toList.head? == some 45) = true then 1 else 0 := by
    cases s.data.toList with
    | nil => rfl
    | cons c t => simp [sg]
  cases h1 : (s.data.toList.head? == some 43)
  · cases h2 : (s.data.toList.head? == some 45)
    · rw [h1, h2] at hsg
      rw [h1] at ha
      rw [h2] at hb
      have HS := Lib.hid (show sg s.data.toList = 0 from hsg)
      have HA := Lib.hid ha
      have HB := Lib.hid hb
      clear hsg h1 h2 ha hb
      go_enter Tryz.func81, Tryz.ntmps81
      go_wp2_with (first | (go_at_call 83; (with_reducible refine (HA.out _).mono ?_); rintro e w' ⟨rfl, rfl⟩) | (go_at_call 83; (with_reducible refine (HB.out _).mono ?_); rintro e w' ⟨rfl, rfl⟩))
      go_ret
      exact ⟨ret_int (by rw [HS.out]; rfl), rfl⟩
    · rw [h1, h2] at hsg
      rw [h1] at ha
      rw [h2] at hb
      have HS := Lib.hid (show sg s.data.toList = 1 from hsg)
      have HA := Lib.hid ha
      have HB := Lib.hid hb
      clear hsg h1 h2 ha hb
      go_enter Tryz.func81, Tryz.ntmps81
      go_wp2_with (first | (go_at_call 83; (with_reducible refine (HA.out _).mono ?_); rintro e w' ⟨rfl, rfl⟩) | (go_at_call 83; (with_reducible refine (HB.out _).mono ?_); rintro e w' ⟨rfl, rfl⟩))
      go_ret
      exact ⟨ret_int (by rw [HS.out]; rfl), rfl⟩
  · rw [h1] at hsg ha
    have HS := Lib.hid (show sg s.data.toList = 1 by rw [hsg, if_pos (Or.inl rfl)])
    have HA := Lib.hid ha
    clear hsg h1 ha hb
    go_enter Tryz.func81, Tryz.ntmps81
    go_wp2_with (go_at_call 83; (with_reducible refine (HA.out _).mono ?_); rintro e w' ⟨rfl, rfl⟩)
    go_ret
    exact ⟨ret_int (by rw [HS.out]; rfl), rfl⟩

/-- The sign and the digits behind an e at the beginning. -/
def lp (l : List UInt8) : List UInt8 := match l with
  | [] => []
  | c :: t => if c = 101 ∨ c = 69 then (if dg (t.drop (sg t)) = 0 then [] else t.take (sg t + dg (t.drop (sg t)))) else []

theorem extract_drop (s : ByteArray) (k : Nat) : (s.extract k s.size).data.toList = s.data.toList.drop k := by
  rw [extract_list]
  simp [List.take_of_length_le]
theorem list_size (l : List UInt8) : (⟨l.toArray⟩ : ByteArray).size = l.length := by show l.toArray.size = _; simp
theorem list_data (l : List UInt8) : (⟨l.toArray⟩ : ByteArray).data.toList = l := rfl

set_option maxHeartbeats 400000 in
theorem leadingPower_none (s : ByteArray) (w : World) (h : ∀ c, s.data.toList.head? = some c → c ≠ 101 ∧ c ≠ 69) :
    Calls Tryz.prog 84 #[.string s] w fun e w' => e = .returned (.string ⟨#[]⟩) ∧ w = w' := by
  have ha := fun w => Tryz.strings_HasPrefix s ⟨#[101]⟩ w
  have hb := fun w => Tryz.strings_HasPrefix s ⟨#[69]⟩ w
  rw [show (⟨#[101]⟩ : ByteArray).data.toList = [101] from rfl, pre_one] at ha
  rw [show (⟨#[69]⟩ : ByteArray).data.toList = [69] from rfl, pre_one] at hb
  rw [show (s.data.toList.head? == some 101) = false by
    cases hh : s.data.toList.head? with
    | none => rfl
    | some c => simpa using (h c hh).1] at ha
  rw [show (s.data.toList.head? == some 69) = false by
    cases hh : s.data.toList.head? with
    | none => rfl
    | some c => simpa using (h c hh).2] at hb
  have HA := Lib.hid ha
  have HB := Lib.hid hb
  clear ha hb h
  go_enter Tryz.func84, Tryz.ntmps84
  go_wp2_with (first | (go_at_call 83; (with_reducible refine (HA.out _).mono ?_); rintro e w' ⟨rfl, rfl⟩) | (go_at_call 83; (with_reducible refine (HB.out _).mono ?_); rintro e w' ⟨rfl, rfl⟩))
  go_ret
  exact ⟨rfl, rfl⟩

theorem empty_iff (D : ByteArray) : D.toList.isEmpty = (D.size == 0) := by
  rw [Lib.toList_data]
  have : D.data.toList.length = D.size := by simp
  cases h : D.data.toList with
  | nil => rw [h] at this; rw [← this]; rfl
  | cons c t => rw [h] at this; rw [← this]; rfl

theorem leadingDigits_var (s : ByteArray) (w : World) (hs : s.size ≤ 140737488351232) (G : Nat) (hG : dg s.data.toList = G) :
    Calls Tryz.prog 82 #[.string s] w fun e w' => ∃ D : ByteArray, e = .returned (.string D) ∧ Hid (D.data.toList = s.data.toList.take G) ∧ D.toList.isEmpty = (G == 0) ∧ D.size = G ∧ w = w' := by
  subst hG
  refine (leadingDigits_all s w hs).mono fun e w' ⟨he, hw⟩ => ?_
  have hz : (⟨(s.data.toList.take (dg s.data.toList)).toArray⟩ : ByteArray).size = dg s.data.toList := by rw [list_size, List.length_take]; have := tw_len isD s.data.toList; unfold dg; omega
  exact ⟨_, he, Lib.hid rfl, by rw [empty_iff, hz], hz, hw⟩

set_option maxHeartbeats 400000 in
theorem leadingPower_e (s : ByteArray) (t : List UInt8) (c : UInt8) (w : World) (hs : s.size ≤ 140737488351232) (h : s.data.toList = c :: t) (hc : c = 101 ∨ c = 69) :
    Calls Tryz.prog 84 #[.string s] w fun e w' => e = .returned (.string ⟨(lp s.data.toList).toArray⟩) ∧ w = w' := by
  have ha := fun w => Tryz.strings_HasPrefix s ⟨#[101]⟩ w
  have hb := fun w => Tryz.strings_HasPrefix s ⟨#[69]⟩ w
  rw [show (⟨#[101]⟩ : ByteArray).data.toList = [101] from rfl, pre_one] at ha
  rw [show (⟨#[69]⟩ : ByteArray).data.toList = [69] from rfl, pre_one] at hb
  have hsz : s.size = t.length + 1 := by have := congrArg List.length h; simpa using this
  have h1d : (s.extract 1 s.size).data.toList = t := by rw [extract_drop, h]; rfl
  have hsg := sg_le t
  obtain ⟨s1, hs1⟩ : ∃ s1, s1 = s.extract 1 s.size := ⟨_, rfl⟩
  have HS1 := Lib.hid hs1
  have hz1 : s1.size = t.length := by rw [hs1]; simp [ByteArray.size_extract]; omega
  rw [← hs1] at h1d
  have HSG := Lib.hid (fun w => signSize_all s1 w)
  rw [h1d] at HSG
  have H1D := Lib.hid h1d
  obtain ⟨G, hG⟩ : ∃ G, dg (t.drop (sg t)) = G := ⟨_, rfl⟩
  have hGl : sg t + G ≤ t.length := by have := tw_len isD (t.drop (sg t)); rw [List.length_drop] at this; unfold dg at hG; omega
  have HLP := Lib.hid (show lp s.data.toList = if G = 0 then [] else t.take (sg t + G) by rw [h]; simp only [lp]; rw [if_pos hc, hG])
  have HDG := Lib.hid (fun w => leadingDigits_var (s1.extract (sg t) s1.size) w (by simp [ByteArray.size_extract]; omega) G (by rw [extract_drop, h1d, hG]))
  have hp1 : 1 ≤ s.size := by omega
  have hp2 : sg t ≤ s1.size := by omega
  have hp3 : (sg t : Int) + (G : Int) ≤ s1.size := by omega
  have hp4 : s1.size ≤ 140737488351232 := by omega
  have HZ1 := Lib.hid hz1
  have HSGL := Lib.hid hsg
  have hb101 : c = 101 ∨ c ≠ 101 := by
    by_cases e : c = 101
    · exact Or.inl e
    · exact Or.inr e
  have HP : Hid ((∀ w, Calls Tryz.prog 83 #[.string s, .string ⟨#[101]⟩] w fun e w' => e = .returned (.bool (decide (c = 101))) ∧ w' = w) ∧ ∀ w, Calls Tryz.prog 83 #[.string s, .string ⟨#[69]⟩] w fun e w' => e = .returned (.bool (decide (c = 69))) ∧ w' = w) := Lib.hid (by
    rw [h] at ha hb
    refine ⟨fun w => (ha w).mono fun e w' ⟨h1, h2⟩ => ⟨by rw [h1]; rfl, h2⟩, fun w => (hb w).mono fun e w' ⟨h1, h2⟩ => ⟨by rw [h1]; rfl, h2⟩⟩)
  clear ha hb h hs1 h1d hsz hz1 hsg hGl hG hb101
  rcases hc with rfl | rfl
  · have HA := Lib.hid HP.out.1
    rw [decide_eq_true rfl] at HA
    by_cases hG0 : G = 0
    · subst hG0
      go_enter Tryz.func84, Tryz.ntmps84
      go_wp2_with (first | (go_at_call 83; (with_reducible refine (HA.out _).mono ?_); rintro e w' ⟨rfl, rfl⟩) | (go_at_call 81; go_must (rw [← HS1.out]; refine (HSG.out _).mono ?_; rintro e w' ⟨rfl, rfl⟩)) | (go_at_call 82; go_must (refine (HDG.out _).mono ?_; rintro e w' ⟨D, rfl, HD, hDe, hDs, rfl⟩)))
      go_ret
      exact ⟨by rw [HLP.out]; rfl, rfl⟩
    · have hg1 : (G == 0) = false := by simpa using hG0
      go_enter Tryz.func84, Tryz.ntmps84
      go_wp2_with (first | (go_at_call 83; (with_reducible refine (HA.out _).mono ?_); rintro e w' ⟨rfl, rfl⟩) | (go_at_call 81; go_must (rw [← HS1.out]; refine (HSG.out _).mono ?_; rintro e w' ⟨rfl, rfl⟩)) | (go_at_call 82; go_must (refine (HDG.out _).mono ?_; rintro e w' ⟨D, rfl, HD, hDe, hDs, rfl⟩; rw [hg1] at hDe)))
      go_ret
      exact ⟨by rw [HLP.out, if_neg hG0, extract_list, H1D.out]; rfl, rfl⟩
  · have HA := Lib.hid HP.out.1
    rw [decide_eq_false (by decide)] at HA
    have HB := Lib.hid HP.out.2
    rw [decide_eq_true rfl] at HB
    by_cases hG0 : G = 0
    · subst hG0
      go_enter Tryz.func84, Tryz.ntmps84
      go_wp2_with (first | (go_at_call 83; (with_reducible refine (HA.out _).mono ?_); rintro e w' ⟨rfl, rfl⟩) | (go_at_call 83; (with_reducible refine (HB.out _).mono ?_); rintro e w' ⟨rfl, rfl⟩) | (go_at_call 81; go_must (rw [← HS1.out]; refine (HSG.out _).mono ?_; rintro e w' ⟨rfl, rfl⟩)) | (go_at_call 82; go_must (refine (HDG.out _).mono ?_; rintro e w' ⟨D, rfl, HD, hDe, hDs, rfl⟩)))
      go_ret
      exact ⟨by rw [HLP.out]; rfl, rfl⟩
    · have hg1 : (G == 0) = false := by simpa using hG0
      go_enter Tryz.func84, Tryz.ntmps84
      go_wp2_with (first | (go_at_call 83; (with_reducible refine (HA.out _).mono ?_); rintro e w' ⟨rfl, rfl⟩) | (go_at_call 83; (with_reducible refine (HB.out _).mono ?_); rintro e w' ⟨rfl, rfl⟩) | (go_at_call 81; go_must (rw [← HS1.out]; refine (HSG.out _).mono ?_; rintro e w' ⟨rfl, rfl⟩)) | (go_at_call 82; go_must (refine (HDG.out _).mono ?_; rintro e w' ⟨D, rfl, HD, hDe, hDs, rfl⟩; rw [hg1] at hDe)))
      go_ret
      exact ⟨by rw [HLP.out, if_neg hG0, extract_list, H1D.out]; rfl, rfl⟩
end Go.Proofs.YtcjeeoadgoghfaaGreatDoor.scan

namespace Go.Proofs.YtcjeeoadgoghfaaGreatDoor.scan
set_option linter.unusedVariables false
open Go.ChangeShapes Go.WideShapes Go.ChangeAt Go.RowKit

def pwStep (p : Nat) (c : UInt8) : Nat := if p ≤ 1099511627776 then p * 10 + (c - 48).toNat else p
/-- The number that digits say, as far as it is told. -/
def pwN (l : List UInt8) : Nat := l.foldl pwStep 0
def pwZ (l : List UInt8) : Int := if l.head? = some 45 then -((pwN (l.drop (sg l)) : Nat) : Int) else (pwN (l.drop (sg l)) : Nat)
theorem pw_snoc (l : List UInt8) (c : UInt8) : pwN (l ++ [c]) = pwStep (pwN l) c := by unfold pwN; rw [List.foldl_append]; rfl
theorem pw_le (l : List UInt8) : pwN l ≤ 10995116278015 := by
  unfold pwN
  have h : ∀ (l : List UInt8) (p : Nat), p ≤ 10995116278015 → l.foldl pwStep p ≤ 10995116278015 := by
    intro l
    induction l with
    | nil => intro p h; exact h
    | cons c t ih =>
      intro p h
      rw [List.foldl_cons]
      refine ih _ ?_
      unfold pwStep
      have := (c - 48).toNat_lt
      split <;> omega
  exact h l 0 (by omega)

theorem sub48 (c : UInt8) : IntKind.u8.wrap ((c.toNat : Int) - 48) = ((c - 48).toNat : Int) := by
  have h : ∀ n : Fin 256, IntKind.u8.wrap ((n.val : Int) - 48) = ((UInt8.ofNat n.val - 48).toNat : Int) := by decide +kernel
  have := h ⟨c.toNat, c.toNat_lt⟩
  simpa using this

set_option maxRecDepth 100000 in
set_option maxHeartbeats 800000 in
theorem powerOf_all (s : ByteArray) (w : World) (hs : s.size ≤ 140737488350000) :
    Calls Tryz.prog 115 #[.string s] w fun e w' => e = .returned (.int .i64 (pwZ s.data.toList)) ∧ Below w.heap.size w w' := by
  have HSG := Lib.hid (fun w => signSize_all s w)
  have hsg := sg_le s.data.toList
  have hsz : s.data.toList.length = s.size := by simp
  have hp : sg s.data.toList ≤ s.size := by omega
  clear hsg hsz
  obtain ⟨r, hr⟩ : ∃ r, r = s.extract (sg s.data.toList) s.size := ⟨_, rfl⟩
  have hrs : r.size ≤ 140737488350000 := by rw [hr]; simp [ByteArray.size_extract]; omega
  have HRL := Lib.hid (show r.data.toList = s.data.toList.drop (sg s.data.toList) by rw [hr, extract_drop])
  have HR := Lib.hid hr
  have hb := fun w => Tryz.strings_HasPrefix s ⟨#[45]⟩ w
  rw [show (⟨#[45]⟩ : ByteArray).data.toList = [45] from rfl, pre_one] at hb
  have HP := Lib.hid hb
  have HZ := Lib.hid (show pwZ s.data.toList = if (s.data.toList.head? == some 45) = true then -((pwN r.data.toList : Nat) : Int) else (pwN r.data.toList : Nat) by
    unfold pwZ; rw [HRL.out]; by_cases h : s.data.toList.head? = some 45 <;> simp [h])
  have hcv := fun (w : World) => (show (convert 9 136 (.string (s.extract (sg s.data.toList) s.size))).run Tryz.prog w = (convert 9 136 (.string r)).run Tryz.prog w by rw [hr]).trans (run_bytes_of_string (P := Tryz.prog) w 9 136 5 r Tryz.underlying9 Tryz.underlying136 Tryz.underlying5)
  clear hr hb
  generalize pwZ s.data.toList = Z at *
  go_enter Tryz.func115, Tryz.ntmps115
  go_wp2_with (go_at_call 81; go_must (refine (HSG.out _).mono ?_; rintro e w' ⟨rfl, rfl⟩))
  clear hcv
  go_loopw [3, 12] (fun pv iv wr => ∃ k : Nat, k ≤ r.size ∧ iv = .int .i64 k ∧ pv = .int .i64 (pwN (r.data.toList.take k) : Nat) ∧ RowB wr w.heap.size 5 r.data.toList ∧ Below w.heap.size w wr) (fun _ iv _ => r.size - (intOf iv).toNat)
  case atStart => exact ⟨0, Nat.zero_le _, rfl, rfl, RowB.made _ _ _ _, (Below.refl _ _).drew.alloc (Nat.le_refl _) _⟩
  case round =>
    obtain ⟨k, hk, rfl, rfl, hrow, hbel⟩ := hrel
    have hsz := hbel.size
    by_cases hlt : k < r.size
    · have hcell := hrow.cell (get_list r k hlt)
      have hb := r[k].toNat_lt
      have HROW := Lib.hid hrow
      have HS := Lib.hid (pw_snoc (r.data.toList.take k) r[k])
      have HT := Lib.hid (take_snoc r k hlt)
      have hle := pw_le (r.data.toList.take k)
      have hsub := sub48 r[k]
      have hsl := (r[k] - 48).toNat_lt
      clear hrow
      generalize hN : pwN (r.data.toList.take k) = N at *
      generalize hD : (r[k] - 48).toNat = D at *
      have HD := Lib.hid hD
      clear hN hD
      by_cases h40 : (N : Int) ≤ 1099511627776
      · go_wp2
        go_roundw
        case rel => exact ⟨k + 1, by omega, by go_num, by rw [HT.out, HS.out]; unfold pwStep; rw [if_pos (by omega), HD.out]; go_num, HROW.out, hbel⟩
        case measure => simp [intOf]; omega
      · go_wp2
        go_roundw
        case rel => exact ⟨k + 1, by omega, by go_num, by rw [HT.out, HS.out]; unfold pwStep; rw [if_neg (by omega)], HROW.out, hbel⟩
        case measure => simp [intOf]; omega
    · obtain rfl : k = r.size := by omega
      have HT := Lib.hid (show r.data.toList.take r.size = r.data.toList from List.take_of_length_le (by simp))
      have hle := pw_le (r.data.toList.take r.size)
      cases hh : (s.data.toList.head? == some 45)
      · have HPF := Lib.hid (fun w => show Calls Tryz.prog 83 #[.string s, .string ⟨#[45]⟩] w fun e w' => e = .returned (.bool false) ∧ w' = w by rw [← hh]; exact HP.out w)
        have HZF := Lib.hid (show Z = (pwN r.data.toList : Nat) by rw [HZ.out, hh]; rfl)
        clear hh
        go_wp2_with (go_at_call 83; go_must (refine (HPF.out _).mono ?_; rintro e w' ⟨rfl, rfl⟩))
        go_ret
        exact ⟨ret_int (by rw [HZF.out, HT.out]), hbel⟩
      · have HPF := Lib.hid (fun w => show Calls Tryz.prog 83 #[.string s, .string ⟨#[45]⟩] w fun e w' => e = .returned (.bool true) ∧ w' = w by rw [← hh]; exact HP.out w)
        have HZF := Lib.hid (show Z = -((pwN r.data.toList : Nat) : Int) by rw [HZ.out, hh]; rfl)
        clear hh
        go_wp2_with (go_at_call 83; go_must (refine (HPF.out _).mono ?_; rintro e w' ⟨rfl, rfl⟩))
        go_ret
        exact ⟨ret_int (by rw [HZF.out, HT.out]), hbel⟩
end Go.Proofs.YtcjeeoadgoghfaaGreatDoor.scan
