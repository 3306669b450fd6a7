/- Contracts of lex's smallest calls: isLetter, isDigit, digitsSize, prefixes. Contracts of lex's numSize, powerSize, gapPartSize, gapSize, opSize. Contracts of lex's numSize, gapPartSize, gapSize. Contracts of lex's gapPartSize, gapSize. Contracts of lex's opSize, kindOfName. -/
import Derived.Test.YtgbibfhacjjaeaaGreatShelf
import Derived.Test.YtgbibfhacjjaeaaGreatFrm
import Derived.Test.YtgbibfhacjjaeaaGreatSynSpec
import Derived.Shelf.RegionOpen

namespace Go.Proofs.YtgbibfhacjjaeaaGreat.lexs
set_option linter.unusedVariables false set_option linter.unusedSimpArgs false
open Go.ChangeShapes Go.WideShapes Go.ChangeAt Go.RowKit Go.Proofs.YtgbibfhacjjaeaaGreat.base

theorem isL_int (c : UInt8) : isL c = decide ((97 ≤ (c.toNat : Int) ∧ (c.toNat : Int) ≤ 122) ∨ (65 ≤ (c.toNat : Int) ∧ (c.toNat : Int) ≤ 90) ∨ (c.toNat : Int) = 95) := by
  have h : ∀ n : Fin 256, isL (UInt8.ofNat n.val) = decide ((97 ≤ (n.val : Int) ∧ (n.val : Int) ≤ 122) ∨ (65 ≤ (n.val : Int) ∧ (n.val : Int) ≤ 90) ∨ (n.val : Int) = 95) := by decide +kernel
  have := h ⟨c.toNat, c.toNat_lt⟩
  simpa using this
theorem isD_int (c : UInt8) : isD c = decide (48 ≤ (c.toNat : Int) ∧ (c.toNat : Int) ≤ 57) := by
  have h : ∀ n : Fin 256, isD (UInt8.ofNat n.val) = decide (48 ≤ (n.val : Int) ∧ (n.val : Int) ≤ 57) := by decide +kernel
  have := h ⟨c.toNat, c.toNat_lt⟩
  simpa using this
theorem isO_int (c : UInt8) : isO c = decide (48 ≤ (c.toNat : Int) ∧ (c.toNat : Int) ≤ 55) := by
  have h : ∀ n : Fin 256, isO (UInt8.ofNat n.val) = decide (48 ≤ (n.val : Int) ∧ (n.val : Int) ≤ 55) := by decide +kernel
  have := h ⟨c.toNat, c.toNat_lt⟩
  simpa using this

theorem isDigit_all (c : UInt8) (n : Int) (hn : n = (c.toNat : Int)) (w : World) :
    Calls Tryz.prog 102 #[.int .u8 n] w fun e w' => e = .returned (.bool (isD c)) ∧ w' = w := by
  have HD := Lib.hid (isD_int c)
  rw [← hn] at HD
  clear hn
  go_enter Tryz.func102, Tryz.ntmps102
  go_wp2
  all_goals
    go_ret
    exact ⟨ret_bool (by rw [HD.out]; simp; omega), rfl⟩

theorem isLetter_all (c : UInt8) (n : Int) (hn : n = (c.toNat : Int)) (w : World) :
    Calls Tryz.prog 100 #[.int .u8 n] w fun e w' => e = .returned (.bool (isL c)) ∧ w' = w := by
  have HD := Lib.hid (isL_int c)
  rw [← hn] at HD
  clear hn
  go_enter Tryz.func100, Tryz.ntmps100
  go_wp2
  all_goals
    go_ret
    exact ⟨ret_bool (by rw [HD.out, Bool.eq_iff_iff]; simp; omega), rfl⟩

/-- Where the bytes before place k are such and the one there isn't, the front is of k bytes. -/
theorem tw_at (p : UInt8 → Bool) (l : List UInt8) (k : Nat) (h : ∀ i (hi : i < l.length), i < k → p l[i] = true) (hk : k ≤ l.length) (he : ∀ hi : k < l.length, p l[k] = false) : (l.takeWhile p).length = k := by
  induction l generalizing k with
  | nil => simp at hk; simp [hk]
  | cons c t ih =>
    cases k with
    | zero =>
      have := he (by simp)
      simp at this
      rw [List.takeWhile_cons, if_neg (by simp [this])]; rfl
    | succ k =>
      have h0 := h 0 (by simp) (by omega)
      simp at h0
      rw [List.takeWhile_cons, if_pos h0, List.length_cons, ih k (fun i hi hik => by have := h (i + 1) (by simp; omega) (by omega); simpa using this) (by simp at hk; omega) (fun hi => by have := he (by simp; omega); simpa using this)]

set_option maxHeartbeats 400000 in
theorem digitsSize_all (s : ByteArray) (w : World) (hs : s.size ≤ 1000000) :
    Calls Tryz.prog 140 #[.string s] w fun e w' => e = .returned (.int .i64 (dg s.data.toList : Nat)) ∧ w' = w := by
  go_enter Tryz.func140, Tryz.ntmps140
  go_wp2
  go_loop [3] (fun iv => ∃ k : Nat, k ≤ s.size ∧ iv = .int .i64 k ∧ ∀ i (hi : i < s.size), i < k → isD s[i] = true) (fun iv => s.size - (intOf iv).toNat)
  case atStart => exact ⟨0, Nat.zero_le _, rfl, fun i _ h => by omega⟩
  case round =>
    obtain ⟨k, hk, rfl, hall⟩ := hrel
    have HALL := Lib.hid hall
    clear hall
    by_cases hlt : k < s.size
    · cases hd : isD s[k] with
      | true =>
        have HB := Lib.hid hd
        clear hd
        have HX := Lib.hid (show ∀ i (hi : i < s.size), i < k + 1 → isD s[i] = true by
          intro i hi hik
          by_cases e : i = k
          · subst e; exact HB.out
          · exact HALL.out i hi (by omega))
        go_wp2_with (go_at_call 102; go_must (refine (isDigit_all s[k] _ rfl _).mono ?_; rw [HB.out]; rintro e w' ⟨rfl, rfl⟩))
        go_round
        case rel => exact ⟨k + 1, by omega, by go_num, HX.out⟩
        case measure => simp [intOf]; omega
      | false =>
        have HB := Lib.hid hd
        clear hd
        have HE := Lib.hid (show dg s.data.toList = k from tw_at isD s.data.toList k (fun i hi hik => HALL.out i (by simpa using hi) hik) (by simp; omega) (fun hi => HB.out))
        go_wp2_with (go_at_call 102; go_must (refine (isDigit_all s[k] _ rfl _).mono ?_; rw [HB.out]; rintro e w' ⟨rfl, rfl⟩))
        go_ret
        exact ⟨ret_int (by rw [HE.out]), rfl⟩
    · obtain rfl : k = s.size := by omega
      have HE := Lib.hid (show dg s.data.toList = s.size from tw_at isD s.data.toList s.size (fun i hi hik => HALL.out i (by simpa using hi) hik) (by simp) (fun hi => absurd hi (by simp)))
      go_wp2
      go_ret
      exact ⟨ret_int (by rw [HE.out]), rfl⟩

theorem pre_one (l : List UInt8) (c : UInt8) : Lib.hasPrefix l [c] = (l.head? == some c) := by
  unfold Lib.hasPrefix
  cases l with
  | nil => rfl
  | cons d t => simp [List.isPrefixOf, eq_comm, BEq.comm]
/-- strings.HasPrefix of one byte; of two. -/
theorem hp1 (s : ByteArray) (c : UInt8) (w : World) : Calls Tryz.prog 133 #[.string s, .string ⟨#[c]⟩] w fun e w' => e = .returned (.bool (s.data.toList.head? == some c)) ∧ w' = w := by
  have := Tryz.strings_HasPrefix s ⟨#[c]⟩ w
  rw [show (⟨#[c]⟩ : ByteArray).data.toList = [c] from rfl, pre_one] at this
  exact this
theorem hp2 (s : ByteArray) (c d : UInt8) (w : World) : Calls Tryz.prog 133 #[.string s, .string ⟨#[c, d]⟩] w fun e w' => e = .returned (.bool (Lib.hasPrefix s.data.toList [c, d])) ∧ w' = w := by
  have := Tryz.strings_HasPrefix s ⟨#[c, d]⟩ w
  rw [show (⟨#[c, d]⟩ : ByteArray).data.toList = [c, d] from rfl] at this
  exact this
theorem pre_two (l : List UInt8) (c d : UInt8) : Lib.hasPrefix l [c, d] = (l.head? == some c && l.tail.head? == some d) := by
  unfold Lib.hasPrefix
  cases l with
  | nil => rfl
  | cons x t => cases t with
    | nil => simp [List.isPrefixOf]
    | cons y u => simp [List.isPrefixOf, eq_comm, BEq.comm]
theorem extract_drop (s : ByteArray) (k : Nat) : (s.extract k s.size).data.toList = s.data.toList.drop k := by
  rw [extract_list]
  simp [List.take_of_length_le]
theorem extract_take (s : ByteArray) (k : Nat) : (s.extract 0 k).data.toList = s.data.toList.take k := by
  rw [extract_list]
  simp
theorem list_size (l : List UInt8) : (⟨l.toArray⟩ : ByteArray).size = l.length := by show l.toArray.size = _; simp
end Go.Proofs.YtgbibfhacjjaeaaGreat.lexs

namespace Go.Proofs.YtgbibfhacjjaeaaGreat.lexs
set_option linter.unusedVariables false set_option linter.unusedSimpArgs false
open Go.ChangeShapes Go.WideShapes Go.ChangeAt Go.RowKit Go.Proofs.YtgbibfhacjjaeaaGreat.base

theorem digits_at (s : ByteArray) (k G : Nat) (w : World) (hs : s.size ≤ 1000000) (hG : dg (s.data.toList.drop k) = G) :
    Calls Tryz.prog 140 #[.string (s.extract k s.size)] w fun e w' => e = .returned (.int .i64 (G : Int)) ∧ w' = w := by
  have := digitsSize_all (s.extract k s.size) w (by simp [ByteArray.size_extract]; omega)
  rw [extract_drop, hG] at this
  exact this
theorem hp1_at (s : ByteArray) (k : Nat) (c : UInt8) (w : World) (b : Bool) (hb : ((s.data.toList.drop k).head? == some c) = b) :
    Calls Tryz.prog 133 #[.string (s.extract k s.size), .string ⟨#[c]⟩] w fun e w' => e = .returned (.bool b) ∧ w' = w := by
  have := hp1 (s.extract k s.size) c w
  rw [extract_drop, hb] at this
  exact this

set_option maxHeartbeats 400000 in
theorem powerSize_all (s : ByteArray) (w : World) (hs : s.size ≤ 1000000) :
    Calls Tryz.prog 141 #[.string s] w fun e w' => e = .returned (.int .i64 (pw s.data.toList : Nat)) ∧ w' = w := by
  cases hl : s.data.toList with
  | nil =>
    have HA := Lib.hid (fun w => hp1 s 101 w)
    have HB := Lib.hid (fun w => hp1 s 69 w)
    rw [hl] at HA HB
    clear hl
    go_enter Tryz.func141, Tryz.ntmps141
    go_wp2_with (first | (go_at_call 133; (with_reducible refine (HA.out _).mono ?_); rintro e w' ⟨rfl, rfl⟩) | (go_at_call 133; (with_reducible refine (HB.out _).mono ?_); rintro e w' ⟨rfl, rfl⟩))
    go_ret
    exact ⟨rfl, rfl⟩
  | cons c t =>
    have HA := Lib.hid (fun w => hp1 s 101 w)
    have HB := Lib.hid (fun w => hp1 s 69 w)
    rw [hl] at HA HB
    by_cases hc : c = 101 ∨ c = 69
    · have hsz : s.size = t.length + 1 := by have := congrArg List.length hl; simpa using this
      have h1 : s.data.toList.drop 1 = t := by rw [hl]; rfl
      have HC := Lib.hid (fun w => hp1_at s 1 43 w _ rfl)
      have HD := Lib.hid (fun w => hp1_at s 1 45 w _ rfl)
      rw [h1] at HC HD
      obtain ⟨b1, hb1⟩ : ∃ b, (t.head? == some 43) = b := ⟨_, rfl⟩
      obtain ⟨b2, hb2⟩ : ∃ b, (t.head? == some 45) = b := ⟨_, rfl⟩
      rw [hb1] at HC
      rw [hb2] at HD
      obtain ⟨g, hg⟩ : ∃ g, sg t = g := ⟨_, rfl⟩
      have hsg : g = if b1 || b2 then 1 else 0 := by
        rw [← hg, ← hb1, ← hb2]
        cases t with
        | nil => rfl
        | cons d u => simp [sg]
      obtain ⟨k, hk⟩ : ∃ k, 1 + g = k := ⟨_, rfl⟩
      have hkb : k = if b1 || b2 then 2 else 1 := by
        rw [← hk, hsg]
        cases b1 <;> cases b2 <;> rfl
      obtain ⟨G, hG⟩ : ∃ G, dg (t.drop g) = G := ⟨_, rfl⟩
      have hgl : g ≤ t.length := by have := sg_le t; omega
      have hGl : g + G ≤ t.length := by have := dg_le (t.drop g); rw [List.length_drop] at this; omega
      have HG := Lib.hid (fun w => digits_at s k G w hs (by rw [← hk, ← List.drop_drop, h1, hG]))
      have HP := Lib.hid (show pw (c :: t) = if G = 0 then 0 else k + G by simp only [pw]; rw [if_pos hc, hg, hG, ← hk])
      have hp1 : 1 ≤ s.size := by omega
      have hq : k + G ≤ s.size := by omega
      have HQ : Hid ((c == 101 || c == 69) = true) := Lib.hid (by simpa using hc)
      have he : ∀ x : UInt8, ((c :: t).head? == some x) = (c == x) := fun x => rfl
      rw [he] at HA HB
      clear he hl hc hsz h1 hb1 hb2 hg hG hgl hGl hsg hk
      cases hc1 : (c == 101) with
      | true =>
        rw [hc1] at HA
        clear HB HQ hc1
        by_cases hG0 : G = 0
        · subst hG0
          cases b1 <;> cases b2 <;> first | (obtain rfl : k = 1 := hkb) | (obtain rfl : k = 2 := hkb)
          all_goals (
            go_enter Tryz.func141, Tryz.ntmps141
            go_wp2_with (first | (go_at_call 133; (with_reducible refine (HA.out _).mono ?_); rintro e w' ⟨rfl, rfl⟩) | (go_at_call 133; (with_reducible refine (HC.out _).mono ?_); rintro e w' ⟨rfl, rfl⟩) | (go_at_call 133; (with_reducible refine (HD.out _).mono ?_); rintro e w' ⟨rfl, rfl⟩) | (go_at_call 140; go_must (refine (HG.out _).mono ?_; rintro e w' ⟨rfl, rfl⟩)))
            go_ret
            exact ⟨ret_int (by rw [HP.out]; rfl), rfl⟩)
        · have hg1 : ((G : Int) == 0) = false := by simpa using hG0
          cases b1 <;> cases b2 <;> first | (obtain rfl : k = 1 := hkb) | (obtain rfl : k = 2 := hkb)
          all_goals (
            go_enter Tryz.func141, Tryz.ntmps141
            go_wp2_with (first | (go_at_call 133; (with_reducible refine (HA.out _).mono ?_); rintro e w' ⟨rfl, rfl⟩) | (go_at_call 133; (with_reducible refine (HC.out _).mono ?_); rintro e w' ⟨rfl, rfl⟩) | (go_at_call 133; (with_reducible refine (HD.out _).mono ?_); rintro e w' ⟨rfl, rfl⟩) | (go_at_call 140; go_must (refine (HG.out _).mono ?_; rintro e w' ⟨rfl, rfl⟩)))
            go_ret
            exact ⟨ret_int (by rw [HP.out, if_neg hG0]; simp), rfl⟩)
      | false =>
        have hc2 : (c == 69) = true := by have := HQ.out; rw [hc1] at this; simpa using this
        rw [hc1] at HA
        rw [hc2] at HB
        clear HQ hc1 hc2
        by_cases hG0 : G = 0
        · subst hG0
          cases b1 <;> cases b2 <;> first | (obtain rfl : k = 1 := hkb) | (obtain rfl : k = 2 := hkb)
          all_goals (
            go_enter Tryz.func141, Tryz.ntmps141
            go_wp2_with (first | (go_at_call 133; (with_reducible refine (HA.out _).mono ?_); rintro e w' ⟨rfl, rfl⟩) | (go_at_call 133; (with_reducible refine (HB.out _).mono ?_); rintro e w' ⟨rfl, rfl⟩) | (go_at_call 133; (with_reducible refine (HC.out _).mono ?_); rintro e w' ⟨rfl, rfl⟩) | (go_at_call 133; (with_reducible refine (HD.out _).mono ?_); rintro e w' ⟨rfl, rfl⟩) | (go_at_call 140; go_must (refine (HG.out _).mono ?_; rintro e w' ⟨rfl, rfl⟩)))
            go_ret
            exact ⟨ret_int (by rw [HP.out]; rfl), rfl⟩)
        · have hg1 : ((G : Int) == 0) = false := by simpa using hG0
          cases b1 <;> cases b2 <;> first | (obtain rfl : k = 1 := hkb) | (obtain rfl : k = 2 := hkb)
          all_goals (
            go_enter Tryz.func141, Tryz.ntmps141
            go_wp2_with (first | (go_at_call 133; (with_reducible refine (HA.out _).mono ?_); rintro e w' ⟨rfl, rfl⟩) | (go_at_call 133; (with_reducible refine (HB.out _).mono ?_); rintro e w' ⟨rfl, rfl⟩) | (go_at_call 133; (with_reducible refine (HC.out _).mono ?_); rintro e w' ⟨rfl, rfl⟩) | (go_at_call 133; (with_reducible refine (HD.out _).mono ?_); rintro e w' ⟨rfl, rfl⟩) | (go_at_call 140; go_must (refine (HG.out _).mono ?_; rintro e w' ⟨rfl, rfl⟩)))
            go_ret
            exact ⟨ret_int (by rw [HP.out, if_neg hG0]; simp), rfl⟩)
    · have h1 : (c == 101) = false := by simp at hc ⊢; exact hc.1
      have h2 : (c == 69) = false := by simp at hc ⊢; exact hc.2
      have he : ∀ x : UInt8, ((c :: t).head? == some x) = (c == x) := fun x => rfl
      rw [he, h1] at HA
      rw [he, h2] at HB
      have HP := Lib.hid (show pw (c :: t) = 0 by simp only [pw]; rw [if_neg hc])
      clear hl he hc h1 h2
      go_enter Tryz.func141, Tryz.ntmps141
      go_wp2_with (first | (go_at_call 133; (with_reducible refine (HA.out _).mono ?_); rintro e w' ⟨rfl, rfl⟩) | (go_at_call 133; (with_reducible refine (HB.out _).mono ?_); rintro e w' ⟨rfl, rfl⟩))
      go_ret
      exact ⟨ret_int (by rw [HP.out]; rfl), rfl⟩
end Go.Proofs.YtgbibfhacjjaeaaGreat.lexs

namespace Go.Proofs.YtgbibfhacjjaeaaGreat.lexs
set_option linter.unusedVariables false set_option linter.unusedSimpArgs false
open Go.ChangeShapes Go.WideShapes Go.ChangeAt Go.RowKit Go.Proofs.YtgbibfhacjjaeaaGreat.base

theorem power_at (s : ByteArray) (k G : Nat) (w : World) (hs : s.size ≤ 1000000) (hG : pw (s.data.toList.drop k) = G) :
    Calls Tryz.prog 141 #[.string (s.extract k s.size)] w fun e w' => e = .returned (.int .i64 (G : Int)) ∧ w' = w := by
  have := powerSize_all (s.extract k s.size) w (by simp [ByteArray.size_extract]; omega)
  rw [extract_drop, hG] at this
  exact this

theorem extract_self (s : ByteArray) : s.extract 0 s.size = s := by
  apply ByteArray.ext
  apply Array.toList_inj.1
  rw [extract_drop]
  rfl
theorem nm_pt {l : List UInt8} {a b G : Nat} (ha : dg l = a) (h : (l.drop a).head? = some 46) (hb : dg (l.drop (a + 1)) = b) (hG : pw (l.drop (a + 1 + b)) = G) : nm l = if a + b = 0 then 0 else a + 1 + b + G := by
  unfold nm
  simp only [ha]
  rw [if_pos h, List.tail_drop, hb, hG]
theorem nm_no {l : List UInt8} {a G : Nat} (ha : dg l = a) (h : ¬ (l.drop a).head? = some 46) (hG : pw (l.drop a) = G) : nm l = if a = 0 then 0 else a + G := by
  unfold nm
  simp only [ha]
  rw [if_neg h, hG]

set_option maxHeartbeats 400000 in
theorem numSize_all (s : ByteArray) (w : World) (hs : s.size ≤ 1000000) :
    Calls Tryz.prog 104 #[.string s] w fun e w' => e = .returned (.int .i64 (nm s.data.toList : Nat)) ∧ w' = w := by
  have hle := dg_le s.data.toList
  have HD := Lib.hid (fun w => digitsSize_all s w hs)
  obtain ⟨a, ha⟩ : ∃ a, dg s.data.toList = a := ⟨_, rfl⟩
  rw [ha] at HD hle
  rw [len_list] at hle
  have HP := Lib.hid (fun w => hp1_at s a 46 w _ rfl)
  cases hb : ((s.data.toList.drop a).head? == some 46) with
  | true =>
    have hb' : (s.data.toList.drop a).head? = some 46 := by simpa using hb
    have hlt : a < s.size := by
      have : 0 < (s.data.toList.drop a).length := by
        cases hh : s.data.toList.drop a with
        | nil => rw [hh] at hb'; cases hb'
        | cons x y => simp
      rw [List.length_drop, len_list] at this
      omega
    rw [hb] at HP
    obtain ⟨b, hbb⟩ : ∃ b, dg (s.data.toList.drop (a + 1)) = b := ⟨_, rfl⟩
    have hb2 := dg_le (s.data.toList.drop (a + 1))
    rw [hbb, List.length_drop, len_list] at hb2
    have HB := Lib.hid (fun w => digits_at s (a + 1) b w hs hbb)
    obtain ⟨G, hG⟩ : ∃ G, pw (s.data.toList.drop (a + 1 + b)) = G := ⟨_, rfl⟩
    have hG2 := pw_le (s.data.toList.drop (a + 1 + b))
    rw [hG, List.length_drop, len_list] at hG2
    have HN := Lib.hid (nm_pt ha hb' hbb hG)
    have HG := Lib.hid (fun w => power_at s (a + (1 + b)) G w hs (by rw [← hG, Nat.add_assoc]))
    clear hb hb' hbb hG ha
    by_cases h0 : a + b = 0
    · obtain rfl : a = 0 := by omega
      obtain rfl : b = 0 := by omega
      clear h0
      rw [extract_self] at HP
      go_enter Tryz.func104, Tryz.ntmps104
      go_wp2_with (first | (go_at_call 133; go_must (refine (HP.out _).mono ?_; rintro e w' ⟨rfl, rfl⟩)) | (go_at_call 140; (with_reducible refine (HD.out _).mono ?_); rintro e w' ⟨rfl, rfl⟩) | (go_at_call 140; go_must (refine (HB.out _).mono ?_; rintro e w' ⟨rfl, rfl⟩)))
      go_ret
      exact ⟨ret_int (by rw [HN.out]; rfl), rfl⟩
    · have h1 : ((a : Int) + (b : Int) == 0) = false := by simp; omega
      go_enter Tryz.func104, Tryz.ntmps104
      go_wp2_with (first | (go_at_call 133; go_must (refine (HP.out _).mono ?_; rintro e w' ⟨rfl, rfl⟩)) | (go_at_call 140; (with_reducible refine (HD.out _).mono ?_); rintro e w' ⟨rfl, rfl⟩) | (go_at_call 140; go_must (refine (HB.out _).mono ?_; rintro e w' ⟨rfl, rfl⟩)) | (go_at_call 141; go_must (refine (HG.out _).mono ?_; rintro e w' ⟨rfl, rfl⟩)))
      go_ret
      exact ⟨ret_int (by rw [HN.out, if_neg h0]; omega), rfl⟩
  | false =>
    have hb' : ¬ (s.data.toList.drop a).head? = some 46 := by simpa using hb
    rw [hb] at HP
    obtain ⟨G, hG⟩ : ∃ G, pw (s.data.toList.drop a) = G := ⟨_, rfl⟩
    have hG2 := pw_le (s.data.toList.drop a)
    rw [hG, List.length_drop, len_list] at hG2
    have HN := Lib.hid (nm_no ha hb' hG)
    have HG := Lib.hid (fun w => power_at s a G w hs hG)
    clear hb hb' hG ha
    by_cases h0 : a = 0
    · subst h0
      rw [extract_self] at HP
      go_enter Tryz.func104, Tryz.ntmps104
      go_wp2_with (first | (go_at_call 133; go_must (refine (HP.out _).mono ?_; rintro e w' ⟨rfl, rfl⟩)) | (go_at_call 140; (with_reducible refine (HD.out _).mono ?_); rintro e w' ⟨rfl, rfl⟩))
      go_ret
      exact ⟨ret_int (by rw [HN.out]; rfl), rfl⟩
    · have h1 : ((a : Int) == 0) = false := by simp; omega
      go_enter Tryz.func104, Tryz.ntmps104
      go_wp2_with (first | (go_at_call 133; go_must (refine (HP.out _).mono ?_; rintro e w' ⟨rfl, rfl⟩)) | (go_at_call 140; (with_reducible refine (HD.out _).mono ?_); rintro e w' ⟨rfl, rfl⟩) | (go_at_call 141; go_must (refine (HG.out _).mono ?_; rintro e w' ⟨rfl, rfl⟩)))
      go_ret
      exact ⟨ret_int (by rw [HN.out, if_neg h0]; omega), rfl⟩

end Go.Proofs.YtgbibfhacjjaeaaGreat.lexs

namespace Go.Proofs.YtgbibfhacjjaeaaGreat.lexs
set_option linter.unusedVariables false set_option linter.unusedSimpArgs false
open Go.ChangeShapes Go.WideShapes Go.ChangeAt Go.RowKit Go.Proofs.YtgbibfhacjjaeaaGreat.base

theorem ib_or (l : List UInt8) (c : UInt8) : (Lib.indexByte l c = -1 ∧ l.contains c = false ∧ l.takeWhile (fun x => decide (x ≠ c)) = l) ∨ (Lib.indexByte l c = ((l.takeWhile (fun x => decide (x ≠ c))).length : Int) ∧ l.contains c = true) := by
  induction l with
  | nil => exact Or.inl ⟨rfl, rfl, rfl⟩
  | cons b l ih =>
    unfold Lib.indexByte
    by_cases h : b = c
    · subst h
      right
      simp
    · have h' : (b == c) = false := by simpa using h
      have h'' : (c == b) = false := beq_eq_false_iff_ne.2 (fun e => h e.symm)
      have hd : decide (b ≠ c) = true := decide_eq_true h
      rw [h', List.takeWhile_cons, if_pos hd, List.contains_cons, h'', if_neg (by decide)]
      rcases ih with ⟨h1, h2, h3⟩ | ⟨h1, h2⟩
      · left
        rw [h1, h2, h3]
        exact ⟨rfl, rfl, rfl⟩
      · right
        rw [h1, h2]
        refine ⟨?_, rfl⟩
        rw [if_neg (by simp)]
        first | done | rfl | simp

/-- strings.Cut at a byte 10: what stands ahead of it. -/
def CutPost (s : ByteArray) (w : World) : Ending → World → Prop := fun e w' => (∃ a b, e = .returned (.tuple #[.string (s.extract 0 (s.data.toList.takeWhile nl).length), .string a, .bool b])) ∧ Frm No w w'
theorem cutlite10 (s : ByteArray) (w : World) (hs : s.size ≤ 1000000) : Calls Tryz.prog 189 #[.string s, .string ⟨#[10]⟩] w (CutPost s w) := by
  have HI := Lib.hid (fun w => Tryz.stringslite_Index_one s 10 w)
  have hnl : (fun x : UInt8 => decide (x ≠ 10)) = nl := rfl
  rcases ib_or s.data.toList 10 with ⟨h1, h2, h3⟩ | ⟨h1, h2⟩
  · rw [h1] at HI
    have HE := Lib.hid (show s.extract 0 (s.data.toList.takeWhile nl).length = s by rw [← hnl, h3, len_list, extract_self])
    clear h1 h2 h3 hnl
    go_enter Tryz.func189, Tryz.ntmps189
    go_wp2_with (go_at_call 229; go_must (refine (HI.out _).mono ?_; rintro e w' ⟨rfl, rfl⟩))
    go_ret3
    exact ⟨⟨_, _, by rw [HE.out]; rfl⟩, Frm.refl _ _⟩
  · rw [h1, hnl] at HI
    have hle := tw_len nl s.data.toList
    have hlt : (s.data.toList.takeWhile nl).length < s.size := by
      rcases Nat.lt_or_ge (s.data.toList.takeWhile nl).length s.data.toList.length with h | h
      · rw [← len_list]; exact h
      · exfalso
        have e : s.data.toList.takeWhile nl = s.data.toList := List.IsPrefix.eq_of_length (List.takeWhile_prefix _) (by omega)
        have hm : (10 : UInt8) ∈ s.data.toList.takeWhile nl := by rw [e]; simpa using h2
        have := List.all_eq_true.1 (List.all_takeWhile (p := nl) (l := s.data.toList)) 10 hm
        simp [nl] at this
    obtain ⟨k, hk⟩ : ∃ k, (s.data.toList.takeWhile nl).length = k := ⟨_, rfl⟩
    have HK := Lib.hid hk
    rw [hk] at HI hlt
    have hk0 : (0 : Int) ≤ (k : Int) := by omega
    have hk1 : (k : Int) ≤ (s.size : Int) := by omega
    have hk2 : (0 : Int) ≤ (k : Int) + 1 := by omega
    have hk3 : (k : Int) + 1 ≤ (s.size : Int) := by omega
    have hw1 : IntKind.i64.wrap ((k : Int) + 1) = (k : Int) + 1 := by
      rw [IntKind.wrap_i64]
      have : wrap64 ((k : Int) + 1) = (k : Int) + 1 := IntWalk.wrap64_in _ ⟨by omega, by omega⟩
      unfold wrap64 at this
      exact this
    have mixed : Tryz.prog.follows .mixedOrders = true := by kernel_rfl
    clear h1 h2 hle hnl hk
    go_enter Tryz.func189, Tryz.ntmps189
    go_wp2_with (go_at_call 229; go_must (refine (HI.out _).mono ?_; rintro e w' ⟨rfl, rfl⟩))
    go_region_o
    go_wp2
    go_ret3
    exact ⟨⟨_, _, by rw [HK.out]; rfl⟩, (Frm.refl _ _).drew⟩

theorem cut10 (s : ByteArray) (w : World) (hs : s.size ≤ 1000000) : Calls Tryz.prog 134 #[.string s, .string ⟨#[10]⟩] w (CutPost s w) := by
  have HC := Lib.hid (fun w => cutlite10 s w hs)
  go_enter Tryz.func134, Tryz.ntmps134
  go_wp2_with (go_at_call 189; go_must (refine (HC.out _).mono ?_; rintro e w' ⟨⟨a, b, rfl⟩, hf⟩; have HF := Lib.hid hf; clear hf))
  go_ret3
  exact ⟨⟨_, _, rfl⟩, HF.out⟩

set_option maxHeartbeats 400000 in
theorem gapPartSize_all (s : ByteArray) (w : World) (hs : s.size ≤ 1000000) :
    Calls Tryz.prog 97 #[.string s] w fun e w' => e = .returned (.int .i64 (gp s.data.toList : Nat)) ∧ Frm No w w' := by
  have HA := Lib.hid (fun w => hp1 s 32 w)
  have HB := Lib.hid (fun w => hp1 s 9 w)
  have HC := Lib.hid (fun w => hp2 s 92 10 w)
  have HD := Lib.hid (fun w => hp1 s 35 w)
  have HE := Lib.hid (fun w => cut10 s w hs)
  have hle := tw_len nl s.data.toList
  have HZ := Lib.hid (show min (s.data.toList.takeWhile nl).length s.size = (s.data.toList.takeWhile nl).length by rw [len_list] at hle; omega)
  rw [pre_two] at HC
  clear hle
  obtain ⟨b1, h1⟩ : ∃ b, (s.data.toList.head? == some 32) = b := ⟨_, rfl⟩
  obtain ⟨b2, h2⟩ : ∃ b, (s.data.toList.head? == some 9) = b := ⟨_, rfl⟩
  obtain ⟨b3, h3⟩ : ∃ b, (s.data.toList.head? == some 92 && s.data.toList.tail.head? == some 10) = b := ⟨_, rfl⟩
  obtain ⟨b4, h4⟩ : ∃ b, (s.data.toList.head? == some 35) = b := ⟨_, rfl⟩
  rw [h1] at HA
  rw [h2] at HB
  rw [h3] at HC
  rw [h4] at HD
  have HG := Lib.hid (show gp s.data.toList = if b1 || b2 then 1 else if b3 then 2 else if b4 then (s.data.toList.takeWhile nl).length else 0 by
    rw [← h1, ← h2, ← h3, ← h4]
    cases hl : s.data.toList with
    | nil => rfl
    | cons c t =>
      simp only [gp, List.head?_cons, List.tail_cons]
      by_cases e1 : c = 32
      · subst e1; rfl
      · by_cases e2 : c = 9
        · subst e2; rfl
        · by_cases e3 : c = 92
          · subst e3; by_cases e4 : t.head? = some 10 <;> simp [e4]
          · by_cases e4 : c = 35
            · subst e4; simp
            · simp [e1, e2, e3, e4])
  clear h1 h2 h3 h4
  cases b1 with
  | true =>
    go_enter Tryz.func97, Tryz.ntmps97
    go_wp2_with (go_at_call 133; (with_reducible refine (HA.out _).mono ?_); rintro e w' ⟨rfl, rfl⟩)
    go_ret
    exact ⟨ret_int (by rw [HG.out]; rfl), Frm.refl _ _⟩
  | false =>
    cases b2 with
    | true =>
      go_enter Tryz.func97, Tryz.ntmps97
      go_wp2_with (first | (go_at_call 133; (with_reducible refine (HA.out _).mono ?_); rintro e w' ⟨rfl, rfl⟩) | (go_at_call 133; (with_reducible refine (HB.out _).mono ?_); rintro e w' ⟨rfl, rfl⟩))
      go_ret
      exact ⟨ret_int (by rw [HG.out]; rfl), Frm.refl _ _⟩
    | false =>
      cases b3 with
      | true =>
        go_enter Tryz.func97, Tryz.ntmps97
        go_wp2_with (first | (go_at_call 133; (with_reducible refine (HA.out _).mono ?_); rintro e w' ⟨rfl, rfl⟩) | (go_at_call 133; (with_reducible refine (HB.out _).mono ?_); rintro e w' ⟨rfl, rfl⟩) | (go_at_call 133; (with_reducible refine (HC.out _).mono ?_); rintro e w' ⟨rfl, rfl⟩))
        go_ret
        exact ⟨ret_int (by rw [HG.out]; rfl), Frm.refl _ _⟩
      | false =>
        cases b4 with
        | true =>
          go_enter Tryz.func97, Tryz.ntmps97
          go_wp2_with (first | (go_at_call 133; (with_reducible refine (HA.out _).mono ?_); rintro e w' ⟨rfl, rfl⟩) | (go_at_call 133; (with_reducible refine (HB.out _).mono ?_); rintro e w' ⟨rfl, rfl⟩) | (go_at_call 133; (with_reducible refine (HC.out _).mono ?_); rintro e w' ⟨rfl, rfl⟩) | (go_at_call 133; (with_reducible refine (HD.out _).mono ?_); rintro e w' ⟨rfl, rfl⟩) | (go_at_call 134; go_must (refine (HE.out _).mono ?_; rintro e w' ⟨⟨a, b, rfl⟩, hf⟩; have HF := Lib.hid hf; clear hf)))
          go_ret
          exact ⟨ret_int (by rw [HG.out]; exact congrArg Nat.cast HZ.out), HF.out⟩
        | false =>
          go_enter Tryz.func97, Tryz.ntmps97
          go_wp2_with (first | (go_at_call 133; (with_reducible refine (HA.out _).mono ?_); rintro e w' ⟨rfl, rfl⟩) | (go_at_call 133; (with_reducible refine (HB.out _).mono ?_); rintro e w' ⟨rfl, rfl⟩) | (go_at_call 133; (with_reducible refine (HC.out _).mono ?_); rintro e w' ⟨rfl, rfl⟩) | (go_at_call 133; (with_reducible refine (HD.out _).mono ?_); rintro e w' ⟨rfl, rfl⟩))
          go_ret
          exact ⟨ret_int (by rw [HG.out]; rfl), Frm.refl _ _⟩

theorem gapPart_at (s : ByteArray) (k G : Nat) (w : World) (hs : s.size ≤ 1000000) (hG : gp (s.data.toList.drop k) = G) :
    Calls Tryz.prog 97 #[.string (s.extract k s.size)] w fun e w' => e = .returned (.int .i64 (G : Int)) ∧ Frm No w w' := by
  have := gapPartSize_all (s.extract k s.size) w (by simp [ByteArray.size_extract]; omega)
  rw [extract_drop, hG] at this
  exact this

set_option maxHeartbeats 400000 in
theorem gapSize_all (s : ByteArray) (w : World) (hs : s.size ≤ 1000000) :
    Calls Tryz.prog 56 #[.string s] w fun e w' => e = .returned (.int .i64 (gap s.data.toList : Nat)) ∧ Frm No w w' := by
  go_enter Tryz.func56, Tryz.ntmps56
  go_wp2
  go_loopw [3] (fun iv wr => ∃ k : Nat, k ≤ s.size ∧ iv = .int .i64 k ∧ gap s.data.toList = k + gap (s.data.toList.drop k) ∧ Frm No w wr) (fun iv wr => s.size - (intOf iv).toNat)
  case atStart => exact ⟨0, Nat.zero_le _, rfl, by simp, Frm.refl _ _⟩
  case round =>
    obtain ⟨k, hk, rfl, hg, hf⟩ := hrel
    have HF := Lib.hid hf
    have HG := Lib.hid hg
    obtain ⟨G, hGG⟩ : ∃ G, gp (s.data.toList.drop k) = G := ⟨_, rfl⟩
    have hGl := gp_le (s.data.toList.drop k)
    rw [hGG, List.length_drop, len_list] at hGl
    have HP := Lib.hid (fun w => gapPart_at s k G w hs hGG)
    have HGG := Lib.hid hGG
    clear hf hg hGG
    by_cases h0 : G = 0
    · subst h0
      go_wp2_with (go_at_call 97; go_must (refine (HP.out _).mono ?_; rintro e w' ⟨rfl, hf⟩; have HF2 := Lib.hid hf; clear hf))
      go_ret
      exact ⟨ret_int (by rw [HG.out, gap_eq, if_pos HGG.out]; rfl), HF.out.trans HF2.out⟩
    · have h1 : ((G : Int) == 0) = false := by simpa using h0
      go_wp2_with (go_at_call 97; go_must (refine (HP.out _).mono ?_; rintro e w' ⟨rfl, hf⟩; have HF2 := Lib.hid hf; clear hf))
      go_round
      case rel => exact ⟨k + G, by omega, by go_num, by rw [HG.out, gap_eq (s.data.toList.drop k), if_neg (by rw [HGG.out]; exact h0), HGG.out, List.drop_drop]; omega, HF.out.trans HF2.out⟩
      case measure => simp [intOf]; omega
end Go.Proofs.YtgbibfhacjjaeaaGreat.lexs

namespace Go.Proofs.YtgbibfhacjjaeaaGreat.lexs
set_option linter.unusedVariables false set_option linter.unusedSimpArgs false
open Go.ChangeShapes Go.WideShapes Go.ChangeAt Go.RowKit Go.Proofs.YtgbibfhacjjaeaaGreat.base

theorem ops1_all (c : UInt8) : decide (0 ≤ Lib.indexByte ops1 c) = ops1.contains c := by
  rcases ib_or ops1 c with ⟨h1, h2, _⟩ | ⟨h1, h2⟩
  · rw [h1, h2]; rfl
  · rw [h1, h2]; simp
theorem bool_or (b : Bool) : b = true ∨ b = false := by cases b <;> simp
theorem to_eq {x : ByteArray} {l : List UInt8} (h : (x.toList == l) = true) : x.data.toList = l := by
  rw [← Lib.toList_data]; simpa using h
theorem to_ne {x : ByteArray} {l : List UInt8} (h : (x.toList == l) = false) : x.data.toList ≠ l := by
  rw [← Lib.toList_data]; simpa using h

theorem opS_two {l : List UInt8} (h1 : 1 < l.length) (h : ops2.contains (l.take 2) = true) : opS l = 2 := by
  cases l with
  | nil => simp at h1
  | cons c t => simp only [opS]; rw [if_pos ⟨h1, h⟩]
theorem opS_one {c : UInt8} {t : List UInt8} (h : ¬ (1 < (c :: t).length ∧ ops2.contains ((c :: t).take 2) = true)) : opS (c :: t) = if ops1.contains c then 1 else 0 := by
  simp only [opS]; rw [if_neg h]

theorem opSize_end (s : ByteArray) (w : World) (h0 : 0 < s.size) (h : ¬ (1 < s.data.toList.length ∧ ops2.contains (s.data.toList.take 2) = true)) :
    (opS s.data.toList = 1 ∧ 0 ≤ Lib.indexByte ops1 s[0]) ∨ (opS s.data.toList = 0 ∧ Lib.indexByte ops1 s[0] < 0) := by
  have hc := sx_cons s 0 h0
  have e : s.data.toList = s[0] :: sx s (0 + 1) := by rw [← hc]; rfl
  rw [e] at h ⊢
  rw [opS_one h, ← ops1_all]
  by_cases hi : (0 : Int) ≤ Lib.indexByte ops1 s[0]
  · left; simp [hi]
  · right; simp [hi]; omega

set_option maxHeartbeats 4000000 in
theorem opSize_all (s : ByteArray) (w : World) (hs : s.size ≤ 1000000) (h0 : 0 < s.size) :
    Calls Tryz.prog 105 #[.string s] w fun e w' => e = .returned (.int .i64 (opS s.data.toList : Nat)) ∧ w' = w := by
  have HI := Lib.hid (fun w => Tryz.strings_IndexByte ⟨ops1.toArray⟩ (s[0].toNat : Int) w)
  have e8 : ((s[0].toNat : Int)).toNat.toUInt8 = s[0] := by simp
  rw [e8] at HI
  clear e8
  by_cases h1 : 1 < s.size
  · have hq : (2 : Int) ≤ s.size := by omega
    have HT := Lib.hid (fun (h : ops2.contains (s.extract 0 2).data.toList = true) => opS_two (l := s.data.toList) (by simpa using h1) (by rw [← extract_take]; exact h))
    rcases bool_or ((s.extract 0 2).toList == [62, 62]) with h | q0
    · have HO := Lib.hid (HT.out (by rw [to_eq h]; decide))
      go_enter Tryz.func105, Tryz.ntmps105
      go_wp2
      go_ret
      exact ⟨ret_int (by rw [HO.out]; rfl), rfl⟩
    rcases bool_or ((s.extract 0 2).toList == [33, 126]) with h | q1
    · have HO := Lib.hid (HT.out (by rw [to_eq h]; decide))
      go_enter Tryz.func105, Tryz.ntmps105
      go_wp2
      go_ret
      exact ⟨ret_int (by rw [HO.out]; rfl), rfl⟩
    rcases bool_or ((s.extract 0 2).toList == [43, 61]) with h | q2
    · have HO := Lib.hid (HT.out (by rw [to_eq h]; decide))
      go_enter Tryz.func105, Tryz.ntmps105
      go_wp2
      go_ret
      exact ⟨ret_int (by rw [HO.out]; rfl), rfl⟩
    rcases bool_or ((s.extract 0 2).toList == [45, 61]) with h | q3
    · have HO := Lib.hid (HT.out (by rw [to_eq h]; decide))
      go_enter Tryz.func105, Tryz.ntmps105
      go_wp2
      go_ret
      exact ⟨ret_int (by rw [HO.out]; rfl), rfl⟩
    rcases bool_or ((s.extract 0 2).toList == [42, 61]) with h | q4
    · have HO := Lib.hid (HT.out (by rw [to_eq h]; decide))
      go_enter Tryz.func105, Tryz.ntmps105
      go_wp2
      go_ret
      exact ⟨ret_int (by rw [HO.out]; rfl), rfl⟩
    rcases bool_or ((s.extract 0 2).toList == [47, 61]) with h | q5
    · have HO := Lib.hid (HT.out (by rw [to_eq h]; decide))
      go_enter Tryz.func105, Tryz.ntmps105
      go_wp2
      go_ret
      exact ⟨ret_int (by rw [HO.out]; rfl), rfl⟩
    rcases bool_or ((s.extract 0 2).toList == [37, 61]) with h | q6
    · have HO := Lib.hid (HT.out (by rw [to_eq h]; decide))
      go_enter Tryz.func105, Tryz.ntmps105
      go_wp2
      go_ret
      exact ⟨ret_int (by rw [HO.out]; rfl), rfl⟩
    rcases bool_or ((s.extract 0 2).toList == [94, 61]) with h | q7
    · have HO := Lib.hid (HT.out (by rw [to_eq h]; decide))
      go_enter Tryz.func105, Tryz.ntmps105
      go_wp2
      go_ret
      exact ⟨ret_int (by rw [HO.out]; rfl), rfl⟩
    rcases bool_or ((s.extract 0 2).toList == [61, 61]) with h | q8
    · have HO := Lib.hid (HT.out (by rw [to_eq h]; decide))
      go_enter Tryz.func105, Tryz.ntmps105
      go_wp2
      go_ret
      exact ⟨ret_int (by rw [HO.out]; rfl), rfl⟩
    rcases bool_or ((s.extract 0 2).toList == [60, 61]) with h | q9
    · have HO := Lib.hid (HT.out (by rw [to_eq h]; decide))
      go_enter Tryz.func105, Tryz.ntmps105
      go_wp2
      go_ret
      exact ⟨ret_int (by rw [HO.out]; rfl), rfl⟩
    rcases bool_or ((s.extract 0 2).toList == [62, 61]) with h | q10
    · have HO := Lib.hid (HT.out (by rw [to_eq h]; decide))
      go_enter Tryz.func105, Tryz.ntmps105
      go_wp2
      go_ret
      exact ⟨ret_int (by rw [HO.out]; rfl), rfl⟩
    rcases bool_or ((s.extract 0 2).toList == [33, 61]) with h | q11
    · have HO := Lib.hid (HT.out (by rw [to_eq h]; decide))
      go_enter Tryz.func105, Tryz.ntmps105
      go_wp2
      go_ret
      exact ⟨ret_int (by rw [HO.out]; rfl), rfl⟩
    rcases bool_or ((s.extract 0 2).toList == [43, 43]) with h | q12
    · have HO := Lib.hid (HT.out (by rw [to_eq h]; decide))
      go_enter Tryz.func105, Tryz.ntmps105
      go_wp2
      go_ret
      exact ⟨ret_int (by rw [HO.out]; rfl), rfl⟩
    rcases bool_or ((s.extract 0 2).toList == [45, 45]) with h | q13
    · have HO := Lib.hid (HT.out (by rw [to_eq h]; decide))
      go_enter Tryz.func105, Tryz.ntmps105
      go_wp2
      go_ret
      exact ⟨ret_int (by rw [HO.out]; rfl), rfl⟩
    rcases bool_or ((s.extract 0 2).toList == [38, 38]) with h | q14
    · have HO := Lib.hid (HT.out (by rw [to_eq h]; decide))
      go_enter Tryz.func105, Tryz.ntmps105
      go_wp2
      go_ret
      exact ⟨ret_int (by rw [HO.out]; rfl), rfl⟩
    rcases bool_or ((s.extract 0 2).toList == [124, 124]) with h | q15
    · have HO := Lib.hid (HT.out (by rw [to_eq h]; decide))
      go_enter Tryz.func105, Tryz.ntmps105
      go_wp2
      go_ret
      exact ⟨ret_int (by rw [HO.out]; rfl), rfl⟩
    have HE := Lib.hid (opSize_end s w h0 (by
      rintro ⟨_, h⟩
      rw [← extract_take] at h
      have := List.mem_of_elem_eq_true h
      simp only [ops2, List.mem_cons, List.not_mem_nil, or_false] at this
      rcases this with h | h | h | h | h | h | h | h | h | h | h | h | h | h | h | h
      · exact to_ne q0 h
      · exact to_ne q1 h
      · exact to_ne q2 h
      · exact to_ne q3 h
      · exact to_ne q4 h
      · exact to_ne q5 h
      · exact to_ne q6 h
      · exact to_ne q7 h
      · exact to_ne q8 h
      · exact to_ne q9 h
      · exact to_ne q10 h
      · exact to_ne q11 h
      · exact to_ne q12 h
      · exact to_ne q13 h
      · exact to_ne q14 h
      · exact to_ne q15 h))
    clear HT
    rcases HE.out with ⟨h2, h3⟩ | ⟨h2, h3⟩
    · have H2 := Lib.hid h2
      clear h2 HE
      go_enter Tryz.func105, Tryz.ntmps105
      go_wp2_with (go_at_call 142; go_must (refine (HI.out _).mono ?_; rintro e w' ⟨rfl, rfl⟩))
      go_ret
      exact ⟨ret_int (by rw [H2.out]; rfl), rfl⟩
    · have H2 := Lib.hid h2
      clear h2 HE
      go_enter Tryz.func105, Tryz.ntmps105
      go_wp2_with (go_at_call 142; go_must (refine (HI.out _).mono ?_; rintro e w' ⟨rfl, rfl⟩))
      go_ret
      exact ⟨ret_int (by rw [H2.out]; rfl), rfl⟩
  · have HE := Lib.hid (opSize_end s w h0 (by rintro ⟨h, _⟩; rw [len_list] at h; omega))
    rcases HE.out with ⟨h2, h3⟩ | ⟨h2, h3⟩
    · have H2 := Lib.hid h2
      clear h2 HE
      go_enter Tryz.func105, Tryz.ntmps105
      go_wp2_with (go_at_call 142; go_must (refine (HI.out _).mono ?_; rintro e w' ⟨rfl, rfl⟩))
      go_ret
      exact ⟨ret_int (by rw [H2.out]; rfl), rfl⟩
    · have H2 := Lib.hid h2
      clear h2 HE
      go_enter Tryz.func105, Tryz.ntmps105
      go_wp2_with (go_at_call 142; go_must (refine (HI.out _).mono ?_; rintro e w' ⟨rfl, rfl⟩))
      go_ret
      exact ⟨ret_int (by rw [H2.out]; rfl), rfl⟩
end Go.Proofs.YtgbibfhacjjaeaaGreat.lexs
