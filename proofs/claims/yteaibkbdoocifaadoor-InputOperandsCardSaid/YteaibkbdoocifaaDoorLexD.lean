/- Contracts of lex's gapPartSize, gapSize. -/
import Derived.Test.YteaibkbdoocifaaDoorLexC
import Derived.Shelf.RegionOpen
namespace Go.Proofs.YteaibkbdoocifaaDoor.lexs
set_option linter.unusedVariables false set_option linter.unusedSimpArgs false
open Go.ChangeShapes Go.WideShapes Go.ChangeAt Go.RowKit Go.Proofs.YteaibkbdoocifaaDoor.base

theorem ib_or (l : List UInt8) (c : UInt8) : (Lib.indexByte l c = -1 ∧ l.contains c = false ∧ l.takeWhile (fun x => decide (x ≠ c)) = l) ∨ (Lib.indexByte l c = ((l.takeWhile (fun x => decide (x ≠ c))).length : Int) ∧ l.contains c = true) := by
  induction l with
  | nil => exact Or.inl ⟨rfl, rfl, rfl⟩
  | cons b l ih =>
    unfold Lib.indexByte
    by_cases h : b = c
    · subst h
      right
      simp
    · have h' : (b == c) = false := by simpa using h
      have h'' : (c == b) = false := beq_eq_false_iff_ne.2 (fun e => h e.symm)
      have hd : decide (b ≠ c) = true := decide_eq_true h
      rw [h', List.takeWhile_cons, if_pos hd, List.contains_cons, h'', if_neg (by decide)]
      rcases ih with ⟨h1, h2, h3⟩ | ⟨h1, h2⟩
      · left
        rw [h1, h2, h3]
        exact ⟨rfl, rfl, rfl⟩
      · right
        rw [h1, h2]
        refine ⟨?_, rfl⟩
        rw [if_neg (by simp)]
        first | done | rfl | simp

/-- strings.Cut at a byte 10: what stands ahead of it. -/
def CutPost (s : ByteArray) (w : World) : Ending → World → Prop := fun e w' => (∃ a b, e = .returned (.tuple #[.string (s.extract 0 (s.data.toList.takeWhile nl).length), .string a, .bool b])) ∧ Frm No w w'
theorem cutlite10 (s : ByteArray) (w : World) (hs : s.size ≤ 1000000) : Calls Tryd.prog 26 #[.string s, .string ⟨#[10]⟩] w (CutPost s w) := by
  have HI := Lib.hid (fun w => Tryd.stringslite_Index_one s 10 w)
  have hnl : (fun x : UInt8 => decide (x ≠ 10)) = nl := rfl
  rcases ib_or s.data.toList 10 with ⟨h1, h2, h3⟩ | ⟨h1, h2⟩
  · rw [h1] at HI
    have HE := Lib.hid (show s.extract 0 (s.data.toList.takeWhile nl).length = s by rw [← hnl, h3, len_list, extract_self])
    clear h1 h2 h3 hnl
    go_enter Tryd.func26, Tryd.ntmps26
    go_wp2_with (go_at_call 49; go_must (refine (HI.out _).mono ?_; rintro e w' ⟨rfl, rfl⟩))
    go_ret3
    exact ⟨⟨_, _, by rw [HE.out]; rfl⟩, Frm.refl _ _⟩
  · rw [h1, hnl] at HI
    have hle := tw_len nl s.data.toList
    have hlt : (s.data.toList.takeWhile nl).length < s.size := by
      rcases Nat.lt_or_ge (s.data.toList.takeWhile nl).length s.data.toList.length with h | h
      · rw [← len_list]; exact h
      · exfalso
        have e : s.data.toList.takeWhile nl = s.data.toList := List.IsPrefix.eq_of_length (List.takeWhile_prefix _) (by omega)
        have hm : (10 : UInt8) ∈ s.data.toList.takeWhile nl := by rw [e]; simpa using h2
        have := List.all_eq_true.1 (List.all_takeWhile (p := nl) (l := s.data.toList)) 10 hm
        simp [nl] at this
    obtain ⟨k, hk⟩ : ∃ k, (s.data.toList.takeWhile nl).length = k := ⟨_, rfl⟩
    have HK := Lib.hid hk
    rw [hk] at HI hlt
    have hk0 : (0 : Int) ≤ (k : Int) := by omega
    have hk1 : (k : Int) ≤ (s.size : Int) := by omega
    have hk2 : (0 : Int) ≤ (k : Int) + 1 := by omega
    have hk3 : (k : Int) + 1 ≤ (s.size : Int) := by omega
    have hw1 : IntKind.i64.wrap ((k : Int) + 1) = (k : Int) + 1 := by
      rw [IntKind.wrap_i64]
      have : wrap64 ((k : Int) + 1) = (k : Int) + 1 := IntWalk.wrap64_in _ ⟨by omega, by omega⟩
      unfold wrap64 at this
      exact this
    have mixed : Tryd.prog.follows .mixedOrders = true := by kernel_rfl
    clear h1 h2 hle hnl hk
    go_enter Tryd.func26, Tryd.ntmps26
    go_wp2_with (go_at_call 49; go_must (refine (HI.out _).mono ?_; rintro e w' ⟨rfl, rfl⟩))
    go_region_o
    go_wp2
    go_ret3
    exact ⟨⟨_, _, by rw [HK.out]; rfl⟩, (Frm.refl _ _).drew⟩

theorem cut10 (s : ByteArray) (w : World) (hs : s.size ≤ 1000000) : Calls Tryd.prog 17 #[.string s, .string ⟨#[10]⟩] w (CutPost s w) := by
  have HC := Lib.hid (fun w => cutlite10 s w hs)
  go_enter Tryd.func17, Tryd.ntmps17
  go_wp2_with (go_at_call 26; go_must (refine (HC.out _).mono ?_; rintro e w' ⟨⟨a, b, rfl⟩, hf⟩; have HF := Lib.hid hf; clear hf))
  go_ret3
  exact ⟨⟨_, _, rfl⟩, HF.out⟩

set_option maxHeartbeats 400000 in
theorem gapPartSize_all (s : ByteArray) (w : World) (hs : s.size ≤ 1000000) :
    Calls Tryd.prog 71 #[.string s] w fun e w' => e = .returned (.int .i64 (gp s.data.toList : Nat)) ∧ Frm No w w' := by
  have HA := Lib.hid (fun w => hp1 s 32 w)
  have HB := Lib.hid (fun w => hp1 s 9 w)
  have HC := Lib.hid (fun w => hp2 s 92 10 w)
  have HD := Lib.hid (fun w => hp1 s 35 w)
  have HE := Lib.hid (fun w => cut10 s w hs)
  have hle := tw_len nl s.data.toList
  have HZ := Lib.hid (show min (s.data.toList.takeWhile nl).length s.size = (s.data.toList.takeWhile nl).length by rw [len_list] at hle; omega)
  rw [pre_two] at HC
  clear hle
  obtain ⟨b1, h1⟩ : ∃ b, (s.data.toList.head? == some 32) = b := ⟨_, rfl⟩
  obtain ⟨b2, h2⟩ : ∃ b, (s.data.toList.head? == some 9) = b := ⟨_, rfl⟩
  obtain ⟨b3, h3⟩ : ∃ b, (s.data.toList.head? == some 92 && s.data.toList.tail.head? == some 10) = b := ⟨_, rfl⟩
  obtain ⟨b4, h4⟩ : ∃ b, (s.data.toList.head? == some 35) = b := ⟨_, rfl⟩
  rw [h1] at HA
  rw [h2] at HB
  rw [h3] at HC
  rw [h4] at HD
  have HG := Lib.hid (show gp s.data.toList = if b1 || b2 then 1 else if b3 then 2 else if b4 then (s.data.toList.takeWhile nl).length else 0 by
    rw [← h1, ← h2, ← h3, ← h4]
    cases hl : s.data.toList with
    | nil => rfl
    | cons c t =>
      simp only [gp, List.head?_cons, List.tail_cons]
      by_cases e1 : c = 32
      · subst e1; rfl
      · by_cases e2 : c = 9
        · subst e2; rfl
        · by_cases e3 : c = 92
          · subst e3; by_cases e4 : t.head? = some 10 <;> simp [e4]
          · by_cases e4 : c = 35
            · subst e4; simp
            · simp [e1, e2, e3, e4])
  clear h1 h2 h3 h4
  cases b1 with
  | true =>
    go_enter Tryd.func71, Tryd.ntmps71
    go_wp2_with (go_at_call 82; (with_reducible refine (HA.out _).mono ?_); rintro e w' ⟨rfl, rfl⟩)
    go_ret
    exact ⟨ret_int (by rw [HG.out]; rfl), Frm.refl _ _⟩
  | false =>
    cases b2 with
    | true =>
      go_enter Tryd.func71, Tryd.ntmps71
      go_wp2_with (first | (go_at_call 82; (with_reducible refine (HA.out _).mono ?_); rintro e w' ⟨rfl, rfl⟩) | (go_at_call 82; (with_reducible refine (HB.out _).mono ?_); rintro e w' ⟨rfl, rfl⟩))
      go_ret
      exact ⟨ret_int (by rw [HG.out]; rfl), Frm.refl _ _⟩
    | false =>
      cases b3 with
      | true =>
        go_enter Tryd.func71, Tryd.ntmps71
        go_wp2_with (first | (go_at_call 82; (with_reducible refine (HA.out _).mono ?_); rintro e w' ⟨rfl, rfl⟩) | (go_at_call 82; (with_reducible refine (HB.out _).mono ?_); rintro e w' ⟨rfl, rfl⟩) | (go_at_call 82; (with_reducible refine (HC.out _).mono ?_); rintro e w' ⟨rfl, rfl⟩))
        go_ret
        exact ⟨ret_int (by rw [HG.out]; rfl), Frm.refl _ _⟩
      | false =>
        cases b4 with
        | true =>
          go_enter Tryd.func71, Tryd.ntmps71
          go_wp2_with (first | (go_at_call 82; (with_reducible refine (HA.out _).mono ?_); rintro e w' ⟨rfl, rfl⟩) | (go_at_call 82; (with_reducible refine (HB.out _).mono ?_); rintro e w' ⟨rfl, rfl⟩) | (go_at_call 82; (with_reducible refine (HC.out _).mono ?_); rintro e w' ⟨rfl, rfl⟩) | (go_at_call 82; (with_reducible refine (HD.out _).mono ?_); rintro e w' ⟨rfl, rfl⟩) | (go_at_call 17; go_must (refine (HE.out _).mono ?_; rintro e w' ⟨⟨a, b, rfl⟩, hf⟩; have HF := Lib.hid hf; clear hf)))
          go_ret
          exact ⟨ret_int (by rw [HG.out]; exact congrArg Nat.cast HZ.out), HF.out⟩
        | false =>
          go_enter Tryd.func71, Tryd.ntmps71
          go_wp2_with (first | (go_at_call 82; (with_reducible refine (HA.out _).mono ?_); rintro e w' ⟨rfl, rfl⟩) | (go_at_call 82; (with_reducible refine (HB.out _).mono ?_); rintro e w' ⟨rfl, rfl⟩) | (go_at_call 82; (with_reducible refine (HC.out _).mono ?_); rintro e w' ⟨rfl, rfl⟩) | (go_at_call 82; (with_reducible refine (HD.out _).mono ?_); rintro e w' ⟨rfl, rfl⟩))
          go_ret
          exact ⟨ret_int (by rw [HG.out]; rfl), Frm.refl _ _⟩

theorem gapPart_at (s : ByteArray) (k G : Nat) (w : World) (hs : s.size ≤ 1000000) (hG : gp (s.data.toList.drop k) = G) :
    Calls Tryd.prog 71 #[.string (s.extract k s.size)] w fun e w' => e = .returned (.int .i64 (G : Int)) ∧ Frm No w w' := by
  have := gapPartSize_all (s.extract k s.size) w (by simp [ByteArray.size_extract]; omega)
  rw [extract_drop, hG] at this
  exact this

set_option maxHeartbeats 400000 in
theorem gapSize_all (s : ByteArray) (w : World) (hs : s.size ≤ 1000000) :
    Calls Tryd.prog 64 #[.string s] w fun e w' => e = .returned (.int .i64 (gap s.data.toList : Nat)) ∧ Frm No w w' := by
  go_enter Tryd.func64, Tryd.ntmps64
  go_wp2
  go_loopw [3] (fun iv wr => ∃ k : Nat, k ≤ s.size ∧ iv = .int .i64 k ∧ gap s.data.toList = k + gap (s.data.toList.drop k) ∧ Frm No w wr) (fun iv wr => s.size - (intOf iv).toNat)
  case atStart => exact ⟨0, Nat.zero_le _, rfl, by simp, Frm.refl _ _⟩
  case round =>
    obtain ⟨k, hk, rfl, hg, hf⟩ := hrel
    have HF := Lib.hid hf
    have HG := Lib.hid hg
    obtain ⟨G, hGG⟩ : ∃ G, gp (s.data.toList.drop k) = G := ⟨_, rfl⟩
    have hGl := gp_le (s.data.toList.drop k)
    rw [hGG, List.length_drop, len_list] at hGl
    have HP := Lib.hid (fun w => gapPart_at s k G w hs hGG)
    have HGG := Lib.hid hGG
    clear hf hg hGG
    by_cases h0 : G = 0
    · subst h0
      go_wp2_with (go_at_call 71; go_must (refine (HP.out _).mono ?_; rintro e w' ⟨rfl, hf⟩; have HF2 := Lib.hid hf; clear hf))
      go_ret
      exact ⟨ret_int (by rw [HG.out, gap_eq, if_pos HGG.out]; rfl), HF.out.trans HF2.out⟩
    · have h1 : ((G : Int) == 0) = false := by simpa using h0
      go_wp2_with (go_at_call 71; go_must (refine (HP.out _).mono ?_; rintro e w' ⟨rfl, hf⟩; have HF2 := Lib.hid hf; clear hf))
      go_round
      case rel => exact ⟨k + G, by omega, by go_num, by rw [HG.out, gap_eq (s.data.toList.drop k), if_neg (by rw [HGG.out]; exact h0), HGG.out, List.drop_drop]; omega, HF.out.trans HF2.out⟩
      case measure => simp [intOf]; omega
end Go.Proofs.YteaibkbdoocifaaDoor.lexs
