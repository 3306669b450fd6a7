/- The law LexBlanks. -/
import Derived.Test.YtfgdhafpiikpjabLexY
namespace Go.Proofs.Ytfgdhafpiikpjab.lexs
set_option linter.unusedVariables false set_option linter.unusedSimpArgs false
open Go.ChangeShapes Go.WideShapes Go.ChangeAt Go.RowKit Go.Proofs.Ytfgdhafpiikpjab.base

theorem lexL_len {l : List UInt8} {ts : List Tok} (h : lexL l = some ts) : ts.length ≤ 20000 := by
  unfold lexL at h
  split at h
  · cases h
  · cases hx : lexF (l.drop (gap l)) false with
    | none => rw [hx] at h; cases h
    | some r =>
      rw [hx] at h
      simp only at h
      split at h
      · cases h
      · cases h; omega
theorem lim_le {r : Option (List Tok)} (h : ∀ ts, r = some ts → ts.length ≤ 20000) : lim r = r := by
  cases r with
  | none => rfl
  | some ts => simp only [lim]; rw [if_neg (by have := h ts rfl; omega)]
theorem lexL_id {l : List UInt8} (h : l.length ≤ 20000) : lexL l = lexF (ug l) false := by
  rw [lexL_lim (by omega)]
  refine lim_le (fun ts hts => ?_)
  have h1 := lexF_len _ _ _ _ (Nat.le_refl _) hts
  have h2 := ug_len l
  have h3 : (l.drop (gap l)).length = (ug l).length := rfl
  omega
/-- Blanks ahead, and a remark behind. -/
theorem blanks_lex {s c : List UInt8} (hs : s.length ≤ 2000) (hc : c.length ≤ 200) (hn : ∀ x ∈ c, nl x = true) {ts : List Tok} (h : lexL s = some ts) : lexL ([9, 32, 92, 10] ++ s ++ [32, 35] ++ c) = some ts := by
  have e : [9, 32, 92, 10] ++ s ++ [32, 35] ++ c = 9 :: 32 :: 92 :: 10 :: (s ++ zz c) := by simp [zz]
  rw [e, lexL_id (by simp [zz]; omega)]
  have g1 : ug (9 :: 32 :: 92 :: 10 :: (s ++ zz c)) = ug (s ++ zz c) := by
    rw [ug_go (by rw [show gp (9 :: 32 :: 92 :: 10 :: (s ++ zz c)) = 1 from rfl]; decide), show (9 :: 32 :: 92 :: 10 :: (s ++ zz c)).drop (gp (9 :: 32 :: 92 :: 10 :: (s ++ zz c))) = 32 :: 92 :: 10 :: (s ++ zz c) from rfl]
    rw [ug_go (by rw [show gp (32 :: 92 :: 10 :: (s ++ zz c)) = 1 from rfl]; decide), show (32 :: 92 :: 10 :: (s ++ zz c)).drop (gp (32 :: 92 :: 10 :: (s ++ zz c))) = 92 :: 10 :: (s ++ zz c) from rfl]
    rw [ug_go (by rw [show gp (92 :: 10 :: (s ++ zz c)) = 2 from rfl]; decide), show (92 :: 10 :: (s ++ zz c)).drop (gp (92 :: 10 :: (s ++ zz c))) = s ++ zz c from rfl]
  rw [g1]
  rw [lexL_id (by omega)] at h
  obtain ⟨a1, a2⟩ := ug_app hn _ s (Nat.le_refl _)
  by_cases he : ug s = []
  · rw [a1 he]; rw [he] at h; exact h
  · rw [a2 he]; exact lexF_zz hn _ _ _ _ (Nat.le_refl _) he h

theorem LP_or {r : Option (List Tok)} {w w' : World} {e : Ending} (h : LP r w e w') : ∃ v b, e = .returned (.tuple #[v, .bool b]) ∧ Frm No w w' := by
  obtain ⟨hf, h⟩ := h
  cases r with
  | none => exact ⟨_, _, h, hf⟩
  | some ts => obtain ⟨v, h, _⟩ := h; exact ⟨_, _, h, hf⟩
theorem nl_all (c : ByteArray) (h : ∀ i (hi : i < c.size), c[i] ≠ 10) : ∀ x ∈ c.data.toList, nl x = true := by
  intro x hx
  obtain ⟨i, hi, rfl⟩ := List.getElem_of_mem hx
  have := h i (by simpa using hi)
  simp only [nl, decide_eq_true_eq]
  exact this

set_option maxHeartbeats 2000000 in
theorem blanks_all (s c : ByteArray) (w : World) : Calls Try.prog 6 #[.string s, .string c] w fun e w' => e = .returned (.bool true) ∧ Frm No w w' := by
  by_cases h1 : 2000 < s.size
  · have h1' : (2000 : Int) < (s.size : Int) := by omega
    go_enter Try.func6, Try.ntmps6
    go_wp2_with (go_at_call 7; go_must (refine (awake_all _).mono ?_; rintro e w1 ⟨rfl, hf1⟩; have HF1 := Lib.hid hf1; clear hf1))
    go_ret
    exact ⟨rfl, HF1.out⟩
  have h1' : ¬ (2000 : Int) < (s.size : Int) := by omega
  by_cases h2 : 200 < c.size
  · have h2' : (200 : Int) < (c.size : Int) := by omega
    go_enter Try.func6, Try.ntmps6
    go_wp2_with (go_at_call 7; go_must (refine (awake_all _).mono ?_; rintro e w1 ⟨rfl, hf1⟩; have HF1 := Lib.hid hf1; clear hf1))
    go_ret
    exact ⟨rfl, HF1.out⟩
  have h2' : ¬ (200 : Int) < (c.size : Int) := by omega
  have hcs : (∃ m : Nat, ∃ hm : m < s.size, (s.size : Int) - 1 = (m : Int) ∧ (0 : Int) < s.size ∧ ((s[m].toNat : Int) == 92) = true) ∨ ((s.size : Int) = 0) ∨ (∃ m : Nat, ∃ hm : m < s.size, (s.size : Int) - 1 = (m : Int) ∧ (0 : Int) < s.size ∧ ((s[m].toNat : Int) == 92) = false) := by
    by_cases h0 : s.size = 0
    · exact Or.inr (Or.inl (by omega))
    · rcases bool_or ((s[s.size - 1].toNat : Int) == 92) with h | h
      · exact Or.inl ⟨s.size - 1, by omega, by omega, by omega, h⟩
      · exact Or.inr (Or.inr ⟨s.size - 1, by omega, by omega, by omega, h⟩)
  have hsl : s.size ≤ 2000 := by omega
  have hcl : c.size ≤ 200 := by omega
  have HA := Lib.hid (fun w => lex_all s w (by omega))
  have HX := Lib.hid (fun (w : World) => lex_all ((⟨#[9, 32, 92, 10]⟩ ++ s) ++ ⟨#[32, 35]⟩ ++ c) w (by have e1 : (⟨#[9, 32, 92, 10]⟩ : ByteArray).size = 4 := rfl; have e2 : (⟨#[32, 35]⟩ : ByteArray).size = 2 := rfl; rw [ByteArray.size_append, ByteArray.size_append, ByteArray.size_append]; omega))
  have HXD := Lib.hid (show ((⟨#[9, 32, 92, 10]⟩ ++ s) ++ ⟨#[32, 35]⟩ ++ c : ByteArray).data.toList = [9, 32, 92, 10] ++ s.data.toList ++ [32, 35] ++ c.data.toList by simp)
  rcases hcs with ⟨m, hm, hz, hp, hb⟩ | hcs
  · go_enter Try.func6, Try.ntmps6
    go_wp2_with (go_at_call 7; go_must (refine (awake_all _).mono ?_; rintro e w1 ⟨rfl, hf1⟩; have HF1 := Lib.hid hf1; clear hf1))
    go_ret
    exact ⟨rfl, HF1.out⟩
  rcases hcs with h0' | ⟨m, hm, hz, hp, hb⟩
  all_goals
    go_enter Try.func6, Try.ntmps6
    go_wp2_with (go_at_call 7; go_must (refine (awake_all _).mono ?_; rintro e w1 ⟨rfl, hf1⟩; have HF1 := Lib.hid hf1; clear hf1))
    go_loopw [5] (fun iv wr => ∃ k : Nat, k ≤ c.size ∧ iv = .int .i64 k ∧ (∀ i (hi : i < c.size), i < k → c[i] ≠ 10) ∧ Frm No w wr) (fun iv _ => c.size - (intOf iv).toNat)
    case atStart => exact ⟨0, Nat.zero_le _, rfl, fun i _ h => by omega, HF1.out⟩
    case round =>
      obtain ⟨k, hk, rfl, hall, hf⟩ := hrel
      have HALL := Lib.hid hall
      have HF := Lib.hid hf
      clear hall hf
      by_cases hlt : k < c.size
      · by_cases e1 : c[k] = 10
        · have b1 : ((c[k].toNat : Int) == 10) = true := beq_yes 10 rfl e1
          clear e1
          go_wp2
          go_ret
          exact ⟨rfl, HF.out⟩
        · have b1 : ((c[k].toNat : Int) == 10) = false := beq_no 10 rfl e1
          have HN := Lib.hid (show ∀ i (hi : i < c.size), i < k + 1 → c[i] ≠ 10 by
            intro i hi hik
            by_cases e : i = k
            · subst e; exact e1
            · exact HALL.out i hi (by omega))
          clear e1
          go_wp2
          go_roundw
          case rel => exact ⟨k + 1, by omega, by go_num, HN.out, HF.out⟩
          case measure => simp [intOf]; omega
      · obtain rfl : k = c.size := by omega
        have hna := nl_all c (fun i hi => HALL.out i hi hi)
        cases hlex : lexL s.data.toList with
        | none =>
          rw [hlex] at HA
          clear hlex hna
          go_wp2_with (first | (go_at_call 8; (with_reducible refine (HA.out _).mono ?_); rintro e w2 ⟨hf2, he2⟩; obtain rfl : e = .returned (.tuple #[.slice none 0 0, .bool false]) := he2; have HF2 := Lib.hid hf2; clear hf2) | (go_at_call 8; go_must (refine (HX.out _).mono ?_; intro e w3 h3; obtain ⟨v3, b3, rfl, hf3⟩ := LP_or h3; have HF3 := Lib.hid hf3; clear hf3 h3)))
          go_ret
          exact ⟨rfl, HF.out.trans (HF2.out.trans HF3.out)⟩
        | some ts =>
          have hx := blanks_lex (by rw [len_list]; exact hsl) (by rw [len_list]; exact hcl) hna hlex
          have HX' := HX
          rw [HXD.out, hx] at HX'
          rw [hlex] at HA
          have HTL := Lib.hid (lexL_len hlex)
          clear hlex hna hx HX
          go_wp2_with (first | (go_at_call 8; (with_reducible refine (HA.out _).mono ?_); rintro e w2 ⟨hf2, v2, rfl, ho2⟩; have HF2 := Lib.hid hf2; have HO2 := Lib.hid ho2.ts; clear hf2 ho2) | (go_at_call 8; go_must (refine (HX'.out _).mono ?_; rintro e w3 ⟨hf3, v3, rfl, ho3⟩; have HF3 := Lib.hid hf3; have HO3 := Lib.hid ho3.ts; clear hf3 ho3)) | (go_at_call 10; go_must (refine (same_all ts ts _ _ _ (HO2.out.move HF3.out) HO3.out (by have := HTL.out; omega) (by have := HTL.out; omega)).mono ?_; rintro e w4 ⟨rfl, hf4⟩; have HF4 := Lib.hid hf4; clear hf4)))
          go_ret
          exact ⟨by simp, HF.out.trans (HF2.out.trans (HF3.out.trans HF4.out))⟩
end Go.Proofs.Ytfgdhafpiikpjab.lexs
