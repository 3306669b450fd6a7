/- Contracts of lex's numSize, powerSize, gapPartSize, gapSize, opSize. -/
import Derived.Test.YteaibkbdoocifaaDoorLexA
namespace Go.Proofs.YteaibkbdoocifaaDoor.lexs
set_option linter.unusedVariables false set_option linter.unusedSimpArgs false
open Go.ChangeShapes Go.WideShapes Go.ChangeAt Go.RowKit Go.Proofs.YteaibkbdoocifaaDoor.base

theorem digits_at (s : ByteArray) (k G : Nat) (w : World) (hs : s.size ≤ 1000000) (hG : dg (s.data.toList.drop k) = G) :
    Calls Tryd.prog 88 #[.string (s.extract k s.size)] w fun e w' => e = .returned (.int .i64 (G : Int)) ∧ w' = w := by
  have := digitsSize_all (s.extract k s.size) w (by simp [ByteArray.size_extract]; omega)
  rw [extract_drop, hG] at this
  exact this
theorem hp1_at (s : ByteArray) (k : Nat) (c : UInt8) (w : World) (b : Bool) (hb : ((s.data.toList.drop k).head? == some c) = b) :
    Calls Tryd.prog 82 #[.string (s.extract k s.size), .string ⟨#[c]⟩] w fun e w' => e = .returned (.bool b) ∧ w' = w := by
  have := hp1 (s.extract k s.size) c w
  rw [extract_drop, hb] at this
  exact this

set_option maxHeartbeats 400000 in
theorem powerSize_all (s : ByteArray) (w : World) (hs : s.size ≤ 1000000) :
    Calls Tryd.prog 89 #[.string s] w fun e w' => e = .returned (.int .i64 (pw s.data.toList : Nat)) ∧ w' = w := by
  cases hl : s.data.toList with
  | nil =>
    have HA := Lib.hid (fun w => hp1 s 101 w)
    have HB := Lib.hid (fun w => hp1 s 69 w)
    rw [hl] at HA HB
    clear hl
    go_enter Tryd.func89, Tryd.ntmps89
    go_wp2_with (first | (go_at_call 82; (with_reducible refine (HA.out _).mono ?_); rintro e w' ⟨rfl, rfl⟩) | (go_at_call 82; (with_reducible refine (HB.out _).mono ?_); rintro e w' ⟨rfl, rfl⟩))
    go_ret
    exact ⟨rfl, rfl⟩
  | cons c t =>
    have HA := Lib.hid (fun w => hp1 s 101 w)
    have HB := Lib.hid (fun w => hp1 s 69 w)
    rw [hl] at HA HB
    by_cases hc : c = 101 ∨ c = 69
    · have hsz : s.size = t.length + 1 := by have := congrArg List.length hl; simpa using this
      have h1 : s.data.toList.drop 1 = t := by rw [hl]; rfl
      have HC := Lib.hid (fun w => hp1_at s 1 43 w _ rfl)
      have HD := Lib.hid (fun w => hp1_at s 1 45 w _ rfl)
      rw [h1] at HC HD
      obtain ⟨b1, hb1⟩ : ∃ b, (t.head? == some 43) = b := ⟨_, rfl⟩
      obtain ⟨b2, hb2⟩ : ∃ b, (t.head? == some 45) = b := ⟨_, rfl⟩
      rw [hb1] at HC
      rw [hb2] at HD
      obtain ⟨g, hg⟩ : ∃ g, sg t = g := ⟨_, rfl⟩
      have hsg : g = if b1 || b2 then 1 else 0 := by
        rw [← hg, ← hb1, ← hb2]
        cases t with
        | nil => rfl
        | cons d u => simp [sg]
      obtain ⟨k, hk⟩ : ∃ k, 1 + g = k := ⟨_, rfl⟩
      have hkb : k = if b1 || b2 then 2 else 1 := by
        rw [← hk, hsg]
        cases b1 <;> cases b2 <;> rfl
      obtain ⟨G, hG⟩ : ∃ G, dg (t.drop g) = G := ⟨_, rfl⟩
      have hgl : g ≤ t.length := by have := sg_le t; omega
      have hGl : g + G ≤ t.length := by have := dg_le (t.drop g); rw [List.length_drop] at this; omega
      have HG := Lib.hid (fun w => digits_at s k G w hs (by rw [← hk, ← List.drop_drop, h1, hG]))
      have HP := Lib.hid (show pw (c :: t) = if G = 0 then 0 else k + G by simp only [pw]; rw [if_pos hc, hg, hG, ← hk])
      have hp1 : 1 ≤ s.size := by omega
      have hq : k + G ≤ s.size := by omega
      have HQ : Hid ((c == 101 || c == 69) = true) := Lib.hid (by simpa using hc)
      have he : ∀ x : UInt8, ((c :: t).head? == some x) = (c == x) := fun x => rfl
      rw [he] at HA HB
      clear he hl hc hsz h1 hb1 hb2 hg hG hgl hGl hsg hk
      cases hc1 : (c == 101) with
      | true =>
        rw [hc1] at HA
        clear HB HQ hc1
        by_cases hG0 : G = 0
        · subst hG0
          cases b1 <;> cases b2 <;> first | (obtain rfl : k = 1 := hkb) | (obtain rfl : k = 2 := hkb)
          all_goals (
            go_enter Tryd.func89, Tryd.ntmps89
            go_wp2_with (first | (go_at_call 82; (with_reducible refine (HA.out _).mono ?_); rintro e w' ⟨rfl, rfl⟩) | (go_at_call 82; (with_reducible refine (HC.out _).mono ?_); rintro e w' ⟨rfl, rfl⟩) | (go_at_call 82; (with_reducible refine (HD.out _).mono ?_); rintro e w' ⟨rfl, rfl⟩) | (go_at_call 88; go_must (refine (HG.out _).mono ?_; rintro e w' ⟨rfl, rfl⟩)))
            go_ret
            exact ⟨ret_int (by rw [HP.out]; rfl), rfl⟩)
        · have hg1 : ((G : Int) == 0) = false := by simpa using hG0
          cases b1 <;> cases b2 <;> first | (obtain rfl : k = 1 := hkb) | (obtain rfl : k = 2 := hkb)
          all_goals (
            go_enter Tryd.func89, Tryd.ntmps89
            go_wp2_with (first | (go_at_call 82; (with_reducible refine (HA.out _).mono ?_); rintro e w' ⟨rfl, rfl⟩) | (go_at_call 82; (with_reducible refine (HC.out _).mono ?_); rintro e w' ⟨rfl, rfl⟩) | (go_at_call 82; (with_reducible refine (HD.out _).mono ?_); rintro e w' ⟨rfl, rfl⟩) | (go_at_call 88; go_must (refine (HG.out _).mono ?_; rintro e w' ⟨rfl, rfl⟩)))
            go_ret
            exact ⟨ret_int (by rw [HP.out, if_neg hG0]; simp), rfl⟩)
      | false =>
        have hc2 : (c == 69) = true := by have := HQ.out; rw [hc1] at this; simpa using this
        rw [hc1] at HA
        rw [hc2] at HB
        clear HQ hc1 hc2
        by_cases hG0 : G = 0
        · subst hG0
          cases b1 <;> cases b2 <;> first | (obtain rfl : k = 1 := hkb) | (obtain rfl : k = 2 := hkb)
          all_goals (
            go_enter Tryd.func89, Tryd.ntmps89
            go_wp2_with (first | (go_at_call 82; (with_reducible refine (HA.out _).mono ?_); rintro e w' ⟨rfl, rfl⟩) | (go_at_call 82; (with_reducible refine (HB.out _).mono ?_); rintro e w' ⟨rfl, rfl⟩) | (go_at_call 82; (with_reducible refine (HC.out _).mono ?_); rintro e w' ⟨rfl, rfl⟩) | (go_at_call 82; (with_reducible refine (HD.out _).mono ?_); rintro e w' ⟨rfl, rfl⟩) | (go_at_call 88; go_must (refine (HG.out _).mono ?_; rintro e w' ⟨rfl, rfl⟩)))
            go_ret
            exact ⟨ret_int (by rw [HP.out]; rfl), rfl⟩)
        · have hg1 : ((G : Int) == 0) = false := by simpa using hG0
          cases b1 <;> cases b2 <;> first | (obtain rfl : k = 1 := hkb) | (obtain rfl : k = 2 := hkb)
          all_goals (
            go_enter Tryd.func89, Tryd.ntmps89
            go_wp2_with (first | (go_at_call 82; (with_reducible refine (HA.out _).mono ?_); rintro e w' ⟨rfl, rfl⟩) | (go_at_call 82; (with_reducible refine (HB.out _).mono ?_); rintro e w' ⟨rfl, rfl⟩) | (go_at_call 82; (with_reducible refine (HC.out _).mono ?_); rintro e w' ⟨rfl, rfl⟩) | (go_at_call 82; (with_reducible refine (HD.out _).mono ?_); rintro e w' ⟨rfl, rfl⟩) | (go_at_call 88; go_must (refine (HG.out _).mono ?_; rintro e w' ⟨rfl, rfl⟩)))
            go_ret
            exact ⟨ret_int (by rw [HP.out, if_neg hG0]; simp), rfl⟩)
    · have h1 : (c == 101) = false := by simp at hc ⊢; exact hc.1
      have h2 : (c == 69) = false := by simp at hc ⊢; exact hc.2
      have he : ∀ x : UInt8, ((c :: t).head? == some x) = (c == x) := fun x => rfl
      rw [he, h1] at HA
      rw [he, h2] at HB
      have HP := Lib.hid (show pw (c :: t) = 0 by simp only [pw]; rw [if_neg hc])
      clear hl he hc h1 h2
      go_enter Tryd.func89, Tryd.ntmps89
      go_wp2_with (first | (go_at_call 82; (with_reducible refine (HA.out _).mono ?_); rintro e w' ⟨rfl, rfl⟩) | (go_at_call 82; (with_reducible refine (HB.out _).mono ?_); rintro e w' ⟨rfl, rfl⟩))
      go_ret
      exact ⟨ret_int (by rw [HP.out]; rfl), rfl⟩
end Go.Proofs.YteaibkbdoocifaaDoor.lexs
