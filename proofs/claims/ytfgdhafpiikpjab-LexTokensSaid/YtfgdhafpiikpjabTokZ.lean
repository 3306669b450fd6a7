/- The law LexTokens: the program's tokens are the document's. -/
import Derived.Test.YtfgdhafpiikpjabTokM
import Derived.Test.YtfgdhafpiikpjabTokN
namespace Go.Proofs.Ytfgdhafpiikpjab.lexs
set_option linter.unusedVariables false set_option linter.unusedSimpArgs false
open Go.ChangeShapes Go.WideShapes Go.ChangeAt Go.RowKit Go.Proofs.Ytfgdhafpiikpjab.base

theorem lex_big (s : ByteArray) (w : World) (h : 65536 < s.size) : Calls Try.prog 8 #[.string s] w fun e w' => e = .returned (.tuple #[.slice none 0 0, .bool false]) ∧ w' = w := by
  have hb' : (65536 : Int) < (s.size : Int) := by omega
  go_enter Try.func8, Try.ntmps8
  go_wp2
  exact bodyPost_ret (v := .tuple #[.slice none 0 0, .bool false]) (by simp [results, Try.results8, go_sem]) rfl ⟨rfl, rfl⟩
set_option maxRecDepth 100000 in
set_option maxHeartbeats 4000000 in
theorem rlex_big (s : ByteArray) (w : World) (h : 65536 < s.size) : Calls Try.prog 9 #[.string s] w fun e w' => e = .returned (.tuple #[.slice none 0 0, .bool false]) ∧ w' = w := by
  have hb' : (65536 : Int) < (s.size : Int) := by omega
  go_enter Try.func9, Try.ntmps9
  go_wp2
  exact bodyPost_ret (v := .tuple #[.slice none 0 0, .bool false]) (by simp [results, Try.results9, go_sem]) rfl ⟨rfl, rfl⟩

set_option maxHeartbeats 2000000 in
theorem tokens_all (s : ByteArray) (w : World) : Calls Try.prog 3 #[.string s] w fun e w' => e = .returned (.bool true) ∧ Frm No w w' := by
  by_cases hb : 65536 < s.size
  · have hb1 : (3000 : Int) < (s.size : Int) := by omega
    have hb2 : ¬ (s.size : Int) ≤ 65536 := by omega
    have HA := Lib.hid (fun w => lex_big s w hb)
    have HB := Lib.hid (fun w => rlex_big s w hb)
    have HS := Lib.hid (fun w => same_all [] [] (.slice none 0 0) (.slice none 0 0) w ⟨none, 0, rfl, Or.inl rfl⟩ ⟨none, 0, rfl, Or.inl rfl⟩ (by simp) (by simp))
    clear hb
    go_enter Try.func3, Try.ntmps3
    go_wp2_with (first | (go_at_call 7; go_must (refine (awake_all _).mono ?_; rintro e w1 ⟨rfl, hf1⟩; have HF1 := Lib.hid hf1; clear hf1)) | (go_at_call 8; go_must (refine (HA.out _).mono ?_; rintro e w' ⟨rfl, rfl⟩)) | (go_at_call 9; go_must (refine (HB.out _).mono ?_; rintro e w' ⟨rfl, rfl⟩)) | (go_at_call 10; go_must (refine (HS.out _).mono ?_; rintro e w4 ⟨rfl, hf4⟩; have HF4 := Lib.hid hf4; clear hf4)))
    go_ret
    exact ⟨by simp, HF1.out.trans HF4.out⟩
  by_cases hm : 3000 < s.size
  · have hb1 : (3000 : Int) < (s.size : Int) := by omega
    have hb2 : (s.size : Int) ≤ 65536 := by omega
    clear hb hm
    go_enter Try.func3, Try.ntmps3
    go_wp2_with (go_at_call 7; go_must (refine (awake_all _).mono ?_; rintro e w1 ⟨rfl, hf1⟩; have HF1 := Lib.hid hf1; clear hf1))
    go_ret
    exact ⟨rfl, HF1.out⟩
  have hb1 : ¬ (3000 : Int) < (s.size : Int) := by omega
  have HA := Lib.hid (fun w => lex_all s w (by omega))
  have HB := Lib.hid (fun w => rlex_all (fun s w h => number_all s w h) s w (by omega))
  cases hl : lexL s.data.toList with
  | none =>
    rw [hl] at HA HB
    have HS := Lib.hid (fun w => same_all [] [] (.slice none 0 0) (.slice none 0 0) w ⟨none, 0, rfl, Or.inl rfl⟩ ⟨none, 0, rfl, Or.inl rfl⟩ (by simp) (by simp))
    clear hl hb hm
    go_enter Try.func3, Try.ntmps3
    go_wp2_with (first | (go_at_call 7; go_must (refine (awake_all _).mono ?_; rintro e w1 ⟨rfl, hf1⟩; have HF1 := Lib.hid hf1; clear hf1)) | (go_at_call 8; go_must (refine (HA.out _).mono ?_; rintro e w2 ⟨hf2, he2⟩; obtain rfl : e = .returned (.tuple #[.slice none 0 0, .bool false]) := he2; have HF2 := Lib.hid hf2; clear hf2)) | (go_at_call 9; go_must (refine (HB.out _).mono ?_; rintro e w3 ⟨hf3, he3⟩; obtain rfl : e = .returned (.tuple #[.slice none 0 0, .bool false]) := he3; have HF3 := Lib.hid hf3; clear hf3)) | (go_at_call 10; go_must (refine (HS.out _).mono ?_; rintro e w4 ⟨rfl, hf4⟩; have HF4 := Lib.hid hf4; clear hf4)))
    go_ret
    exact ⟨by simp, HF1.out.trans (HF2.out.trans (HF3.out.trans HF4.out))⟩
  | some ts =>
    rw [hl] at HA HB
    have HTL := Lib.hid (lexL_len hl)
    clear hl hb hm
    go_enter Try.func3, Try.ntmps3
    go_wp2_with (first | (go_at_call 7; go_must (refine (awake_all _).mono ?_; rintro e w1 ⟨rfl, hf1⟩; have HF1 := Lib.hid hf1; clear hf1)) | (go_at_call 8; go_must (refine (HA.out _).mono ?_; rintro e w2 ⟨hf2, v2, rfl, ho2⟩; have HF2 := Lib.hid hf2; have HO2 := Lib.hid ho2.ts; clear hf2 ho2)) | (go_at_call 9; go_must (refine (HB.out _).mono ?_; rintro e w3 ⟨hf3, v3, rfl, ho3⟩; have HF3 := Lib.hid hf3; have HO3 := Lib.hid ho3.ts; clear hf3 ho3)) | (go_at_call 10; go_must (refine (same_all ts ts _ _ _ (HO2.out.move HF3.out) HO3.out (by have := HTL.out; omega) (by have := HTL.out; omega)).mono ?_; rintro e w4 ⟨rfl, hf4⟩; have HF4 := Lib.hid hf4; clear hf4)))
    go_ret
    exact ⟨by simp, HF1.out.trans (HF2.out.trans (HF3.out.trans HF4.out))⟩
end Go.Proofs.Ytfgdhafpiikpjab.lexs
