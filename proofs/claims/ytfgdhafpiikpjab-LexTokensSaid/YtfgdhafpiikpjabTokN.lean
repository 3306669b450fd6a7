/- Contract of the document's number. -/
import Derived.Test.YtfgdhafpiikpjabTokA
namespace Go.Proofs.Ytfgdhafpiikpjab.lexs
set_option linter.unusedVariables false set_option linter.unusedSimpArgs false
open Go.ChangeShapes Go.WideShapes Go.ChangeAt Go.RowKit Go.Proofs.Ytfgdhafpiikpjab.base

/-- How far digits go from place k on. -/
theorem dg_spec (s : ByteArray) (k : Nat) (hk : k ≤ s.size) : ∃ G, dg (sx s k) = G ∧ k + G ≤ s.size ∧ (∀ i (hi : i < s.size), k ≤ i → i < k + G → isD s[i] = true) ∧ (∀ hi : k + G < s.size, isD s[k + G] = false) := by
  obtain ⟨h1, h2⟩ := tw_spec isD (sx s k)
  have hle := dg_le (sx s k)
  rw [sx_len] at hle
  have hg : ∀ i (hi : k + i < s.size), (sx s k)[i]'(by rw [sx_len]; omega) = s[k + i] := by
    intro i hi
    simp only [sx, List.getElem_drop]
    rfl
  refine ⟨_, rfl, by omega, ?_, ?_⟩
  · intro i hi hki hin
    obtain ⟨j, rfl⟩ : ∃ j, i = k + j := ⟨i - k, by omega⟩
    rw [← hg j hi]
    exact h1 j (by rw [sx_len]; omega) (by unfold dg at hin; omega)
  · intro hi
    have := h2 (by rw [sx_len]; unfold dg at hi; omega)
    rw [← hg _ hi]
    exact this
theorem dg_spec0 (s : ByteArray) : ∃ G, dg s.data.toList = G ∧ G ≤ s.size ∧ (∀ i (hi : i < s.size), i < G → isD s[i] = true) ∧ (∀ hi : G < s.size, isD s[G] = false) := by
  obtain ⟨G, h0, h1, h2, h3⟩ := dg_spec s 0 (Nat.zero_le _)
  refine ⟨G, h0, by omega, fun i hi h => h2 i hi (Nat.zero_le _) (by omega), fun hi => ?_⟩
  have := h3 (by omega)
  simp only [Nat.zero_add] at this
  exact this
theorem sx_drop (s : ByteArray) (k : Nat) : s.data.toList.drop k = sx s k := rfl
theorem pw_end {s : ByteArray} {p : Nat} (h : s.size ≤ p) : pw (sx s p) = 0 := by rw [sx_nil s p h]; rfl
theorem pw_no {s : ByteArray} {p : Nat} (h : p < s.size) (h1 : s[p] ≠ 101) (h2 : s[p] ≠ 69) : pw (sx s p) = 0 := by
  rw [sx_cons s p h]; simp only [pw]; rw [if_neg (by rintro (e | e); exact h1 e; exact h2 e)]
theorem pw_e {s : ByteArray} {p g : Nat} (h : p < s.size) (he : s[p] = 101 ∨ s[p] = 69) (hg : sg (sx s (p + 1)) = g) : pw (sx s p) = if dg (sx s (p + 1 + g)) = 0 then 0 else 1 + g + dg (sx s (p + 1 + g)) := by
  rw [sx_cons s p h]; simp only [pw]; rw [if_pos he, hg]
  have : (sx s (p + 1)).drop g = sx s (p + 1 + g) := by unfold sx; rw [List.drop_drop]
  rw [this]
theorem sg_end {s : ByteArray} {p : Nat} (h : s.size ≤ p) : sg (sx s p) = 0 := by rw [sx_nil s p h]; rfl
theorem sg_yes {s : ByteArray} {p : Nat} (h : p < s.size) (he : s[p] = 43 ∨ s[p] = 45) : sg (sx s p) = 1 := by rw [sx_cons s p h]; simp only [sg]; rw [if_pos he]
theorem sg_no {s : ByteArray} {p : Nat} (h : p < s.size) (h1 : s[p] ≠ 43) (h2 : s[p] ≠ 45) : sg (sx s p) = 0 := by rw [sx_cons s p h]; simp only [sg]; rw [if_neg (by rintro (e | e); exact h1 e; exact h2 e)]
theorem dg_end {s : ByteArray} {p : Nat} (h : s.size ≤ p) : dg (sx s p) = 0 := by rw [sx_nil s p h]; rfl
theorem dg_no {s : ByteArray} {p : Nat} (h : p < s.size) (h1 : isD s[p] = false) : dg (sx s p) = 0 := by rw [sx_cons s p h]; unfold dg; rw [List.takeWhile_cons, h1]; rfl
theorem dg_yes {s : ByteArray} {p : Nat} (h : p < s.size) (h1 : isD s[p] = true) : dg (sx s p) ≠ 0 := by rw [sx_cons s p h]; unfold dg; rw [List.takeWhile_cons, h1]; simp

set_option maxHeartbeats 8000000 in
theorem number_all (s : ByteArray) (w : World) (hs : s.size ≤ 1000000) :
    Calls Try.prog 15 #[.string s] w fun e w' => e = .returned (.int .i64 (nm s.data.toList : Nat)) ∧ w' = w := by
  obtain ⟨a, ha, hA1, hA2, hA3⟩ := dg_spec0 s
  have HDA := Lib.hid ha
  have HA2 := Lib.hid hA2
  have HA3 := Lib.hid hA3
  clear hA2 hA3 ha
  go_enter Try.func15, Try.ntmps15
  go_wp2
  go_loop [3, 4] (fun iv sv => ∃ k : Nat, k ≤ a ∧ iv = .int .i64 k ∧ sv = .bool (decide (0 < k))) (fun iv _ => a - (intOf iv).toNat)
  case atStart => exact ⟨0, Nat.zero_le _, rfl, rfl⟩
  case round =>
    obtain ⟨k, hk, rfl, rfl⟩ := hrel
    by_cases hlt : k < a
    · have hks : k < s.size := by omega
      have HD := Lib.hid (HA2.out k hks hlt)
      go_wp2_with (go_at_call 20; (with_reducible refine (rdigit_all s[k] _ rfl _).mono ?_); rw [HD.out]; rintro e w' ⟨rfl, rfl⟩)
      go_round
      case rel => exact ⟨k + 1, by omega, by go_num, by simp⟩
      case measure => simp [intOf]; omega
    obtain rfl : k = a := by omega
    clear hlt hk
    rcases Nat.lt_or_ge k s.size with hks | hks
    rotate_left
    · -- the end
      have HN := Lib.hid (nm_no (l := s.data.toList) (a := k) HDA.out (by rw [sx_drop, sx_nil s k hks]; simp) rfl)
      by_cases h0 : k = 0
      · subst h0
        go_wp2
        go_ret
        exact ⟨ret_int (by rw [HN.out]; rfl), rfl⟩
      · have h0' : 0 < k := by omega
        have HN2 := Lib.hid (show nm s.data.toList = k + pw (sx s k) by rw [HN.out, if_neg h0]; rfl)
        have HV := Lib.hid (pw_end hks)
        clear h0 HN
        go_wp2
        go_ret
        exact ⟨ret_int (by have h1 := HN2.out; have h2 := HV.out; omega), rfl⟩
    have HD := Lib.hid (HA3.out hks)
    rcases bool_or ((s[k].toNat : Int) == 46) with h46 | h46
    rotate_left
    · -- no point
      have HN := Lib.hid (nm_no (l := s.data.toList) (a := k) HDA.out (by rw [sx_drop, sx_cons s k hks]; intro e; exact of_bne 46 rfl h46 (Option.some.inj e)) rfl)
      by_cases h0 : k = 0
      · subst h0
        go_wp2_with (go_at_call 20; (with_reducible refine (rdigit_all s[0] _ rfl _).mono ?_); rw [HD.out]; rintro e w' ⟨rfl, rfl⟩)
        go_ret
        exact ⟨ret_int (by rw [HN.out]; rfl), rfl⟩
      · have h0' : 0 < k := by omega
        have HN2 := Lib.hid (show nm s.data.toList = k + pw (sx s k) by rw [HN.out, if_neg h0]; rfl)
        clear h0 HN
        rcases (show s.size ≤ k ∨ ∃ h : k < s.size, ((s[k].toNat : Int) == 101) = true ∨ (((s[k].toNat : Int) == 101) = false ∧ ((s[k].toNat : Int) == 69) = true) ∨ (((s[k].toNat : Int) == 101) = false ∧ ((s[k].toNat : Int) == 69) = false) by
          rcases Nat.lt_or_ge k s.size with h | h
          · right; refine ⟨h, ?_⟩; rcases bool_or ((s[k].toNat : Int) == 101) with h1 | h1; exact Or.inl h1; rcases bool_or ((s[k].toNat : Int) == 69) with h2 | h2; exact Or.inr (Or.inl ⟨h1, h2⟩); exact Or.inr (Or.inr ⟨h1, h2⟩)
          · exact Or.inl h) with hp | ⟨hp, hb | hb | hb⟩
        · exact absurd hp (by omega)
        · have HE := Lib.hid (show s[k] = 101 ∨ s[k] = 69 from Or.inl (of_beq 101 rfl hb))
          rcases (show s.size ≤ k + 1 ∨ ∃ h : k + 1 < s.size, ((s[k + 1].toNat : Int) == 43) = true ∨ (((s[k + 1].toNat : Int) == 43) = false ∧ ((s[k + 1].toNat : Int) == 45) = true) ∨ (((s[k + 1].toNat : Int) == 43) = false ∧ ((s[k + 1].toNat : Int) == 45) = false) by
            rcases Nat.lt_or_ge (k + 1) s.size with h | h
            · right; refine ⟨h, ?_⟩; rcases bool_or ((s[k + 1].toNat : Int) == 43) with h1 | h1; exact Or.inl h1; rcases bool_or ((s[k + 1].toNat : Int) == 45) with h2 | h2; exact Or.inr (Or.inl ⟨h1, h2⟩); exact Or.inr (Or.inr ⟨h1, h2⟩)
            · exact Or.inl h) with hq | ⟨hq, hc | hc | hc⟩
          · have HV := Lib.hid (show pw (sx s k) = 0 by rw [pw_e hp HE.out (sg_end hq), dg_end (by omega), if_pos rfl])
            have hpe : s.size = k + 1 := by omega
            have hpl : ¬ ((k : Int) + 1 < (s.size : Int)) := by omega
            clear hpe
            go_wp2_with (first | (go_at_call 20; (with_reducible refine (rdigit_all s[k] _ rfl _).mono ?_); rw [HD.out]; rintro e w' ⟨rfl, rfl⟩))
            go_ret
            exact ⟨ret_int (by have h1 := HN2.out; have h2 := HV.out; omega), rfl⟩
          · have HS := Lib.hid (sg_yes hq (Or.inl (of_beq 43 rfl hc)))
            have HPW := Lib.hid (pw_e hp HE.out HS.out)
            rcases Nat.lt_or_ge (k + 2) s.size with hd | hd
            rotate_left
            · have HV := Lib.hid (show pw (sx s k) = 0 by rw [HPW.out, dg_end hd, if_pos rfl])
              have hpl : ¬ ((k : Int) + 1 + 1 < (s.size : Int)) := by omega
              go_wp2_with (first | (go_at_call 20; (with_reducible refine (rdigit_all s[k] _ rfl _).mono ?_); rw [HD.out]; rintro e w' ⟨rfl, rfl⟩))
              go_ret
              exact ⟨ret_int (by have h1 := HN2.out; have h2 := HV.out; omega), rfl⟩
            cases hdd : isD s[k + 2] with
            | false =>
              have HV := Lib.hid (show pw (sx s k) = 0 by rw [HPW.out, dg_no hd hdd, if_pos rfl])
              have HD3 := Lib.hid hdd
              clear hdd
              go_wp2_with (first | (go_at_call 20; (with_reducible refine (rdigit_all s[k] _ rfl _).mono ?_); rw [HD.out]; rintro e w' ⟨rfl, rfl⟩) | (go_at_call 20; (with_reducible refine (rdigit_all s[k + 2] _ rfl _).mono ?_); rw [HD3.out]; rintro e w' ⟨rfl, rfl⟩))
              go_ret
              exact ⟨ret_int (by have h1 := HN2.out; have h2 := HV.out; omega), rfl⟩
            | true =>
              obtain ⟨G, hG, hC1, hC2, hC3⟩ := dg_spec s (k + 2) (by omega)
              have HV := Lib.hid (show pw (sx s k) = 2 + G by rw [HPW.out, if_neg (dg_yes hd hdd), hG])
              have HC2 := Lib.hid hC2
              have HC3 := Lib.hid hC3
              have HD3 := Lib.hid hdd
              clear hdd hG hC2 hC3
              go_wp2_with (first | (go_at_call 20; (with_reducible refine (rdigit_all s[k] _ rfl _).mono ?_); rw [HD.out]; rintro e w' ⟨rfl, rfl⟩) | (go_at_call 20; (with_reducible refine (rdigit_all s[k + 2] _ rfl _).mono ?_); rw [HD3.out]; rintro e w' ⟨rfl, rfl⟩))
              go_loop [5] (fun jv => ∃ j : Nat, k + 2 ≤ j ∧ j ≤ k + 2 + G ∧ jv = .int .i64 j) (fun jv => s.size - (intOf jv).toNat)
              case atStart => exact ⟨k + 2, Nat.le_refl _, by omega, by go_num⟩
              case round =>
                obtain ⟨j, hj1, hj2, rfl⟩ := hrel
                by_cases hjl : j < k + 2 + G
                · have hjs : j < s.size := by omega
                  have HD4 := Lib.hid (HC2.out j hjs (by omega) hjl)
                  go_wp2_with (go_at_call 20; (with_reducible refine (rdigit_all s[j] _ rfl _).mono ?_); rw [HD4.out]; rintro e w' ⟨rfl, rfl⟩)
                  go_round
                  case rel => exact ⟨j + 1, by omega, by omega, by go_num⟩
                  case measure => simp [intOf]; omega
                · have hje : j = k + 2 + G := by omega
                  have HJ := Lib.hid hje
                  by_cases hjs : j < s.size
                  · have HD4 := Lib.hid (show isD s[j] = false by have := HC3.out (by rw [← HJ.out]; exact hjs); simp only [← HJ.out] at this; exact this)
                    clear hje hjl
                    go_wp2_with (go_at_call 20; (with_reducible refine (rdigit_all s[j] _ rfl _).mono ?_); rw [HD4.out]; rintro e w' ⟨rfl, rfl⟩)
                    go_ret
                    exact ⟨ret_int (by have h1 := HN2.out; have h2 := HV.out; have h3 := HJ.out; omega), rfl⟩
                  · clear hje hjl
                    go_wp2
                    go_ret
                    exact ⟨ret_int (by have h1 := HN2.out; have h2 := HV.out; have h3 := HJ.out; omega), rfl⟩
          · obtain ⟨hc0, hc⟩ := hc
            have HS := Lib.hid (sg_yes hq (Or.inr (of_beq 45 rfl hc)))
            have HPW := Lib.hid (pw_e hp HE.out HS.out)
            rcases Nat.lt_or_ge (k + 2) s.size with hd | hd
            rotate_left
            · have HV := Lib.hid (show pw (sx s k) = 0 by rw [HPW.out, dg_end hd, if_pos rfl])
              have hpl : ¬ ((k : Int) + 1 + 1 < (s.size : Int)) := by omega
              go_wp2_with (first | (go_at_call 20; (with_reducible refine (rdigit_all s[k] _ rfl _).mono ?_); rw [HD.out]; rintro e w' ⟨rfl, rfl⟩))
              go_ret
              exact ⟨ret_int (by have h1 := HN2.out; have h2 := HV.out; omega), rfl⟩
            cases hdd : isD s[k + 2] with
            | false =>
              have HV := Lib.hid (show pw (sx s k) = 0 by rw [HPW.out, dg_no hd hdd, if_pos rfl])
              have HD3 := Lib.hid hdd
              clear hdd
              go_wp2_with (first | (go_at_call 20; (with_reducible refine (rdigit_all s[k] _ rfl _).mono ?_); rw [HD.out]; rintro e w' ⟨rfl, rfl⟩) | (go_at_call 20; (with_reducible refine (rdigit_all s[k + 2] _ rfl _).mono ?_); rw [HD3.out]; rintro e w' ⟨rfl, rfl⟩))
              go_ret
              exact ⟨ret_int (by have h1 := HN2.out; have h2 := HV.out; omega), rfl⟩
            | true =>
              obtain ⟨G, hG, hC1, hC2, hC3⟩ := dg_spec s (k + 2) (by omega)
              have HV := Lib.hid (show pw (sx s k) = 2 + G by rw [HPW.out, if_neg (dg_yes hd hdd), hG])
              have HC2 := Lib.hid hC2
              have HC3 := Lib.hid hC3
              have HD3 := Lib.hid hdd
              clear hdd hG hC2 hC3
              go_wp2_with (first | (go_at_call 20; (with_reducible refine (rdigit_all s[k] _ rfl _).mono ?_); rw [HD.out]; rintro e w' ⟨rfl, rfl⟩) | (go_at_call 20; (with_reducible refine (rdigit_all s[k + 2] _ rfl _).mono ?_); rw [HD3.out]; rintro e w' ⟨rfl, rfl⟩))
              go_loop [5] (fun jv => ∃ j : Nat, k + 2 ≤ j ∧ j ≤ k + 2 + G ∧ jv = .int .i64 j) (fun jv => s.size - (intOf jv).toNat)
              case atStart => exact ⟨k + 2, Nat.le_refl _, by omega, by go_num⟩
              case round =>
                obtain ⟨j, hj1, hj2, rfl⟩ := hrel
                by_cases hjl : j < k + 2 + G
                · have hjs : j < s.size := by omega
                  have HD4 := Lib.hid (HC2.out j hjs (by omega) hjl)
                  go_wp2_with (go_at_call 20; (with_reducible refine (rdigit_all s[j] _ rfl _).mono ?_); rw [HD4.out]; rintro e w' ⟨rfl, rfl⟩)
                  go_round
                  case rel => exact ⟨j + 1, by omega, by omega, by go_num⟩
                  case measure => simp [intOf]; omega
                · have hje : j = k + 2 + G := by omega
                  have HJ := Lib.hid hje
                  by_cases hjs : j < s.size
                  · have HD4 := Lib.hid (show isD s[j] = false by have := HC3.out (by rw [← HJ.out]; exact hjs); simp only [← HJ.out] at this; exact this)
                    clear hje hjl
                    go_wp2_with (go_at_call 20; (with_reducible refine (rdigit_all s[j] _ rfl _).mono ?_); rw [HD4.out]; rintro e w' ⟨rfl, rfl⟩)
                    go_ret
                    exact ⟨ret_int (by have h1 := HN2.out; have h2 := HV.out; have h3 := HJ.out; omega), rfl⟩
                  · clear hje hjl
                    go_wp2
                    go_ret
                    exact ⟨ret_int (by have h1 := HN2.out; have h2 := HV.out; have h3 := HJ.out; omega), rfl⟩
          · obtain ⟨hc0, hc⟩ := hc
            have HS := Lib.hid (sg_no hq (of_bne 43 rfl hc0) (of_bne 45 rfl hc))
            have HPW := Lib.hid (pw_e hp HE.out HS.out)
            have hd := hq
            cases hdd : isD s[k + 1] with
            | false =>
              have HV := Lib.hid (show pw (sx s k) = 0 by rw [HPW.out, dg_no hd hdd, if_pos rfl])
              have HD3 := Lib.hid hdd
              clear hdd
              go_wp2_with (first | (go_at_call 20; (with_reducible refine (rdigit_all s[k] _ rfl _).mono ?_); rw [HD.out]; rintro e w' ⟨rfl, rfl⟩) | (go_at_call 20; (with_reducible refine (rdigit_all s[k + 1] _ rfl _).mono ?_); rw [HD3.out]; rintro e w' ⟨rfl, rfl⟩))
              go_ret
              exact ⟨ret_int (by have h1 := HN2.out; have h2 := HV.out; omega), rfl⟩
            | true =>
              obtain ⟨G, hG, hC1, hC2, hC3⟩ := dg_spec s (k + 1) (by omega)
              have HV := Lib.hid (show pw (sx s k) = 1 + G by rw [HPW.out, if_neg (dg_yes hd hdd), hG])
              have HC2 := Lib.hid hC2
              have HC3 := Lib.hid hC3
              have HD3 := Lib.hid hdd
              clear hdd hG hC2 hC3
              go_wp2_with (first | (go_at_call 20; (with_reducible refine (rdigit_all s[k] _ rfl _).mono ?_); rw [HD.out]; rintro e w' ⟨rfl, rfl⟩) | (go_at_call 20; (with_reducible refine (rdigit_all s[k + 1] _ rfl _).mono ?_); rw [HD3.out]; rintro e w' ⟨rfl, rfl⟩))
              go_loop [5] (fun jv => ∃ j : Nat, k + 1 ≤ j ∧ j ≤ k + 1 + G ∧ jv = .int .i64 j) (fun jv => s.size - (intOf jv).toNat)
              case atStart => exact ⟨k + 1, Nat.le_refl _, by omega, by go_num⟩
              case round =>
                obtain ⟨j, hj1, hj2, rfl⟩ := hrel
                by_cases hjl : j < k + 1 + G
                · have hjs : j < s.size := by omega
                  have HD4 := Lib.hid (HC2.out j hjs (by omega) hjl)
                  go_wp2_with (go_at_call 20; (with_reducible refine (rdigit_all s[j] _ rfl _).mono ?_); rw [HD4.out]; rintro e w' ⟨rfl, rfl⟩)
                  go_round
                  case rel => exact ⟨j + 1, by omega, by omega, by go_num⟩
                  case measure => simp [intOf]; omega
                · have hje : j = k + 1 + G := by omega
                  have HJ := Lib.hid hje
                  by_cases hjs : j < s.size
                  · have HD4 := Lib.hid (show isD s[j] = false by have := HC3.out (by rw [← HJ.out]; exact hjs); simp only [← HJ.out] at this; exact this)
                    clear hje hjl
                    go_wp2_with (go_at_call 20; (with_reducible refine (rdigit_all s[j] _ rfl _).mono ?_); rw [HD4.out]; rintro e w' ⟨rfl, rfl⟩)
                    go_ret
                    exact ⟨ret_int (by have h1 := HN2.out; have h2 := HV.out; have h3 := HJ.out; omega), rfl⟩
                  · clear hje hjl
                    go_wp2
                    go_ret
                    exact ⟨ret_int (by have h1 := HN2.out; have h2 := HV.out; have h3 := HJ.out; omega), rfl⟩
        · obtain ⟨hb0, hb⟩ := hb
          have HE := Lib.hid (show s[k] = 101 ∨ s[k] = 69 from Or.inr (of_beq 69 rfl hb))
          rcases (show s.size ≤ k + 1 ∨ ∃ h : k + 1 < s.size, ((s[k + 1].toNat : Int) == 43) = true ∨ (((s[k + 1].toNat : Int) == 43) = false ∧ ((s[k + 1].toNat : Int) == 45) = true) ∨ (((s[k + 1].toNat : Int) == 43) = false ∧ ((s[k + 1].toNat : Int) == 45) = false) by
            rcases Nat.lt_or_ge (k + 1) s.size with h | h
            · right; refine ⟨h, ?_⟩; rcases bool_or ((s[k + 1].toNat : Int) == 43) with h1 | h1; exact Or.inl h1; rcases bool_or ((s[k + 1].toNat : Int) == 45) with h2 | h2; exact Or.inr (Or.inl ⟨h1, h2⟩); exact Or.inr (Or.inr ⟨h1, h2⟩)
            · exact Or.inl h) with hq | ⟨hq, hc | hc | hc⟩
          · have HV := Lib.hid (show pw (sx s k) = 0 by rw [pw_e hp HE.out (sg_end hq), dg_end (by omega), if_pos rfl])
            have hpe : s.size = k + 1 := by omega
            have hpl : ¬ ((k : Int) + 1 < (s.size : Int)) := by omega
            clear hpe
            go_wp2_with (first | (go_at_call 20; (with_reducible refine (rdigit_all s[k] _ rfl _).mono ?_); rw [HD.out]; rintro e w' ⟨rfl, rfl⟩))
            go_ret
            exact ⟨ret_int (by have h1 := HN2.out; have h2 := HV.out; omega), rfl⟩
          · have HS := Lib.hid (sg_yes hq (Or.inl (of_beq 43 rfl hc)))
            have HPW := Lib.hid (pw_e hp HE.out HS.out)
            rcases Nat.lt_or_ge (k + 2) s.size with hd | hd
            rotate_left
            · have HV := Lib.hid (show pw (sx s k) = 0 by rw [HPW.out, dg_end hd, if_pos rfl])
              have hpl : ¬ ((k : Int) + 1 + 1 < (s.size : Int)) := by omega
              go_wp2_with (first | (go_at_call 20; (with_reducible refine (rdigit_all s[k] _ rfl _).mono ?_); rw [HD.out]; rintro e w' ⟨rfl, rfl⟩))
              go_ret
              exact ⟨ret_int (by have h1 := HN2.out; have h2 := HV.out; omega), rfl⟩
            cases hdd : isD s[k + 2] with
            | false =>
              have HV := Lib.hid (show pw (sx s k) = 0 by rw [HPW.out, dg_no hd hdd, if_pos rfl])
              have HD3 := Lib.hid hdd
              clear hdd
              go_wp2_with (first | (go_at_call 20; (with_reducible refine (rdigit_all s[k] _ rfl _).mono ?_); rw [HD.out]; rintro e w' ⟨rfl, rfl⟩) | (go_at_call 20; (with_reducible refine (rdigit_all s[k + 2] _ rfl _).mono ?_); rw [HD3.out]; rintro e w' ⟨rfl, rfl⟩))
              go_ret
              exact ⟨ret_int (by have h1 := HN2.out; have h2 := HV.out; omega), rfl⟩
            | true =>
              obtain ⟨G, hG, hC1, hC2, hC3⟩ := dg_spec s (k + 2) (by omega)
              have HV := Lib.hid (show pw (sx s k) = 2 + G by rw [HPW.out, if_neg (dg_yes hd hdd), hG])
              have HC2 := Lib.hid hC2
              have HC3 := Lib.hid hC3
              have HD3 := Lib.hid hdd
              clear hdd hG hC2 hC3
              go_wp2_with (first | (go_at_call 20; (with_reducible refine (rdigit_all s[k] _ rfl _).mono ?_); rw [HD.out]; rintro e w' ⟨rfl, rfl⟩) | (go_at_call 20; (with_reducible refine (rdigit_all s[k + 2] _ rfl _).mono ?_); rw [HD3.out]; rintro e w' ⟨rfl, rfl⟩))
              go_loop [5] (fun jv => ∃ j : Nat, k + 2 ≤ j ∧ j ≤ k + 2 + G ∧ jv = .int .i64 j) (fun jv => s.size - (intOf jv).toNat)
              case atStart => exact ⟨k + 2, Nat.le_refl _, by omega, by go_num⟩
              case round =>
                obtain ⟨j, hj1, hj2, rfl⟩ := hrel
                by_cases hjl : j < k + 2 + G
                · have hjs : j < s.size := by omega
                  have HD4 := Lib.hid (HC2.out j hjs (by omega) hjl)
                  go_wp2_with (go_at_call 20; (with_reducible refine (rdigit_all s[j] _ rfl _).mono ?_); rw [HD4.out]; rintro e w' ⟨rfl, rfl⟩)
                  go_round
                  case rel => exact ⟨j + 1, by omega, by omega, by go_num⟩
                  case measure => simp [intOf]; omega
                · have hje : j = k + 2 + G := by omega
                  have HJ := Lib.hid hje
                  by_cases hjs : j < s.size
                  · have HD4 := Lib.hid (show isD s[j] = false by have := HC3.out (by rw [← HJ.out]; exact hjs); simp only [← HJ.out] at this; exact this)
                    clear hje hjl
                    go_wp2_with (go_at_call 20; (with_reducible refine (rdigit_all s[j] _ rfl _).mono ?_); rw [HD4.out]; rintro e w' ⟨rfl, rfl⟩)
                    go_ret
                    exact ⟨ret_int (by have h1 := HN2.out; have h2 := HV.out; have h3 := HJ.out; omega), rfl⟩
                  · clear hje hjl
                    go_wp2
                    go_ret
                    exact ⟨ret_int (by have h1 := HN2.out; have h2 := HV.out; have h3 := HJ.out; omega), rfl⟩
          · obtain ⟨hc0, hc⟩ := hc
            have HS := Lib.hid (sg_yes hq (Or.inr (of_beq 45 rfl hc)))
            have HPW := Lib.hid (pw_e hp HE.out HS.out)
            rcases Nat.lt_or_ge (k + 2) s.size with hd | hd
            rotate_left
            · have HV := Lib.hid (show pw (sx s k) = 0 by rw [HPW.out, dg_end hd, if_pos rfl])
              have hpl : ¬ ((k : Int) + 1 + 1 < (s.size : Int)) := by omega
              go_wp2_with (first | (go_at_call 20; (with_reducible refine (rdigit_all s[k] _ rfl _).mono ?_); rw [HD.out]; rintro e w' ⟨rfl, rfl⟩))
              go_ret
              exact ⟨ret_int (by have h1 := HN2.out; have h2 := HV.out; omega), rfl⟩
            cases hdd : isD s[k + 2] with
            | false =>
              have HV := Lib.hid (show pw (sx s k) = 0 by rw [HPW.out, dg_no hd hdd, if_pos rfl])
              have HD3 := Lib.hid hdd
              clear hdd
              go_wp2_with (first | (go_at_call 20; (with_reducible refine (rdigit_all s[k] _ rfl _).mono ?_); rw [HD.out]; rintro e w' ⟨rfl, rfl⟩) | (go_at_call 20; (with_reducible refine (rdigit_all s[k + 2] _ rfl _).mono ?_); rw [HD3.out]; rintro e w' ⟨rfl, rfl⟩))
              go_ret
              exact ⟨ret_int (by have h1 := HN2.out; have h2 := HV.out; omega), rfl⟩
            | true =>
              obtain ⟨G, hG, hC1, hC2, hC3⟩ := dg_spec s (k + 2) (by omega)
              have HV := Lib.hid (show pw (sx s k) = 2 + G by rw [HPW.out, if_neg (dg_yes hd hdd), hG])
              have HC2 := Lib.hid hC2
              have HC3 := Lib.hid hC3
              have HD3 := Lib.hid hdd
              clear hdd hG hC2 hC3
              go_wp2_with (first | (go_at_call 20; (with_reducible refine (rdigit_all s[k] _ rfl _).mono ?_); rw [HD.out]; rintro e w' ⟨rfl, rfl⟩) | (go_at_call 20; (with_reducible refine (rdigit_all s[k + 2] _ rfl _).mono ?_); rw [HD3.out]; rintro e w' ⟨rfl, rfl⟩))
              go_loop [5] (fun jv => ∃ j : Nat, k + 2 ≤ j ∧ j ≤ k + 2 + G ∧ jv = .int .i64 j) (fun jv => s.size - (intOf jv).toNat)
              case atStart => exact ⟨k + 2, Nat.le_refl _, by omega, by go_num⟩
              case round =>
                obtain ⟨j, hj1, hj2, rfl⟩ := hrel
                by_cases hjl : j < k + 2 + G
                · have hjs : j < s.size := by omega
                  have HD4 := Lib.hid (HC2.out j hjs (by omega) hjl)
                  go_wp2_with (go_at_call 20; (with_reducible refine (rdigit_all s[j] _ rfl _).mono ?_); rw [HD4.out]; rintro e w' ⟨rfl, rfl⟩)
                  go_round
                  case rel => exact ⟨j + 1, by omega, by omega, by go_num⟩
                  case measure => simp [intOf]; omega
                · have hje : j = k + 2 + G := by omega
                  have HJ := Lib.hid hje
                  by_cases hjs : j < s.size
                  · have HD4 := Lib.hid (show isD s[j] = false by have := HC3.out (by rw [← HJ.out]; exact hjs); simp only [← HJ.out] at this; exact this)
                    clear hje hjl
                    go_wp2_with (go_at_call 20; (with_reducible refine (rdigit_all s[j] _ rfl _).mono ?_); rw [HD4.out]; rintro e w' ⟨rfl, rfl⟩)
                    go_ret
                    exact ⟨ret_int (by have h1 := HN2.out; have h2 := HV.out; have h3 := HJ.out; omega), rfl⟩
                  · clear hje hjl
                    go_wp2
                    go_ret
                    exact ⟨ret_int (by have h1 := HN2.out; have h2 := HV.out; have h3 := HJ.out; omega), rfl⟩
          · obtain ⟨hc0, hc⟩ := hc
            have HS := Lib.hid (sg_no hq (of_bne 43 rfl hc0) (of_bne 45 rfl hc))
            have HPW := Lib.hid (pw_e hp HE.out HS.out)
            have hd := hq
            cases hdd : isD s[k + 1] with
            | false =>
              have HV := Lib.hid (show pw (sx s k) = 0 by rw [HPW.out, dg_no hd hdd, if_pos rfl])
              have HD3 := Lib.hid hdd
              clear hdd
              go_wp2_with (first | (go_at_call 20; (with_reducible refine (rdigit_all s[k] _ rfl _).mono ?_); rw [HD.out]; rintro e w' ⟨rfl, rfl⟩) | (go_at_call 20; (with_reducible refine (rdigit_all s[k + 1] _ rfl _).mono ?_); rw [HD3.out]; rintro e w' ⟨rfl, rfl⟩))
              go_ret
              exact ⟨ret_int (by have h1 := HN2.out; have h2 := HV.out; omega), rfl⟩
            | true =>
              obtain ⟨G, hG, hC1, hC2, hC3⟩ := dg_spec s (k + 1) (by omega)
              have HV := Lib.hid (show pw (sx s k) = 1 + G by rw [HPW.out, if_neg (dg_yes hd hdd), hG])
              have HC2 := Lib.hid hC2
              have HC3 := Lib.hid hC3
              have HD3 := Lib.hid hdd
              clear hdd hG hC2 hC3
              go_wp2_with (first | (go_at_call 20; (with_reducible refine (rdigit_all s[k] _ rfl _).mono ?_); rw [HD.out]; rintro e w' ⟨rfl, rfl⟩) | (go_at_call 20; (with_reducible refine (rdigit_all s[k + 1] _ rfl _).mono ?_); rw [HD3.out]; rintro e w' ⟨rfl, rfl⟩))
              go_loop [5] (fun jv => ∃ j : Nat, k + 1 ≤ j ∧ j ≤ k + 1 + G ∧ jv = .int .i64 j) (fun jv => s.size - (intOf jv).toNat)
              case atStart => exact ⟨k + 1, Nat.le_refl _, by omega, by go_num⟩
              case round =>
                obtain ⟨j, hj1, hj2, rfl⟩ := hrel
                by_cases hjl : j < k + 1 + G
                · have hjs : j < s.size := by omega
                  have HD4 := Lib.hid (HC2.out j hjs (by omega) hjl)
                  go_wp2_with (go_at_call 20; (with_reducible refine (rdigit_all s[j] _ rfl _).mono ?_); rw [HD4.out]; rintro e w' ⟨rfl, rfl⟩)
                  go_round
                  case rel => exact ⟨j + 1, by omega, by omega, by go_num⟩
                  case measure => simp [intOf]; omega
                · have hje : j = k + 1 + G := by omega
                  have HJ := Lib.hid hje
                  by_cases hjs : j < s.size
                  · have HD4 := Lib.hid (show isD s[j] = false by have := HC3.out (by rw [← HJ.out]; exact hjs); simp only [← HJ.out] at this; exact this)
                    clear hje hjl
                    go_wp2_with (go_at_call 20; (with_reducible refine (rdigit_all s[j] _ rfl _).mono ?_); rw [HD4.out]; rintro e w' ⟨rfl, rfl⟩)
                    go_ret
                    exact ⟨ret_int (by have h1 := HN2.out; have h2 := HV.out; have h3 := HJ.out; omega), rfl⟩
                  · clear hje hjl
                    go_wp2
                    go_ret
                    exact ⟨ret_int (by have h1 := HN2.out; have h2 := HV.out; have h3 := HJ.out; omega), rfl⟩
        · obtain ⟨hb0, hb⟩ := hb
          have HV := Lib.hid (pw_no hp (of_bne 101 rfl hb0) (of_bne 69 rfl hb))
          go_wp2_with (first | (go_at_call 20; (with_reducible refine (rdigit_all s[k] _ rfl _).mono ?_); rw [HD.out]; rintro e w' ⟨rfl, rfl⟩))
          go_ret
          exact ⟨ret_int (by have h1 := HN2.out; have h2 := HV.out; omega), rfl⟩
    -- a point
    obtain ⟨b, hbd, hB1, hB2, hB3⟩ := dg_spec s (k + 1) (by omega)
    have HN := Lib.hid (nm_pt (l := s.data.toList) (a := k) (b := b) HDA.out (by rw [sx_drop, sx_cons s k hks, of_beq 46 rfl h46]; rfl) hbd rfl)
    have HB2 := Lib.hid hB2
    have HB3 := Lib.hid hB3
    have HBD := Lib.hid hbd
    clear hB2 hB3 hbd
    by_cases hz : k = 0 ∧ b = 0
    · obtain ⟨rfl, rfl⟩ := hz
      by_cases h1 : 1 < s.size
      · have HD1 := Lib.hid (show isD s[1] = false from HB3.out h1)
        go_wp2_with (first | (go_at_call 20; (with_reducible refine (rdigit_all s[0] _ rfl _).mono ?_); rw [HD.out]; rintro e w' ⟨rfl, rfl⟩) | (go_at_call 20; (with_reducible refine (rdigit_all s[1] _ rfl _).mono ?_); rw [HD1.out]; rintro e w' ⟨rfl, rfl⟩))
        go_ret
        exact ⟨ret_int (by rw [HN.out]; rfl), rfl⟩
      · have h1' : ¬ (1 : Int) < (s.size : Int) := by omega
        clear h1
        go_wp2_with (go_at_call 20; (with_reducible refine (rdigit_all s[0] _ rfl _).mono ?_); rw [HD.out]; rintro e w' ⟨rfl, rfl⟩)
        go_ret
        exact ⟨ret_int (by rw [HN.out]; rfl), rfl⟩
    have HN2 := Lib.hid (show nm s.data.toList = (k + 1 + b) + pw (sx s (k + 1 + b)) by rw [HN.out, if_neg (by omega)]; rfl)
    have hcond : 0 < k ∨ (k = 0 ∧ 0 < b ∧ ∃ h : 1 < s.size, isD s[1] = true) := by
      by_cases h0 : k = 0
      · subst h0
        right
        have hb0 : 0 < b := by omega
        exact ⟨rfl, hb0, by omega, HB2.out 1 (by omega) (by omega) (by omega)⟩
      · left; omega
    have HZ := Lib.hid hz
    clear hz HN
    rcases hcond with h0' | ⟨rfl, hbp, h1s, hd1⟩
    · go_wp2_with (first | (go_at_call 20; (with_reducible refine (rdigit_all s[k] _ rfl _).mono ?_); rw [HD.out]; rintro e w' ⟨rfl, rfl⟩))
      go_loop [3, 4] (fun iv sv => ∃ (j : Nat) (x : Bool), k + 1 ≤ j ∧ j ≤ k + 1 + b ∧ iv = .int .i64 j ∧ sv = .bool x ∧ Hid (j = k + 1 + b → x = true) ∧ Hid (0 < k ∨ k + 1 < j → x = true)) (fun iv _ => s.size - (intOf iv).toNat)
      case atStart => exact ⟨k + 1, true, Nat.le_refl _, by omega, by go_num, by simp [h0'], Lib.hid (fun _ => rfl), Lib.hid (fun _ => rfl)⟩
      case round =>
        obtain ⟨p, x, hj1, hj2, rfl, rfl, HX1, HX2⟩ := hrel
        by_cases hjl : p < k + 1 + b
        · have hjs : p < s.size := by omega
          have HD4 := Lib.hid (HB2.out p hjs (by omega) hjl)
          clear HX1 HX2
          go_wp2_with (go_at_call 20; (with_reducible refine (rdigit_all s[p] _ rfl _).mono ?_); rw [HD4.out]; rintro e w' ⟨rfl, rfl⟩)
          go_round
          case rel => exact ⟨p + 1, true, by omega, by omega, by go_num, rfl, Lib.hid (fun _ => rfl), Lib.hid (fun _ => rfl)⟩
          case measure => simp [intOf]; omega
        have hje : p = k + 1 + b := by omega
        obtain rfl : x = true := HX1.out hje
        have HNP := Lib.hid (show nm s.data.toList = p + pw (sx s p) by rw [HN2.out, hje])
        have HD5 := Lib.hid (show ∀ h : p < s.size, isD s[p] = false by intro h; have := HB3.out (by rw [← hje]; exact h); simp only [← hje] at this; exact this)
        have hps : p ≤ s.size := by omega
        clear hje hjl HX1 HX2 HN2
        rcases (show s.size ≤ p ∨ ∃ h : p < s.size, ((s[p].toNat : Int) == 101) = true ∨ (((s[p].toNat : Int) == 101) = false ∧ ((s[p].toNat : Int) == 69) = true) ∨ (((s[p].toNat : Int) == 101) = false ∧ ((s[p].toNat : Int) == 69) = false) by
          rcases Nat.lt_or_ge p s.size with h | h
          · right; refine ⟨h, ?_⟩; rcases bool_or ((s[p].toNat : Int) == 101) with h1 | h1; exact Or.inl h1; rcases bool_or ((s[p].toNat : Int) == 69) with h2 | h2; exact Or.inr (Or.inl ⟨h1, h2⟩); exact Or.inr (Or.inr ⟨h1, h2⟩)
          · exact Or.inl h) with hp | ⟨hp, hb | hb | hb⟩
        · have HV := Lib.hid (pw_end hp)
          go_wp2_with (first | (go_at_call 20; (with_reducible refine (rdigit_all s[p] _ rfl _).mono ?_); rw [HD5.out (by assumption)]; rintro e w' ⟨rfl, rfl⟩))
          go_ret
          exact ⟨ret_int (by have h1 := HNP.out; have h2 := HV.out; omega), rfl⟩
        · have HE := Lib.hid (show s[p] = 101 ∨ s[p] = 69 from Or.inl (of_beq 101 rfl hb))
          rcases (show s.size ≤ p + 1 ∨ ∃ h : p + 1 < s.size, ((s[p + 1].toNat : Int) == 43) = true ∨ (((s[p + 1].toNat : Int) == 43) = false ∧ ((s[p + 1].toNat : Int) == 45) = true) ∨ (((s[p + 1].toNat : Int) == 43) = false ∧ ((s[p + 1].toNat : Int) == 45) = false) by
            rcases Nat.lt_or_ge (p + 1) s.size with h | h
            · right; refine ⟨h, ?_⟩; rcases bool_or ((s[p + 1].toNat : Int) == 43) with h1 | h1; exact Or.inl h1; rcases bool_or ((s[p + 1].toNat : Int) == 45) with h2 | h2; exact Or.inr (Or.inl ⟨h1, h2⟩); exact Or.inr (Or.inr ⟨h1, h2⟩)
            · exact Or.inl h) with hq | ⟨hq, hc | hc | hc⟩
          · have HV := Lib.hid (show pw (sx s p) = 0 by rw [pw_e hp HE.out (sg_end hq), dg_end (by omega), if_pos rfl])
            have hpe : s.size = p + 1 := by omega
            have hpl : ¬ ((p : Int) + 1 < (s.size : Int)) := by omega
            clear hpe
            go_wp2_with (first | (go_at_call 20; (with_reducible refine (rdigit_all s[p] _ rfl _).mono ?_); rw [HD5.out (by assumption)]; rintro e w' ⟨rfl, rfl⟩))
            go_ret
            exact ⟨ret_int (by have h1 := HNP.out; have h2 := HV.out; omega), rfl⟩
          · have HS := Lib.hid (sg_yes hq (Or.inl (of_beq 43 rfl hc)))
            have HPW := Lib.hid (pw_e hp HE.out HS.out)
            rcases Nat.lt_or_ge (p + 2) s.size with hd | hd
            rotate_left
            · have HV := Lib.hid (show pw (sx s p) = 0 by rw [HPW.out, dg_end hd, if_pos rfl])
              have hpl : ¬ ((p : Int) + 1 + 1 < (s.size : Int)) := by omega
              go_wp2_with (first | (go_at_call 20; (with_reducible refine (rdigit_all s[p] _ rfl _).mono ?_); rw [HD5.out (by assumption)]; rintro e w' ⟨rfl, rfl⟩))
              go_ret
              exact ⟨ret_int (by have h1 := HNP.out; have h2 := HV.out; omega), rfl⟩
            cases hdd : isD s[p + 2] with
            | false =>
              have HV := Lib.hid (show pw (sx s p) = 0 by rw [HPW.out, dg_no hd hdd, if_pos rfl])
              have HD3 := Lib.hid hdd
              clear hdd
              go_wp2_with (first | (go_at_call 20; (with_reducible refine (rdigit_all s[p] _ rfl _).mono ?_); rw [HD5.out (by assumption)]; rintro e w' ⟨rfl, rfl⟩) | (go_at_call 20; (with_reducible refine (rdigit_all s[p + 2] _ rfl _).mono ?_); rw [HD3.out]; rintro e w' ⟨rfl, rfl⟩))
              go_ret
              exact ⟨ret_int (by have h1 := HNP.out; have h2 := HV.out; omega), rfl⟩
            | true =>
              obtain ⟨G, hG, hC1, hC2, hC3⟩ := dg_spec s (p + 2) (by omega)
              have HV := Lib.hid (show pw (sx s p) = 2 + G by rw [HPW.out, if_neg (dg_yes hd hdd), hG])
              have HC2 := Lib.hid hC2
              have HC3 := Lib.hid hC3
              have HD3 := Lib.hid hdd
              clear hdd hG hC2 hC3
              go_wp2_with (first | (go_at_call 20; (with_reducible refine (rdigit_all s[p] _ rfl _).mono ?_); rw [HD5.out (by assumption)]; rintro e w' ⟨rfl, rfl⟩) | (go_at_call 20; (with_reducible refine (rdigit_all s[p + 2] _ rfl _).mono ?_); rw [HD3.out]; rintro e w' ⟨rfl, rfl⟩))
              go_loop [5] (fun jv => ∃ j : Nat, p + 2 ≤ j ∧ j ≤ p + 2 + G ∧ jv = .int .i64 j) (fun jv => s.size - (intOf jv).toNat)
              case atStart => exact ⟨p + 2, Nat.le_refl _, by omega, by go_num⟩
              case round =>
                obtain ⟨j, hj1, hj2, rfl⟩ := hrel
                by_cases hjl : j < p + 2 + G
                · have hjs : j < s.size := by omega
                  have HD4 := Lib.hid (HC2.out j hjs (by omega) hjl)
                  go_wp2_with (go_at_call 20; (with_reducible refine (rdigit_all s[j] _ rfl _).mono ?_); rw [HD4.out]; rintro e w' ⟨rfl, rfl⟩)
                  go_round
                  case rel => exact ⟨j + 1, by omega, by omega, by go_num⟩
                  case measure => simp [intOf]; omega
                · have hje : j = p + 2 + G := by omega
                  have HJ := Lib.hid hje
                  by_cases hjs : j < s.size
                  · have HD4 := Lib.hid (show isD s[j] = false by have := HC3.out (by rw [← HJ.out]; exact hjs); simp only [← HJ.out] at this; exact this)
                    clear hje hjl
                    go_wp2_with (go_at_call 20; (with_reducible refine (rdigit_all s[j] _ rfl _).mono ?_); rw [HD4.out]; rintro e w' ⟨rfl, rfl⟩)
                    go_ret
                    exact ⟨ret_int (by have h1 := HNP.out; have h2 := HV.out; have h3 := HJ.out; omega), rfl⟩
                  · clear hje hjl
                    go_wp2
                    go_ret
                    exact ⟨ret_int (by have h1 := HNP.out; have h2 := HV.out; have h3 := HJ.out; omega), rfl⟩
          · obtain ⟨hc0, hc⟩ := hc
            have HS := Lib.hid (sg_yes hq (Or.inr (of_beq 45 rfl hc)))
            have HPW := Lib.hid (pw_e hp HE.out HS.out)
            rcases Nat.lt_or_ge (p + 2) s.size with hd | hd
            rotate_left
            · have HV := Lib.hid (show pw (sx s p) = 0 by rw [HPW.out, dg_end hd, if_pos rfl])
              have hpl : ¬ ((p : Int) + 1 + 1 < (s.size : Int)) := by omega
              go_wp2_with (first | (go_at_call 20; (with_reducible refine (rdigit_all s[p] _ rfl _).mono ?_); rw [HD5.out (by assumption)]; rintro e w' ⟨rfl, rfl⟩))
              go_ret
              exact ⟨ret_int (by have h1 := HNP.out; have h2 := HV.out; omega), rfl⟩
            cases hdd : isD s[p + 2] with
            | false =>
              have HV := Lib.hid (show pw (sx s p) = 0 by rw [HPW.out, dg_no hd hdd, if_pos rfl])
              have HD3 := Lib.hid hdd
              clear hdd
              go_wp2_with (first | (go_at_call 20; (with_reducible refine (rdigit_all s[p] _ rfl _).mono ?_); rw [HD5.out (by assumption)]; rintro e w' ⟨rfl, rfl⟩) | (go_at_call 20; (with_reducible refine (rdigit_all s[p + 2] _ rfl _).mono ?_); rw [HD3.out]; rintro e w' ⟨rfl, rfl⟩))
              go_ret
              exact ⟨ret_int (by have h1 := HNP.out; have h2 := HV.out; omega), rfl⟩
            | true =>
              obtain ⟨G, hG, hC1, hC2, hC3⟩ := dg_spec s (p + 2) (by omega)
              have HV := Lib.hid (show pw (sx s p) = 2 + G by rw [HPW.out, if_neg (dg_yes hd hdd), hG])
              have HC2 := Lib.hid hC2
              have HC3 := Lib.hid hC3
              have HD3 := Lib.hid hdd
              clear hdd hG hC2 hC3
              go_wp2_with (first | (go_at_call 20; (with_reducible refine (rdigit_all s[p] _ rfl _).mono ?_); rw [HD5.out (by assumption)]; rintro e w' ⟨rfl, rfl⟩) | (go_at_call 20; (with_reducible refine (rdigit_all s[p + 2] _ rfl _).mono ?_); rw [HD3.out]; rintro e w' ⟨rfl, rfl⟩))
              go_loop [5] (fun jv => ∃ j : Nat, p + 2 ≤ j ∧ j ≤ p + 2 + G ∧ jv = .int .i64 j) (fun jv => s.size - (intOf jv).toNat)
              case atStart => exact ⟨p + 2, Nat.le_refl _, by omega, by go_num⟩
              case round =>
                obtain ⟨j, hj1, hj2, rfl⟩ := hrel
                by_cases hjl : j < p + 2 + G
                · have hjs : j < s.size := by omega
                  have HD4 := Lib.hid (HC2.out j hjs (by omega) hjl)
                  go_wp2_with (go_at_call 20; (with_reducible refine (rdigit_all s[j] _ rfl _).mono ?_); rw [HD4.out]; rintro e w' ⟨rfl, rfl⟩)
                  go_round
                  case rel => exact ⟨j + 1, by omega, by omega, by go_num⟩
                  case measure => simp [intOf]; omega
                · have hje : j = p + 2 + G := by omega
                  have HJ := Lib.hid hje
                  by_cases hjs : j < s.size
                  · have HD4 := Lib.hid (show isD s[j] = false by have := HC3.out (by rw [← HJ.out]; exact hjs); simp only [← HJ.out] at this; exact this)
                    clear hje hjl
                    go_wp2_with (go_at_call 20; (with_reducible refine (rdigit_all s[j] _ rfl _).mono ?_); rw [HD4.out]; rintro e w' ⟨rfl, rfl⟩)
                    go_ret
                    exact ⟨ret_int (by have h1 := HNP.out; have h2 := HV.out; have h3 := HJ.out; omega), rfl⟩
                  · clear hje hjl
                    go_wp2
                    go_ret
                    exact ⟨ret_int (by have h1 := HNP.out; have h2 := HV.out; have h3 := HJ.out; omega), rfl⟩
          · obtain ⟨hc0, hc⟩ := hc
            have HS := Lib.hid (sg_no hq (of_bne 43 rfl hc0) (of_bne 45 rfl hc))
            have HPW := Lib.hid (pw_e hp HE.out HS.out)
            have hd := hq
            cases hdd : isD s[p + 1] with
            | false =>
              have HV := Lib.hid (show pw (sx s p) = 0 by rw [HPW.out, dg_no hd hdd, if_pos rfl])
              have HD3 := Lib.hid hdd
              clear hdd
              go_wp2_with (first | (go_at_call 20; (with_reducible refine (rdigit_all s[p] _ rfl _).mono ?_); rw [HD5.out (by assumption)]; rintro e w' ⟨rfl, rfl⟩) | (go_at_call 20; (with_reducible refine (rdigit_all s[p + 1] _ rfl _).mono ?_); rw [HD3.out]; rintro e w' ⟨rfl, rfl⟩))
              go_ret
              exact ⟨ret_int (by have h1 := HNP.out; have h2 := HV.out; omega), rfl⟩
            | true =>
              obtain ⟨G, hG, hC1, hC2, hC3⟩ := dg_spec s (p + 1) (by omega)
              have HV := Lib.hid (show pw (sx s p) = 1 + G by rw [HPW.out, if_neg (dg_yes hd hdd), hG])
              have HC2 := Lib.hid hC2
              have HC3 := Lib.hid hC3
              have HD3 := Lib.hid hdd
              clear hdd hG hC2 hC3
              go_wp2_with (first | (go_at_call 20; (with_reducible refine (rdigit_all s[p] _ rfl _).mono ?_); rw [HD5.out (by assumption)]; rintro e w' ⟨rfl, rfl⟩) | (go_at_call 20; (with_reducible refine (rdigit_all s[p + 1] _ rfl _).mono ?_); rw [HD3.out]; rintro e w' ⟨rfl, rfl⟩))
              go_loop [5] (fun jv => ∃ j : Nat, p + 1 ≤ j ∧ j ≤ p + 1 + G ∧ jv = .int .i64 j) (fun jv => s.size - (intOf jv).toNat)
              case atStart => exact ⟨p + 1, Nat.le_refl _, by omega, by go_num⟩
              case round =>
                obtain ⟨j, hj1, hj2, rfl⟩ := hrel
                by_cases hjl : j < p + 1 + G
                · have hjs : j < s.size := by omega
                  have HD4 := Lib.hid (HC2.out j hjs (by omega) hjl)
                  go_wp2_with (go_at_call 20; (with_reducible refine (rdigit_all s[j] _ rfl _).mono ?_); rw [HD4.out]; rintro e w' ⟨rfl, rfl⟩)
                  go_round
                  case rel => exact ⟨j + 1, by omega, by omega, by go_num⟩
                  case measure => simp [intOf]; omega
                · have hje : j = p + 1 + G := by omega
                  have HJ := Lib.hid hje
                  by_cases hjs : j < s.size
                  · have HD4 := Lib.hid (show isD s[j] = false by have := HC3.out (by rw [← HJ.out]; exact hjs); simp only [← HJ.out] at this; exact this)
                    clear hje hjl
                    go_wp2_with (go_at_call 20; (with_reducible refine (rdigit_all s[j] _ rfl _).mono ?_); rw [HD4.out]; rintro e w' ⟨rfl, rfl⟩)
                    go_ret
                    exact ⟨ret_int (by have h1 := HNP.out; have h2 := HV.out; have h3 := HJ.out; omega), rfl⟩
                  · clear hje hjl
                    go_wp2
                    go_ret
                    exact ⟨ret_int (by have h1 := HNP.out; have h2 := HV.out; have h3 := HJ.out; omega), rfl⟩
        · obtain ⟨hb0, hb⟩ := hb
          have HE := Lib.hid (show s[p] = 101 ∨ s[p] = 69 from Or.inr (of_beq 69 rfl hb))
          rcases (show s.size ≤ p + 1 ∨ ∃ h : p + 1 < s.size, ((s[p + 1].toNat : Int) == 43) = true ∨ (((s[p + 1].toNat : Int) == 43) = false ∧ ((s[p + 1].toNat : Int) == 45) = true) ∨ (((s[p + 1].toNat : Int) == 43) = false ∧ ((s[p + 1].toNat : Int) == 45) = false) by
            rcases Nat.lt_or_ge (p + 1) s.size with h | h
            · right; refine ⟨h, ?_⟩; rcases bool_or ((s[p + 1].toNat : Int) == 43) with h1 | h1; exact Or.inl h1; rcases bool_or ((s[p + 1].toNat : Int) == 45) with h2 | h2; exact Or.inr (Or.inl ⟨h1, h2⟩); exact Or.inr (Or.inr ⟨h1, h2⟩)
            · exact Or.inl h) with hq | ⟨hq, hc | hc | hc⟩
          · have HV := Lib.hid (show pw (sx s p) = 0 by rw [pw_e hp HE.out (sg_end hq), dg_end (by omega), if_pos rfl])
            have hpe : s.size = p + 1 := by omega
            have hpl : ¬ ((p : Int) + 1 < (s.size : Int)) := by omega
            clear hpe
            go_wp2_with (first | (go_at_call 20; (with_reducible refine (rdigit_all s[p] _ rfl _).mono ?_); rw [HD5.out (by assumption)]; rintro e w' ⟨rfl, rfl⟩))
            go_ret
            exact ⟨ret_int (by have h1 := HNP.out; have h2 := HV.out; omega), rfl⟩
          · have HS := Lib.hid (sg_yes hq (Or.inl (of_beq 43 rfl hc)))
            have HPW := Lib.hid (pw_e hp HE.out HS.out)
            rcases Nat.lt_or_ge (p + 2) s.size with hd | hd
            rotate_left
            · have HV := Lib.hid (show pw (sx s p) = 0 by rw [HPW.out, dg_end hd, if_pos rfl])
              have hpl : ¬ ((p : Int) + 1 + 1 < (s.size : Int)) := by omega
              go_wp2_with (first | (go_at_call 20; (with_reducible refine (rdigit_all s[p] _ rfl _).mono ?_); rw [HD5.out (by assumption)]; rintro e w' ⟨rfl, rfl⟩))
              go_ret
              exact ⟨ret_int (by have h1 := HNP.out; have h2 := HV.out; omega), rfl⟩
            cases hdd : isD s[p + 2] with
            | false =>
              have HV := Lib.hid (show pw (sx s p) = 0 by rw [HPW.out, dg_no hd hdd, if_pos rfl])
              have HD3 := Lib.hid hdd
              clear hdd
              go_wp2_with (first | (go_at_call 20; (with_reducible refine (rdigit_all s[p] _ rfl _).mono ?_); rw [HD5.out (by assumption)]; rintro e w' ⟨rfl, rfl⟩) | (go_at_call 20; (with_reducible refine (rdigit_all s[p + 2] _ rfl _).mono ?_); rw [HD3.out]; rintro e w' ⟨rfl, rfl⟩))
              go_ret
              exact ⟨ret_int (by have h1 := HNP.out; have h2 := HV.out; omega), rfl⟩
            | true =>
              obtain ⟨G, hG, hC1, hC2, hC3⟩ := dg_spec s (p + 2) (by omega)
              have HV := Lib.hid (show pw (sx s p) = 2 + G by rw [HPW.out, if_neg (dg_yes hd hdd), hG])
              have HC2 := Lib.hid hC2
              have HC3 := Lib.hid hC3
              have HD3 := Lib.hid hdd
              clear hdd hG hC2 hC3
              go_wp2_with (first | (go_at_call 20; (with_reducible refine (rdigit_all s[p] _ rfl _).mono ?_); rw [HD5.out (by assumption)]; rintro e w' ⟨rfl, rfl⟩) | (go_at_call 20; (with_reducible refine (rdigit_all s[p + 2] _ rfl _).mono ?_); rw [HD3.out]; rintro e w' ⟨rfl, rfl⟩))
              go_loop [5] (fun jv => ∃ j : Nat, p + 2 ≤ j ∧ j ≤ p + 2 + G ∧ jv = .int .i64 j) (fun jv => s.size - (intOf jv).toNat)
              case atStart => exact ⟨p + 2, Nat.le_refl _, by omega, by go_num⟩
              case round =>
                obtain ⟨j, hj1, hj2, rfl⟩ := hrel
                by_cases hjl : j < p + 2 + G
                · have hjs : j < s.size := by omega
                  have HD4 := Lib.hid (HC2.out j hjs (by omega) hjl)
                  go_wp2_with (go_at_call 20; (with_reducible refine (rdigit_all s[j] _ rfl _).mono ?_); rw [HD4.out]; rintro e w' ⟨rfl, rfl⟩)
                  go_round
                  case rel => exact ⟨j + 1, by omega, by omega, by go_num⟩
                  case measure => simp [intOf]; omega
                · have hje : j = p + 2 + G := by omega
                  have HJ := Lib.hid hje
                  by_cases hjs : j < s.size
                  · have HD4 := Lib.hid (show isD s[j] = false by have := HC3.out (by rw [← HJ.out]; exact hjs); simp only [← HJ.out] at this; exact this)
                    clear hje hjl
                    go_wp2_with (go_at_call 20; (with_reducible refine (rdigit_all s[j] _ rfl _).mono ?_); rw [HD4.out]; rintro e w' ⟨rfl, rfl⟩)
                    go_ret
                    exact ⟨ret_int (by have h1 := HNP.out; have h2 := HV.out; have h3 := HJ.out; omega), rfl⟩
                  · clear hje hjl
                    go_wp2
                    go_ret
                    exact ⟨ret_int (by have h1 := HNP.out; have h2 := HV.out; have h3 := HJ.out; omega), rfl⟩
          · obtain ⟨hc0, hc⟩ := hc
            have HS := Lib.hid (sg_yes hq (Or.inr (of_beq 45 rfl hc)))
            have HPW := Lib.hid (pw_e hp HE.out HS.out)
            rcases Nat.lt_or_ge (p + 2) s.size with hd | hd
            rotate_left
            · have HV := Lib.hid (show pw (sx s p) = 0 by rw [HPW.out, dg_end hd, if_pos rfl])
              have hpl : ¬ ((p : Int) + 1 + 1 < (s.size : Int)) := by omega
              go_wp2_with (first | (go_at_call 20; (with_reducible refine (rdigit_all s[p] _ rfl _).mono ?_); rw [HD5.out (by assumption)]; rintro e w' ⟨rfl, rfl⟩))
              go_ret
              exact ⟨ret_int (by have h1 := HNP.out; have h2 := HV.out; omega), rfl⟩
            cases hdd : isD s[p + 2] with
            | false =>
              have HV := Lib.hid (show pw (sx s p) = 0 by rw [HPW.out, dg_no hd hdd, if_pos rfl])
              have HD3 := Lib.hid hdd
              clear hdd
              go_wp2_with (first | (go_at_call 20; (with_reducible refine (rdigit_all s[p] _ rfl _).mono ?_); rw [HD5.out (by assumption)]; rintro e w' ⟨rfl, rfl⟩) | (go_at_call 20; (with_reducible refine (rdigit_all s[p + 2] _ rfl _).mono ?_); rw [HD3.out]; rintro e w' ⟨rfl, rfl⟩))
              go_ret
              exact ⟨ret_int (by have h1 := HNP.out; have h2 := HV.out; omega), rfl⟩
            | true =>
              obtain ⟨G, hG, hC1, hC2, hC3⟩ := dg_spec s (p + 2) (by omega)
              have HV := Lib.hid (show pw (sx s p) = 2 + G by rw [HPW.out, if_neg (dg_yes hd hdd), hG])
              have HC2 := Lib.hid hC2
              have HC3 := Lib.hid hC3
              have HD3 := Lib.hid hdd
              clear hdd hG hC2 hC3
              go_wp2_with (first | (go_at_call 20; (with_reducible refine (rdigit_all s[p] _ rfl _).mono ?_); rw [HD5.out (by assumption)]; rintro e w' ⟨rfl, rfl⟩) | (go_at_call 20; (with_reducible refine (rdigit_all s[p + 2] _ rfl _).mono ?_); rw [HD3.out]; rintro e w' ⟨rfl, rfl⟩))
              go_loop [5] (fun jv => ∃ j : Nat, p + 2 ≤ j ∧ j ≤ p + 2 + G ∧ jv = .int .i64 j) (fun jv => s.size - (intOf jv).toNat)
              case atStart => exact ⟨p + 2, Nat.le_refl _, by omega, by go_num⟩
              case round =>
                obtain ⟨j, hj1, hj2, rfl⟩ := hrel
                by_cases hjl : j < p + 2 + G
                · have hjs : j < s.size := by omega
                  have HD4 := Lib.hid (HC2.out j hjs (by omega) hjl)
                  go_wp2_with (go_at_call 20; (with_reducible refine (rdigit_all s[j] _ rfl _).mono ?_); rw [HD4.out]; rintro e w' ⟨rfl, rfl⟩)
                  go_round
                  case rel => exact ⟨j + 1, by omega, by omega, by go_num⟩
                  case measure => simp [intOf]; omega
                · have hje : j = p + 2 + G := by omega
                  have HJ := Lib.hid hje
                  by_cases hjs : j < s.size
                  · have HD4 := Lib.hid (show isD s[j] = false by have := HC3.out (by rw [← HJ.out]; exact hjs); simp only [← HJ.out] at this; exact this)
                    clear hje hjl
                    go_wp2_with (go_at_call 20; (with_reducible refine (rdigit_all s[j] _ rfl _).mono ?_); rw [HD4.out]; rintro e w' ⟨rfl, rfl⟩)
                    go_ret
                    exact ⟨ret_int (by have h1 := HNP.out; have h2 := HV.out; have h3 := HJ.out; omega), rfl⟩
                  · clear hje hjl
                    go_wp2
                    go_ret
                    exact ⟨ret_int (by have h1 := HNP.out; have h2 := HV.out; have h3 := HJ.out; omega), rfl⟩
          · obtain ⟨hc0, hc⟩ := hc
            have HS := Lib.hid (sg_no hq (of_bne 43 rfl hc0) (of_bne 45 rfl hc))
            have HPW := Lib.hid (pw_e hp HE.out HS.out)
            have hd := hq
            cases hdd : isD s[p + 1] with
            | false =>
              have HV := Lib.hid (show pw (sx s p) = 0 by rw [HPW.out, dg_no hd hdd, if_pos rfl])
              have HD3 := Lib.hid hdd
              clear hdd
              go_wp2_with (first | (go_at_call 20; (with_reducible refine (rdigit_all s[p] _ rfl _).mono ?_); rw [HD5.out (by assumption)]; rintro e w' ⟨rfl, rfl⟩) | (go_at_call 20; (with_reducible refine (rdigit_all s[p + 1] _ rfl _).mono ?_); rw [HD3.out]; rintro e w' ⟨rfl, rfl⟩))
              go_ret
              exact ⟨ret_int (by have h1 := HNP.out; have h2 := HV.out; omega), rfl⟩
            | true =>
              obtain ⟨G, hG, hC1, hC2, hC3⟩ := dg_spec s (p + 1) (by omega)
              have HV := Lib.hid (show pw (sx s p) = 1 + G by rw [HPW.out, if_neg (dg_yes hd hdd), hG])
              have HC2 := Lib.hid hC2
              have HC3 := Lib.hid hC3
              have HD3 := Lib.hid hdd
              clear hdd hG hC2 hC3
              go_wp2_with (first | (go_at_call 20; (with_reducible refine (rdigit_all s[p] _ rfl _).mono ?_); rw [HD5.out (by assumption)]; rintro e w' ⟨rfl, rfl⟩) | (go_at_call 20; (with_reducible refine (rdigit_all s[p + 1] _ rfl _).mono ?_); rw [HD3.out]; rintro e w' ⟨rfl, rfl⟩))
              go_loop [5] (fun jv => ∃ j : Nat, p + 1 ≤ j ∧ j ≤ p + 1 + G ∧ jv = .int .i64 j) (fun jv => s.size - (intOf jv).toNat)
              case atStart => exact ⟨p + 1, Nat.le_refl _, by omega, by go_num⟩
              case round =>
                obtain ⟨j, hj1, hj2, rfl⟩ := hrel
                by_cases hjl : j < p + 1 + G
                · have hjs : j < s.size := by omega
                  have HD4 := Lib.hid (HC2.out j hjs (by omega) hjl)
                  go_wp2_with (go_at_call 20; (with_reducible refine (rdigit_all s[j] _ rfl _).mono ?_); rw [HD4.out]; rintro e w' ⟨rfl, rfl⟩)
                  go_round
                  case rel => exact ⟨j + 1, by omega, by omega, by go_num⟩
                  case measure => simp [intOf]; omega
                · have hje : j = p + 1 + G := by omega
                  have HJ := Lib.hid hje
                  by_cases hjs : j < s.size
                  · have HD4 := Lib.hid (show isD s[j] = false by have := HC3.out (by rw [← HJ.out]; exact hjs); simp only [← HJ.out] at this; exact this)
                    clear hje hjl
                    go_wp2_with (go_at_call 20; (with_reducible refine (rdigit_all s[j] _ rfl _).mono ?_); rw [HD4.out]; rintro e w' ⟨rfl, rfl⟩)
                    go_ret
                    exact ⟨ret_int (by have h1 := HNP.out; have h2 := HV.out; have h3 := HJ.out; omega), rfl⟩
                  · clear hje hjl
                    go_wp2
                    go_ret
                    exact ⟨ret_int (by have h1 := HNP.out; have h2 := HV.out; have h3 := HJ.out; omega), rfl⟩
        · obtain ⟨hb0, hb⟩ := hb
          have HV := Lib.hid (pw_no hp (of_bne 101 rfl hb0) (of_bne 69 rfl hb))
          go_wp2_with (first | (go_at_call 20; (with_reducible refine (rdigit_all s[p] _ rfl _).mono ?_); rw [HD5.out (by assumption)]; rintro e w' ⟨rfl, rfl⟩))
          go_ret
          exact ⟨ret_int (by have h1 := HNP.out; have h2 := HV.out; omega), rfl⟩
    · have HD1 := Lib.hid hd1
      clear hd1
      go_wp2_with (first | ((go_at_call 20; (with_reducible refine (rdigit_all s[0] _ rfl _).mono ?_); rw [HD.out]; rintro e w' ⟨rfl, rfl⟩)) | ((go_at_call 20; (with_reducible refine (rdigit_all s[1] _ rfl _).mono ?_); rw [HD1.out]; rintro e w' ⟨rfl, rfl⟩)))
      go_loop [3, 4] (fun iv sv => ∃ (j : Nat) (x : Bool), 0 + 1 ≤ j ∧ j ≤ 0 + 1 + b ∧ iv = .int .i64 j ∧ sv = .bool x ∧ Hid (j = 0 + 1 + b → x = true) ∧ Hid (0 < 0 ∨ 0 + 1 < j → x = true)) (fun iv _ => s.size - (intOf iv).toNat)
      case atStart => exact ⟨0 + 1, false, Nat.le_refl _, by omega, by go_num, by simp, Lib.hid (fun h => absurd h (by omega)), Lib.hid (fun h => absurd h (by omega))⟩
      case round =>
        obtain ⟨p, x, hj1, hj2, rfl, rfl, HX1, HX2⟩ := hrel
        by_cases hjl : p < 0 + 1 + b
        · have hjs : p < s.size := by omega
          have HD4 := Lib.hid (HB2.out p hjs (by omega) hjl)
          clear HX1 HX2
          go_wp2_with (go_at_call 20; (with_reducible refine (rdigit_all s[p] _ rfl _).mono ?_); rw [HD4.out]; rintro e w' ⟨rfl, rfl⟩)
          go_round
          case rel => exact ⟨p + 1, true, by omega, by omega, by go_num, rfl, Lib.hid (fun _ => rfl), Lib.hid (fun _ => rfl)⟩
          case measure => simp [intOf]; omega
        have hje : p = 0 + 1 + b := by omega
        obtain rfl : x = true := HX1.out hje
        have HNP := Lib.hid (show nm s.data.toList = p + pw (sx s p) by rw [HN2.out, hje])
        have HD5 := Lib.hid (show ∀ h : p < s.size, isD s[p] = false by intro h; have := HB3.out (by rw [← hje]; exact h); simp only [← hje] at this; exact this)
        have hps : p ≤ s.size := by omega
        clear hje hjl HX1 HX2 HN2
        rcases (show s.size ≤ p ∨ ∃ h : p < s.size, ((s[p].toNat : Int) == 101) = true ∨ (((s[p].toNat : Int) == 101) = false ∧ ((s[p].toNat : Int) == 69) = true) ∨ (((s[p].toNat : Int) == 101) = false ∧ ((s[p].toNat : Int) == 69) = false) by
          rcases Nat.lt_or_ge p s.size with h | h
          · right; refine ⟨h, ?_⟩; rcases bool_or ((s[p].toNat : Int) == 101) with h1 | h1; exact Or.inl h1; rcases bool_or ((s[p].toNat : Int) == 69) with h2 | h2; exact Or.inr (Or.inl ⟨h1, h2⟩); exact Or.inr (Or.inr ⟨h1, h2⟩)
          · exact Or.inl h) with hp | ⟨hp, hb | hb | hb⟩
        · have HV := Lib.hid (pw_end hp)
          go_wp2_with (first | (go_at_call 20; (with_reducible refine (rdigit_all s[p] _ rfl _).mono ?_); rw [HD5.out (by assumption)]; rintro e w' ⟨rfl, rfl⟩))
          go_ret
          exact ⟨ret_int (by have h1 := HNP.out; have h2 := HV.out; omega), rfl⟩
        · have HE := Lib.hid (show s[p] = 101 ∨ s[p] = 69 from Or.inl (of_beq 101 rfl hb))
          rcases (show s.size ≤ p + 1 ∨ ∃ h : p + 1 < s.size, ((s[p + 1].toNat : Int) == 43) = true ∨ (((s[p + 1].toNat : Int) == 43) = false ∧ ((s[p + 1].toNat : Int) == 45) = true) ∨ (((s[p + 1].toNat : Int) == 43) = false ∧ ((s[p + 1].toNat : Int) == 45) = false) by
            rcases Nat.lt_or_ge (p + 1) s.size with h | h
            · right; refine ⟨h, ?_⟩; rcases bool_or ((s[p + 1].toNat : Int) == 43) with h1 | h1; exact Or.inl h1; rcases bool_or ((s[p + 1].toNat : Int) == 45) with h2 | h2; exact Or.inr (Or.inl ⟨h1, h2⟩); exact Or.inr (Or.inr ⟨h1, h2⟩)
            · exact Or.inl h) with hq | ⟨hq, hc | hc | hc⟩
          · have HV := Lib.hid (show pw (sx s p) = 0 by rw [pw_e hp HE.out (sg_end hq), dg_end (by omega), if_pos rfl])
            have hpe : s.size = p + 1 := by omega
            have hpl : ¬ ((p : Int) + 1 < (s.size : Int)) := by omega
            clear hpe
            go_wp2_with (first | (go_at_call 20; (with_reducible refine (rdigit_all s[p] _ rfl _).mono ?_); rw [HD5.out (by assumption)]; rintro e w' ⟨rfl, rfl⟩))
            go_ret
            exact ⟨ret_int (by have h1 := HNP.out; have h2 := HV.out; omega), rfl⟩
          · have HS := Lib.hid (sg_yes hq (Or.inl (of_beq 43 rfl hc)))
            have HPW := Lib.hid (pw_e hp HE.out HS.out)
            rcases Nat.lt_or_ge (p + 2) s.size with hd | hd
            rotate_left
            · have HV := Lib.hid (show pw (sx s p) = 0 by rw [HPW.out, dg_end hd, if_pos rfl])
              have hpl : ¬ ((p : Int) + 1 + 1 < (s.size : Int)) := by omega
              go_wp2_with (first | (go_at_call 20; (with_reducible refine (rdigit_all s[p] _ rfl _).mono ?_); rw [HD5.out (by assumption)]; rintro e w' ⟨rfl, rfl⟩))
              go_ret
              exact ⟨ret_int (by have h1 := HNP.out; have h2 := HV.out; omega), rfl⟩
            cases hdd : isD s[p + 2] with
            | false =>
              have HV := Lib.hid (show pw (sx s p) = 0 by rw [HPW.out, dg_no hd hdd, if_pos rfl])
              have HD3 := Lib.hid hdd
              clear hdd
              go_wp2_with (first | (go_at_call 20; (with_reducible refine (rdigit_all s[p] _ rfl _).mono ?_); rw [HD5.out (by assumption)]; rintro e w' ⟨rfl, rfl⟩) | (go_at_call 20; (with_reducible refine (rdigit_all s[p + 2] _ rfl _).mono ?_); rw [HD3.out]; rintro e w' ⟨rfl, rfl⟩))
              go_ret
              exact ⟨ret_int (by have h1 := HNP.out; have h2 := HV.out; omega), rfl⟩
            | true =>
              obtain ⟨G, hG, hC1, hC2, hC3⟩ := dg_spec s (p + 2) (by omega)
              have HV := Lib.hid (show pw (sx s p) = 2 + G by rw [HPW.out, if_neg (dg_yes hd hdd), hG])
              have HC2 := Lib.hid hC2
              have HC3 := Lib.hid hC3
              have HD3 := Lib.hid hdd
              clear hdd hG hC2 hC3
              go_wp2_with (first | (go_at_call 20; (with_reducible refine (rdigit_all s[p] _ rfl _).mono ?_); rw [HD5.out (by assumption)]; rintro e w' ⟨rfl, rfl⟩) | (go_at_call 20; (with_reducible refine (rdigit_all s[p + 2] _ rfl _).mono ?_); rw [HD3.out]; rintro e w' ⟨rfl, rfl⟩))
              go_loop [5] (fun jv => ∃ j : Nat, p + 2 ≤ j ∧ j ≤ p + 2 + G ∧ jv = .int .i64 j) (fun jv => s.size - (intOf jv).toNat)
              case atStart => exact ⟨p + 2, Nat.le_refl _, by omega, by go_num⟩
              case round =>
                obtain ⟨j, hj1, hj2, rfl⟩ := hrel
                by_cases hjl : j < p + 2 + G
                · have hjs : j < s.size := by omega
                  have HD4 := Lib.hid (HC2.out j hjs (by omega) hjl)
                  go_wp2_with (go_at_call 20; (with_reducible refine (rdigit_all s[j] _ rfl _).mono ?_); rw [HD4.out]; rintro e w' ⟨rfl, rfl⟩)
                  go_round
                  case rel => exact ⟨j + 1, by omega, by omega, by go_num⟩
                  case measure => simp [intOf]; omega
                · have hje : j = p + 2 + G := by omega
                  have HJ := Lib.hid hje
                  by_cases hjs : j < s.size
                  · have HD4 := Lib.hid (show isD s[j] = false by have := HC3.out (by rw [← HJ.out]; exact hjs); simp only [← HJ.out] at this; exact this)
                    clear hje hjl
                    go_wp2_with (go_at_call 20; (with_reducible refine (rdigit_all s[j] _ rfl _).mono ?_); rw [HD4.out]; rintro e w' ⟨rfl, rfl⟩)
                    go_ret
                    exact ⟨ret_int (by have h1 := HNP.out; have h2 := HV.out; have h3 := HJ.out; omega), rfl⟩
                  · clear hje hjl
                    go_wp2
                    go_ret
                    exact ⟨ret_int (by have h1 := HNP.out; have h2 := HV.out; have h3 := HJ.out; omega), rfl⟩
          · obtain ⟨hc0, hc⟩ := hc
            have HS := Lib.hid (sg_yes hq (Or.inr (of_beq 45 rfl hc)))
            have HPW := Lib.hid (pw_e hp HE.out HS.out)
            rcases Nat.lt_or_ge (p + 2) s.size with hd | hd
            rotate_left
            · have HV := Lib.hid (show pw (sx s p) = 0 by rw [HPW.out, dg_end hd, if_pos rfl])
              have hpl : ¬ ((p : Int) + 1 + 1 < (s.size : Int)) := by omega
              go_wp2_with (first | (go_at_call 20; (with_reducible refine (rdigit_all s[p] _ rfl _).mono ?_); rw [HD5.out (by assumption)]; rintro e w' ⟨rfl, rfl⟩))
              go_ret
              exact ⟨ret_int (by have h1 := HNP.out; have h2 := HV.out; omega), rfl⟩
            cases hdd : isD s[p + 2] with
            | false =>
              have HV := Lib.hid (show pw (sx s p) = 0 by rw [HPW.out, dg_no hd hdd, if_pos rfl])
              have HD3 := Lib.hid hdd
              clear hdd
              go_wp2_with (first | (go_at_call 20; (with_reducible refine (rdigit_all s[p] _ rfl _).mono ?_); rw [HD5.out (by assumption)]; rintro e w' ⟨rfl, rfl⟩) | (go_at_call 20; (with_reducible refine (rdigit_all s[p + 2] _ rfl _).mono ?_); rw [HD3.out]; rintro e w' ⟨rfl, rfl⟩))
              go_ret
              exact ⟨ret_int (by have h1 := HNP.out; have h2 := HV.out; omega), rfl⟩
            | true =>
              obtain ⟨G, hG, hC1, hC2, hC3⟩ := dg_spec s (p + 2) (by omega)
              have HV := Lib.hid (show pw (sx s p) = 2 + G by rw [HPW.out, if_neg (dg_yes hd hdd), hG])
              have HC2 := Lib.hid hC2
              have HC3 := Lib.hid hC3
              have HD3 := Lib.hid hdd
              clear hdd hG hC2 hC3
              go_wp2_with (first | (go_at_call 20; (with_reducible refine (rdigit_all s[p] _ rfl _).mono ?_); rw [HD5.out (by assumption)]; rintro e w' ⟨rfl, rfl⟩) | (go_at_call 20; (with_reducible refine (rdigit_all s[p + 2] _ rfl _).mono ?_); rw [HD3.out]; rintro e w' ⟨rfl, rfl⟩))
              go_loop [5] (fun jv => ∃ j : Nat, p + 2 ≤ j ∧ j ≤ p + 2 + G ∧ jv = .int .i64 j) (fun jv => s.size - (intOf jv).toNat)
              case atStart => exact ⟨p + 2, Nat.le_refl _, by omega, by go_num⟩
              case round =>
                obtain ⟨j, hj1, hj2, rfl⟩ := hrel
                by_cases hjl : j < p + 2 + G
                · have hjs : j < s.size := by omega
                  have HD4 := Lib.hid (HC2.out j hjs (by omega) hjl)
                  go_wp2_with (go_at_call 20; (with_reducible refine (rdigit_all s[j] _ rfl _).mono ?_); rw [HD4.out]; rintro e w' ⟨rfl, rfl⟩)
                  go_round
                  case rel => exact ⟨j + 1, by omega, by omega, by go_num⟩
                  case measure => simp [intOf]; omega
                · have hje : j = p + 2 + G := by omega
                  have HJ := Lib.hid hje
                  by_cases hjs : j < s.size
                  · have HD4 := Lib.hid (show isD s[j] = false by have := HC3.out (by rw [← HJ.out]; exact hjs); simp only [← HJ.out] at this; exact this)
                    clear hje hjl
                    go_wp2_with (go_at_call 20; (with_reducible refine (rdigit_all s[j] _ rfl _).mono ?_); rw [HD4.out]; rintro e w' ⟨rfl, rfl⟩)
                    go_ret
                    exact ⟨ret_int (by have h1 := HNP.out; have h2 := HV.out; have h3 := HJ.out; omega), rfl⟩
                  · clear hje hjl
                    go_wp2
                    go_ret
                    exact ⟨ret_int (by have h1 := HNP.out; have h2 := HV.out; have h3 := HJ.out; omega), rfl⟩
          · obtain ⟨hc0, hc⟩ := hc
            have HS := Lib.hid (sg_no hq (of_bne 43 rfl hc0) (of_bne 45 rfl hc))
            have HPW := Lib.hid (pw_e hp HE.out HS.out)
            have hd := hq
            cases hdd : isD s[p + 1] with
            | false =>
              have HV := Lib.hid (show pw (sx s p) = 0 by rw [HPW.out, dg_no hd hdd, if_pos rfl])
              have HD3 := Lib.hid hdd
              clear hdd
              go_wp2_with (first | (go_at_call 20; (with_reducible refine (rdigit_all s[p] _ rfl _).mono ?_); rw [HD5.out (by assumption)]; rintro e w' ⟨rfl, rfl⟩) | (go_at_call 20; (with_reducible refine (rdigit_all s[p + 1] _ rfl _).mono ?_); rw [HD3.out]; rintro e w' ⟨rfl, rfl⟩))
              go_ret
              exact ⟨ret_int (by have h1 := HNP.out; have h2 := HV.out; omega), rfl⟩
            | true =>
              obtain ⟨G, hG, hC1, hC2, hC3⟩ := dg_spec s (p + 1) (by omega)
              have HV := Lib.hid (show pw (sx s p) = 1 + G by rw [HPW.out, if_neg (dg_yes hd hdd), hG])
              have HC2 := Lib.hid hC2
              have HC3 := Lib.hid hC3
              have HD3 := Lib.hid hdd
              clear hdd hG hC2 hC3
              go_wp2_with (first | (go_at_call 20; (with_reducible refine (rdigit_all s[p] _ rfl _).mono ?_); rw [HD5.out (by assumption)]; rintro e w' ⟨rfl, rfl⟩) | (go_at_call 20; (with_reducible refine (rdigit_all s[p + 1] _ rfl _).mono ?_); rw [HD3.out]; rintro e w' ⟨rfl, rfl⟩))
              go_loop [5] (fun jv => ∃ j : Nat, p + 1 ≤ j ∧ j ≤ p + 1 + G ∧ jv = .int .i64 j) (fun jv => s.size - (intOf jv).toNat)
              case atStart => exact ⟨p + 1, Nat.le_refl _, by omega, by go_num⟩
              case round =>
                obtain ⟨j, hj1, hj2, rfl⟩ := hrel
                by_cases hjl : j < p + 1 + G
                · have hjs : j < s.size := by omega
                  have HD4 := Lib.hid (HC2.out j hjs (by omega) hjl)
                  go_wp2_with (go_at_call 20; (with_reducible refine (rdigit_all s[j] _ rfl _).mono ?_); rw [HD4.out]; rintro e w' ⟨rfl, rfl⟩)
                  go_round
                  case rel => exact ⟨j + 1, by omega, by omega, by go_num⟩
                  case measure => simp [intOf]; omega
                · have hje : j = p + 1 + G := by omega
                  have HJ := Lib.hid hje
                  by_cases hjs : j < s.size
                  · have HD4 := Lib.hid (show isD s[j] = false by have := HC3.out (by rw [← HJ.out]; exact hjs); simp only [← HJ.out] at this; exact this)
                    clear hje hjl
                    go_wp2_with (go_at_call 20; (with_reducible refine (rdigit_all s[j] _ rfl _).mono ?_); rw [HD4.out]; rintro e w' ⟨rfl, rfl⟩)
                    go_ret
                    exact ⟨ret_int (by have h1 := HNP.out; have h2 := HV.out; have h3 := HJ.out; omega), rfl⟩
                  · clear hje hjl
                    go_wp2
                    go_ret
                    exact ⟨ret_int (by have h1 := HNP.out; have h2 := HV.out; have h3 := HJ.out; omega), rfl⟩
        · obtain ⟨hb0, hb⟩ := hb
          have HE := Lib.hid (show s[p] = 101 ∨ s[p] = 69 from Or.inr (of_beq 69 rfl hb))
          rcases (show s.size ≤ p + 1 ∨ ∃ h : p + 1 < s.size, ((s[p + 1].toNat : Int) == 43) = true ∨ (((s[p + 1].toNat : Int) == 43) = false ∧ ((s[p + 1].toNat : Int) == 45) = true) ∨ (((s[p + 1].toNat : Int) == 43) = false ∧ ((s[p + 1].toNat : Int) == 45) = false) by
            rcases Nat.lt_or_ge (p + 1) s.size with h | h
            · right; refine ⟨h, ?_⟩; rcases bool_or ((s[p + 1].toNat : Int) == 43) with h1 | h1; exact Or.inl h1; rcases bool_or ((s[p + 1].toNat : Int) == 45) with h2 | h2; exact Or.inr (Or.inl ⟨h1, h2⟩); exact Or.inr (Or.inr ⟨h1, h2⟩)
            · exact Or.inl h) with hq | ⟨hq, hc | hc | hc⟩
          · have HV := Lib.hid (show pw (sx s p) = 0 by rw [pw_e hp HE.out (sg_end hq), dg_end (by omega), if_pos rfl])
            have hpe : s.size = p + 1 := by omega
            have hpl : ¬ ((p : Int) + 1 < (s.size : Int)) := by omega
            clear hpe
            go_wp2_with (first | (go_at_call 20; (with_reducible refine (rdigit_all s[p] _ rfl _).mono ?_); rw [HD5.out (by assumption)]; rintro e w' ⟨rfl, rfl⟩))
            go_ret
            exact ⟨ret_int (by have h1 := HNP.out; have h2 := HV.out; omega), rfl⟩
          · have HS := Lib.hid (sg_yes hq (Or.inl (of_beq 43 rfl hc)))
            have HPW := Lib.hid (pw_e hp HE.out HS.out)
            rcases Nat.lt_or_ge (p + 2) s.size with hd | hd
            rotate_left
            · have HV := Lib.hid (show pw (sx s p) = 0 by rw [HPW.out, dg_end hd, if_pos rfl])
              have hpl : ¬ ((p : Int) + 1 + 1 < (s.size : Int)) := by omega
              go_wp2_with (first | (go_at_call 20; (with_reducible refine (rdigit_all s[p] _ rfl _).mono ?_); rw [HD5.out (by assumption)]; rintro e w' ⟨rfl, rfl⟩))
              go_ret
              exact ⟨ret_int (by have h1 := HNP.out; have h2 := HV.out; omega), rfl⟩
            cases hdd : isD s[p + 2] with
            | false =>
              have HV := Lib.hid (show pw (sx s p) = 0 by rw [HPW.out, dg_no hd hdd, if_pos rfl])
              have HD3 := Lib.hid hdd
              clear hdd
              go_wp2_with (first | (go_at_call 20; (with_reducible refine (rdigit_all s[p] _ rfl _).mono ?_); rw [HD5.out (by assumption)]; rintro e w' ⟨rfl, rfl⟩) | (go_at_call 20; (with_reducible refine (rdigit_all s[p + 2] _ rfl _).mono ?_); rw [HD3.out]; rintro e w' ⟨rfl, rfl⟩))
              go_ret
              exact ⟨ret_int (by have h1 := HNP.out; have h2 := HV.out; omega), rfl⟩
            | true =>
              obtain ⟨G, hG, hC1, hC2, hC3⟩ := dg_spec s (p + 2) (by omega)
              have HV := Lib.hid (show pw (sx s p) = 2 + G by rw [HPW.out, if_neg (dg_yes hd hdd), hG])
              have HC2 := Lib.hid hC2
              have HC3 := Lib.hid hC3
              have HD3 := Lib.hid hdd
              clear hdd hG hC2 hC3
              go_wp2_with (first | (go_at_call 20; (with_reducible refine (rdigit_all s[p] _ rfl _).mono ?_); rw [HD5.out (by assumption)]; rintro e w' ⟨rfl, rfl⟩) | (go_at_call 20; (with_reducible refine (rdigit_all s[p + 2] _ rfl _).mono ?_); rw [HD3.out]; rintro e w' ⟨rfl, rfl⟩))
              go_loop [5] (fun jv => ∃ j : Nat, p + 2 ≤ j ∧ j ≤ p + 2 + G ∧ jv = .int .i64 j) (fun jv => s.size - (intOf jv).toNat)
              case atStart => exact ⟨p + 2, Nat.le_refl _, by omega, by go_num⟩
              case round =>
                obtain ⟨j, hj1, hj2, rfl⟩ := hrel
                by_cases hjl : j < p + 2 + G
                · have hjs : j < s.size := by omega
                  have HD4 := Lib.hid (HC2.out j hjs (by omega) hjl)
                  go_wp2_with (go_at_call 20; (with_reducible refine (rdigit_all s[j] _ rfl _).mono ?_); rw [HD4.out]; rintro e w' ⟨rfl, rfl⟩)
                  go_round
                  case rel => exact ⟨j + 1, by omega, by omega, by go_num⟩
                  case measure => simp [intOf]; omega
                · have hje : j = p + 2 + G := by omega
                  have HJ := Lib.hid hje
                  by_cases hjs : j < s.size
                  · have HD4 := Lib.hid (show isD s[j] = false by have := HC3.out (by rw [← HJ.out]; exact hjs); simp only [← HJ.out] at this; exact this)
                    clear hje hjl
                    go_wp2_with (go_at_call 20; (with_reducible refine (rdigit_all s[j] _ rfl _).mono ?_); rw [HD4.out]; rintro e w' ⟨rfl, rfl⟩)
                    go_ret
                    exact ⟨ret_int (by have h1 := HNP.out; have h2 := HV.out; have h3 := HJ.out; omega), rfl⟩
                  · clear hje hjl
                    go_wp2
                    go_ret
                    exact ⟨ret_int (by have h1 := HNP.out; have h2 := HV.out; have h3 := HJ.out; omega), rfl⟩
          · obtain ⟨hc0, hc⟩ := hc
            have HS := Lib.hid (sg_yes hq (Or.inr (of_beq 45 rfl hc)))
            have HPW := Lib.hid (pw_e hp HE.out HS.out)
            rcases Nat.lt_or_ge (p + 2) s.size with hd | hd
            rotate_left
            · have HV := Lib.hid (show pw (sx s p) = 0 by rw [HPW.out, dg_end hd, if_pos rfl])
              have hpl : ¬ ((p : Int) + 1 + 1 < (s.size : Int)) := by omega
              go_wp2_with (first | (go_at_call 20; (with_reducible refine (rdigit_all s[p] _ rfl _).mono ?_); rw [HD5.out (by assumption)]; rintro e w' ⟨rfl, rfl⟩))
              go_ret
              exact ⟨ret_int (by have h1 := HNP.out; have h2 := HV.out; omega), rfl⟩
            cases hdd : isD s[p + 2] with
            | false =>
              have HV := Lib.hid (show pw (sx s p) = 0 by rw [HPW.out, dg_no hd hdd, if_pos rfl])
              have HD3 := Lib.hid hdd
              clear hdd
              go_wp2_with (first | (go_at_call 20; (with_reducible refine (rdigit_all s[p] _ rfl _).mono ?_); rw [HD5.out (by assumption)]; rintro e w' ⟨rfl, rfl⟩) | (go_at_call 20; (with_reducible refine (rdigit_all s[p + 2] _ rfl _).mono ?_); rw [HD3.out]; rintro e w' ⟨rfl, rfl⟩))
              go_ret
              exact ⟨ret_int (by have h1 := HNP.out; have h2 := HV.out; omega), rfl⟩
            | true =>
              obtain ⟨G, hG, hC1, hC2, hC3⟩ := dg_spec s (p + 2) (by omega)
              have HV := Lib.hid (show pw (sx s p) = 2 + G by rw [HPW.out, if_neg (dg_yes hd hdd), hG])
              have HC2 := Lib.hid hC2
              have HC3 := Lib.hid hC3
              have HD3 := Lib.hid hdd
              clear hdd hG hC2 hC3
              go_wp2_with (first | (go_at_call 20; (with_reducible refine (rdigit_all s[p] _ rfl _).mono ?_); rw [HD5.out (by assumption)]; rintro e w' ⟨rfl, rfl⟩) | (go_at_call 20; (with_reducible refine (rdigit_all s[p + 2] _ rfl _).mono ?_); rw [HD3.out]; rintro e w' ⟨rfl, rfl⟩))
              go_loop [5] (fun jv => ∃ j : Nat, p + 2 ≤ j ∧ j ≤ p + 2 + G ∧ jv = .int .i64 j) (fun jv => s.size - (intOf jv).toNat)
              case atStart => exact ⟨p + 2, Nat.le_refl _, by omega, by go_num⟩
              case round =>
                obtain ⟨j, hj1, hj2, rfl⟩ := hrel
                by_cases hjl : j < p + 2 + G
                · have hjs : j < s.size := by omega
                  have HD4 := Lib.hid (HC2.out j hjs (by omega) hjl)
                  go_wp2_with (go_at_call 20; (with_reducible refine (rdigit_all s[j] _ rfl _).mono ?_); rw [HD4.out]; rintro e w' ⟨rfl, rfl⟩)
                  go_round
                  case rel => exact ⟨j + 1, by omega, by omega, by go_num⟩
                  case measure => simp [intOf]; omega
                · have hje : j = p + 2 + G := by omega
                  have HJ := Lib.hid hje
                  by_cases hjs : j < s.size
                  · have HD4 := Lib.hid (show isD s[j] = false by have := HC3.out (by rw [← HJ.out]; exact hjs); simp only [← HJ.out] at this; exact this)
                    clear hje hjl
                    go_wp2_with (go_at_call 20; (with_reducible refine (rdigit_all s[j] _ rfl _).mono ?_); rw [HD4.out]; rintro e w' ⟨rfl, rfl⟩)
                    go_ret
                    exact ⟨ret_int (by have h1 := HNP.out; have h2 := HV.out; have h3 := HJ.out; omega), rfl⟩
                  · clear hje hjl
                    go_wp2
                    go_ret
                    exact ⟨ret_int (by have h1 := HNP.out; have h2 := HV.out; have h3 := HJ.out; omega), rfl⟩
          · obtain ⟨hc0, hc⟩ := hc
            have HS := Lib.hid (sg_no hq (of_bne 43 rfl hc0) (of_bne 45 rfl hc))
            have HPW := Lib.hid (pw_e hp HE.out HS.out)
            have hd := hq
            cases hdd : isD s[p + 1] with
            | false =>
              have HV := Lib.hid (show pw (sx s p) = 0 by rw [HPW.out, dg_no hd hdd, if_pos rfl])
              have HD3 := Lib.hid hdd
              clear hdd
              go_wp2_with (first | (go_at_call 20; (with_reducible refine (rdigit_all s[p] _ rfl _).mono ?_); rw [HD5.out (by assumption)]; rintro e w' ⟨rfl, rfl⟩) | (go_at_call 20; (with_reducible refine (rdigit_all s[p + 1] _ rfl _).mono ?_); rw [HD3.out]; rintro e w' ⟨rfl, rfl⟩))
              go_ret
              exact ⟨ret_int (by have h1 := HNP.out; have h2 := HV.out; omega), rfl⟩
            | true =>
              obtain ⟨G, hG, hC1, hC2, hC3⟩ := dg_spec s (p + 1) (by omega)
              have HV := Lib.hid (show pw (sx s p) = 1 + G by rw [HPW.out, if_neg (dg_yes hd hdd), hG])
              have HC2 := Lib.hid hC2
              have HC3 := Lib.hid hC3
              have HD3 := Lib.hid hdd
              clear hdd hG hC2 hC3
              go_wp2_with (first | (go_at_call 20; (with_reducible refine (rdigit_all s[p] _ rfl _).mono ?_); rw [HD5.out (by assumption)]; rintro e w' ⟨rfl, rfl⟩) | (go_at_call 20; (with_reducible refine (rdigit_all s[p + 1] _ rfl _).mono ?_); rw [HD3.out]; rintro e w' ⟨rfl, rfl⟩))
              go_loop [5] (fun jv => ∃ j : Nat, p + 1 ≤ j ∧ j ≤ p + 1 + G ∧ jv = .int .i64 j) (fun jv => s.size - (intOf jv).toNat)
              case atStart => exact ⟨p + 1, Nat.le_refl _, by omega, by go_num⟩
              case round =>
                obtain ⟨j, hj1, hj2, rfl⟩ := hrel
                by_cases hjl : j < p + 1 + G
                · have hjs : j < s.size := by omega
                  have HD4 := Lib.hid (HC2.out j hjs (by omega) hjl)
                  go_wp2_with (go_at_call 20; (with_reducible refine (rdigit_all s[j] _ rfl _).mono ?_); rw [HD4.out]; rintro e w' ⟨rfl, rfl⟩)
                  go_round
                  case rel => exact ⟨j + 1, by omega, by omega, by go_num⟩
                  case measure => simp [intOf]; omega
                · have hje : j = p + 1 + G := by omega
                  have HJ := Lib.hid hje
                  by_cases hjs : j < s.size
                  · have HD4 := Lib.hid (show isD s[j] = false by have := HC3.out (by rw [← HJ.out]; exact hjs); simp only [← HJ.out] at this; exact this)
                    clear hje hjl
                    go_wp2_with (go_at_call 20; (with_reducible refine (rdigit_all s[j] _ rfl _).mono ?_); rw [HD4.out]; rintro e w' ⟨rfl, rfl⟩)
                    go_ret
                    exact ⟨ret_int (by have h1 := HNP.out; have h2 := HV.out; have h3 := HJ.out; omega), rfl⟩
                  · clear hje hjl
                    go_wp2
                    go_ret
                    exact ⟨ret_int (by have h1 := HNP.out; have h2 := HV.out; have h3 := HJ.out; omega), rfl⟩
        · obtain ⟨hb0, hb⟩ := hb
          have HV := Lib.hid (pw_no hp (of_bne 101 rfl hb0) (of_bne 69 rfl hb))
          go_wp2_with (first | (go_at_call 20; (with_reducible refine (rdigit_all s[p] _ rfl _).mono ?_); rw [HD5.out (by assumption)]; rintro e w' ⟨rfl, rfl⟩))
          go_ret
          exact ⟨ret_int (by have h1 := HNP.out; have h2 := HV.out; omega), rfl⟩
end Go.Proofs.Ytfgdhafpiikpjab.lexs
