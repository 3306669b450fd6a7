/- The document's Spans by runs of bytes 10. -/
import Derived.Test.YteaibkbdoocifaaDoorInA
namespace Go.Proofs.YteaibkbdoocifaaDoor.inps
set_option linter.unusedVariables false set_option linter.unusedSimpArgs false
open Go.ChangeShapes Go.WideShapes Go.ChangeAt Go.RowKit Go.Proofs.YteaibkbdoocifaaDoor.base

theorem nls_end {s : ByteArray} {k : Nat} (h : s.size ≤ k) : nls (sx s k) = 0 := by rw [sx_nil s k h]; rfl
theorem nls_at {s : ByteArray} {k : Nat} (h : k < s.size) (hc : s[k] = 10) : nls (sx s k) = 1 + nls (sx s (k + 1)) := by rw [sx_cons s k h, hc, nls_ten]
theorem nls_no {s : ByteArray} {k : Nat} (h : k < s.size) (hc : s[k] ≠ 10) : nls (sx s k) = 0 := by rw [sx_cons s k h, nls_not _ hc]
theorem bdy_end {s : ByteArray} {k : Nat} (h : s.size ≤ k) : bdy (sx s k) = 0 := by rw [sx_nil s k h]; rfl
theorem bdy_go {s : ByteArray} {k : Nat} (h : k < s.size) (hc : s[k] ≠ 10) : bdy (sx s k) = 1 + bdy (sx s (k + 1)) := by
  rw [sx_cons s k h]
  simp only [bdy]
  rw [if_neg]
  unfold stp
  simp only [decide_eq_true_eq]
  exact fun e => hc e.1
theorem bdy_last {s : ByteArray} {k : Nat} (h : k < s.size) (hc : s[k] = 10) (h1 : s.size ≤ k + 1) : bdy (sx s k) = 0 := by
  rw [sx_cons s k h, sx_nil s (k + 1) h1]
  simp only [bdy]
  rw [if_pos]
  unfold stp
  simp only [decide_eq_true_eq]
  simp [hc]
theorem bdy_two {s : ByteArray} {k : Nat} (h : k + 1 < s.size) (hc : s[k]'(by omega) = 10) (h1 : s[k + 1] = 10) : bdy (sx s k) = 0 := by
  rw [sx_cons s k (by omega), sx_cons s (k + 1) h]
  simp only [bdy]
  rw [if_pos]
  unfold stp
  simp only [decide_eq_true_eq]
  exact ⟨hc, Or.inr (by rw [h1]; rfl)⟩
theorem bdy_one {s : ByteArray} {k : Nat} (h : k + 1 < s.size) (h1 : s[k + 1] ≠ 10) : bdy (sx s k) = 1 + bdy (sx s (k + 1)) := by
  rw [sx_cons s k (by omega), sx_cons s (k + 1) h]
  simp only [bdy]
  rw [if_neg]
  unfold stp
  simp only [decide_eq_true_eq]
  rintro ⟨_, e | e⟩
  · cases e
  · exact h1 (Option.some.inj e)
theorem of_ten {c : UInt8} (h : ((c.toNat : Int) == 10) = true) : c = 10 := by
  have := eq_of_beq h
  exact UInt8.toNat_inj.1 (by rw [show (10 : UInt8).toNat = 10 from rfl]; omega)
theorem of_not {c : UInt8} (h : ((c.toNat : Int) == 10) = false) : c ≠ 10 := by
  intro e; subst e; cases h
theorem bool_two (b : Bool) : b = true ∨ b = false := by cases b <;> simp
/-- Where the paragraphs begin. -/
def par (s : ByteArray) : List (Nat × Nat) := pgs (sx s (nls (sx s 0))) (nls (sx s 0))
theorem pgs_round {s : ByteArray} {k m n : Nat} (h : k < s.size) (hm : bdy (sx s k) = m) (hn : nls (sx s (k + m)) = n) : pgs (sx s k) k = (k, k + m) :: pgs (sx s (k + m + n)) (k + m + n) := by
  rw [pgs_cons (sx_ne h), hm]
  have e : adv (sx s k) = m + n := by unfold adv; rw [hm, sx_drop, hn]
  rw [e, sx_drop, ← Nat.add_assoc]

set_option maxHeartbeats 8000000 in
set_option maxRecDepth 20000 in
theorem dspans_par (s : ByteArray) (w : World) (hs : s.size ≤ 3000) :
    Calls Tryd.prog 8 #[.string s, .string ⟨#[]⟩] w fun e w' => ∃ v, e = .returned v ∧ OwnP w' w.heap.size v (par s) ∧ Frm No w w' := by
  go_enter Tryd.func8, Tryd.ntmps8
  go_wp2
  go_loopw [8] (fun iv wr => ∃ k : Nat, k ≤ s.size ∧ iv = .int .i64 k ∧ nls (sx s 0) = k + nls (sx s k) ∧ w = wr) (fun iv _ => s.size - (intOf iv).toNat)
  case atStart => exact ⟨0, Nat.zero_le _, rfl, by omega, rfl⟩
  case round =>
    obtain ⟨k, hk, rfl, hn, hw⟩ := hrel
    subst hw
    have hk0 : (0 : Int) ≤ (k : Int) := by omega
    rcases (show (∃ h : k < s.size, ((s[k].toNat : Int) == 10) = true) ∨ (∃ h : k < s.size, ((s[k].toNat : Int) == 10) = false) ∨ s.size ≤ k by
      rcases Nat.lt_or_ge k s.size with h | h
      · rcases bool_two ((s[k].toNat : Int) == 10) with h1 | h1
        · exact Or.inl ⟨h, h1⟩
        · exact Or.inr (Or.inl ⟨h, h1⟩)
      · exact Or.inr (Or.inr h)) with ⟨h, hc⟩ | hx
    · have HN := Lib.hid (show nls (sx s 0) = (k + 1) + nls (sx s (k + 1)) by rw [hn, nls_at h (of_ten hc)]; omega)
      have h' : (k : Int) < (s.size : Int) := by omega
      clear hn
      go_wp2
      go_roundw
      case rel => exact ⟨k + 1, by omega, by go_num, HN.out, trivial⟩
      case measure => simp [intOf]; omega
    · have HK := Lib.hid (show par s = pgs (sx s k) k by
        have : nls (sx s 0) = k := by
          rcases hx with ⟨h, hc⟩ | h
          · rw [hn, nls_no h (of_not hc)]; omega
          · rw [hn, nls_end h]; omega
        unfold par
        rw [this])
      clear hn
      have hx' : (∃ h : k < s.size, (k : Int) < (s.size : Int) ∧ ((s[k].toNat : Int) == 10) = false) ∨ (s.size : Int) ≤ (k : Int) := by
        rcases hx with ⟨h, hc⟩ | h
        · exact Or.inl ⟨h, by omega, hc⟩
        · exact Or.inr (by omega)
      clear hx
      rcases hx' with ⟨h0, h1, hc0⟩ | h1
      all_goals
        go_wp2
        go_loopw [5, 8] (fun v iv wr => ∃ (q : Nat) (L : List (Nat × Nat)), q ≤ s.size ∧ L.length ≤ q ∧ iv = .int .i64 q ∧ OwnP wr w.heap.size v L ∧ par s = L ++ pgs (sx s q) q ∧ Frm No w wr) (fun _ iv _ => s.size - (intOf iv).toNat)
        case atStart => exact ⟨k, [], hk, Nat.zero_le _, rfl, OwnP.nil _ _, HK.out, Frm.refl _ _⟩
        case round =>
          clear HK
          obtain ⟨q, L, hq, hl, rfl, hown, hp, hfr⟩ := hrel
          have HO := Lib.hid hown
          obtain ⟨⟨va, vc, rfl⟩, _⟩ := hown
          have HP := Lib.hid hp
          have HF := Lib.hid hfr
          have hw := hfr.size
          clear hp hfr
          have hq0 : (0 : Int) ≤ (q : Int) := by omega
          by_cases hlt : q < s.size
          rotate_left
          · as_aux_lemma =>
            have hlt' : (s.size : Int) ≤ (q : Int) := by omega
            have HE := Lib.hid (show par s = L by rw [HP.out, sx_nil s q (by omega), pgs_nil, List.append_nil])
            go_wp2
            go_ret
            exact ⟨_, rfl, by rw [HE.out]; exact HO.out, HF.out⟩
          · as_aux_lemma =>
            have hlt' : (q : Int) < (s.size : Int) := by omega
            obtain ⟨m, hm⟩ : ∃ m, bdy (sx s q) = m := ⟨_, rfl⟩
            obtain ⟨n, hn⟩ : ∃ n, nls (sx s (q + m)) = n := ⟨_, rfl⟩
            have hml := bdy_le (sx s q)
            rw [hm, sx_len] at hml
            have hnl := nls_le (sx s (q + m))
            rw [hn, sx_len] at hnl
            have hpos : 0 < m + n := by
              have := adv_pos (sx_ne hlt)
              unfold adv at this
              rw [hm, sx_drop, hn] at this
              exact this
            have HR := Lib.hid (show par s = (L ++ [(q, q + m)]) ++ pgs (sx s (q + m + n)) (q + m + n) by rw [HP.out, pgs_round hlt hm hn]; simp)
            have HM := Lib.hid hm
            have HN := Lib.hid hn
            clear hm hn HP
            obtain ⟨wq, hwq⟩ : ∃ wq, wr = wq := ⟨_, rfl⟩
            rw [hwq] at HO HF hw ⊢
            clear hwq
            go_wp2
            go_loopw [8] (fun iv wx => ∃ j : Nat, q ≤ j ∧ j ≤ s.size ∧ iv = .int .i64 j ∧ q + bdy (sx s q) = j + bdy (sx s j) ∧ wq = wx) (fun iv _ => s.size - (intOf iv).toNat)
            case atStart => exact ⟨q, Nat.le_refl _, hq, rfl, rfl, rfl⟩
            case round =>
              obtain ⟨j, hqj, hjs, rfl, hb, hwx⟩ := hrel
              subst hwx
              rw [HM.out] at hb
              have hj0 : (0 : Int) ≤ (j : Int) := by omega
              rcases (show (∃ h : j < s.size, ((s[j].toNat : Int) == 10) = false) ∨ (∃ h : j + 1 < s.size, ((s[j].toNat : Int) == 10) = true ∧ ((s[j + 1].toNat : Int) == 10) = false) ∨ ((∃ h : j + 1 < s.size, ((s[j].toNat : Int) == 10) = true ∧ ((s[j + 1].toNat : Int) == 10) = true) ∨ (∃ h : j < s.size, j + 1 = s.size ∧ ((s[j].toNat : Int) == 10) = true) ∨ j = s.size) by
                rcases Nat.lt_or_ge j s.size with h | h
                · rcases bool_two ((s[j].toNat : Int) == 10) with h1 | h1
                  · rcases Nat.lt_or_ge (j + 1) s.size with h2 | h2
                    · rcases bool_two ((s[j + 1].toNat : Int) == 10) with h3 | h3
                      · exact Or.inr (Or.inr (Or.inl ⟨h2, h1, h3⟩))
                      · exact Or.inr (Or.inl ⟨h2, h1, h3⟩)
                    · exact Or.inr (Or.inr (Or.inr (Or.inl ⟨h, by omega, h1⟩)))
                  · exact Or.inl ⟨h, h1⟩
                · exact Or.inr (Or.inr (Or.inr (Or.inr (by omega))))) with ⟨h, hc⟩ | ⟨h, hc, hd⟩ | hx
              · as_aux_lemma =>
                have HB := Lib.hid (show q + m = (j + 1) + bdy (sx s (j + 1)) by rw [hb, bdy_go h (of_not hc)]; omega)
                have h' : (j : Int) < (s.size : Int) := by omega
                clear hb
                go_wp2
                go_roundw
                case rel => exact ⟨j + 1, by omega, by omega, by go_num, by rw [HM.out]; exact HB.out, trivial⟩
                case measure => simp [intOf]; omega
              · as_aux_lemma =>
                have HB := Lib.hid (show q + m = (j + 1) + bdy (sx s (j + 1)) by rw [hb, bdy_one h (of_not hd)]; omega)
                have h' : (j : Int) < (s.size : Int) := by omega
                have h2 : (j : Int) + 1 < (s.size : Int) := by omega
                have h3 : ((j : Int) + 1 == (s.size : Int)) = false := by rw [beq_eq_false_iff_ne]; omega
                clear hb
                go_wp2
                go_roundw
                case rel => exact ⟨j + 1, by omega, by omega, by go_num, by rw [HM.out]; exact HB.out, trivial⟩
                case measure => simp [intOf]; omega
              · have hjm : q + m = j := by
                  rcases hx with ⟨h, hc, hd⟩ | ⟨h, h1, hc⟩ | h
                  · rw [bdy_two h (of_ten hc) (of_ten hd)] at hb; omega
                  · rw [bdy_last h (of_ten hc) (by omega)] at hb; omega
                  · rw [bdy_end (by omega)] at hb; omega
                have hx' : (∃ h : j + 1 < s.size, ((j : Int) < (s.size : Int) ∧ (j : Int) + 1 < (s.size : Int) ∧ ((j : Int) + 1 == (s.size : Int)) = false) ∧ ((s[j].toNat : Int) == 10) = true ∧ ((s[j + 1].toNat : Int) == 10) = true) ∨ (∃ h : j < s.size, ((j : Int) < (s.size : Int) ∧ ((j : Int) + 1 == (s.size : Int)) = true) ∧ ((s[j].toNat : Int) == 10) = true) ∨ (s.size : Int) ≤ (j : Int) := by
                  rcases hx with ⟨h, hc, hd⟩ | ⟨h, h1, hc⟩ | h
                  · exact Or.inl ⟨h, ⟨by omega, by omega, by rw [beq_eq_false_iff_ne]; omega⟩, hc, hd⟩
                  · exact Or.inr (Or.inl ⟨h, ⟨by omega, by rw [beq_iff_eq]; omega⟩, hc⟩)
                  · exact Or.inr (Or.inr (by omega))
                clear hx hb
                rw [hjm] at HN HR hnl
                have HE := Lib.hid hjm
                clear hjm
                rcases hx' with ⟨h, ⟨h1, h2, h3⟩, hc, hd⟩ | ⟨h, ⟨h1, h2⟩, hc⟩ | h1
                all_goals
                  as_aux_lemma =>
                  go_wp2_with (at_builtin; refine wpList_appP _ rfl _ _ rfl w.heap.size (.slice va L.length vc) L rfl (by exact HO.out) _ _ q j rfl rfl _ rfl (by rfl) (by omega) (by exact hw) ?_; intro a' c' w3 ho3 hf3; have HO3 := Lib.hid ho3; have HF3 := Lib.hid (frm_app HF.out HO.out (Nat.le_refl _) hf3); clear ho3 hf3)
                  go_loopw [8] (fun iv wx => ∃ i : Nat, j ≤ i ∧ i ≤ s.size ∧ iv = .int .i64 i ∧ j + n = i + nls (sx s i) ∧ w3 = wx) (fun iv _ => s.size - (intOf iv).toNat)
                  case atStart => exact ⟨j, Nat.le_refl _, hjs, rfl, by rw [HN.out], rfl⟩
                  case round =>
                    obtain ⟨i, hEi, his, rfl, hi, hwx⟩ := hrel
                    subst hwx
                    have hi0 : (0 : Int) ≤ (i : Int) := by omega
                    by_cases hil : i < s.size
                    · have hil' : (i : Int) < (s.size : Int) := by omega
                      rcases bool_two ((s[i].toNat : Int) == 10) with hic | hic
                      · have HI := Lib.hid (show j + n = (i + 1) + nls (sx s (i + 1)) by rw [hi, nls_at hil (of_ten hic)]; omega)
                        clear hi
                        go_wp2
                        go_roundw
                        case rel => exact ⟨i + 1, by omega, by omega, by go_num, HI.out, trivial⟩
                        case measure => simp [intOf]; omega
                      · have HI := Lib.hid (show j + n = i by rw [hi, nls_no hil (of_not hic)]; omega)
                        clear hi
                        go_wp2
                        go_roundw
                        case rel => exact ⟨i, L ++ [(q, j)], his, by have := HI.out; have := HE.out; simp; omega, rfl, HO3.out, by rw [HR.out, HI.out], HF3.out⟩
                        case measure => have := HI.out; have := HE.out; simp [intOf]; omega
                    · have hil' : (s.size : Int) ≤ (i : Int) := by omega
                      have HI := Lib.hid (show j + n = i by rw [hi, nls_end (by omega)]; omega)
                      clear hi
                      go_wp2
                      go_roundw
                      case rel => exact ⟨i, L ++ [(q, j)], his, by have := HI.out; have := HE.out; simp; omega, rfl, HO3.out, by rw [HR.out, HI.out], HF3.out⟩
                      case measure => have := HI.out; have := HE.out; simp [intOf]; omega

end Go.Proofs.YteaibkbdoocifaaDoor.inps
