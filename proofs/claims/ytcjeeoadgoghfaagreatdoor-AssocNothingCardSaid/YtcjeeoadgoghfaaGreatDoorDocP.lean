/- The document's Prefix: the nearest float of its numeral, and how much it read. -/
import Derived.Test.YtcjeeoadgoghfaaGreatDoorGDocL
import Derived.Deep.Cut
import Derived.Deep.DeepCutAuto

namespace Go.Proofs.YtcjeeoadgoghfaaGreatDoor.scan
set_option linter.unusedVariables false set_option linter.unusedSimpArgs false
open Go.ChangeShapes Go.WideShapes Go.ChangeAt Go.RowKit Go.Proofs.YtcjeeoadgoghfaaGreatDoor.Deci Go.Proofs.YtcjeeoadgoghfaaGreatDoor.deci Go.Proofs.YtcjeeoadgoghfaaGreatDoor.Usc

/-- What Prefix answers: the numeral's nearest float, and how much it read. -/
def PX (s : ByteArray) (w : World) (en : Ending) (w' : World) : Prop := (noNum (pT s) → en = .returned (.tuple #[.float .f64 0, .int .i64 0])) ∧
  (¬ noNum (pT s) → ∃ (x : Nat) (q : Int), NB (tenN (val (D0 s)) (q - ((D0 s).length : Int))) (tenD (q - ((D0 s).length : Int))) x ∧ (q = q0 s + eZ (powL (pT s)) ∨ D0 s = []) ∧
    en = .returned (.tuple #[.float .f64 (sgD (negL (pT s)) + x), .int .i64 ((pB s + sizeB (pT s) : Nat) : Int)])) ∧ Below w.heap.size w w'
theorem neg_at (s : ByteArray) (x : Nat) : (∃ h : x < s.size, ((s[x].toNat : Int) == 45) = ((s.data.toList.drop x).head? == some 45)) ∨ (s.size ≤ x ∧ ((s.data.toList.drop x).head? == some 45) = false) := by
  rcases head_at s x with ⟨h, e⟩ | ⟨h, e⟩
  · left
    refine ⟨h, ?_⟩
    rw [e]
    by_cases hc : s[x] = 45
    · rw [hc]; rfl
    · have h1 : ((s[x].toNat : Int) == 45) = false := by rw [beq_eq_false_iff_ne]; intro e2; exact hc (UInt8.toNat_inj.1 (by simp; omega))
      rw [h1]
      simp [hc]
  · right
    rw [e]
    exact ⟨h, rfl⟩
theorem neg_no (s : ByteArray) (x : Nat) (h : ∀ h : x < s.size, s[x] ≠ 43 ∧ s[x] ≠ 45) : ((s.data.toList.drop x).head? == some 45) = false := by
  rcases head_at s x with ⟨h2, e⟩ | ⟨h2, e⟩
  · rw [e]
    have := (h h2).2
    simp [this]
  · rw [e]; rfl

set_option maxRecDepth 100000 in
set_option maxHeartbeats 20000000 in
theorem prefx_all (s : ByteArray) (w : World) (hs : s.size ≤ 1000) : Calls Tryz.prog 11 #[.string s] w (PX s w) := by
  have hBl := pB_le s
  have hXl := pX_le s
  have HIN := Lib.hid (fun k (h : k < pB s) => run_inw isB s 0 k h)
  have HOUT := Lib.hid (run_out isB s 0)
  have HSG := Lib.hid (sg_at s (pB s))
  have HNA := Lib.hid (neg_at s (pB s))
  have HNN := Lib.hid (neg_no s (pB s))
  obtain ⟨N, hN⟩ : ∃ N : Bool, N = negL (pT s) := ⟨_, rfl⟩
  have HN := Lib.hid hN
  have hN2 : N = ((s.data.toList.drop (pB s)).head? == some 45) := hN
  rw [← hN2] at HNA HNN
  clear hN hN2
  go_enter Tryz.func11, Tryz.ntmps11
  go_wp2_with fail
  go_loopw [4] (fun iv wr => ∃ k : Nat, iv = .int .i64 (k : Int) ∧ k ≤ pB s ∧ w = wr) (fun iv _ => pB s - (intOf iv).toNat)
  case atStart => exact ⟨0, rfl, by omega, rfl⟩
  case round =>
    obtain ⟨k, rfl, hk, rfl⟩ := hrel
    have h1 : (0 : Int) ≤ (k : Int) := by omega
    go_upto_region 2 with fail
    go_cut [22] (fun tv wx => tv = .bool (decide (k < pB s)) ∧ w = wx)
    case first =>
      by_cases hlt : k < pB s
      · obtain ⟨hq, hb⟩ := HIN.out k hlt
        have hq' : k < s.size := by omega
        have HB := Lib.hid (show isB s[k] = true by simpa using hb)
        clear hb
        have h2 : (k : Int) < (s.size : Int) := by omega
        as_aux_lemma =>
        go_wp2_with (go_at_call 48; go_must (refine (blankD_all s[k] _).mono ?_; rintro en w2 ⟨rfl, rfl⟩; rw [HB.out]))
        go_meet
        exact ⟨by rw [decide_eq_true hlt], rfl⟩
      · by_cases hq : k < s.size
        · have HB := Lib.hid (show isB s[k] = false by
            have h0 : k = pB s := by omega
            subst h0
            have := HOUT.out (by simpa [pB] using hq)
            simpa [pB] using this)
          have h2 : (k : Int) < (s.size : Int) := by omega
          as_aux_lemma =>
          go_wp2_with (go_at_call 48; go_must (refine (blankD_all s[k] _).mono ?_; rintro en w2 ⟨rfl, rfl⟩; rw [HB.out]))
          go_meet
          exact ⟨by rw [decide_eq_false hlt], rfl⟩
        · have h2 : ¬ (k : Int) < (s.size : Int) := by omega
          as_aux_lemma =>
          go_wp2_with fail
          go_meet
          exact ⟨by rw [decide_eq_false hlt], rfl⟩
    case rest =>
    obtain ⟨rfl, rfl⟩ := hcut
    by_cases hlt : k < pB s
    · have hd : decide (k < pB s) = true := decide_eq_true hlt
      as_aux_lemma =>
      go_wp2_with fail
      exact ⟨⟨k + 1, by go_num, by omega, by simp⟩, by simp [intOf]; omega⟩
    · have hd : decide (k < pB s) = false := decide_eq_false hlt
      obtain rfl : k = pB s := by omega
      go_upto_region 5 with fail
      go_cut [40] (fun tv wx => tv = .bool (sg (pT s) == 1) ∧ w = wx)
      case first =>
        rcases HSG.out with ⟨h, hc, hg⟩ | ⟨hc, hg⟩
        · have HG := Lib.hid hg
          clear hg
          have h2 : ((pB s : Nat) : Int) < (s.size : Int) := by omega
          have h3 : (s[pB s].toNat : Int) = 43 ∨ (s[pB s].toNat : Int) = 45 := by
            rcases hc with e | e <;> rw [e] <;> simp
          clear hc
          by_cases e1 : (s[pB s].toNat : Int) = 43
          · have f1 : ((s[pB s].toNat : Int) == 43) = true := by rw [e1]; rfl
            clear h3 e1
            as_aux_lemma =>
            go_wp2_with fail
            go_meet
            exact ⟨by show _ = Value.bool (sg (s.data.toList.drop (pB s)) == 1); rw [HG.out]; rfl, rfl⟩
          · have f1 : ((s[pB s].toNat : Int) == 43) = false := by simpa using e1
            have f2 : ((s[pB s].toNat : Int) == 45) = true := by rw [show (s[pB s].toNat : Int) = 45 by omega]; rfl
            clear h3 e1
            as_aux_lemma =>
            go_wp2_with fail
            go_meet
            exact ⟨by show _ = Value.bool (sg (s.data.toList.drop (pB s)) == 1); rw [HG.out]; rfl, rfl⟩
        · have HG := Lib.hid hg
          clear hg
          by_cases h : pB s < s.size
          · have h2 : ((pB s : Nat) : Int) < (s.size : Int) := by omega
            have h3 := hc h
            have f1 : ((s[pB s].toNat : Int) == 43) = false := by
              rw [beq_eq_false_iff_ne]; intro e; exact h3.1 (UInt8.toNat_inj.1 (by simp; omega))
            have f2 : ((s[pB s].toNat : Int) == 45) = false := by
              rw [beq_eq_false_iff_ne]; intro e; exact h3.2 (UInt8.toNat_inj.1 (by simp; omega))
            clear h3 hc
            as_aux_lemma =>
            go_wp2_with fail
            go_meet
            exact ⟨by show _ = Value.bool (sg (s.data.toList.drop (pB s)) == 1); rw [HG.out]; rfl, rfl⟩
          · have h2 : ¬ ((pB s : Nat) : Int) < (s.size : Int) := by omega
            clear hc
            as_aux_lemma =>
            go_wp2_with fail
            go_meet
            exact ⟨by show _ = Value.bool (sg (s.data.toList.drop (pB s)) == 1); rw [HG.out]; rfl, rfl⟩
      case rest =>
      obtain ⟨rfl, rfl⟩ := hcut
      go_upto_if 40 with fail
      go_cut [4, 5] (fun iv nv wx => iv = .int .i64 ((pX s : Nat) : Int) ∧ nv = .bool N ∧ w = wx)
      case first =>
        rcases HSG.out with ⟨h, hc, hg⟩ | ⟨hc, hg⟩
        · have HG := Lib.hid (show ((pB s : Nat) : Int) + 1 = ((pX s : Nat) : Int) by unfold pX; rw [show sg (pT s) = 1 from hg]; omega)
          have hd : (sg (pT s) == 1) = true := by rw [show sg (pT s) = 1 from hg]; rfl
          have h2 : ((pB s : Nat) : Int) < (s.size : Int) := by omega
          have hn45 : ((s[pB s].toNat : Int) == 45) = N := by
            rcases HNA.out with ⟨_, e⟩ | ⟨e, _⟩
            · exact e
            · omega
          have HN45 := Lib.hid hn45
          clear hg hc HNA HNN
          cases N
          · as_aux_lemma =>
            go_wp2_with fail
            go_meet
            exact ⟨by rw [HG.out], by first | rfl | (rw [HN45.out]) | (simp [HN45.out]), rfl⟩
          · as_aux_lemma =>
            go_wp2_with fail
            go_meet
            exact ⟨by rw [HG.out], by first | rfl | (rw [HN45.out]) | (simp [HN45.out]), rfl⟩
        · have HG := Lib.hid (show ((pB s : Nat) : Int) = ((pX s : Nat) : Int) by unfold pX; rw [show sg (pT s) = 0 from hg]; omega)
          have hd : (sg (pT s) == 1) = false := by rw [show sg (pT s) = 0 from hg]; rfl
          have hn := HNN.out hc
          subst hn
          clear hg hc HNA HNN
          as_aux_lemma =>
          go_wp2_with fail
          go_meet
          exact ⟨by rw [HG.out], rfl, rfl⟩
      case rest =>
      obtain ⟨rfl, rfl, rfl⟩ := hcut
      clear HSG HIN HOUT HNA HNN
      have HI := Lib.hid (show (Tryz.prog.info? 3).map (fun i => (i.zero, i.size, i.bytes)) = some (some (.int .i64 0), 1, 8) by kernel_rfl)
      have HS0 := Lib.hid (HoldX.start s w)
      go_wp2_with fail
      go_loopw [4, 7, 8] (fun iv sv pv wr => ∃ (i : Nat) (sm pt : Bool), iv = .int .i64 (i : Int) ∧ sv = .bool sm ∧ pv = .bool pt ∧ At3 s i sm pt ∧ i ≤ s.size ∧ HoldX s w wr i pt) (fun iv _ _ _ => s.size - (intOf iv).toNat)
      case atStart => exact ⟨pX s, false, false, rfl, rfl, rfl, Or.inl ⟨0, by omega, by omega, by simp, rfl⟩, hXl, HS0.out⟩
      case round =>
        clear HS0
        obtain ⟨i, sm, pt, rfl, rfl, rfl, hat, his, v, l, p, hbx, hown, hdg, hld, hll, hp0, hp1, hsz, hbel, HDP⟩ := hrel
        obtain ⟨a, c, rfl⟩ := hown.rd.forms
        have HBX := Lib.hid hbx
        have HOWN := Lib.hid hown
        have HDG := Lib.hid hdg
        have HLD := Lib.hid hld
        have HBE := Lib.hid hbel
        have x0 := hbx.c0
        have x1 := hbx.c1
        have xf0 := hbx.f 0
        have xf1 := hbx.f 1
        have hi0 : (0 : Int) ≤ (i : Int) := by omega
        clear hbx hown hdg hld hbel
        rcases at_cases s i sm pt hat with ⟨hi, hdig, hat2⟩ | ⟨rfl, hi, h46, hno, rfl, hnx⟩ | ⟨rfl, hi, h46, hat2, hnx⟩ | ⟨hend, hq⟩
        · have HB := Lib.hid hdig
          have h48 : 48 ≤ (s[i].toNat : Int) ∧ (s[i].toNat : Int) ≤ 57 := by rw [isD_int] at hdig; exact of_decide_eq_true hdig
          have hi2 : (i : Int) < (s.size : Int) := by omega
          have hlo := h48.1
          have hhi := h48.2
          have f46 : ((s[i].toNat : Int) == 46) = false := by rw [beq_eq_false_iff_ne]; omega
          have HAT := Lib.hid hat2
          have HA0 := Lib.hid hat
          clear h48 hdig hat hat2
          by_cases hd0 : (0 : Int) < (s[i].toNat : Int) - 48
          · have HDG2 := Lib.hid (digs_snoc HDG.out (show s[i].toNat - 48 ≤ 9 by omega))
            have HLD2 := Lib.hid (led_snoc HLD.out (Or.inl (show 0 < s[i].toNat - 48 by omega)))
            cases pt with
            | true =>
              have HDQ := Lib.hid (dp_ps HA0.out hi HB.out HDP.out (Or.inl (by omega)))
              clear HDP
              as_aux_lemma =>
              go_wp2_with (first | (go_at_call 49; go_must (refine (digitD_all s[i] _).mono ?_; rintro en w2 ⟨rfl, rfl⟩; rw [HB.out])) | (at_builtin; go_must (refine wpList_appI1 _ rfl (.tmp 103) (.tmp 105) 83 rfl (w.heap.size + 1) 3 Tryz.underlying83 HI.out _ _ rfl HOWN.out _ rfl (s[i].toNat - 48) (by omega) (by omega) (by omega) ?_; intro v' w1 hown' hb1; obtain ⟨a1, c1, rfl⟩ := hown'.rd.forms; rw [List.length_append, List.length_singleton] at hown'; have HO1 := Lib.hid hown'; have hz1 := hb1.size; have K0 := Lib.hid (HBX.out.below hb1 (by omega)); have y0 := K0.out.c0; have y1 := K0.out.c1; have yf0 := K0.out.f 0; have yf1 := K0.out.f 1; have HB1 := Lib.hid (HBE.out.trans (hb1.mono (by omega))); clear hb1 hown')))
              go_roundw
              case rel => exact ⟨i + 1, true, true, by go_num, rfl, rfl, HAT.out, by omega, _, _, _, K0.out.set0 _, HO1.out.set w.heap.size 0 _ (by omega), HDG2.out, HLD2.out, by simp; omega, by omega, by omega, by simp; omega, HB1.out.setCell (by simp) _, HDQ⟩
              case measure => simp [intOf]; omega
            | false =>
              have HDQ := Lib.hid (dp_ws HA0.out hi HB.out HDP.out (Or.inl (by omega)))
              clear HDP
              as_aux_lemma =>
              go_wp2_with (first | (go_at_call 49; go_must (refine (digitD_all s[i] _).mono ?_; rintro en w2 ⟨rfl, rfl⟩; rw [HB.out])) | (at_builtin; go_must (refine wpList_appI1 _ rfl (.tmp 103) (.tmp 105) 83 rfl (w.heap.size + 1) 3 Tryz.underlying83 HI.out _ _ rfl HOWN.out _ rfl (s[i].toNat - 48) (by omega) (by omega) (by omega) ?_; intro v' w1 hown' hb1; obtain ⟨a1, c1, rfl⟩ := hown'.rd.forms; rw [List.length_append, List.length_singleton] at hown'; have HO1 := Lib.hid hown'; have hz1 := hb1.size; have K0 := Lib.hid (HBX.out.below hb1 (by omega)); have y0 := K0.out.c0; have y1 := K0.out.c1; have yf0 := K0.out.f 0; have yf1 := K0.out.f 1; have HB1 := Lib.hid (HBE.out.trans (hb1.mono (by omega))); clear hb1 hown')))
              go_roundw
              case rel => exact ⟨i + 1, true, false, by go_num, rfl, rfl, HAT.out, by omega, _, _, _, (K0.out.set0 _).set1 _, (HO1.out.set w.heap.size 0 _ (by omega)).set w.heap.size 1 _ (by omega), HDG2.out, HLD2.out, by simp; omega, by omega, by omega, by simp; omega, (HB1.out.setCell (by simp) _).setCell (by simp) _, HDQ⟩
              case measure => simp [intOf]; omega
          · by_cases hl0 : (0 : Int) < (l.length : Int)
            · have HDG2 := Lib.hid (digs_snoc HDG.out (show s[i].toNat - 48 ≤ 9 by omega))
              have HLD2 := Lib.hid (led_snoc HLD.out (Or.inr (show l ≠ [] by rintro rfl; simp at hl0)) : Led (l ++ [s[i].toNat - 48]))
              cases pt with
              | true =>
                have HDQ := Lib.hid (dp_ps HA0.out hi HB.out HDP.out (Or.inr (by rintro rfl; simp at hl0)))
                clear HDP
                as_aux_lemma =>
                go_wp2_with (first | (go_at_call 49; go_must (refine (digitD_all s[i] _).mono ?_; rintro en w2 ⟨rfl, rfl⟩; rw [HB.out])) | (at_builtin; go_must (refine wpList_appI1 _ rfl (.tmp 103) (.tmp 105) 83 rfl (w.heap.size + 1) 3 Tryz.underlying83 HI.out _ _ rfl HOWN.out _ rfl (s[i].toNat - 48) (by omega) (by omega) (by omega) ?_; intro v' w1 hown' hb1; obtain ⟨a1, c1, rfl⟩ := hown'.rd.forms; rw [List.length_append, List.length_singleton] at hown'; have HO1 := Lib.hid hown'; have hz1 := hb1.size; have K0 := Lib.hid (HBX.out.below hb1 (by omega)); have y0 := K0.out.c0; have y1 := K0.out.c1; have yf0 := K0.out.f 0; have yf1 := K0.out.f 1; have HB1 := Lib.hid (HBE.out.trans (hb1.mono (by omega))); clear hb1 hown')))
                go_roundw
                case rel => exact ⟨i + 1, true, true, by go_num, rfl, rfl, HAT.out, by omega, _, _, _, K0.out.set0 _, HO1.out.set w.heap.size 0 _ (by omega), HDG2.out, HLD2.out, by simp; omega, by omega, by omega, by simp; omega, HB1.out.setCell (by simp) _, HDQ⟩
                case measure => simp [intOf]; omega
              | false =>
                have HDQ := Lib.hid (dp_ws HA0.out hi HB.out HDP.out (Or.inr (by rintro rfl; simp at hl0)))
                clear HDP
                as_aux_lemma =>
                go_wp2_with (first | (go_at_call 49; go_must (refine (digitD_all s[i] _).mono ?_; rintro en w2 ⟨rfl, rfl⟩; rw [HB.out])) | (at_builtin; go_must (refine wpList_appI1 _ rfl (.tmp 103) (.tmp 105) 83 rfl (w.heap.size + 1) 3 Tryz.underlying83 HI.out _ _ rfl HOWN.out _ rfl (s[i].toNat - 48) (by omega) (by omega) (by omega) ?_; intro v' w1 hown' hb1; obtain ⟨a1, c1, rfl⟩ := hown'.rd.forms; rw [List.length_append, List.length_singleton] at hown'; have HO1 := Lib.hid hown'; have hz1 := hb1.size; have K0 := Lib.hid (HBX.out.below hb1 (by omega)); have y0 := K0.out.c0; have y1 := K0.out.c1; have yf0 := K0.out.f 0; have yf1 := K0.out.f 1; have HB1 := Lib.hid (HBE.out.trans (hb1.mono (by omega))); clear hb1 hown')))
                go_roundw
                case rel => exact ⟨i + 1, true, false, by go_num, rfl, rfl, HAT.out, by omega, _, _, _, (K0.out.set0 _).set1 _, (HO1.out.set w.heap.size 0 _ (by omega)).set w.heap.size 1 _ (by omega), HDG2.out, HLD2.out, by simp; omega, by omega, by omega, by simp; omega, (HB1.out.setCell (by simp) _).setCell (by simp) _, HDQ⟩
                case measure => simp [intOf]; omega
            · cases pt with
              | true =>
                have HDQ := Lib.hid (dp_pn HA0.out hi HB.out HDP.out (by omega) (List.length_eq_zero_iff.1 (by omega)))
                clear HDP
                as_aux_lemma =>
                go_wp2_with (first | (go_at_call 49; go_must (refine (digitD_all s[i] _).mono ?_; rintro en w2 ⟨rfl, rfl⟩; rw [HB.out])))
                go_roundw
                case rel => exact ⟨i + 1, true, true, by go_num, rfl, rfl, HAT.out, by omega, _, _, _, HBX.out.set1 _, HOWN.out.set w.heap.size 1 _ (by omega), HDG.out, HLD.out, by omega, by omega, by omega, by simp; omega, HBE.out.setCell (by simp) _, HDQ⟩
                case measure => simp [intOf]; omega
              | false =>
                have HDQ := Lib.hid (dp_wn HA0.out hi HB.out HDP.out (by omega) (List.length_eq_zero_iff.1 (by omega)))
                clear HDP
                as_aux_lemma =>
                go_wp2_with (first | (go_at_call 49; go_must (refine (digitD_all s[i] _).mono ?_; rintro en w2 ⟨rfl, rfl⟩; rw [HB.out])))
                go_roundw
                case rel => exact ⟨i + 1, true, false, by go_num, rfl, rfl, HAT.out, by omega, _, _, _, HBX.out, HOWN.out, HDG.out, HLD.out, by omega, by omega, by omega, by omega, HBE.out, HDQ⟩
                case measure => simp [intOf]; omega
        · have HB := Lib.hid (show isD s[i] = false by rw [h46]; exact isD46)
          have f46 : ((s[i].toNat : Int) == 46) = true := by rw [h46]; rfl
          have HNO := Lib.hid hno
          have hi2 : (i : Int) < (s.size : Int) := by omega
          have HNX := Lib.hid hnx
          clear hno hat h46 hnx
          by_cases hi1 : i + 1 < s.size
          · have HB1 := Lib.hid (HNX.out hi1)
            have hi3 : (i : Int) + 1 < (s.size : Int) := by omega
            as_aux_lemma =>
            go_wp2_with (first | (go_at_call 49; (with_reducible refine (digitD_all s[i] _).mono ?_); rintro en w2 ⟨rfl, rfl⟩; rw [HB.out]) | (go_at_call 49; (with_reducible refine (digitD_all s[i + 1] _).mono ?_); rintro en w2 ⟨rfl, rfl⟩; rw [HB1.out]))
            go_ret2
            exact ⟨fun _ => rfl, fun h => absurd HNO.out h, HBE.out⟩
          · have hi3 : ¬ (i : Int) + 1 < (s.size : Int) := by omega
            as_aux_lemma =>
            go_wp2_with (go_at_call 49; (with_reducible refine (digitD_all s[i] _).mono ?_); rintro en w2 ⟨rfl, rfl⟩; rw [HB.out])
            go_ret2
            exact ⟨fun _ => rfl, fun h => absurd HNO.out h, HBE.out⟩
        · have HB := Lib.hid (show isD s[i] = false by rw [h46]; exact isD46)
          have f46 : ((s[i].toNat : Int) == 46) = true := by rw [h46]; rfl
          have hi2 : (i : Int) < (s.size : Int) := by omega
          have HAT := Lib.hid hat2
          have HDQ := Lib.hid (dp_t hat hat2 HDP.out)
          clear hat h46 hat2 HDP
          rcases hnx with rfl | ⟨rfl, hi1, hnd⟩
          · go_wp2_with (go_at_call 49; (with_reducible refine (digitD_all s[i] _).mono ?_); rintro en w2 ⟨rfl, rfl⟩; rw [HB.out])
            go_roundw
            case rel => exact ⟨i + 1, true, true, by go_num, rfl, rfl, HAT.out, by omega, _, _, _, HBX.out, HOWN.out, HDG.out, HLD.out, by omega, by omega, by omega, by omega, HBE.out, HDQ⟩
            case measure => simp [intOf]; omega
          · have HB1 := Lib.hid hnd
            have hi3 : (i : Int) + 1 < (s.size : Int) := by omega
            clear hnd
            as_aux_lemma =>
            go_wp2_with (first | (go_at_call 49; (with_reducible refine (digitD_all s[i] _).mono ?_); rintro en w2 ⟨rfl, rfl⟩; rw [HB.out]) | (go_at_call 49; (with_reducible refine (digitD_all s[i + 1] _).mono ?_); rintro en w2 ⟨rfl, rfl⟩; rw [HB1.out]))
            go_roundw
            case rel => exact ⟨i + 1, false, true, by go_num, rfl, rfl, HAT.out, by omega, _, _, _, HBX.out, HOWN.out, HDG.out, HLD.out, by omega, by omega, by omega, by omega, HBE.out, HDQ⟩
            case measure => simp [intOf]; omega
        · have HA0 := Lib.hid hat
          go_upto_region 11 with fail
          go_cut [67] (fun tv wx => tv = .bool false ∧ wr = wx)
          case first =>
            by_cases hi : i < s.size
            · obtain ⟨hb, hor⟩ := hend hi
              have HB := Lib.hid hb
              have hi2 : (i : Int) < (s.size : Int) := by omega
              clear hb hend hq hat
              cases pt with
              | true =>
                clear hor
                by_cases h46 : (s[i].toNat : Int) = 46
                · have f46 : ((s[i].toNat : Int) == 46) = true := by rw [h46]; rfl
                  clear h46
                  as_aux_lemma =>
                  go_wp2_with (go_at_call 49; (with_reducible refine (digitD_all s[i] _).mono ?_); rintro en w2 ⟨rfl, rfl⟩; rw [HB.out])
                  go_meet
                  exact ⟨rfl, rfl⟩
                · have f46 : ((s[i].toNat : Int) == 46) = false := by rw [beq_eq_false_iff_ne]; exact h46
                  as_aux_lemma =>
                  go_wp2_with (go_at_call 49; (with_reducible refine (digitD_all s[i] _).mono ?_); rintro en w2 ⟨rfl, rfl⟩; rw [HB.out])
                  go_meet
                  exact ⟨rfl, rfl⟩
              | false =>
                have f46 : ((s[i].toNat : Int) == 46) = false := by
                  rw [beq_eq_false_iff_ne]
                  intro e
                  exact hor.resolve_left (by decide) (UInt8.toNat_inj.1 (by simp; omega))
                clear hor
                as_aux_lemma =>
                go_wp2_with (go_at_call 49; (with_reducible refine (digitD_all s[i] _).mono ?_); rintro en w2 ⟨rfl, rfl⟩; rw [HB.out])
                go_meet
                exact ⟨rfl, rfl⟩
            · have hi2 : ¬ (i : Int) < (s.size : Int) := by omega
              clear hend hq hat
              as_aux_lemma =>
              go_wp2_with fail
              go_meet
              exact ⟨rfl, rfl⟩
          case rest =>
          obtain ⟨rfl, rfl⟩ := hcut
          clear hend hat
          rcases hq with ⟨hno, rfl⟩ | ⟨hno, rfl, hqi⟩
          · have HNO := Lib.hid hno
            clear hno
            as_aux_lemma =>
            go_wp2_with fail
            go_ret2
            exact ⟨fun _ => rfl, fun h => absurd HNO.out h, HBE.out⟩
          · have HNO := Lib.hid hno
            have HLP := Lib.hid (lp_at s i)
            have HSZ := Lib.hid (size_at s i hqi)
            have HDE := Lib.hid (dp_end HA0.out hqi HDP.out)
            have HPW := Lib.hid (pow_at s i hqi)
            clear hno hqi HA0 HDP
            obtain ⟨tE, htE⟩ : ∃ tE : Bool, tE = true ↔ ∃ h : i < s.size, s[i] = 101 ∨ s[i] = 69 := by
              by_cases h : ∃ h : i < s.size, s[i] = 101 ∨ s[i] = 69
              · exact ⟨true, by simpa using h⟩
              · exact ⟨false, by simpa using h⟩
            have HE := Lib.hid htE
            clear htE
            go_upto_region 27 with fail
            go_cut [139] (fun tv wx => tv = .bool tE ∧ wr = wx)
            case first =>
              by_cases hi : i < s.size
              · have hi2 : (i : Int) < (s.size : Int) := by omega
                by_cases h101 : (s[i].toNat : Int) = 101
                · have f1 : ((s[i].toNat : Int) == 101) = true := by rw [h101]; rfl
                  have ht : tE = true := HE.out.2 ⟨hi, Or.inl (UInt8.toNat_inj.1 (by simp; omega))⟩
                  subst ht
                  clear h101
                  as_aux_lemma =>
                  go_wp2_with fail
                  go_meet
                  exact ⟨rfl, rfl⟩
                · have f1 : ((s[i].toNat : Int) == 101) = false := by rw [beq_eq_false_iff_ne]; exact h101
                  by_cases h69 : (s[i].toNat : Int) = 69
                  · have f2 : ((s[i].toNat : Int) == 69) = true := by rw [h69]; rfl
                    have ht : tE = true := HE.out.2 ⟨hi, Or.inr (UInt8.toNat_inj.1 (by simp; omega))⟩
                    subst ht
                    clear h101 h69
                    as_aux_lemma =>
                    go_wp2_with fail
                    go_meet
                    exact ⟨rfl, rfl⟩
                  · have f2 : ((s[i].toNat : Int) == 69) = false := by rw [beq_eq_false_iff_ne]; exact h69
                    have ht : tE = false := by
                      cases tE with
                      | false => rfl
                      | true =>
                        obtain ⟨_, h | h⟩ := HE.out.1 rfl
                        · exact absurd (by rw [h]; rfl) h101
                        · exact absurd (by rw [h]; rfl) h69
                    subst ht
                    clear h101 h69
                    as_aux_lemma =>
                    go_wp2_with fail
                    go_meet
                    exact ⟨rfl, rfl⟩
              · have hi2 : ¬ (i : Int) < (s.size : Int) := by omega
                have ht : tE = false := by
                  cases tE with
                  | false => rfl
                  | true => exact absurd (HE.out.1 rfl).1 hi
                subst ht
                as_aux_lemma =>
                go_wp2_with fail
                go_meet
                exact ⟨rfl, rfl⟩
            case rest =>
            obtain ⟨rfl, rfl⟩ := hcut
            go_upto_if 139 with fail
            go_cut [4] (fun iv wx => iv = .int .i64 ((pB s + sizeB (pT s) : Nat) : Int) ∧ Hold2X s w wx)
            case first =>
              have HQ : powL (pT s) = [] ∨ l = [] → Hid (Hold2X s w wr) := fun h => Lib.hid ⟨_, l, p, HBX.out, HOWN.out, HDG.out, HLD.out, by omega, hsz, HBE.out, Lib.hid ⟨HDE.out.1, h.imp (fun h => by rw [h, eZ_nil, HDE.out.2]; omega) id⟩⟩
              cases tE with
              | false =>
                have HQ := HQ (Or.inl (by
                  rw [HPW.out]
                  rcases HLP.out with ⟨h, hc, _⟩ | ⟨h, _⟩
                  · exact absurd (HE.out.2 ⟨h, hc⟩) (by decide)
                  · exact h))
                have HP := Lib.hid (show pB s + sizeB (pT s) = i by
                  rw [HSZ.out]
                  rcases HLP.out with ⟨h, hc, _⟩ | ⟨h, _⟩
                  · exact absurd (HE.out.2 ⟨h, hc⟩) (by decide)
                  · rw [if_pos h]; omega)
                clear HLP HSZ HE
                as_aux_lemma =>
                go_wp2_with fail
                go_meet
                exact ⟨by rw [HP.out], HQ.out⟩
              | true =>
                obtain ⟨hi, hie⟩ := HE.out.1 rfl
                have HIE := Lib.hid hie
                clear hie HE
                obtain ⟨q1, hq1⟩ : ∃ q1, q1 = i + 1 := ⟨_, rfl⟩
                obtain ⟨K, hK⟩ : ∃ K, K = q1 + sg (s.data.toList.drop q1) := ⟨_, rfl⟩
                obtain ⟨G, hG⟩ : ∃ G, G = xG s i := ⟨_, rfl⟩
                have hG2 : G = run isD s K := by rw [hG, hK, hq1]; rfl
                have HIN := Lib.hid (fun x (h : x < G) => run_inw isD s K x (by rw [← hG2]; exact h))
                have HOUT := Lib.hid (show ∀ h : K + G < s.size, isD s[K + G] = false by rw [hG2]; exact run_out isD s K)
                have HSG := Lib.hid (sg_at s q1)
                have HNA := Lib.hid (neg_at s q1)
                have HNN := Lib.hid (neg_no s q1)
                obtain ⟨M, hM⟩ : ∃ M : Bool, M = ((s.data.toList.drop q1).head? == some 45) := ⟨_, rfl⟩
                rw [← hM] at HNA HNN
                have HEZ := Lib.hid (show 0 < G → eZ (powL (pT s)) = if M = true then -((eN ((s.data.toList.drop K).take G) : Nat) : Int) else ((eN ((s.data.toList.drop K).take G) : Nat) : Int) by
                  intro h
                  subst hM hq1 hK hG
                  rw [HPW.out, eZ_at s i hi HIE.out h]
                  simp only [beq_iff_eq]
                  rfl)
                have HGZ := Lib.hid (show G = 0 → powL (pT s) = [] by
                  intro h
                  rw [HPW.out]
                  rcases HLP.out with ⟨_, _, hg, _⟩ | ⟨h, _⟩
                  · rw [← hG] at hg; omega
                  · exact h)
                clear hM HPW
                have HK := Lib.hid hK
                have hq1s : q1 ≤ s.size := by omega
                have hKs : K ≤ s.size := by
                  have := (sg_le (s.data.toList.drop q1)).1
                  rw [List.length_drop] at this
                  simp only [Array.length_toList] at this
                  have e : s.data.size = s.size := rfl
                  omega
                have hKG : K + G ≤ s.size := by rw [hG2]; exact run_le isD s K hKs
                have HP := Lib.hid (show pB s + sizeB (pT s) = if G = 0 then i else K + G by
                  rw [HSZ.out]
                  rcases HLP.out with ⟨h, hc, hg, hne, hl⟩ | ⟨h, hx⟩
                  · rw [if_neg hne, hl, if_neg (by omega), hK, hq1, hG]; unfold xS; omega
                  · rw [if_pos h, if_pos (by rw [hG]; exact hx hi HIE.out)]; omega)
                have HQ1 := Lib.hid hq1
                clear hq1 hK hG hG2 HLP HSZ HIE
                go_upto_region 28 with fail
                go_cut [10] (fun kv wx => kv = .int .i64 (q1 : Int) ∧ wr = wx)
                case first =>
                  as_aux_lemma =>
                  go_wp2_with fail
                  go_meet
                  exact ⟨by rw [HQ1.out]; go_num, rfl⟩
                case rest =>
                obtain ⟨rfl, rfl⟩ := hcut
                go_upto_region 30 with fail
                go_cut [157] (fun tv wx => tv = .bool (sg (s.data.toList.drop q1) == 1) ∧ wr = wx)
                case first =>
                  rcases HSG.out with ⟨h, hc, hg⟩ | ⟨hc, hg⟩
                  · have HG := Lib.hid hg
                    clear hg
                    have h2 : (q1 : Int) < (s.size : Int) := by omega
                    have h3 : (s[q1].toNat : Int) = 43 ∨ (s[q1].toNat : Int) = 45 := by
                      rcases hc with e | e <;> rw [e] <;> simp
                    clear hc
                    by_cases e1 : (s[q1].toNat : Int) = 43
                    · have f1 : ((s[q1].toNat : Int) == 43) = true := by rw [e1]; rfl
                      clear h3 e1
                      as_aux_lemma =>
                      go_wp2_with fail
                      go_meet
                      exact ⟨by rw [HG.out]; rfl, rfl⟩
                    · have f1 : ((s[q1].toNat : Int) == 43) = false := by simpa using e1
                      have f2 : ((s[q1].toNat : Int) == 45) = true := by rw [show (s[q1].toNat : Int) = 45 by omega]; rfl
                      clear h3 e1
                      as_aux_lemma =>
                      go_wp2_with fail
                      go_meet
                      exact ⟨by rw [HG.out]; rfl, rfl⟩
                  · have HG := Lib.hid hg
                    clear hg
                    by_cases h : q1 < s.size
                    · have h2 : (q1 : Int) < (s.size : Int) := by omega
                      have h3 := hc h
                      have f1 : ((s[q1].toNat : Int) == 43) = false := by
                        rw [beq_eq_false_iff_ne]; intro e; exact h3.1 (UInt8.toNat_inj.1 (by simp; omega))
                      have f2 : ((s[q1].toNat : Int) == 45) = false := by
                        rw [beq_eq_false_iff_ne]; intro e; exact h3.2 (UInt8.toNat_inj.1 (by simp; omega))
                      clear h3 hc
                      as_aux_lemma =>
                      go_wp2_with fail
                      go_meet
                      exact ⟨by rw [HG.out]; rfl, rfl⟩
                    · have h2 : ¬ (q1 : Int) < (s.size : Int) := by omega
                      clear hc
                      as_aux_lemma =>
                      go_wp2_with fail
                      go_meet
                      exact ⟨by rw [HG.out]; rfl, rfl⟩
                case rest =>
                obtain ⟨rfl, rfl⟩ := hcut
                go_upto_if 157 with fail
                go_cut [10, 11] (fun kv dv wx => kv = .int .i64 (K : Int) ∧ dv = .bool M ∧ wr = wx)
                case first =>
                  rcases HSG.out with ⟨h, hc, hg⟩ | ⟨hc, hg⟩
                  · have HG := Lib.hid (show (q1 : Int) + 1 = (K : Int) by rw [HK.out, hg]; omega)
                    have hd : (sg (s.data.toList.drop q1) == 1) = true := by rw [hg]; rfl
                    have h2 : (q1 : Int) < (s.size : Int) := by omega
                    have hn45 : ((s[q1].toNat : Int) == 45) = M := by
                      rcases HNA.out with ⟨_, e⟩ | ⟨e, _⟩
                      · exact e
                      · omega
                    have HN45 := Lib.hid hn45
                    clear hg hc HNA HNN HEZ
                    cases M
                    · as_aux_lemma =>
                      go_wp2_with fail
                      go_meet
                      exact ⟨by rw [HG.out], by first | rfl | (rw [HN45.out]) | (simp [HN45.out]), rfl⟩
                    · as_aux_lemma =>
                      go_wp2_with fail
                      go_meet
                      exact ⟨by rw [HG.out], by first | rfl | (rw [HN45.out]) | (simp [HN45.out]), rfl⟩
                  · have HG := Lib.hid (show (q1 : Int) = (K : Int) by rw [HK.out, hg]; omega)
                    have hd : (sg (s.data.toList.drop q1) == 1) = false := by rw [hg]; rfl
                    have hn := HNN.out hc
                    subst hn
                    clear hg hc HNA HNN HEZ
                    as_aux_lemma =>
                    go_wp2_with fail
                    go_meet
                    exact ⟨by rw [HG.out], rfl, rfl⟩
                case rest =>
                obtain ⟨rfl, rfl, rfl⟩ := hcut
                clear HSG HK HQ1 HNA HNN
                by_cases hG0 : G = 0
                · have HQ := HQ (Or.inl (HGZ.out hG0))
                  clear HGZ HEZ
                  have HP2 := Lib.hid (show pB s + sizeB (pT s) = i by rw [HP.out, if_pos hG0])
                  by_cases hk : K < s.size
                  · have HB := Lib.hid (show isD s[K] = false by have := HOUT.out; subst hG0; exact this hk)
                    have h2 : (K : Int) < (s.size : Int) := by omega
                    clear hG0 HP HIN HOUT
                    as_aux_lemma =>
                    go_wp2_with (go_at_call 49; go_must (refine (digitD_all s[K] _).mono ?_; rintro en w2 ⟨rfl, rfl⟩; rw [HB.out]))
                    go_meet
                    exact ⟨by rw [HP2.out], HQ.out⟩
                  · have h2 : ¬ (K : Int) < (s.size : Int) := by omega
                    clear hG0 HP HIN HOUT
                    as_aux_lemma =>
                    go_wp2_with fail
                    go_meet
                    exact ⟨by rw [HP2.out], HQ.out⟩
                · have HP2 := Lib.hid (show pB s + sizeB (pT s) = K + G by rw [HP.out, if_neg hG0])
                  have hG1 : 0 < G := by omega
                  have HEZ := Lib.hid (HEZ.out hG1)
                  clear hG0 HP HGZ
                  go_upto_region 33 with fail
                  go_cut [173] (fun tv wx => tv = .bool true ∧ wr = wx)
                  case first =>
                    obtain ⟨hk, hkd⟩ := HIN.out 0 hG1
                    have hk2 : K < s.size := hk
                    have HB := Lib.hid (show isD s[K] = true from hkd)
                    have h2 : (K : Int) < (s.size : Int) := by omega
                    clear hkd hk HIN HOUT
                    as_aux_lemma =>
                    go_wp2_with (go_at_call 49; go_must (refine (digitD_all s[K] _).mono ?_; rintro en w2 ⟨rfl, rfl⟩; rw [HB.out]))
                    go_meet
                    exact ⟨rfl, rfl⟩
                  case rest =>
                  obtain ⟨rfl, rfl⟩ := hcut
                  go_wp2_with fail
                  go_loopw [10, 12] (fun kv ev wx => ∃ (x : Nat) (e : Int), kv = .int .i64 (x : Int) ∧ ev = .int .i64 e ∧ K ≤ x ∧ x ≤ K + G ∧ 0 ≤ e ∧ e ≤ 1000000000 ∧ Hid (e = ((eN ((s.data.toList.drop K).take (x - K)) : Nat) : Int)) ∧ wr = wx) (fun kv _ _ => K + G - (intOf kv).toNat)
                  case atStart => exact ⟨K, 0, rfl, rfl, by omega, by omega, by omega, by omega, Lib.hid (by rw [Nat.sub_self]; rfl), rfl⟩
                  case round =>
                    obtain ⟨x, e, rfl, rfl, hx0, hx1, he0, he1, HEE, rfl⟩ := hrel
                    by_cases hxg : x < K + G
                    · obtain ⟨hx2, hxd⟩ := HIN.out (x - K) (by omega)
                      have hxs : x < s.size := by omega
                      have HB := Lib.hid (show isD s[x] = true by
                        have : s[K + (x - K)]'hx2 = s[x] := by congr 1; omega
                        rw [← this]; exact hxd)
                      have h48 : 48 ≤ (s[x].toNat : Int) ∧ (s[x].toNat : Int) ≤ 57 := by have := HB.out; rw [isD_int] at this; exact of_decide_eq_true this
                      have hlo := h48.1
                      have hhi := h48.2
                      have h2 : (x : Int) < (s.size : Int) := by omega
                      have HST := Lib.hid (eN_step s K x hx0 hxs HB.out)
                      clear h48 hxd hx2
                      as_aux_lemma =>
                      go_wp2_with (go_at_call 49; go_must (refine (digitD_all s[x] _).mono ?_; rintro en w2 ⟨rfl, rfl⟩; rw [HB.out]))
                      go_roundw
                      case rel => exact ⟨x + 1, _, by go_num, rfl, by omega, by omega, by omega, by omega, Lib.hid (by rw [HST.out, ← HEE.out]), by simp⟩
                      case measure => simp [intOf]; omega
                    · have hxe : x = K + G := by omega
                      have HX := Lib.hid (show pB s + sizeB (pT s) = x by rw [HP2.out, hxe])
                      have HEG := Lib.hid (show e = ((eN ((s.data.toList.drop K).take G) : Nat) : Int) by rw [HEE.out, hxe, Nat.add_sub_cancel_left])
                      have HEF := Lib.hid (show eZ (powL (pT s)) = if M = true then -e else e by rw [HEZ.out, HEG.out])
                      clear hxe HP2 HEZ HEE HEG
                      go_upto_region 35 with fail
                      go_cut [183] (fun tv wx => tv = .bool false ∧ wr = wx)
                      case first =>
                        by_cases hxs : x < s.size
                        · have HB := Lib.hid (show isD s[x] = false by
                            have e : x = K + G := by omega
                            subst e
                            exact HOUT.out hxs)
                          have h2 : (x : Int) < (s.size : Int) := by omega
                          as_aux_lemma =>
                          go_wp2_with (go_at_call 49; go_must (refine (digitD_all s[x] _).mono ?_; rintro en w2 ⟨rfl, rfl⟩; rw [HB.out]))
                          go_meet
                          exact ⟨rfl, rfl⟩
                        · have h2 : ¬ (x : Int) < (s.size : Int) := by omega
                          as_aux_lemma =>
                          go_wp2_with fail
                          go_meet
                          exact ⟨rfl, rfl⟩
                      case rest =>
                      obtain ⟨rfl, rfl⟩ := hcut
                      clear HIN HOUT
                      go_upto_if 195 with fail
                      go_cut [12] (fun ev wx => ∃ e : Int, ev = .int .i64 e ∧ -1000000000 ≤ e ∧ e ≤ 1000000000 ∧ Hid (eZ (powL (pT s)) = e) ∧ wr = wx)
                      case first =>
                        cases M with
                        | true =>
                          as_aux_lemma =>
                          go_wp2_with fail
                          go_meet
                          exact ⟨_, rfl, by omega, by omega, Lib.hid (by rw [HEF.out]; simp), rfl⟩
                        | false =>
                          as_aux_lemma =>
                          go_wp2_with fail
                          go_meet
                          exact ⟨_, rfl, by omega, by omega, Lib.hid (by rw [HEF.out]; simp), rfl⟩
                      case rest =>
                      clear he0 he1 hxg HEF
                      obtain ⟨e, rfl, he0, he1, HEQ, rfl⟩ := hcut
                      by_cases hl0 : (0 : Int) < (l.length : Int)
                      · go_wp2_with fail
                        go_meet
                        exact ⟨by rw [HX.out], _, l, _, HBX.out.set1 _, HOWN.out.set w.heap.size 1 _ (by omega), HDG.out, HLD.out, by omega, by simp; omega, HBE.out.setCell (by simp) _, Lib.hid ⟨HDE.out.1, Or.inl (by rw [HEQ.out, HDE.out.2])⟩⟩
                      · have HQ := HQ (Or.inr (List.length_eq_zero_iff.1 (by omega)))
                        go_wp2_with fail
                        go_meet
                        exact ⟨by rw [HX.out], HQ.out⟩
            case rest =>
            clear HBX HOWN HDG HLD HBE x0 x1 xf0 xf1 hll hp0 hp1 hsz hi0 his HLP HSZ HE HDE HPW
            obtain ⟨rfl, v, l, p, hbx, hown, hdg, hld, hll, hsz, hbel, HQP⟩ := hcut
            obtain ⟨a, c, rfl⟩ := hown.rd.forms
            have HOWN := Lib.hid hown
            have HDG := Lib.hid hdg
            have HLD := Lib.hid hld
            have HBE := Lib.hid hbel
            have x0 := hbx.c0
            have x1 := hbx.c1
            clear hbx hown hdg hld hbel
            as_aux_lemma =>
            go_wp2_with (go_at_call 50; go_must (refine (value_ex (tenN (val l) (p - (l.length : Int))) (tenD (p - (l.length : Int))) (tenD_pos _) p (.slice a l.length c) l N _ (rep_ten l p) (HOWN.out.rd.mono (by omega)) hll HDG.out HLD.out).mono ?_; rintro en w2 ⟨⟨f, hf, rfl⟩, hb⟩; have HF := Lib.hid hf; clear hf))
            go_ret2
            refine ⟨fun h => absurd h HNO.out, fun _ => ⟨f, p, ?_, ?_, by rw [HN.out, Int.natCast_add]; rfl⟩, HBE.out.trans (hb.mono (by omega))⟩
            · rw [← HQP.out.1]; exact HF.out
            · rw [← HQP.out.1]; exact HQP.out.2
end Go.Proofs.YtcjeeoadgoghfaaGreatDoor.scan
