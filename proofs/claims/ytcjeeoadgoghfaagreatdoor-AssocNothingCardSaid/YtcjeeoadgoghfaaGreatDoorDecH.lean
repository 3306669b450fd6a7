/- Contract of strconv's floatBits for 64 bits. -/
import Derived.Test.YtcjeeoadgoghfaaGreatDoorGDecM

namespace Go.Proofs.YtcjeeoadgoghfaaGreatDoor.deca
set_option linter.unusedVariables false set_option linter.unusedSimpArgs false
open Go.ChangeShapes Go.WideShapes Go.ChangeAt Go.RowKit Go.Proofs.YtcjeeoadgoghfaaGreatDoor.base Go.Proofs.YtcjeeoadgoghfaaGreatDoor.Deci Go.Proofs.YtcjeeoadgoghfaaGreatDoor.Usc

set_option maxRecDepth 20000 in
set_option maxHeartbeats 4000000 in
theorem bits_all (w : World) (R B P : Nat) (d : Dec) (neg : Bool) (a0 b0 : Nat) (h : DmD w R d neg) (hT : Tb w R B P) (hg : Usc.Fair d.l) (hp : d.dp ≤ 310) (hp2 : -330 ≤ d.dp) (htr : d.tr = false)
    (ha : a0 = tenN d.val (d.dp - d.l.length)) (hb : b0 = tenD (d.dp - d.l.length)) (hD : d.val < 10 ^ 700) (hq : -1030 ≤ d.dp - d.l.length) :
    Calls Tryz.prog 244 #[.pointer (some ⟨R, 0, none⟩), .pointer (some ⟨10, 0, none⟩)] w fun e w' =>
      ∃ x : Nat, NB a0 b0 x ∧ e = .returned (.tuple #[.int .u64 (((if neg then 9223372036854775808 else 0) + x : Nat) : Int), .bool (decide (2047 * 2 ^ 52 ≤ x))]) ∧ Frm (At R) w w' := by
  have H := Lib.hid h
  have HT := Lib.hid hT
  have HG := Lib.hid hg
  have x0 := Dm.nd h
  have x1 := Dm.pt h
  have hlen := h.len
  have hn : 0 < d.l.length := List.length_pos_iff.2 hg.2.2.1
  have f0 : ((d.l.length : Int) == 0) = false := by rw [beq_eq_false_iff_ne]; omega
  have hR := hT.n0
  have hb0 : 0 < b0 := by rw [hb]; exact tenD_pos _
  have ha0 : 0 < a0 := by rw [ha]; exact Nat.mul_pos hg.pos (Nat.pow_pos (by decide))
  have HX1 := Lib.hid (great_of hg hp ha hb)
  have HX2 := Lib.hid (small_of hg hp2 ha hb)
  have HRUN := Lib.hid (show L1 a0 b0 0 0 d.l d.dp d.tr from ⟨by rw [htr]; exact Run.start _ _ (by rw [ha, hb]; rfl), Int.le_refl _, by decide, by decide, Or.inl rfl⟩)
  have HAB := Lib.hid (And.intro ha hb)
  have HDQ := Lib.hid (And.intro hD hq)
  clear h hT hg hn ha hb hD hq htr
  go_enter Tryz.func244, Tryz.ntmps244
  go_wp2
  apply wp_scope_labels
  go_upto_block 0 with (fail)
  go_cut [6] (fun ev wr => ∃ (d1 : Dec) (e : Int) (j : Nat), ev = .int .i64 (-e) ∧ DmD wr R d1 neg ∧ Usc.Fair d1.l ∧ d1.dp ≤ 0 ∧ -400 ≤ d1.dp ∧ L1 a0 b0 e j d1.l d1.dp d1.tr ∧ Frm (At R) w wr)
  case first =>
    go_wp2
    go_loopw [6] (fun ev wr => ∃ (d1 : Dec) (e : Int) (j : Nat), ev = .int .i64 (-e) ∧ DmD wr R d1 neg ∧ Usc.Fair d1.l ∧ d1.dp ≤ 310 ∧ -400 ≤ d1.dp ∧ L1 a0 b0 e j d1.l d1.dp d1.tr ∧ Frm (At R) w wr) (fun ev _ => (1100 - intOf ev).toNat)
    case atStart => exact ⟨d, 0, 0, rfl, H.out, HG.out, hp, by omega, HRUN.out, Frm.refl _ _⟩
    case round =>
      obtain ⟨d1, e, j, rfl, hd1, hg1, hp1, hp3, hL, hf⟩ := hrel
      have HD1 := Lib.hid hd1
      have HL := Lib.hid hL
      have HF := Lib.hid hf
      have HG1 := Lib.hid hg1
      have HT1 := Lib.hid (HT.out.frm hf)
      have y1 := Dm.pt hd1
      have he := hL.le
      have he2 := hL.ge
      obtain ⟨o, c0, hrow⟩ := HT1.out.pw.ex
      have HRW := Lib.hid hrow
      clear hrow
      clear hd1 hL hf hg1
      by_cases h0 : 0 < d1.dp
      · obtain ⟨i, hi⟩ : ∃ i : Nat, d1.dp = i := ⟨d1.dp.toNat, by omega⟩
        have HI := Lib.hid hi
        rw [hi] at y1
        have hi0 : 0 < i := by omega
        have hi3 : i ≤ 310 := by omega
        clear hi hp1 hp3 h0
        by_cases h9 : 9 ≤ i
        · have HST := Lib.hid (L1.shr HL.out hb0 HG1.out (by have := HI.out; omega) HX1.out 27 (by decide) (by decide))
          have HPT := Lib.hid (shr_pt HG1.out 27)
          go_wp2
          go_quiet (fail)
          go_wp2_with (go_at_call 223; go_must (refine (shiftR _ R d1 neg 27 (Dm.drewN HD1.out _) hR HG1.out (by decide) (by decide) (by have := HI.out; omega) (by have := HI.out; omega)).mono ?_; rintro en w1 ⟨rfl, hd2, hf2⟩; have HD2 := Lib.hid hd2; have HF2 := Lib.hid hf2; clear hd2 hf2))
          go_roundw
          case rel => exact ⟨shr d1 27, e - 27, j + 1, by go_num, HD2.out, (shr_good HG1.out 27).fair, by have := HPT.out; have := HI.out; omega, by have := HPT.out; have := HI.out; omega, HST.out, (HF.out.drewN nq).trans HF2.out⟩
          case measure => simp [intOf]; omega
        · have c1 := HRW.out i (by omega)
          have hs := stepN_le i
          obtain ⟨s, hss⟩ : ∃ s, stepN i = s := ⟨_, rfl⟩
          rw [hss] at c1 hs
          obtain ⟨hs1, hs2⟩ := hs
          have HST := Lib.hid (L1.shr HL.out hb0 HG1.out (by have := HI.out; omega) HX1.out s hs1 hs2)
          have HPT := Lib.hid (shr_pt HG1.out s)
          have b1 : (0 : Int) ≤ (i : Int) := by omega
          have b2 : (i : Int) < 9 := by omega
          clear hss
          go_wp2
          go_quiet (fail)
          go_wp2
          go_quiet (fail)
          go_wp2_with (go_at_call 223; go_must (refine (shiftR _ R d1 neg s (Dm.drewN HD1.out _) hR HG1.out hs1 (by omega) (by have := HI.out; omega) (by have := HI.out; omega)).mono ?_; rintro en w1 ⟨rfl, hd2, hf2⟩; have HD2 := Lib.hid hd2; have HF2 := Lib.hid hf2; clear hd2 hf2))
          go_roundw
          case rel => exact ⟨shr d1 s, e - s, j + 1, by go_num, HD2.out, (shr_good HG1.out s).fair, by have := HPT.out; have := HI.out; omega, by have := HPT.out; have := HI.out; omega, HST.out, (HF.out.drewN _).trans HF2.out⟩
          case measure => simp [intOf]; omega
      · go_wp2
        go_meet
        exact ⟨d1, e, j, rfl, HD1.out, HG1.out, by omega, hp3, HL.out, HF.out⟩
  case rest =>
    obtain ⟨d1, e1, j1, rfl, hd1, hg1, hp1, hp3, hL, hf⟩ := hcut
    have HD1 := Lib.hid hd1
    have HL1 := Lib.hid hL.next
    have HF1 := Lib.hid hf
    have HG1 := Lib.hid hg1
    clear hd1 hL hf hg1
    go_upto_block 2 with (fail)
    go_cut [6] (fun ev wr => ∃ (d2 : Dec) (lo e : Int) (j : Nat), ev = .int .i64 (-e) ∧ DmD wr R d2 neg ∧ Usc.Fair d2.l ∧ d2.dp = 0 ∧ 5 ≤ d2.l.getD 0 0 ∧ L2 a0 b0 lo e j d2.l d2.dp d2.tr ∧ Frm (At R) w wr)
    case first =>
      go_wp2
      go_loopw [6] (fun ev wr => ∃ (d2 : Dec) (lo e : Int) (j : Nat), ev = .int .i64 (-e) ∧ DmD wr R d2 neg ∧ Usc.Fair d2.l ∧ d2.dp ≤ 0 ∧ -400 ≤ d2.dp ∧ L2 a0 b0 lo e j d2.l d2.dp d2.tr ∧ Frm (At R) w wr) (fun ev _ => (1200 + intOf ev).toNat)
      case atStart => exact ⟨d1, e1, e1, j1, rfl, HD1.out, HG1.out, hp1, hp3, HL1.out, HF1.out⟩
      case round =>
        obtain ⟨d2, lo, e, j, rfl, hd2, hg2, hp4, hp5, hL, hf⟩ := hrel
        have HD2 := Lib.hid hd2
        have HL := Lib.hid hL
        have HF := Lib.hid hf
        have HG2 := Lib.hid hg2
        have HT2 := Lib.hid (HT.out.frm hf)
        have y1 := Dm.pt hd2
        have he := hL.le
        have he2 := hL.low
        have he3 := hL.ge
        obtain ⟨o, c0, hrow⟩ := HT2.out.pw.ex
        have HRW := Lib.hid hrow
        clear hrow
        obtain ⟨x, t, hxt⟩ : ∃ x t, d2.l = x :: t := by
          cases hl : d2.l with
          | nil => exact absurd hl hg2.2.2.1
          | cons x t => exact ⟨x, t, rfl⟩
        have y2 := Dm.d hd2 0 (by rw [hxt]; simp)
        have hx9 : x ≤ 9 := hg2.1 x (by rw [hxt]; simp)
        have hg0 : d2.l.getD 0 0 = x := by rw [hxt]; rfl
        have hg1 : d2.l[0]'(by rw [hxt]; simp) = x := by simp [hxt]
        rw [hg1] at y2
        have HG0 := Lib.hid hg0
        obtain ⟨i, hi⟩ : ∃ i : Nat, d2.dp = -(i : Int) := ⟨(-d2.dp).toNat, by omega⟩
        have HI := Lib.hid hi
        rw [hi] at y1
        have hi3 : i ≤ 400 := by omega
        clear hd2 hL hf hg2 hxt hg0 hg1 hi
        by_cases hi0 : 0 < i
        · by_cases h9 : 9 ≤ i
          · have e27 : stepN i = 27 := by unfold stepN; rw [if_pos h9]
            have HPT := Lib.hid (by have := shl_point HG2.out i HI.out (Or.inl hi0); rwa [e27] at this)
            have HST := Lib.hid (L2.shl HL.out ha0 hb0 HG2.out (Or.inl (by have := HI.out; omega)) HX2.out 27 (by decide) (by decide))
            have HB := Lib.hid (HL.out.below ha0 hb0 HG2.out (by have := HI.out; omega) HX2.out)
            have f1 : ¬ (0 : Int) ≤ -(i : Int) := by omega
            clear e27
            go_wp2
            go_quiet (fail)
            go_wp2_with (go_at_call 223; go_must (refine (shiftL _ R B d2 neg 27 (Dm.drewN HD2.out _) (HT2.out.ch.frm ((Frm.refl No _).drewN _) id id) hR HT2.out.n1 HT2.out.n2 HG2.out (by decide) (by decide) (by have := HI.out; omega) (by have := HI.out; omega)).mono ?_; rintro en w1 ⟨rfl, hd3, hf3⟩; have HD3 := Lib.hid hd3; have HF3 := Lib.hid hf3; clear hd3 hf3))
            go_roundw
            case rel => exact ⟨shl d2 27, lo, e + 27, j + 1, by go_num, HD3.out, (shl_good HG2.out 27).fair, by have := HPT.out; omega, by have := HPT.out; have := HI.out; omega, HST.out, (HF.out.drewN _).trans HF3.out⟩
            case measure => have := HB.out; simp [intOf]; omega
          · have c1 := HRW.out i (by omega)
            have hs := stepN_le i
            have HPT := shl_point HG2.out i HI.out (Or.inl hi0)
            obtain ⟨s, hss⟩ : ∃ s, stepN i = s := ⟨_, rfl⟩
            rw [hss] at c1 hs HPT
            have HPT := Lib.hid HPT
            obtain ⟨hs1, hs2⟩ := hs
            have HST := Lib.hid (L2.shl HL.out ha0 hb0 HG2.out (Or.inl (by have := HI.out; omega)) HX2.out s hs1 hs2)
            have HB := Lib.hid (HL.out.below ha0 hb0 HG2.out (by have := HI.out; omega) HX2.out)
            have f1 : ¬ (0 : Int) ≤ -(i : Int) := by omega
            have b1 : (0 : Int) ≤ (i : Int) := by omega
            have b2 : (i : Int) < 9 := by omega
            clear hss
            go_wp2
            go_quiet (fail)
            go_wp2
            go_quiet (fail)
            go_wp2_with (go_at_call 223; go_must (refine (shiftL _ R B d2 neg s (Dm.drewN HD2.out _) (HT2.out.ch.frm ((Frm.refl No _).drewN _) id id) hR HT2.out.n1 HT2.out.n2 HG2.out hs1 (by omega) (by have := HI.out; omega) (by have := HI.out; omega)).mono ?_; rintro en w1 ⟨rfl, hd3, hf3⟩; have HD3 := Lib.hid hd3; have HF3 := Lib.hid hf3; clear hd3 hf3))
            go_roundw
            case rel => exact ⟨shl d2 s, lo, e + s, j + 1, by go_num, HD3.out, (shl_good HG2.out s).fair, by have := HPT.out; omega, by have := HPT.out; have := HI.out; omega, HST.out, (HF.out.drewN _).trans HF3.out⟩
            case measure => have := HB.out; simp [intOf]; omega
        · obtain rfl : i = 0 := by omega
          have y3 : wr.cell? ⟨R, 801, none⟩ = some (.int .i64 0) := by simpa using y1
          clear y1
          by_cases hx5 : x < 5
          · have c1 := HRW.out 0 (by omega)
            have c1b := HRW.out 0 (by omega)
            rw [Nat.add_zero] at c1b
            have HPT := Lib.hid (shl_point HG2.out 0 HI.out (Or.inr ⟨rfl, by rw [HG0.out]; exact hx5⟩))
            have HST := Lib.hid (L2.shl HL.out ha0 hb0 HG2.out (Or.inr ⟨by have := HI.out; omega, by rw [HG0.out]; exact hx5⟩) HX2.out 1 (by decide) (by decide))
            have HB := Lib.hid (HL.out.below ha0 hb0 HG2.out (by have := HI.out; omega) HX2.out)
            have e1 : stepN 0 = 1 := rfl
            rw [e1] at c1 c1b HPT
            have f1 : decide ((x : Int) + 48 < 53) = true := by simp; omega
            clear e1
            go_wp2
            go_quiet (fail)
            go_wp2
            go_quiet (fail)
            go_wp2_with (go_at_call 223; go_must (refine (shiftL _ R B d2 neg 1 (Dm.drewN HD2.out _) (HT2.out.ch.frm ((Frm.refl No _).drewN _) id id) hR HT2.out.n1 HT2.out.n2 HG2.out (by decide) (by decide) (by have := HI.out; omega) (by have := HI.out; omega)).mono ?_; rintro en w1 ⟨rfl, hd3, hf3⟩; have HD3 := Lib.hid hd3; have HF3 := Lib.hid hf3; clear hd3 hf3))
            go_roundw
            case rel => exact ⟨shl d2 1, lo, e + 1, j + 1, by go_num, HD3.out, (shl_good HG2.out 1).fair, by have := HPT.out; omega, by have := HPT.out; have := HI.out; omega, HST.out, (HF.out.drewN _).trans HF3.out⟩
            case measure => have := HB.out; simp [intOf]; omega
          · have f1 : decide ((x : Int) + 48 < 53) = false := by simp; omega
            go_wp2
            go_meet
            exact ⟨d2, lo, e, j, rfl, HD2.out, HG2.out, by have := HI.out; omega, by rw [HG0.out]; omega, HL.out, HF.out⟩
    case rest =>
      obtain ⟨d2, lo, e, j, rfl, hd2, hg2, hp4, h5, hL, hf⟩ := hcut
      have HD2 := Lib.hid hd2
      have HL := Lib.hid hL
      have HF := Lib.hid hf
      have HG2 := Lib.hid hg2
      have HT2 := Lib.hid (HT.out.frm hf)
      have c0 := HT2.out.fl.b
      have he := hL.below ha0 hb0 hg2 (by omega) HX2.out
      have he2 := hL.low
      have he3 := hL.ge
      have HP4 := Lib.hid (And.intro hp4 h5)
      clear hd2 hL hf hg2 hp4 h5
      go_upto_if 111 with (fail)
      go_cut [6] (fun ev wr => ∃ (d3 : Dec) (e3 ex : Int), ev = .int .i64 ex ∧ ex = -e3 - 1 ∧ DmD wr R d3 neg ∧ Usc.Fair d3.l ∧ d3.dp ≤ 0 ∧ -200 ≤ d3.dp ∧ Fin a0 b0 d3 e3 ∧ -1060 ≤ e3 ∧ e3 ≤ 1021 ∧ Frm (At R) w wr)
      case first =>
        by_cases h1 : e ≤ 1021
        · have f1 : ¬ -e - 1 < -1022 := by omega
          go_wp2
          go_meet
          exact ⟨d2, e, -e - 1, by go_num, rfl, HD2.out, HG2.out, by have := HP4.out; omega, by have := HP4.out; omega, fin_one HL.out HP4.out.1 HAB.out.1 HAB.out.2 HDQ.out.1 HDQ.out.2 ha0 HG2.out HP4.out.2 HX2.out h1, by omega, h1, HF.out⟩
        · have f1 : -e - 1 < -1022 := by omega
          by_cases h2 : e ≤ 1081
          · obtain ⟨k, hk⟩ : ∃ k : Nat, e - k = 1021 := ⟨(e - 1021).toNat, by omega⟩
            have HR := Lib.hid (run_one HL.out (by omega) k hk)
            have HPT := Lib.hid (shr_pt HG2.out k)
            have HK := Lib.hid hk
            clear hk
            go_wp2_with (go_at_call 223; go_must (refine (shiftRn _ R d2 neg k HD2.out hR HG2.out (by have := HK.out; omega) (by have := HK.out; omega) (by have := HP4.out; omega) (by have := HP4.out; omega) _ (by have := HK.out; omega)).mono ?_; rintro en w1 ⟨rfl, hd3, hf3⟩; have HD3 := Lib.hid hd3; have HF3 := Lib.hid hf3; clear hd3 hf3))
            go_meet
            exact ⟨shr d2 k, 1021, -1022, by go_num, rfl, HD3.out, (shr_good HG2.out k).fair, by have := HP4.out; have := HPT.out; omega, by have := HP4.out; have := HPT.out; have := HK.out; omega, fin_two HL.out HP4.out.1 HAB.out.1 HAB.out.2 HDQ.out.1 HDQ.out.2 ha0 HG2.out HP4.out.2 HX2.out (by omega) HR.out (by have := HL.out.cnt; omega) (shr_good HG2.out k).fair, by omega, by omega, HF.out.trans HF3.out⟩
          · obtain ⟨k, hk⟩ : ∃ k : Nat, e - 60 - k = 1021 := ⟨(e - 1081).toNat, by omega⟩
            have HR := Lib.hid (run_two HL.out (by omega) 60 k hk)
            have HPT := Lib.hid (shr_pt HG2.out 60)
            have HPT2 := Lib.hid (shr_pt (shr_good HG2.out 60).fair k)
            have HK := Lib.hid hk
            clear hk
            go_wp2_with (go_at_call 223; go_must (refine (shiftR2' _ R d2 neg k HD2.out hR HG2.out (by have := HK.out; omega) (by have := HK.out; omega) (by have := HP4.out; omega) (by have := HP4.out; omega) _ (by have := HK.out; omega)).mono ?_; rintro en w1 ⟨rfl, hd3, hf3⟩; have HD3 := Lib.hid hd3; have HF3 := Lib.hid hf3; clear hd3 hf3))
            go_meet
            exact ⟨shr (shr d2 60) k, 1021, -1022, by go_num, rfl, HD3.out, (shr_good (shr_good HG2.out 60).fair k).fair, by have := HP4.out; have := HPT.out; have := HPT2.out; omega, by have := HP4.out; have := HPT.out; have := HPT2.out; have := HK.out; omega, fin_two HL.out HP4.out.1 HAB.out.1 HAB.out.2 HDQ.out.1 HDQ.out.2 ha0 HG2.out HP4.out.2 HX2.out (by omega) HR.out (by have := HL.out.cnt; omega) (shr_good (shr_good HG2.out 60).fair k).fair, by omega, by omega, HF.out.trans HF3.out⟩
      case rest =>
        obtain ⟨d3, e3, ex, rfl, hex, hd3, hg3, hp5, hp6, hfin, he4, he5, hf⟩ := hcut
        have HEX := Lib.hid hex
        have HD3 := Lib.hid hd3
        have HF3 := Lib.hid hf
        have HG3 := Lib.hid hg3
        have HT3 := Lib.hid (HT.out.frm hf)
        have HFIN := Lib.hid hfin
        have xn := Dm.ng HD3.out
        have b0' := HT3.out.fl.b
        have b1' := HT3.out.fl.e
        obtain ⟨mb, X, Y, Z, U, V, W, hmb, em1, em2, em3, em4, em5, em6, em7, em8, em9, hX⟩ := mask52
        have hm2 : mb ≤ 60 := by omega
        have b2' : wc.cell? ⟨10, 0, none⟩ = some (.int .u64 (mb : Int)) := by rw [hmb]; exact HT3.out.fl.m
        have HMB := Lib.hid (And.intro hmb hX)
        have he6 : -1022 ≤ ex := by omega
        have he7 : ex ≤ 1059 := by omega
        clear hd3 hf hg3 hfin c0 hmb hX
        by_cases h1 : e3 ≤ -1025
        · have f1 : 2047 ≤ ex + 1023 := by omega
          have H1 := Lib.hid h1
          clear hex h1
          go_wp2
          go_quiet (fail)
          go_wp2
          apply wp_goto
          refine LabQ_goto _ (by rfl) ?_
          go_wp2
          go_quiet (fail)
          go_wp2
          go_step3
          go_wp2
          go_quiet (fail)
          cases neg
          · go_wp2
            rw [Exit.noGoto_ret]
            refine bodyPost_ret (v := .tuple #[.int .u64 (V : Int), .bool true]) (by simp [results, Tryz.results244, go_sem]) rfl ⟨2047 * 2 ^ 52, fin_over HFIN.out H1.out, ?_, (HF3.out.drewN _)⟩
            rw [HMB.out.2.2.2.2.2.1]; rfl
          · go_wp2
            go_quiet (fail)
            go_wp2
            rw [Exit.noGoto_ret]
            refine bodyPost_ret (v := .tuple #[.int .u64 (W : Int), .bool true]) (by simp [results, Tryz.results244, go_sem]) rfl ⟨2047 * 2 ^ 52, fin_over HFIN.out H1.out, ?_, (HF3.out.drewN _).drewN _⟩
            rw [HMB.out.2.2.2.2.2.2]; rfl
        · have f1 : ex + 1023 < 2047 := by omega
          have H1 := Lib.hid h1
          obtain ⟨M, hM⟩ : ∃ M, rInt (shl d3 53).l (shl d3 53).dp (shl d3 53).tr = M := ⟨_, rfl⟩
          have hn := HFIN.out
          unfold Fin at hn
          rw [hM] at hn
          obtain ⟨hnb, hMle⟩ := hn
          have HNB := Lib.hid hnb
          have HMM := Lib.hid hM
          have HPT := Lib.hid (shl_pt HG3.out 53 16 (by decide))
          have HML := Lib.hid hMle
          clear hex h1 hnb hM hMle
          go_wp2
          go_quiet (fail)
          go_upto_if 155 with (first
            | (go_at_call 223; go_must (refine (shiftLn _ R B d3 neg 53 (Dm.drewN HD3.out _) (HT3.out.ch.frm ((Frm.refl No _).drewN _) id id) hR HT3.out.n1 HT3.out.n2 HG3.out (by decide) (by decide) (by omega) (by omega) _ (by have := HMB.out.1; omega)).mono ?_; rintro en w1 ⟨rfl, hd4, hf4⟩; have HD4 := Lib.hid hd4; have HF4 := Lib.hid (((HF3.out.drewN _).trans hf4)); have yn := Dm.ng hd4; have c0 := (HT.out.frm HF4.out).fl.b; have c1 := (HT.out.frm HF4.out).fl.e; have c2 : w1.cell? ⟨10, 0, none⟩ = some (.int .u64 (mb : Int)) := by rw [HMB.out.1]; exact (HT.out.frm HF4.out).fl.m))
            | (go_at_call 281; go_must (refine (roundD _ R (shl d3 53) neg HD4.out (shl_good HG3.out 53).1 hR (by have := HPT.out; omega) (by have := HPT.out; omega) M HMM.out).mono ?_; rintro en w2 ⟨rfl, hf5⟩; have HF5 := Lib.hid (HF4.out.trans (hf5.mono (fun _ _ h => h.elim))); have yn2 := cell_frm yn hf5 id; have k0 := cell_frm c0 hf5 id; have k1 := cell_frm c1 hf5 id; have k2 := cell_frm c2 hf5 id; clear yn c0 c1 c2 hf5)))
          clear xn b0' b1' b2'
          by_cases hc : M < 2 ^ 52
          · obtain ⟨W2, g1, g2, g3, g4, g5, hW⟩ := case_c HMB.out.2.1 HMB.out.2.2.1 HMB.out.2.2.2.2.1 hc
            have HW := Lib.hid hW
            have HC := Lib.hid hc
            have f2 := ne_top HMB.out.2.2.2.1 (lt_top hc)
            have HR := Lib.hid (fin_c HNB.out (by have := H1.out; omega) HC.out)
            clear hW hc
            go_wp2
            apply wp_goto
            refine LabQ_goto _ (by rfl) ?_
            go_wp2
            go_quiet (fail)
            cases neg
            · go_wp2
              rw [Exit.noGoto_ret]
              refine bodyPost_ret (v := .tuple #[.int .u64 (M : Int), .bool false]) (by simp [results, Tryz.results244, go_sem]) rfl ⟨M, HR.out, ?_, HF5.out.drewN _⟩
              rw [not_inf (low_c HC.out)]; simp
            · go_wp2
              go_quiet (fail)
              go_wp2
              rw [Exit.noGoto_ret]
              refine bodyPost_ret (v := .tuple #[.int .u64 (W2 : Int), .bool false]) (by simp [results, Tryz.results244, go_sem]) rfl ⟨M, HR.out, ?_, (HF5.out.drewN _).drewN _⟩
              rw [not_inf (low_c HC.out), HW.out]; simp
          · by_cases hb : M < 2 ^ 53
            · obtain ⟨m, g1, g2, g3, hm, hm2'⟩ := case_d HMB.out.2.1 HMB.out.2.2.1 (Nat.le_of_not_lt hc) hb
              obtain ⟨E, hE⟩ : ∃ E : Nat, ex + 1023 = E := ⟨(ex + 1023).toNat, by omega⟩
              have hE2 : E < 2047 := by omega
              obtain ⟨A, V2, T, W2, p1, p2, p3, p4, p5, hT2, hW2⟩ := pack_eq HMB.out.1 m E hm2' (by omega)
              have p6 : bits .or .u64 (T : Int) (U : Int) = (W2 : Int) := by rw [HMB.out.2.2.2.2.1]; exact p5
              have HTW := Lib.hid (And.intro hT2 hW2)
              have f2 := ne_top HMB.out.2.2.2.1 hb
              have HR := Lib.hid (show NB a0 b0 (m + E * 2 ^ 52) by rw [hm]; exact fin_d HNB.out (by have := H1.out; omega) (Nat.le_of_not_lt hc) hb (by have := HEX.out; omega))
              have HLO := Lib.hid (low_d hm2' hE2)
              clear hm hm2' hT2 hW2 hb hc p5
              go_wp2
              apply wp_goto
              refine LabQ_goto _ (by rfl) ?_
              go_wp2
              go_quiet (fail)
              cases neg
              · go_wp2
                rw [Exit.noGoto_ret]
                refine bodyPost_ret (v := .tuple #[.int .u64 (T : Int), .bool false]) (by simp [results, Tryz.results244, go_sem]) rfl ⟨m + E * 2 ^ 52, HR.out, ?_, HF5.out.drewN _⟩
                rw [not_inf HLO.out, HTW.out.1]; simp
              · go_wp2
                go_quiet (fail)
                go_wp2
                rw [Exit.noGoto_ret]
                refine bodyPost_ret (v := .tuple #[.int .u64 (W2 : Int), .bool false]) (by simp [results, Tryz.results244, go_sem]) rfl ⟨m + E * 2 ^ 52, HR.out, ?_, (HF5.out.drewN _).drewN _⟩
                rw [not_inf HLO.out, HTW.out.2, HTW.out.1]; simp
            · have hMZ : M = Z := by have h := HMB.out.2.2.2.1; have h2 := HML.out; omega
              have HMT := Lib.hid (show M = 2 ^ 53 by rw [hMZ]; exact HMB.out.2.2.2.1)
              obtain ⟨g0, g1, g2, g3⟩ := case_b HMB.out.2.1 HMB.out.2.2.1 HMB.out.2.2.2.1
              subst hMZ
              clear hb hc
              by_cases h4 : e3 = -1024
              · have f4 : 2047 ≤ ex + 1 + 1023 := by have := HEX.out; omega
                have HR := Lib.hid (fin_b1 HNB.out h4 HMT.out)
                clear h4
                go_wp2
                go_quiet (fail)
                go_wp2
                apply wp_goto
                refine LabQ_goto _ (by rfl) ?_
                go_wp2
                go_quiet (fail)
                go_wp2
                go_step3
                go_wp2
                go_quiet (fail)
                cases neg
                · go_wp2
                  rw [Exit.noGoto_ret]
                  refine bodyPost_ret (v := .tuple #[.int .u64 (V : Int), .bool true]) (by simp [results, Tryz.results244, go_sem]) rfl ⟨2047 * 2 ^ 52, HR.out, ?_, HF5.out.drewN _⟩
                  rw [HMB.out.2.2.2.2.2.1]; rfl
                · go_wp2
                  go_quiet (fail)
                  go_wp2
                  rw [Exit.noGoto_ret]
                  refine bodyPost_ret (v := .tuple #[.int .u64 (W : Int), .bool true]) (by simp [results, Tryz.results244, go_sem]) rfl ⟨2047 * 2 ^ 52, HR.out, ?_, (HF5.out.drewN _).drewN _⟩
                  rw [HMB.out.2.2.2.2.2.2]; rfl
              · have f4 : ex + 1 + 1023 < 2047 := by have := HEX.out; have := H1.out; omega
                obtain ⟨E, hE⟩ : ∃ E : Nat, ex + 1 + 1023 = E := ⟨(ex + 1 + 1023).toNat, by omega⟩
                have hE2 : E < 2047 := by omega
                obtain ⟨A, V2, T, W2, p1, p2, p3, p4, p5, hT2, hW2⟩ := pack_eq HMB.out.1 0 E (by decide) (by omega)
                have p6 : bits .or .u64 (T : Int) (U : Int) = (W2 : Int) := by rw [HMB.out.2.2.2.2.1]; exact p5
                have p7 : bits .or .u64 0 (V2 : Int) = (T : Int) := p4
                have HTW := Lib.hid (And.intro hT2 hW2)
                have HR := Lib.hid (show NB a0 b0 (0 + E * 2 ^ 52) from fin_b HNB.out (by have := H1.out; omega) HMT.out (by have := HEX.out; omega))
                have HLO := Lib.hid (low_d (m := 0) (by decide) hE2)
                clear hT2 hW2 p5 p4 h4
                go_wp2
                go_quiet (fail)
                go_wp2
                apply wp_goto
                refine LabQ_goto _ (by rfl) ?_
                go_wp2
                go_quiet (fail)
                cases neg
                · go_wp2
                  rw [Exit.noGoto_ret]
                  refine bodyPost_ret (v := .tuple #[.int .u64 (T : Int), .bool false]) (by simp [results, Tryz.results244, go_sem]) rfl ⟨0 + E * 2 ^ 52, HR.out, ?_, HF5.out.drewN _⟩
                  rw [not_inf HLO.out, HTW.out.1]; simp
                · go_wp2
                  go_quiet (fail)
                  go_wp2
                  rw [Exit.noGoto_ret]
                  refine bodyPost_ret (v := .tuple #[.int .u64 (W2 : Int), .bool false]) (by simp [results, Tryz.results244, go_sem]) rfl ⟨0 + E * 2 ^ 52, HR.out, ?_, (HF5.out.drewN _).drewN _⟩
                  rw [not_inf HLO.out, HTW.out.2, HTW.out.1]; simp
end Go.Proofs.YtcjeeoadgoghfaaGreatDoor.deca
