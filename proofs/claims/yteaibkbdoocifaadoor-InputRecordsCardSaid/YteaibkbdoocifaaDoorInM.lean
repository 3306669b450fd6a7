/- The law InputRecords. -/
import Derived.Test.YteaibkbdoocifaaDoorInQ
namespace Go.Proofs.YteaibkbdoocifaaDoor.lexs
set_option linter.unusedVariables false set_option linter.unusedSimpArgs false
open Go.ChangeShapes Go.WideShapes Go.ChangeAt Go.RowKit Go.Proofs.YteaibkbdoocifaaDoor.base Go.Proofs.YteaibkbdoocifaaDoor.wrd Go.Proofs.YteaibkbdoocifaaDoor.inps

theorem eq_self (R : List ByteArray) : decide (R = R) = true := by simp

set_option maxHeartbeats 8000000 in
set_option maxRecDepth 20000 in
theorem inputRecords_all (s rs : ByteArray) (w : World) (hM : Mx w) : Calls Tryd.prog 3 #[.string s, .string rs] w fun e w' => e = .returned (.bool true) ∧ Frm No w w' := by
  have HA := Lib.hid (awake_all w hM)
  by_cases hs : 3000 < s.size
  · have hs' : (3000 : Int) < (s.size : Int) := by omega
    clear hM
    go_enter Tryd.func3, Tryd.ntmps3
    go_wp2_with (go_at_call 6; go_must (refine HA.out.mono ?_; rintro e w1 ⟨rfl, hf1⟩; have HF1 := Lib.hid hf1; clear hf1))
    go_ret
    exact ⟨rfl, HF1.out⟩
  have hs' : (s.size : Int) ≤ 3000 := by omega
  by_cases hr : 100 < rs.size
  · have hr' : (100 : Int) < (rs.size : Int) := by omega
    clear hM
    go_enter Tryd.func3, Tryd.ntmps3
    go_wp2_with (go_at_call 6; go_must (refine HA.out.mono ?_; rintro e w1 ⟨rfl, hf1⟩; have HF1 := Lib.hid hf1; clear hf1))
    go_ret
    exact ⟨rfl, HF1.out⟩
  have hr' : (rs.size : Int) ≤ 100 := by omega
  have HM := Lib.hid hM
  clear hM
  obtain ⟨n, hn⟩ : ∃ n, (plc s rs).length = n := ⟨_, rfl⟩
  have HSP := Lib.hid (fun W h => spans_ps s rs W n hn (by omega) h)
  have HSD := Lib.hid (fun W => dspans_ps s rs W n hn (by omega))
  have HRP := Lib.hid (fun W h => records_all s rs W (by omega) h)
  have HRD := Lib.hid (fun W => drecords_all s rs W (by omega))
  have hnl := (plc_in s rs).2
  have HRL := Lib.hid (show (recs s rs).length ≤ 1000000 by rw [recs_len]; omega)
  have HN := Lib.hid hn
  generalize hP : plc s rs = P at *
  generalize hR : recs s rs = R at *
  clear hP hR hs hr
  have hn3 : n ≤ 3001 := by omega
  clear hnl hn
  go_enter Tryd.func3, Tryd.ntmps3
  go_wp2_with (first | (go_at_call 6; go_must (refine HA.out.mono ?_; rintro e w1 ⟨rfl, hf1⟩; have HF1 := Lib.hid hf1; clear hf1)) | (go_at_call 7; go_must (refine (HSP.out _ (HM.out.frm HF1.out)).mono ?_; rintro e w2 ⟨pa, pc, rfl, hps, hf2⟩; have HPA := Lib.hid hps; have HF2 := Lib.hid (HF1.out.trans hf2); clear hps hf2)) | (go_at_call 8; go_must (refine (HSD.out _).mono ?_; rintro e w3 ⟨qa, qc, rfl, hqs, hf3⟩; have HQA := Lib.hid hqs; have HPB := Lib.hid (HPA.out.move hf3); have HF3 := Lib.hid (HF2.out.trans hf3); clear hqs hf3)))
  go_loopw [32] (fun iv wr => ∃ k : Nat, k ≤ n ∧ iv = .int .i64 k ∧ Frm No w3 wr) (fun iv _ => n - (intOf iv).toNat)
  case atStart => exact ⟨0, Nat.zero_le _, rfl, Frm.refl _ _⟩
  case round =>
    obtain ⟨k, hk, rfl, hf⟩ := hrel
    have HF := Lib.hid hf
    clear hf
    have hk0 : (0 : Int) ≤ (k : Int) := by omega
    by_cases hlt : k < n
    · have hk1 : (k : Int) < (n : Int) := by omega
      obtain ⟨p, hp⟩ : ∃ p, P[k]? = some p := ⟨_, List.getElem?_eq_getElem (by rw [HN.out]; exact hlt)⟩
      obtain ⟨g, rfl, x0, x1⟩ := (HPB.out.move HF.out).at hp
      obtain ⟨g2, rfl, y0, y1⟩ := (HQA.out.move HF.out).at hp
      obtain ⟨p1, p2⟩ := p
      simp only at x0 x1 y0 y1
      have z0 := inps.cell_move y0 ((Frm.refl No wr).alloc (.cells #[.int .i64 (p1 : Int), .int .i64 (p2 : Int)] 25))
      have z1 := inps.cell_move y1 ((Frm.refl No wr).alloc (.cells #[.int .i64 (p1 : Int), .int .i64 (p2 : Int)] 25))
      have u0 := inps.cell_move x0 ((Frm.refl No wr).alloc (.cells #[.int .i64 0, .int .i64 0] 25))
      have u1 := inps.cell_move x1 ((Frm.refl No wr).alloc (.cells #[.int .i64 0, .int .i64 0] 25))
      have hpe := fun W => pair_eq (p1 : Int) (p2 : Int) W
      have hpg := pair_guard
      clear hp
      go_wp2
      go_quiet (fail)
      go_wp2
      go_roundw
      case rel => exact ⟨k + 1, by omega, by go_num, (HF.out.alloc _).drewN _⟩
      case measure => simp [intOf]; omega
    · have hk1 : (n : Int) ≤ (k : Int) := by omega
      have HF4 := Lib.hid (HF3.out.trans HF.out)
      go_wp2_with (first | (go_at_call 10; go_must (refine (HRP.out _ (HM.out.frm HF4.out)).mono ?_; rintro e w4 ⟨v4, rfl, ho4, hf4⟩; have HO4 := Lib.hid ho4.rd; have HF5 := Lib.hid (HF4.out.trans hf4); clear ho4 hf4)) | (go_at_call 11; go_must (refine (HRD.out _).mono ?_; rintro e w5 ⟨v5, rfl, ho5, hf5⟩; have HO5 := Lib.hid ho5.rd; have HO6 := Lib.hid (HO4.out.move hf5); have HF6 := Lib.hid (HF5.out.trans hf5); clear ho5 hf5)) | (go_at_call 9; go_must (refine (same_all R R _ _ _ HO6.out HO5.out HRL.out (by have := HRL.out; omega)).mono ?_; rintro e w6 ⟨rfl, hf6⟩; rw [eq_self]; have HF7 := Lib.hid (HF6.out.trans hf6); clear hf6)))
      go_ret
      exact ⟨rfl, HF7.out⟩

end Go.Proofs.YteaibkbdoocifaaDoor.lexs
