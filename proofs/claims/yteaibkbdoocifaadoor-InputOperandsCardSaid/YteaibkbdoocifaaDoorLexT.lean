/- Contract of lex's readToken. -/
import Derived.Test.YteaibkbdoocifaaDoorLexO
namespace Go.Proofs.YteaibkbdoocifaaDoor.lexs
set_option linter.unusedVariables false set_option linter.unusedSimpArgs false
open Go.ChangeShapes Go.WideShapes Go.ChangeAt Go.RowKit Go.Proofs.YteaibkbdoocifaaDoor.base

/-- One of readToken's calls: its contract at this text. -/
def RC (f : Nat) (s : ByteArray) (r : Option (Tok × Nat)) : Prop := ∀ w, Calls Tryd.prog f #[.string s] w (RP r w)

set_option maxHeartbeats 4000000 in
theorem readToken_all (s : ByteArray) (b : Bool) (w : World) (hs : s.size ≤ 1000000) (h0 : 0 < s.size) :
    Calls Tryd.prog 65 #[.string s, .bool b] w (RP (readTok s.data.toList b) w) := by
  have HB := Lib.hid (Box.new w 43 t0)
  have hc : s.data.toList = s[0] :: sx s 1 := by have := sx_cons s 0 h0; rw [← this]; rfl
  obtain ⟨r, hr⟩ : ∃ r, readTok s.data.toList b = r := ⟨_, rfl⟩
  rw [hr]
  have hr' := hr
  rw [hc] at hr'
  simp only [readTok] at hr'
  rw [← hc] at hr'
  have hh : s.data.toList.head? = some s[0] := by rw [hc]; rfl
  have HR := Lib.hid (show r = r from rfl)
  by_cases e1 : s[0] = 10
  · rw [if_pos e1] at hr'
    have b1 : ((s[0].toNat : Int) == 10) = true := beq_yes 10 rfl e1
    subst hr'
    clear e1 hr hh hc HR
    go_enter Tryd.func65, Tryd.ntmps65
    go_wp2
    refine bodyPost_ret (v := resV (some (⟨kNl, []⟩, 1))) (by simp [results, Tryd.results65, go_sem, resV, tC, kNl]) rfl ⟨rfl, ?_⟩
    repeat' first | exact Frm.refl _ _ | apply Frm.alloc | (refine Frm.setCell ?_ _ _ (fun hk => absurd hk (by simp)))
  rw [if_neg e1] at hr'
  have b1 : ((s[0].toNat : Int) == 10) = false := beq_no 10 rfl e1
  clear e1
  by_cases e2 : s[0] = 34
  · rw [if_pos e2] at hr'
    have b2 : ((s[0].toNat : Int) == 34) = true := beq_yes 34 rfl e2
    have HC := Lib.hid (fun w => readStr_all s w hs (hh.trans (by rw [e2])))
    rw [hr'] at HC
    clear e2 hr hr' hh hc
    obtain ⟨x, y, n, hrv, _⟩ := resV_or r
    have HRV := Lib.hid hrv
    clear hrv
    go_enter Tryd.func65, Tryd.ntmps65
    go_wp2_with (go_at_call 72; go_must (refine (HC.out _).mono ?_; rintro e w2 ⟨he, hf⟩; rw [HRV.out] at he; subst he; have HX2 := Lib.hid (show Box w2 w.heap.size 43 t0 from HB.out.frm hf id); have HF2 := Lib.hid (show Frm No w w2 from ((Frm.refl No w).alloc _).trans hf); have x0 : w2.cell? ⟨w.heap.size, 0, none⟩ = some (.string ⟨#[]⟩) := HX2.out.cell 0; have x1 : w2.cell? ⟨w.heap.size, 1, none⟩ = some (.string ⟨#[]⟩) := HX2.out.cell 1; have f0 : w2.frozen? ⟨w.heap.size, 0, none⟩ = false := HX2.out.f 0; have f1 : w2.frozen? ⟨w.heap.size, 1, none⟩ = false := HX2.out.f 1; clear hf))
    refine bodyPost_ret (v := .tuple #[.agg #[.string x, .string y], .int .i64 n]) (results_part2 Tryd.results65 _ _ w.heap.size 43 _ (0, 0) _ (.int .i64 n) rfl rfl ((HX2.out.set 0 _).set 1 _) Tryd.underlying43 rfl info_tok) rfl ⟨by rw [HRV.out], ?_⟩
    exact ((HF2.out.setCell ⟨w.heap.size, 0, none⟩ _ (fun hk => absurd hk (Nat.lt_irrefl _))).setCell ⟨w.heap.size, 1, none⟩ _ (fun hk => absurd hk (Nat.lt_irrefl _)))
  rw [if_neg e2] at hr'
  have b2 : ((s[0].toNat : Int) == 34) = false := beq_no 34 rfl e2
  clear e2
  by_cases e3 : s[0] = 47 ∧ b = false
  · rw [if_pos e3] at hr'
    obtain ⟨e3, rfl⟩ := e3
    have b3 : ((s[0].toNat : Int) == 47) = true := beq_yes 47 rfl e3
    have HC := Lib.hid (fun w => readEre_all s w hs (hh.trans (by rw [e3])))
    rw [hr'] at HC
    clear e3 hr hr' hh hc
    obtain ⟨x, y, n, hrv, _⟩ := resV_or r
    have HRV := Lib.hid hrv
    clear hrv
    go_enter Tryd.func65, Tryd.ntmps65
    go_wp2_with (go_at_call 73; go_must (refine (HC.out _).mono ?_; rintro e w2 ⟨he, hf⟩; rw [HRV.out] at he; subst he; have HX2 := Lib.hid (show Box w2 w.heap.size 43 t0 from HB.out.frm hf id); have HF2 := Lib.hid (show Frm No w w2 from ((Frm.refl No w).alloc _).trans hf); have x0 : w2.cell? ⟨w.heap.size, 0, none⟩ = some (.string ⟨#[]⟩) := HX2.out.cell 0; have x1 : w2.cell? ⟨w.heap.size, 1, none⟩ = some (.string ⟨#[]⟩) := HX2.out.cell 1; have f0 : w2.frozen? ⟨w.heap.size, 0, none⟩ = false := HX2.out.f 0; have f1 : w2.frozen? ⟨w.heap.size, 1, none⟩ = false := HX2.out.f 1; clear hf))
    refine bodyPost_ret (v := .tuple #[.agg #[.string x, .string y], .int .i64 n]) (results_part2 Tryd.results65 _ _ w.heap.size 43 _ (0, 0) _ (.int .i64 n) rfl rfl ((HX2.out.set 0 _).set 1 _) Tryd.underlying43 rfl info_tok) rfl ⟨by rw [HRV.out], ?_⟩
    exact ((HF2.out.setCell ⟨w.heap.size, 0, none⟩ _ (fun hk => absurd hk (Nat.lt_irrefl _))).setCell ⟨w.heap.size, 1, none⟩ _ (fun hk => absurd hk (Nat.lt_irrefl _)))
  rw [if_neg e3] at hr'
  have b3 : (((s[0].toNat : Int) == 47) = true ∧ b = true) ∨ ((s[0].toNat : Int) == 47) = false := by
    by_cases e : s[0] = 47
    · left
      refine ⟨beq_yes 47 rfl e, ?_⟩
      cases b with
      | true => rfl
      | false => exact absurd ⟨e, rfl⟩ e3
    · exact Or.inr (beq_no 47 rfl e)
  clear e3
  cases hL : isL s[0] with
  | true =>
    rw [hL, if_pos rfl] at hr'
    have HL := Lib.hid hL
    have HC := Lib.hid (fun w => readName_all s w hs h0)
    rw [hr'] at HC
    clear hr hr' hh hc hL
    obtain ⟨x, y, n, hrv, _⟩ := resV_or r
    have HRV := Lib.hid hrv
    clear hrv
    rcases b3 with ⟨b3, rfl⟩ | b3
    · go_enter Tryd.func65, Tryd.ntmps65
      go_wp2_with (first | (go_at_call 74; go_must (refine (isLetter_all s[0] _ rfl _).mono ?_; rw [HL.out]; rintro e w' ⟨rfl, rfl⟩)) | (go_at_call 75; go_must (refine (HC.out _).mono ?_; rintro e w2 ⟨he, hf⟩; rw [HRV.out] at he; subst he; have HX2 := Lib.hid (show Box w2 w.heap.size 43 t0 from HB.out.frm hf id); have HF2 := Lib.hid (show Frm No w w2 from ((Frm.refl No w).alloc _).trans hf); have x0 : w2.cell? ⟨w.heap.size, 0, none⟩ = some (.string ⟨#[]⟩) := HX2.out.cell 0; have x1 : w2.cell? ⟨w.heap.size, 1, none⟩ = some (.string ⟨#[]⟩) := HX2.out.cell 1; have f0 : w2.frozen? ⟨w.heap.size, 0, none⟩ = false := HX2.out.f 0; have f1 : w2.frozen? ⟨w.heap.size, 1, none⟩ = false := HX2.out.f 1; clear hf)))
      refine bodyPost_ret (v := .tuple #[.agg #[.string x, .string y], .int .i64 n]) (results_part2 Tryd.results65 _ _ w.heap.size 43 _ (0, 0) _ (.int .i64 n) rfl rfl ((HX2.out.set 0 _).set 1 _) Tryd.underlying43 rfl info_tok) rfl ⟨by rw [HRV.out], ?_⟩
      exact ((HF2.out.setCell ⟨w.heap.size, 0, none⟩ _ (fun hk => absurd hk (Nat.lt_irrefl _))).setCell ⟨w.heap.size, 1, none⟩ _ (fun hk => absurd hk (Nat.lt_irrefl _)))
    · go_enter Tryd.func65, Tryd.ntmps65
      go_wp2_with (first | (go_at_call 74; go_must (refine (isLetter_all s[0] _ rfl _).mono ?_; rw [HL.out]; rintro e w' ⟨rfl, rfl⟩)) | (go_at_call 75; go_must (refine (HC.out _).mono ?_; rintro e w2 ⟨he, hf⟩; rw [HRV.out] at he; subst he; have HX2 := Lib.hid (show Box w2 w.heap.size 43 t0 from HB.out.frm hf id); have HF2 := Lib.hid (show Frm No w w2 from ((Frm.refl No w).alloc _).trans hf); have x0 : w2.cell? ⟨w.heap.size, 0, none⟩ = some (.string ⟨#[]⟩) := HX2.out.cell 0; have x1 : w2.cell? ⟨w.heap.size, 1, none⟩ = some (.string ⟨#[]⟩) := HX2.out.cell 1; have f0 : w2.frozen? ⟨w.heap.size, 0, none⟩ = false := HX2.out.f 0; have f1 : w2.frozen? ⟨w.heap.size, 1, none⟩ = false := HX2.out.f 1; clear hf)))
      refine bodyPost_ret (v := .tuple #[.agg #[.string x, .string y], .int .i64 n]) (results_part2 Tryd.results65 _ _ w.heap.size 43 _ (0, 0) _ (.int .i64 n) rfl rfl ((HX2.out.set 0 _).set 1 _) Tryd.underlying43 rfl info_tok) rfl ⟨by rw [HRV.out], ?_⟩
      exact ((HF2.out.setCell ⟨w.heap.size, 0, none⟩ _ (fun hk => absurd hk (Nat.lt_irrefl _))).setCell ⟨w.heap.size, 1, none⟩ _ (fun hk => absurd hk (Nat.lt_irrefl _)))
  | false =>
    rw [hL, if_neg (by decide)] at hr'
    have HL := Lib.hid hL
    clear hL
    by_cases e4 : s[0] = 46 ∨ isD s[0] = true
    · rw [if_pos e4] at hr'
      have HN := Lib.hid (fun w => numSize_all s w hs)
      have hnl := nm_le s.data.toList
      rw [len_list] at hnl
      have HC := Lib.hid (fun w => bare_at ⟨kNum.toArray⟩ s _ r w hs (nm s.data.toList) rfl hnl (by exact hr'))
      generalize nm s.data.toList = m at *
      clear hr hr' hh hc
      obtain ⟨x, y, n, hrv, _⟩ := resV_or r
      have HRV := Lib.hid hrv
      clear hrv
      by_cases e5 : s[0] = 46
      · have b4 : ((s[0].toNat : Int) == 46) = true := beq_yes 46 rfl e5
        clear e4 e5
        rcases b3 with ⟨b3, rfl⟩ | b3
        · go_enter Tryd.func65, Tryd.ntmps65
          go_wp2_with (first | (go_at_call 74; go_must (refine (isLetter_all s[0] _ rfl _).mono ?_; rw [HL.out]; rintro e w' ⟨rfl, rfl⟩)) | (go_at_call 78; go_must (refine (HN.out _).mono ?_; rintro e w' ⟨rfl, rfl⟩)) | (go_at_call 77; go_must (refine (HC.out _).mono ?_; rintro e w2 ⟨he, hf⟩; rw [HRV.out] at he; subst he; have HX2 := Lib.hid (show Box w2 w.heap.size 43 t0 from HB.out.frm hf id); have HF2 := Lib.hid (show Frm No w w2 from ((Frm.refl No w).alloc _).trans hf); have x0 : w2.cell? ⟨w.heap.size, 0, none⟩ = some (.string ⟨#[]⟩) := HX2.out.cell 0; have x1 : w2.cell? ⟨w.heap.size, 1, none⟩ = some (.string ⟨#[]⟩) := HX2.out.cell 1; have f0 : w2.frozen? ⟨w.heap.size, 0, none⟩ = false := HX2.out.f 0; have f1 : w2.frozen? ⟨w.heap.size, 1, none⟩ = false := HX2.out.f 1; clear hf)))
          refine bodyPost_ret (v := .tuple #[.agg #[.string x, .string y], .int .i64 n]) (results_part2 Tryd.results65 _ _ w.heap.size 43 _ (0, 0) _ (.int .i64 n) rfl rfl ((HX2.out.set 0 _).set 1 _) Tryd.underlying43 rfl info_tok) rfl ⟨by rw [HRV.out], ?_⟩
          exact ((HF2.out.setCell ⟨w.heap.size, 0, none⟩ _ (fun hk => absurd hk (Nat.lt_irrefl _))).setCell ⟨w.heap.size, 1, none⟩ _ (fun hk => absurd hk (Nat.lt_irrefl _)))
        · go_enter Tryd.func65, Tryd.ntmps65
          go_wp2_with (first | (go_at_call 74; go_must (refine (isLetter_all s[0] _ rfl _).mono ?_; rw [HL.out]; rintro e w' ⟨rfl, rfl⟩)) | (go_at_call 78; go_must (refine (HN.out _).mono ?_; rintro e w' ⟨rfl, rfl⟩)) | (go_at_call 77; go_must (refine (HC.out _).mono ?_; rintro e w2 ⟨he, hf⟩; rw [HRV.out] at he; subst he; have HX2 := Lib.hid (show Box w2 w.heap.size 43 t0 from HB.out.frm hf id); have HF2 := Lib.hid (show Frm No w w2 from ((Frm.refl No w).alloc _).trans hf); have x0 : w2.cell? ⟨w.heap.size, 0, none⟩ = some (.string ⟨#[]⟩) := HX2.out.cell 0; have x1 : w2.cell? ⟨w.heap.size, 1, none⟩ = some (.string ⟨#[]⟩) := HX2.out.cell 1; have f0 : w2.frozen? ⟨w.heap.size, 0, none⟩ = false := HX2.out.f 0; have f1 : w2.frozen? ⟨w.heap.size, 1, none⟩ = false := HX2.out.f 1; clear hf)))
          refine bodyPost_ret (v := .tuple #[.agg #[.string x, .string y], .int .i64 n]) (results_part2 Tryd.results65 _ _ w.heap.size 43 _ (0, 0) _ (.int .i64 n) rfl rfl ((HX2.out.set 0 _).set 1 _) Tryd.underlying43 rfl info_tok) rfl ⟨by rw [HRV.out], ?_⟩
          exact ((HF2.out.setCell ⟨w.heap.size, 0, none⟩ _ (fun hk => absurd hk (Nat.lt_irrefl _))).setCell ⟨w.heap.size, 1, none⟩ _ (fun hk => absurd hk (Nat.lt_irrefl _)))
      · have b4 : ((s[0].toNat : Int) == 46) = false := beq_no 46 rfl e5
        have HD := Lib.hid (show isD s[0] = true from e4.resolve_left e5)
        clear e4 e5
        rcases b3 with ⟨b3, rfl⟩ | b3
        · go_enter Tryd.func65, Tryd.ntmps65
          go_wp2_with (first | (go_at_call 74; go_must (refine (isLetter_all s[0] _ rfl _).mono ?_; rw [HL.out]; rintro e w' ⟨rfl, rfl⟩)) | (go_at_call 76; go_must (refine (isDigit_all s[0] _ rfl _).mono ?_; rw [HD.out]; rintro e w' ⟨rfl, rfl⟩)) | (go_at_call 78; go_must (refine (HN.out _).mono ?_; rintro e w' ⟨rfl, rfl⟩)) | (go_at_call 77; go_must (refine (HC.out _).mono ?_; rintro e w2 ⟨he, hf⟩; rw [HRV.out] at he; subst he; have HX2 := Lib.hid (show Box w2 w.heap.size 43 t0 from HB.out.frm hf id); have HF2 := Lib.hid (show Frm No w w2 from ((Frm.refl No w).alloc _).trans hf); have x0 : w2.cell? ⟨w.heap.size, 0, none⟩ = some (.string ⟨#[]⟩) := HX2.out.cell 0; have x1 : w2.cell? ⟨w.heap.size, 1, none⟩ = some (.string ⟨#[]⟩) := HX2.out.cell 1; have f0 : w2.frozen? ⟨w.heap.size, 0, none⟩ = false := HX2.out.f 0; have f1 : w2.frozen? ⟨w.heap.size, 1, none⟩ = false := HX2.out.f 1; clear hf)))
          refine bodyPost_ret (v := .tuple #[.agg #[.string x, .string y], .int .i64 n]) (results_part2 Tryd.results65 _ _ w.heap.size 43 _ (0, 0) _ (.int .i64 n) rfl rfl ((HX2.out.set 0 _).set 1 _) Tryd.underlying43 rfl info_tok) rfl ⟨by rw [HRV.out], ?_⟩
          exact ((HF2.out.setCell ⟨w.heap.size, 0, none⟩ _ (fun hk => absurd hk (Nat.lt_irrefl _))).setCell ⟨w.heap.size, 1, none⟩ _ (fun hk => absurd hk (Nat.lt_irrefl _)))
        · go_enter Tryd.func65, Tryd.ntmps65
          go_wp2_with (first | (go_at_call 74; go_must (refine (isLetter_all s[0] _ rfl _).mono ?_; rw [HL.out]; rintro e w' ⟨rfl, rfl⟩)) | (go_at_call 76; go_must (refine (isDigit_all s[0] _ rfl _).mono ?_; rw [HD.out]; rintro e w' ⟨rfl, rfl⟩)) | (go_at_call 78; go_must (refine (HN.out _).mono ?_; rintro e w' ⟨rfl, rfl⟩)) | (go_at_call 77; go_must (refine (HC.out _).mono ?_; rintro e w2 ⟨he, hf⟩; rw [HRV.out] at he; subst he; have HX2 := Lib.hid (show Box w2 w.heap.size 43 t0 from HB.out.frm hf id); have HF2 := Lib.hid (show Frm No w w2 from ((Frm.refl No w).alloc _).trans hf); have x0 : w2.cell? ⟨w.heap.size, 0, none⟩ = some (.string ⟨#[]⟩) := HX2.out.cell 0; have x1 : w2.cell? ⟨w.heap.size, 1, none⟩ = some (.string ⟨#[]⟩) := HX2.out.cell 1; have f0 : w2.frozen? ⟨w.heap.size, 0, none⟩ = false := HX2.out.f 0; have f1 : w2.frozen? ⟨w.heap.size, 1, none⟩ = false := HX2.out.f 1; clear hf)))
          refine bodyPost_ret (v := .tuple #[.agg #[.string x, .string y], .int .i64 n]) (results_part2 Tryd.results65 _ _ w.heap.size 43 _ (0, 0) _ (.int .i64 n) rfl rfl ((HX2.out.set 0 _).set 1 _) Tryd.underlying43 rfl info_tok) rfl ⟨by rw [HRV.out], ?_⟩
          exact ((HF2.out.setCell ⟨w.heap.size, 0, none⟩ _ (fun hk => absurd hk (Nat.lt_irrefl _))).setCell ⟨w.heap.size, 1, none⟩ _ (fun hk => absurd hk (Nat.lt_irrefl _)))
    · rw [if_neg e4] at hr'
      have HN := Lib.hid (fun w => opSize_all s w hs h0)
      have hnl := opS_le s.data.toList
      rw [len_list] at hnl
      have HC := Lib.hid (fun w => bare_at ⟨kOp.toArray⟩ s _ r w hs (opS s.data.toList) rfl hnl (by exact hr'))
      generalize opS s.data.toList = m at *
      have b4 : ((s[0].toNat : Int) == 46) = false := beq_no 46 rfl (fun e => e4 (Or.inl e))
      have HD := Lib.hid (show isD s[0] = false from by rw [Bool.eq_false_iff]; exact fun e => e4 (Or.inr e))
      clear hr hr' hh hc e4
      obtain ⟨x, y, n, hrv, _⟩ := resV_or r
      have HRV := Lib.hid hrv
      clear hrv
      rcases b3 with ⟨b3, rfl⟩ | b3
      · go_enter Tryd.func65, Tryd.ntmps65
        go_wp2_with (first | (go_at_call 74; go_must (refine (isLetter_all s[0] _ rfl _).mono ?_; rw [HL.out]; rintro e w' ⟨rfl, rfl⟩)) | (go_at_call 76; go_must (refine (isDigit_all s[0] _ rfl _).mono ?_; rw [HD.out]; rintro e w' ⟨rfl, rfl⟩)) | (go_at_call 79; go_must (refine (HN.out _).mono ?_; rintro e w' ⟨rfl, rfl⟩)) | (go_at_call 77; go_must (refine (HC.out _).mono ?_; rintro e w2 ⟨he, hf⟩; rw [HRV.out] at he; subst he; have HX2 := Lib.hid (show Box w2 w.heap.size 43 t0 from HB.out.frm hf id); have HF2 := Lib.hid (show Frm No w w2 from ((Frm.refl No w).alloc _).trans hf); have x0 : w2.cell? ⟨w.heap.size, 0, none⟩ = some (.string ⟨#[]⟩) := HX2.out.cell 0; have x1 : w2.cell? ⟨w.heap.size, 1, none⟩ = some (.string ⟨#[]⟩) := HX2.out.cell 1; have f0 : w2.frozen? ⟨w.heap.size, 0, none⟩ = false := HX2.out.f 0; have f1 : w2.frozen? ⟨w.heap.size, 1, none⟩ = false := HX2.out.f 1; clear hf)))
        refine bodyPost_ret (v := .tuple #[.agg #[.string x, .string y], .int .i64 n]) (results_part2 Tryd.results65 _ _ w.heap.size 43 _ (0, 0) _ (.int .i64 n) rfl rfl ((HX2.out.set 0 _).set 1 _) Tryd.underlying43 rfl info_tok) rfl ⟨by rw [HRV.out], ?_⟩
        exact ((HF2.out.setCell ⟨w.heap.size, 0, none⟩ _ (fun hk => absurd hk (Nat.lt_irrefl _))).setCell ⟨w.heap.size, 1, none⟩ _ (fun hk => absurd hk (Nat.lt_irrefl _)))
      · go_enter Tryd.func65, Tryd.ntmps65
        go_wp2_with (first | (go_at_call 74; go_must (refine (isLetter_all s[0] _ rfl _).mono ?_; rw [HL.out]; rintro e w' ⟨rfl, rfl⟩)) | (go_at_call 76; go_must (refine (isDigit_all s[0] _ rfl _).mono ?_; rw [HD.out]; rintro e w' ⟨rfl, rfl⟩)) | (go_at_call 79; go_must (refine (HN.out _).mono ?_; rintro e w' ⟨rfl, rfl⟩)) | (go_at_call 77; go_must (refine (HC.out _).mono ?_; rintro e w2 ⟨he, hf⟩; rw [HRV.out] at he; subst he; have HX2 := Lib.hid (show Box w2 w.heap.size 43 t0 from HB.out.frm hf id); have HF2 := Lib.hid (show Frm No w w2 from ((Frm.refl No w).alloc _).trans hf); have x0 : w2.cell? ⟨w.heap.size, 0, none⟩ = some (.string ⟨#[]⟩) := HX2.out.cell 0; have x1 : w2.cell? ⟨w.heap.size, 1, none⟩ = some (.string ⟨#[]⟩) := HX2.out.cell 1; have f0 : w2.frozen? ⟨w.heap.size, 0, none⟩ = false := HX2.out.f 0; have f1 : w2.frozen? ⟨w.heap.size, 1, none⟩ = false := HX2.out.f 1; clear hf)))
        refine bodyPost_ret (v := .tuple #[.agg #[.string x, .string y], .int .i64 n]) (results_part2 Tryd.results65 _ _ w.heap.size 43 _ (0, 0) _ (.int .i64 n) rfl rfl ((HX2.out.set 0 _).set 1 _) Tryd.underlying43 rfl info_tok) rfl ⟨by rw [HRV.out], ?_⟩
        exact ((HF2.out.setCell ⟨w.heap.size, 0, none⟩ _ (fun hk => absurd hk (Nat.lt_irrefl _))).setCell ⟨w.heap.size, 1, none⟩ _ (fun hk => absurd hk (Nat.lt_irrefl _)))
end Go.Proofs.YteaibkbdoocifaaDoor.lexs
