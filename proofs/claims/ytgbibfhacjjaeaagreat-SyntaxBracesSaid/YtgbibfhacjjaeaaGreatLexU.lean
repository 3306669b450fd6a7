/- Contracts of lex's readStr, readEre. Contract of lex's endsOperand. Contract of lex's readToken. Contract of lex.Lex. -/
import Derived.Test.YtgbibfhacjjaeaaGreatLexM
import Derived.Deep.AppendLies

namespace Go.Proofs.YtgbibfhacjjaeaaGreat.lexs
set_option linter.unusedVariables false set_option linter.unusedSimpArgs false
open Go.ChangeShapes Go.WideShapes Go.ChangeAt Go.RowKit Go.Proofs.YtgbibfhacjjaeaaGreat.base

theorem quoV_none {s : ByteArray} {q : UInt8} (hh : s.data.toList.head? = some q) (h : qt q s.data.toList.tail = none) : quoV s = .tuple #[.string ⟨#[]⟩, .bool false] := by
  unfold quoV
  cases hl : s.data.toList with
  | nil => rw [hl] at hh; cases hh
  | cons c t => rw [hl] at hh h; cases hh; rw [List.headD_cons, List.tail_cons]; rw [List.tail_cons] at h; rw [h]
theorem quoV_some {s : ByteArray} {q : UInt8} {r : List UInt8} (hh : s.data.toList.head? = some q) (h : qt q s.data.toList.tail = some r) : quoV s = .tuple #[.string ⟨r.toArray⟩, .bool true] := by
  unfold quoV
  cases hl : s.data.toList with
  | nil => rw [hl] at hh; cases hh
  | cons c t => rw [hl] at hh h; cases hh; rw [List.headD_cons, List.tail_cons]; rw [List.tail_cons] at h; rw [h]

set_option maxHeartbeats 2000000 in
theorem readStr_all (s : ByteArray) (w : World) (hs : s.size ≤ 1000000) (hh : s.data.toList.head? = some 34) :
    Calls Tryz.prog 98 #[.string s] w (RP (readStr s.data.toList) w) := by
  have HB := Lib.hid (Box.new w 69 t0)
  have h0 : 0 < s.size := by
    rw [← len_list]
    cases hl : s.data.toList with
    | nil => rw [hl] at hh; cases hh
    | cons c t => simp
  have HQ := Lib.hid (fun w => quoted_all s w hs h0)
  cases hq : qt 34 s.data.toList.tail with
  | none =>
    have HR := Lib.hid (show readStr s.data.toList = none by unfold readStr; rw [hq])
    rw [quoV_none hh hq] at HQ
    clear hh hq
    go_enter Tryz.func98, Tryz.ntmps98
    go_wp2_with (go_at_call 135; go_must (refine (HQ.out _).mono ?_; rintro e w' ⟨rfl, rfl⟩))
    refine bodyPost_ret (v := resV none) (by simp [results, Tryz.results98, go_sem, resV, t0]) rfl ⟨by rw [HR.out], ?_⟩
    repeat' first | exact Frm.refl _ _ | apply Frm.alloc | (refine Frm.setCell ?_ _ _ (fun hk => absurd hk (by simp)))
  | some r =>
    have hl := qt_le _ _ _ hq
    rw [List.length_tail, len_list] at hl
    have hp := qt_pair _ _ _ hq
    rw [quoV_some hh hq] at HQ
    obtain ⟨R, hR⟩ : ∃ R : ByteArray, R = ⟨r.toArray⟩ := ⟨_, rfl⟩
    have hRd : R.data.toList = r := by rw [hR]
    have hRs : R.size = r.length := by rw [hR, list_size]
    rw [← hR] at HQ
    have HM := Lib.hid (fun w => meantByStr_all R w (by omega) (by rw [hRd]; exact hp))
    rw [hRd] at HM
    have hRl : (R.size : Int) ≤ 1000000 := by omega
    cases hm : mStr r with
    | none =>
      have HR := Lib.hid (show readStr s.data.toList = none by unfold readStr; rw [hq]; simp only; rw [hm])
      rw [hm] at HM
      clear hh hq hm hp hR hRd hRs hl
      go_enter Tryz.func98, Tryz.ntmps98
      go_wp2_with (first | (go_at_call 135; go_must (refine (HQ.out _).mono ?_; rintro e w' ⟨rfl, rfl⟩)) | (go_at_call 136; go_must (refine (HM.out _).mono ?_; rintro e w2 ⟨he, hf⟩; obtain rfl : e = .returned (.tuple #[.string ⟨#[]⟩, .bool false]) := he; have HX2 := Lib.hid (show Box w2 w.heap.size 69 t0 from HB.out.frm hf id); have HF2 := Lib.hid (show Frm No w w2 from ((Frm.refl No w).alloc _).trans hf); have x0 : w2.cell? ⟨w.heap.size, 0, none⟩ = some (.string ⟨#[]⟩) := HX2.out.cell 0; have x1 : w2.cell? ⟨w.heap.size, 1, none⟩ = some (.string ⟨#[]⟩) := HX2.out.cell 1; have f0 : w2.frozen? ⟨w.heap.size, 0, none⟩ = false := HX2.out.f 0; have f1 : w2.frozen? ⟨w.heap.size, 1, none⟩ = false := HX2.out.f 1; clear hf)))
      refine bodyPost_ret (v := .tuple #[.agg #[.string ⟨#[]⟩, .string ⟨#[]⟩], .int .i64 0]) (results_part2 Tryz.results98 _ _ w.heap.size 69 _ (0, 0) _ (.int .i64 0) rfl rfl ((HX2.out.set 0 _).set 1 _) Tryz.underlying69 rfl info_tok) rfl ⟨by rw [HR.out]; rfl, ?_⟩
      exact ((HF2.out.setCell ⟨w.heap.size, 0, none⟩ _ (fun hk => absurd hk (Nat.lt_irrefl _))).setCell ⟨w.heap.size, 1, none⟩ _ (fun hk => absurd hk (Nat.lt_irrefl _)))
    | some t =>
      have HR := Lib.hid (show readStr s.data.toList = some (⟨kStr, t⟩, r.length + 2) by unfold readStr; rw [hq]; simp only; rw [hm])
      rw [hm] at HM
      have HRS := Lib.hid hRs
      clear hh hq hm hp hR hRd hRs hl
      go_enter Tryz.func98, Tryz.ntmps98
      go_wp2_with (first | (go_at_call 135; go_must (refine (HQ.out _).mono ?_; rintro e w' ⟨rfl, rfl⟩)) | (go_at_call 136; go_must (refine (HM.out _).mono ?_; rintro e w2 ⟨he, hf⟩; obtain rfl : e = .returned (.tuple #[.string ⟨t.toArray⟩, .bool true]) := he; have HX2 := Lib.hid (show Box w2 w.heap.size 69 t0 from HB.out.frm hf id); have HF2 := Lib.hid (show Frm No w w2 from ((Frm.refl No w).alloc _).trans hf); have x0 : w2.cell? ⟨w.heap.size, 0, none⟩ = some (.string ⟨#[]⟩) := HX2.out.cell 0; have x1 : w2.cell? ⟨w.heap.size, 1, none⟩ = some (.string ⟨#[]⟩) := HX2.out.cell 1; have f0 : w2.frozen? ⟨w.heap.size, 0, none⟩ = false := HX2.out.f 0; have f1 : w2.frozen? ⟨w.heap.size, 1, none⟩ = false := HX2.out.f 1; clear hf)))
      refine bodyPost_ret (v := .tuple #[.agg #[.string ⟨#[115, 116, 114]⟩, .string ⟨t.toArray⟩], .int .i64 ((R.size : Int) + 2)]) (results_part2 Tryz.results98 _ _ w.heap.size 69 _ (0, 0) _ (.int .i64 ((R.size : Int) + 2)) rfl rfl ((HX2.out.set 0 _).set 1 _) Tryz.underlying69 rfl info_tok) rfl ⟨by rw [HR.out, HRS.out]; rfl, ?_⟩
      exact ((HF2.out.setCell ⟨w.heap.size, 0, none⟩ _ (fun hk => absurd hk (Nat.lt_irrefl _))).setCell ⟨w.heap.size, 1, none⟩ _ (fun hk => absurd hk (Nat.lt_irrefl _)))

theorem contains_ten (l : List UInt8) : decide (0 ≤ Lib.indexByte l 10) = l.contains 10 := by
  rcases ib_or l 10 with ⟨h1, h2, _⟩ | ⟨h1, h2⟩
  · rw [h1, h2]; rfl
  · rw [h1, h2]; simp

set_option maxHeartbeats 2000000 in
theorem readEre_all (s : ByteArray) (w : World) (hs : s.size ≤ 1000000) (hh : s.data.toList.head? = some 47) :
    Calls Tryz.prog 99 #[.string s] w (RP (readEre s.data.toList) w) := by
  have HB := Lib.hid (Box.new w 69 t0)
  have h0 : 0 < s.size := by
    rw [← len_list]
    cases hl : s.data.toList with
    | nil => rw [hl] at hh; cases hh
    | cons c t => simp
  have HQ := Lib.hid (fun w => quoted_all s w hs h0)
  cases hq : qt 47 s.data.toList.tail with
  | none =>
    have HR := Lib.hid (show readEre s.data.toList = none by unfold readEre; rw [hq])
    rw [quoV_none hh hq] at HQ
    clear hh hq
    go_enter Tryz.func99, Tryz.ntmps99
    go_wp2_with (go_at_call 135; go_must (refine (HQ.out _).mono ?_; rintro e w' ⟨rfl, rfl⟩))
    refine bodyPost_ret (v := resV none) (by simp [results, Tryz.results99, go_sem, resV, t0]) rfl ⟨by rw [HR.out], ?_⟩
    repeat' first | exact Frm.refl _ _ | apply Frm.alloc | (refine Frm.setCell ?_ _ _ (fun hk => absurd hk (by simp)))
  | some r =>
    have hl := qt_le _ _ _ hq
    rw [List.length_tail, len_list] at hl
    have hp := qt_pair _ _ _ hq
    rw [quoV_some hh hq] at HQ
    obtain ⟨R, hR⟩ : ∃ R : ByteArray, R = ⟨r.toArray⟩ := ⟨_, rfl⟩
    have hRd : R.data.toList = r := by rw [hR]
    have hRs : R.size = r.length := by rw [hR, list_size]
    rw [← hR] at HQ
    have HM := Lib.hid (fun w => meantByEre_all R w (by omega) (by rw [hRd]; exact hp))
    rw [hRd] at HM
    have HC := Lib.hid (fun w => Tryz.strings_Contains_one R 10 w)
    rw [hRd, contains_ten] at HC
    have hRl : (R.size : Int) ≤ 1000000 := by omega
    cases hm : r.contains 10 with
    | true =>
      have HR := Lib.hid (show readEre s.data.toList = none by unfold readEre; rw [hq]; simp only; rw [if_pos hm])
      rw [hm] at HC
      clear hh hq hm hp hR hRd hRs hl
      go_enter Tryz.func99, Tryz.ntmps99
      go_wp2_with (first | (go_at_call 135; go_must (refine (HQ.out _).mono ?_; rintro e w' ⟨rfl, rfl⟩)) | (go_at_call 137; go_must (refine (HC.out _).mono ?_; rintro e w' ⟨rfl, rfl⟩)))
      refine bodyPost_ret (v := resV none) (by simp [results, Tryz.results99, go_sem, resV, t0]) rfl ⟨by rw [HR.out], ?_⟩
      repeat' first | exact Frm.refl _ _ | apply Frm.alloc | (refine Frm.setCell ?_ _ _ (fun hk => absurd hk (by simp)))
    | false =>
      have HR := Lib.hid (show readEre s.data.toList = some (⟨kEre, mEre r⟩, r.length + 2) by unfold readEre; rw [hq]; simp only; rw [if_neg (by rw [hm]; decide)])
      rw [hm] at HC
      have HRS := Lib.hid hRs
      clear hh hq hm hp hR hRd hRs hl
      go_enter Tryz.func99, Tryz.ntmps99
      go_wp2_with (first | (go_at_call 135; go_must (refine (HQ.out _).mono ?_; rintro e w' ⟨rfl, rfl⟩)) | (go_at_call 137; go_must (refine (HC.out _).mono ?_; rintro e w' ⟨rfl, rfl⟩)) | (go_at_call 138; go_must (refine (HM.out _).mono ?_; rintro e w2 ⟨he, hf⟩; subst he; have HX2 := Lib.hid (show Box w2 w.heap.size 69 t0 from HB.out.frm hf id); have HF2 := Lib.hid (show Frm No w w2 from ((Frm.refl No w).alloc _).trans hf); have x0 : w2.cell? ⟨w.heap.size, 0, none⟩ = some (.string ⟨#[]⟩) := HX2.out.cell 0; have x1 : w2.cell? ⟨w.heap.size, 1, none⟩ = some (.string ⟨#[]⟩) := HX2.out.cell 1; have f0 : w2.frozen? ⟨w.heap.size, 0, none⟩ = false := HX2.out.f 0; have f1 : w2.frozen? ⟨w.heap.size, 1, none⟩ = false := HX2.out.f 1; clear hf)))
      refine bodyPost_ret (v := .tuple #[.agg #[.string ⟨#[101, 114, 101]⟩, .string ⟨(mEre r).toArray⟩], .int .i64 ((R.size : Int) + 2)]) (results_part2 Tryz.results99 _ _ w.heap.size 69 _ (0, 0) _ (.int .i64 ((R.size : Int) + 2)) rfl rfl ((HX2.out.set 0 _).set 1 _) Tryz.underlying69 rfl info_tok) rfl ⟨by rw [HR.out, HRS.out]; rfl, ?_⟩
      exact ((HF2.out.setCell ⟨w.heap.size, 0, none⟩ _ (fun hk => absurd hk (Nat.lt_irrefl _))).setCell ⟨w.heap.size, 1, none⟩ _ (fun hk => absurd hk (Nat.lt_irrefl _)))
end Go.Proofs.YtgbibfhacjjaeaaGreat.lexs

namespace Go.Proofs.YtgbibfhacjjaeaaGreat.lexs
set_option linter.unusedVariables false set_option linter.unusedSimpArgs false
open Go.ChangeShapes Go.WideShapes Go.ChangeAt Go.RowKit Go.Proofs.YtgbibfhacjjaeaaGreat.base

set_option maxHeartbeats 4000000 in
theorem ends_all (K T : ByteArray) (w : World) :
    Calls Tryz.prog 58 #[.agg #[.string K, .string T]] w fun e w' => e = .returned (.bool (ends ⟨K.data.toList, T.data.toList⟩)) ∧ Frm No w w' := by
  rcases bool_or (K.toList == [110, 117, 109]) with h | q0
  · have HR := Lib.hid (show ends ⟨K.data.toList, T.data.toList⟩ = true by unfold ends; simp only; rw [to_eq h, if_pos (by decide)])
    go_enter Tryz.func58, Tryz.ntmps58
    go_wp2
    go_ret
    exact ⟨ret_bool (by rw [HR.out]), (Frm.refl _ _).alloc _⟩
  rcases bool_or (K.toList == [115, 116, 114]) with h | q1
  · have HR := Lib.hid (show ends ⟨K.data.toList, T.data.toList⟩ = true by unfold ends; simp only; rw [to_eq h, if_pos (by decide)])
    go_enter Tryz.func58, Tryz.ntmps58
    go_wp2
    go_ret
    exact ⟨ret_bool (by rw [HR.out]), (Frm.refl _ _).alloc _⟩
  rcases bool_or (K.toList == [101, 114, 101]) with h | q2
  · have HR := Lib.hid (show ends ⟨K.data.toList, T.data.toList⟩ = true by unfold ends; simp only; rw [to_eq h, if_pos (by decide)])
    go_enter Tryz.func58, Tryz.ntmps58
    go_wp2
    go_ret
    exact ⟨ret_bool (by rw [HR.out]), (Frm.refl _ _).alloc _⟩
  rcases bool_or (K.toList == [110, 97, 109, 101]) with h | q3
  · have HR := Lib.hid (show ends ⟨K.data.toList, T.data.toList⟩ = true by unfold ends; simp only; rw [to_eq h, if_pos (by decide)])
    go_enter Tryz.func58, Tryz.ntmps58
    go_wp2
    go_ret
    exact ⟨ret_bool (by rw [HR.out]), (Frm.refl _ _).alloc _⟩
  have hN : ¬ (K.data.toList = kNum ∨ K.data.toList = kStr ∨ K.data.toList = kEre ∨ K.data.toList = kName) := by
    rintro (e | e | e | e)
    · exact to_ne q0 e
    · exact to_ne q1 e
    · exact to_ne q2 e
    · exact to_ne q3 e
  have HN := Lib.hid hN
  clear hN
  rcases bool_or (K.toList == [98, 117, 105, 108, 116]) with h | q4
  · rcases bool_or (T.toList == [108, 101, 110, 103, 116, 104]) with g | g
    · have HR := Lib.hid (show ends ⟨K.data.toList, T.data.toList⟩ = true by unfold ends; simp only; rw [if_neg HN.out, to_eq h, if_pos (by decide), to_eq g]; rfl)
      go_enter Tryz.func58, Tryz.ntmps58
      go_wp2
      go_ret
      exact ⟨ret_bool (by rw [HR.out]), (Frm.refl _ _).alloc _⟩
    · have HR := Lib.hid (show ends ⟨K.data.toList, T.data.toList⟩ = false by unfold ends; simp only; rw [if_neg HN.out, to_eq h, if_pos (by decide)]; exact decide_eq_false (to_ne g))
      go_enter Tryz.func58, Tryz.ntmps58
      go_wp2
      go_ret
      exact ⟨ret_bool (by rw [HR.out]), (Frm.refl _ _).alloc _⟩
  have HB := Lib.hid (show K.data.toList ≠ kBuilt from to_ne q4)
  rcases bool_or (K.toList == [111, 112]) with h | q5
  · rcases bool_or (T.toList == [41]) with g | g0
    · have HR := Lib.hid (show ends ⟨K.data.toList, T.data.toList⟩ = true by unfold ends; simp only; rw [if_neg HN.out, if_neg HB.out, to_eq h, if_pos (by decide), to_eq g]; decide)
      go_enter Tryz.func58, Tryz.ntmps58
      go_wp2
      go_ret
      exact ⟨ret_bool (by rw [HR.out]), (Frm.refl _ _).alloc _⟩
    rcases bool_or (T.toList == [93]) with g | g1
    · have HR := Lib.hid (show ends ⟨K.data.toList, T.data.toList⟩ = true by unfold ends; simp only; rw [if_neg HN.out, if_neg HB.out, to_eq h, if_pos (by decide), to_eq g]; decide)
      go_enter Tryz.func58, Tryz.ntmps58
      go_wp2
      go_ret
      exact ⟨ret_bool (by rw [HR.out]), (Frm.refl _ _).alloc _⟩
    rcases bool_or (T.toList == [36]) with g | g2
    · have HR := Lib.hid (show ends ⟨K.data.toList, T.data.toList⟩ = true by unfold ends; simp only; rw [if_neg HN.out, if_neg HB.out, to_eq h, if_pos (by decide), to_eq g]; decide)
      go_enter Tryz.func58, Tryz.ntmps58
      go_wp2
      go_ret
      exact ⟨ret_bool (by rw [HR.out]), (Frm.refl _ _).alloc _⟩
    rcases bool_or (T.toList == [43, 43]) with g | g3
    · have HR := Lib.hid (show ends ⟨K.data.toList, T.data.toList⟩ = true by unfold ends; simp only; rw [if_neg HN.out, if_neg HB.out, to_eq h, if_pos (by decide), to_eq g]; decide)
      go_enter Tryz.func58, Tryz.ntmps58
      go_wp2
      go_ret
      exact ⟨ret_bool (by rw [HR.out]), (Frm.refl _ _).alloc _⟩
    rcases bool_or (T.toList == [45, 45]) with g | g4
    · have HR := Lib.hid (show ends ⟨K.data.toList, T.data.toList⟩ = true by unfold ends; simp only; rw [if_neg HN.out, if_neg HB.out, to_eq h, if_pos (by decide), to_eq g]; decide)
      go_enter Tryz.func58, Tryz.ntmps58
      go_wp2
      go_ret
      exact ⟨ret_bool (by rw [HR.out]), (Frm.refl _ _).alloc _⟩
    have HR := Lib.hid (show ends ⟨K.data.toList, T.data.toList⟩ = false by
      unfold ends; simp only; rw [if_neg HN.out, if_neg HB.out, to_eq h, if_pos (by decide)]
      refine decide_eq_false ?_
      rintro (e | e | e | e | e)
      · exact to_ne g0 e
      · exact to_ne g1 e
      · exact to_ne g2 e
      · exact to_ne g3 e
      · exact to_ne g4 e)
    go_enter Tryz.func58, Tryz.ntmps58
    go_wp2
    go_ret
    exact ⟨ret_bool (by rw [HR.out]), (Frm.refl _ _).alloc _⟩
  have HR := Lib.hid (show ends ⟨K.data.toList, T.data.toList⟩ = false by unfold ends; simp only; rw [if_neg HN.out, if_neg HB.out]; exact if_neg (to_ne q5))
  go_enter Tryz.func58, Tryz.ntmps58
  go_wp2
  go_ret
  exact ⟨ret_bool (by rw [HR.out]), (Frm.refl _ _).alloc _⟩
end Go.Proofs.YtgbibfhacjjaeaaGreat.lexs

namespace Go.Proofs.YtgbibfhacjjaeaaGreat.lexs
set_option linter.unusedVariables false set_option linter.unusedSimpArgs false
open Go.ChangeShapes Go.WideShapes Go.ChangeAt Go.RowKit Go.Proofs.YtgbibfhacjjaeaaGreat.base

/-- One of readToken's calls: its contract at this text. -/
def RC (f : Nat) (s : ByteArray) (r : Option (Tok × Nat)) : Prop := ∀ w, Calls Tryz.prog f #[.string s] w (RP r w)

set_option maxHeartbeats 4000000 in
theorem readToken_all (s : ByteArray) (b : Bool) (w : World) (hs : s.size ≤ 1000000) (h0 : 0 < s.size) :
    Calls Tryz.prog 57 #[.string s, .bool b] w (RP (readTok s.data.toList b) w) := by
  have HB := Lib.hid (Box.new w 69 t0)
  have hc : s.data.toList = s[0] :: sx s 1 := by have := sx_cons s 0 h0; rw [← this]; rfl
  obtain ⟨r, hr⟩ : ∃ r, readTok s.data.toList b = r := ⟨_, rfl⟩
  rw [hr]
  have hr' := hr
  rw [hc] at hr'
  simp only [readTok] at hr'
  rw [← hc] at hr'
  have hh : s.data.toList.head? = some s[0] := by rw [hc]; rfl
  have HR := Lib.hid (show r = r from rfl)
  by_cases e1 : s[0] = 10
  · rw [if_pos e1] at hr'
    have b1 : ((s[0].toNat : Int) == 10) = true := beq_yes 10 rfl e1
    subst hr'
    clear e1 hr hh hc HR
    go_enter Tryz.func57, Tryz.ntmps57
    go_wp2
    refine bodyPost_ret (v := resV (some (⟨kNl, []⟩, 1))) (by simp [results, Tryz.results57, go_sem, resV, tC, kNl]) rfl ⟨rfl, ?_⟩
    repeat' first | exact Frm.refl _ _ | apply Frm.alloc | (refine Frm.setCell ?_ _ _ (fun hk => absurd hk (by simp)))
  rw [if_neg e1] at hr'
  have b1 : ((s[0].toNat : Int) == 10) = false := beq_no 10 rfl e1
  clear e1
  by_cases e2 : s[0] = 34
  · rw [if_pos e2] at hr'
    have b2 : ((s[0].toNat : Int) == 34) = true := beq_yes 34 rfl e2
    have HC := Lib.hid (fun w => readStr_all s w hs (hh.trans (by rw [e2])))
    rw [hr'] at HC
    clear e2 hr hr' hh hc
    obtain ⟨x, y, n, hrv, _⟩ := resV_or r
    have HRV := Lib.hid hrv
    clear hrv
    go_enter Tryz.func57, Tryz.ntmps57
    go_wp2_with (go_at_call 98; go_must (refine (HC.out _).mono ?_; rintro e w2 ⟨he, hf⟩; rw [HRV.out] at he; subst he; have HX2 := Lib.hid (show Box w2 w.heap.size 69 t0 from HB.out.frm hf id); have HF2 := Lib.hid (show Frm No w w2 from ((Frm.refl No w).alloc _).trans hf); have x0 : w2.cell? ⟨w.heap.size, 0, none⟩ = some (.string ⟨#[]⟩) := HX2.out.cell 0; have x1 : w2.cell? ⟨w.heap.size, 1, none⟩ = some (.string ⟨#[]⟩) := HX2.out.cell 1; have f0 : w2.frozen? ⟨w.heap.size, 0, none⟩ = false := HX2.out.f 0; have f1 : w2.frozen? ⟨w.heap.size, 1, none⟩ = false := HX2.out.f 1; clear hf))
    refine bodyPost_ret (v := .tuple #[.agg #[.string x, .string y], .int .i64 n]) (results_part2 Tryz.results57 _ _ w.heap.size 69 _ (0, 0) _ (.int .i64 n) rfl rfl ((HX2.out.set 0 _).set 1 _) Tryz.underlying69 rfl info_tok) rfl ⟨by rw [HRV.out], ?_⟩
    exact ((HF2.out.setCell ⟨w.heap.size, 0, none⟩ _ (fun hk => absurd hk (Nat.lt_irrefl _))).setCell ⟨w.heap.size, 1, none⟩ _ (fun hk => absurd hk (Nat.lt_irrefl _)))
  rw [if_neg e2] at hr'
  have b2 : ((s[0].toNat : Int) == 34) = false := beq_no 34 rfl e2
  clear e2
  by_cases e3 : s[0] = 47 ∧ b = false
  · rw [if_pos e3] at hr'
    obtain ⟨e3, rfl⟩ := e3
    have b3 : ((s[0].toNat : Int) == 47) = true := beq_yes 47 rfl e3
    have HC := Lib.hid (fun w => readEre_all s w hs (hh.trans (by rw [e3])))
    rw [hr'] at HC
    clear e3 hr hr' hh hc
    obtain ⟨x, y, n, hrv, _⟩ := resV_or r
    have HRV := Lib.hid hrv
    clear hrv
    go_enter Tryz.func57, Tryz.ntmps57
    go_wp2_with (go_at_call 99; go_must (refine (HC.out _).mono ?_; rintro e w2 ⟨he, hf⟩; rw [HRV.out] at he; subst he; have HX2 := Lib.hid (show Box w2 w.heap.size 69 t0 from HB.out.frm hf id); have HF2 := Lib.hid (show Frm No w w2 from ((Frm.refl No w).alloc _).trans hf); have x0 : w2.cell? ⟨w.heap.size, 0, none⟩ = some (.string ⟨#[]⟩) := HX2.out.cell 0; have x1 : w2.cell? ⟨w.heap.size, 1, none⟩ = some (.string ⟨#[]⟩) := HX2.out.cell 1; have f0 : w2.frozen? ⟨w.heap.size, 0, none⟩ = false := HX2.out.f 0; have f1 : w2.frozen? ⟨w.heap.size, 1, none⟩ = false := HX2.out.f 1; clear hf))
    refine bodyPost_ret (v := .tuple #[.agg #[.string x, .string y], .int .i64 n]) (results_part2 Tryz.results57 _ _ w.heap.size 69 _ (0, 0) _ (.int .i64 n) rfl rfl ((HX2.out.set 0 _).set 1 _) Tryz.underlying69 rfl info_tok) rfl ⟨by rw [HRV.out], ?_⟩
    exact ((HF2.out.setCell ⟨w.heap.size, 0, none⟩ _ (fun hk => absurd hk (Nat.lt_irrefl _))).setCell ⟨w.heap.size, 1, none⟩ _ (fun hk => absurd hk (Nat.lt_irrefl _)))
  rw [if_neg e3] at hr'
  have b3 : (((s[0].toNat : Int) == 47) = true ∧ b = true) ∨ ((s[0].toNat : Int) == 47) = false := by
    by_cases e : s[0] = 47
    · left
      refine ⟨beq_yes 47 rfl e, ?_⟩
      cases b with
      | true => rfl
      | false => exact absurd ⟨e, rfl⟩ e3
    · exact Or.inr (beq_no 47 rfl e)
  clear e3
  cases hL : isL s[0] with
  | true =>
    rw [hL, if_pos rfl] at hr'
    have HL := Lib.hid hL
    have HC := Lib.hid (fun w => readName_all s w hs h0)
    rw [hr'] at HC
    clear hr hr' hh hc hL
    obtain ⟨x, y, n, hrv, _⟩ := resV_or r
    have HRV := Lib.hid hrv
    clear hrv
    rcases b3 with ⟨b3, rfl⟩ | b3
    · go_enter Tryz.func57, Tryz.ntmps57
      go_wp2_with (first | (go_at_call 100; go_must (refine (isLetter_all s[0] _ rfl _).mono ?_; rw [HL.out]; rintro e w' ⟨rfl, rfl⟩)) | (go_at_call 101; go_must (refine (HC.out _).mono ?_; rintro e w2 ⟨he, hf⟩; rw [HRV.out] at he; subst he; have HX2 := Lib.hid (show Box w2 w.heap.size 69 t0 from HB.out.frm hf id); have HF2 := Lib.hid (show Frm No w w2 from ((Frm.refl No w).alloc _).trans hf); have x0 : w2.cell? ⟨w.heap.size, 0, none⟩ = some (.string ⟨#[]⟩) := HX2.out.cell 0; have x1 : w2.cell? ⟨w.heap.size, 1, none⟩ = some (.string ⟨#[]⟩) := HX2.out.cell 1; have f0 : w2.frozen? ⟨w.heap.size, 0, none⟩ = false := HX2.out.f 0; have f1 : w2.frozen? ⟨w.heap.size, 1, none⟩ = false := HX2.out.f 1; clear hf)))
      refine bodyPost_ret (v := .tuple #[.agg #[.string x, .string y], .int .i64 n]) (results_part2 Tryz.results57 _ _ w.heap.size 69 _ (0, 0) _ (.int .i64 n) rfl rfl ((HX2.out.set 0 _).set 1 _) Tryz.underlying69 rfl info_tok) rfl ⟨by rw [HRV.out], ?_⟩
      exact ((HF2.out.setCell ⟨w.heap.size, 0, none⟩ _ (fun hk => absurd hk (Nat.lt_irrefl _))).setCell ⟨w.heap.size, 1, none⟩ _ (fun hk => absurd hk (Nat.lt_irrefl _)))
    · go_enter Tryz.func57, Tryz.ntmps57
      go_wp2_with (first | (go_at_call 100; go_must (refine (isLetter_all s[0] _ rfl _).mono ?_; rw [HL.out]; rintro e w' ⟨rfl, rfl⟩)) | (go_at_call 101; go_must (refine (HC.out _).mono ?_; rintro e w2 ⟨he, hf⟩; rw [HRV.out] at he; subst he; have HX2 := Lib.hid (show Box w2 w.heap.size 69 t0 from HB.out.frm hf id); have HF2 := Lib.hid (show Frm No w w2 from ((Frm.refl No w).alloc _).trans hf); have x0 : w2.cell? ⟨w.heap.size, 0, none⟩ = some (.string ⟨#[]⟩) := HX2.out.cell 0; have x1 : w2.cell? ⟨w.heap.size, 1, none⟩ = some (.string ⟨#[]⟩) := HX2.out.cell 1; have f0 : w2.frozen? ⟨w.heap.size, 0, none⟩ = false := HX2.out.f 0; have f1 : w2.frozen? ⟨w.heap.size, 1, none⟩ = false := HX2.out.f 1; clear hf)))
      refine bodyPost_ret (v := .tuple #[.agg #[.string x, .string y], .int .i64 n]) (results_part2 Tryz.results57 _ _ w.heap.size 69 _ (0, 0) _ (.int .i64 n) rfl rfl ((HX2.out.set 0 _).set 1 _) Tryz.underlying69 rfl info_tok) rfl ⟨by rw [HRV.out], ?_⟩
      exact ((HF2.out.setCell ⟨w.heap.size, 0, none⟩ _ (fun hk => absurd hk (Nat.lt_irrefl _))).setCell ⟨w.heap.size, 1, none⟩ _ (fun hk => absurd hk (Nat.lt_irrefl _)))
  | false =>
    rw [hL, if_neg (by decide)] at hr'
    have HL := Lib.hid hL
    clear hL
    by_cases e4 : s[0] = 46 ∨ isD s[0] = true
    · rw [if_pos e4] at hr'
      have HN := Lib.hid (fun w => numSize_all s w hs)
      have hnl := nm_le s.data.toList
      rw [len_list] at hnl
      have HC := Lib.hid (fun w => bare_at ⟨kNum.toArray⟩ s _ r w hs (nm s.data.toList) rfl hnl (by exact hr'))
      generalize nm s.data.toList = m at *
      clear hr hr' hh hc
      obtain ⟨x, y, n, hrv, _⟩ := resV_or r
      have HRV := Lib.hid hrv
      clear hrv
      by_cases e5 : s[0] = 46
      · have b4 : ((s[0].toNat : Int) == 46) = true := beq_yes 46 rfl e5
        clear e4 e5
        rcases b3 with ⟨b3, rfl⟩ | b3
        · go_enter Tryz.func57, Tryz.ntmps57
          go_wp2_with (first | (go_at_call 100; go_must (refine (isLetter_all s[0] _ rfl _).mono ?_; rw [HL.out]; rintro e w' ⟨rfl, rfl⟩)) | (go_at_call 104; go_must (refine (HN.out _).mono ?_; rintro e w' ⟨rfl, rfl⟩)) | (go_at_call 103; go_must (refine (HC.out _).mono ?_; rintro e w2 ⟨he, hf⟩; rw [HRV.out] at he; subst he; have HX2 := Lib.hid (show Box w2 w.heap.size 69 t0 from HB.out.frm hf id); have HF2 := Lib.hid (show Frm No w w2 from ((Frm.refl No w).alloc _).trans hf); have x0 : w2.cell? ⟨w.heap.size, 0, none⟩ = some (.string ⟨#[]⟩) := HX2.out.cell 0; have x1 : w2.cell? ⟨w.heap.size, 1, none⟩ = some (.string ⟨#[]⟩) := HX2.out.cell 1; have f0 : w2.frozen? ⟨w.heap.size, 0, none⟩ = false := HX2.out.f 0; have f1 : w2.frozen? ⟨w.heap.size, 1, none⟩ = false := HX2.out.f 1; clear hf)))
          refine bodyPost_ret (v := .tuple #[.agg #[.string x, .string y], .int .i64 n]) (results_part2 Tryz.results57 _ _ w.heap.size 69 _ (0, 0) _ (.int .i64 n) rfl rfl ((HX2.out.set 0 _).set 1 _) Tryz.underlying69 rfl info_tok) rfl ⟨by rw [HRV.out], ?_⟩
          exact ((HF2.out.setCell ⟨w.heap.size, 0, none⟩ _ (fun hk => absurd hk (Nat.lt_irrefl _))).setCell ⟨w.heap.size, 1, none⟩ _ (fun hk => absurd hk (Nat.lt_irrefl _)))
        · go_enter Tryz.func57, Tryz.ntmps57
          go_wp2_with (first | (go_at_call 100; go_must (refine (isLetter_all s[0] _ rfl _).mono ?_; rw [HL.out]; rintro e w' ⟨rfl, rfl⟩)) | (go_at_call 104; go_must (refine (HN.out _).mono ?_; rintro e w' ⟨rfl, rfl⟩)) | (go_at_call 103; go_must (refine (HC.out _).mono ?_; rintro e w2 ⟨he, hf⟩; rw [HRV.out] at he; subst he; have HX2 := Lib.hid (show Box w2 w.heap.size 69 t0 from HB.out.frm hf id); have HF2 := Lib.hid (show Frm No w w2 from ((Frm.refl No w).alloc _).trans hf); have x0 : w2.cell? ⟨w.heap.size, 0, none⟩ = some (.string ⟨#[]⟩) := HX2.out.cell 0; have x1 : w2.cell? ⟨w.heap.size, 1, none⟩ = some (.string ⟨#[]⟩) := HX2.out.cell 1; have f0 : w2.frozen? ⟨w.heap.size, 0, none⟩ = false := HX2.out.f 0; have f1 : w2.frozen? ⟨w.heap.size, 1, none⟩ = false := HX2.out.f 1; clear hf)))
          refine bodyPost_ret (v := .tuple #[.agg #[.string x, .string y], .int .i64 n]) (results_part2 Tryz.results57 _ _ w.heap.size 69 _ (0, 0) _ (.int .i64 n) rfl rfl ((HX2.out.set 0 _).set 1 _) Tryz.underlying69 rfl info_tok) rfl ⟨by rw [HRV.out], ?_⟩
          exact ((HF2.out.setCell ⟨w.heap.size, 0, none⟩ _ (fun hk => absurd hk (Nat.lt_irrefl _))).setCell ⟨w.heap.size, 1, none⟩ _ (fun hk => absurd hk (Nat.lt_irrefl _)))
      · have b4 : ((s[0].toNat : Int) == 46) = false := beq_no 46 rfl e5
        have HD := Lib.hid (show isD s[0] = true from e4.resolve_left e5)
        clear e4 e5
        rcases b3 with ⟨b3, rfl⟩ | b3
        · go_enter Tryz.func57, Tryz.ntmps57
          go_wp2_with (first | (go_at_call 100; go_must (refine (isLetter_all s[0] _ rfl _).mono ?_; rw [HL.out]; rintro e w' ⟨rfl, rfl⟩)) | (go_at_call 102; go_must (refine (isDigit_all s[0] _ rfl _).mono ?_; rw [HD.out]; rintro e w' ⟨rfl, rfl⟩)) | (go_at_call 104; go_must (refine (HN.out _).mono ?_; rintro e w' ⟨rfl, rfl⟩)) | (go_at_call 103; go_must (refine (HC.out _).mono ?_; rintro e w2 ⟨he, hf⟩; rw [HRV.out] at he; subst he; have HX2 := Lib.hid (show Box w2 w.heap.size 69 t0 from HB.out.frm hf id); have HF2 := Lib.hid (show Frm No w w2 from ((Frm.refl No w).alloc _).trans hf); have x0 : w2.cell? ⟨w.heap.size, 0, none⟩ = some (.string ⟨#[]⟩) := HX2.out.cell 0; have x1 : w2.cell? ⟨w.heap.size, 1, none⟩ = some (.string ⟨#[]⟩) := HX2.out.cell 1; have f0 : w2.frozen? ⟨w.heap.size, 0, none⟩ = false := HX2.out.f 0; have f1 : w2.frozen? ⟨w.heap.size, 1, none⟩ = false := HX2.out.f 1; clear hf)))
          refine bodyPost_ret (v := .tuple #[.agg #[.string x, .string y], .int .i64 n]) (results_part2 Tryz.results57 _ _ w.heap.size 69 _ (0, 0) _ (.int .i64 n) rfl rfl ((HX2.out.set 0 _).set 1 _) Tryz.underlying69 rfl info_tok) rfl ⟨by rw [HRV.out], ?_⟩
          exact ((HF2.out.setCell ⟨w.heap.size, 0, none⟩ _ (fun hk => absurd hk (Nat.lt_irrefl _))).setCell ⟨w.heap.size, 1, none⟩ _ (fun hk => absurd hk (Nat.lt_irrefl _)))
        · go_enter Tryz.func57, Tryz.ntmps57
          go_wp2_with (first | (go_at_call 100; go_must (refine (isLetter_all s[0] _ rfl _).mono ?_; rw [HL.out]; rintro e w' ⟨rfl, rfl⟩)) | (go_at_call 102; go_must (refine (isDigit_all s[0] _ rfl _).mono ?_; rw [HD.out]; rintro e w' ⟨rfl, rfl⟩)) | (go_at_call 104; go_must (refine (HN.out _).mono ?_; rintro e w' ⟨rfl, rfl⟩)) | (go_at_call 103; go_must (refine (HC.out _).mono ?_; rintro e w2 ⟨he, hf⟩; rw [HRV.out] at he; subst he; have HX2 := Lib.hid (show Box w2 w.heap.size 69 t0 from HB.out.frm hf id); have HF2 := Lib.hid (show Frm No w w2 from ((Frm.refl No w).alloc _).trans hf); have x0 : w2.cell? ⟨w.heap.size, 0, none⟩ = some (.string ⟨#[]⟩) := HX2.out.cell 0; have x1 : w2.cell? ⟨w.heap.size, 1, none⟩ = some (.string ⟨#[]⟩) := HX2.out.cell 1; have f0 : w2.frozen? ⟨w.heap.size, 0, none⟩ = false := HX2.out.f 0; have f1 : w2.frozen? ⟨w.heap.size, 1, none⟩ = false := HX2.out.f 1; clear hf)))
          refine bodyPost_ret (v := .tuple #[.agg #[.string x, .string y], .int .i64 n]) (results_part2 Tryz.results57 _ _ w.heap.size 69 _ (0, 0) _ (.int .i64 n) rfl rfl ((HX2.out.set 0 _).set 1 _) Tryz.underlying69 rfl info_tok) rfl ⟨by rw [HRV.out], ?_⟩
          exact ((HF2.out.setCell ⟨w.heap.size, 0, none⟩ _ (fun hk => absurd hk (Nat.lt_irrefl _))).setCell ⟨w.heap.size, 1, none⟩ _ (fun hk => absurd hk (Nat.lt_irrefl _)))
    · rw [if_neg e4] at hr'
      have HN := Lib.hid (fun w => opSize_all s w hs h0)
      have hnl := opS_le s.data.toList
      rw [len_list] at hnl
      have HC := Lib.hid (fun w => bare_at ⟨kOp.toArray⟩ s _ r w hs (opS s.data.toList) rfl hnl (by exact hr'))
      generalize opS s.data.toList = m at *
      have b4 : ((s[0].toNat : Int) == 46) = false := beq_no 46 rfl (fun e => e4 (Or.inl e))
      have HD := Lib.hid (show isD s[0] = false from by rw [Bool.eq_false_iff]; exact fun e => e4 (Or.inr e))
      clear hr hr' hh hc e4
      obtain ⟨x, y, n, hrv, _⟩ := resV_or r
      have HRV := Lib.hid hrv
      clear hrv
      rcases b3 with ⟨b3, rfl⟩ | b3
      · go_enter Tryz.func57, Tryz.ntmps57
        go_wp2_with (first | (go_at_call 100; go_must (refine (isLetter_all s[0] _ rfl _).mono ?_; rw [HL.out]; rintro e w' ⟨rfl, rfl⟩)) | (go_at_call 102; go_must (refine (isDigit_all s[0] _ rfl _).mono ?_; rw [HD.out]; rintro e w' ⟨rfl, rfl⟩)) | (go_at_call 105; go_must (refine (HN.out _).mono ?_; rintro e w' ⟨rfl, rfl⟩)) | (go_at_call 103; go_must (refine (HC.out _).mono ?_; rintro e w2 ⟨he, hf⟩; rw [HRV.out] at he; subst he; have HX2 := Lib.hid (show Box w2 w.heap.size 69 t0 from HB.out.frm hf id); have HF2 := Lib.hid (show Frm No w w2 from ((Frm.refl No w).alloc _).trans hf); have x0 : w2.cell? ⟨w.heap.size, 0, none⟩ = some (.string ⟨#[]⟩) := HX2.out.cell 0; have x1 : w2.cell? ⟨w.heap.size, 1, none⟩ = some (.string ⟨#[]⟩) := HX2.out.cell 1; have f0 : w2.frozen? ⟨w.heap.size, 0, none⟩ = false := HX2.out.f 0; have f1 : w2.frozen? ⟨w.heap.size, 1, none⟩ = false := HX2.out.f 1; clear hf)))
        refine bodyPost_ret (v := .tuple #[.agg #[.string x, .string y], .int .i64 n]) (results_part2 Tryz.results57 _ _ w.heap.size 69 _ (0, 0) _ (.int .i64 n) rfl rfl ((HX2.out.set 0 _).set 1 _) Tryz.underlying69 rfl info_tok) rfl ⟨by rw [HRV.out], ?_⟩
        exact ((HF2.out.setCell ⟨w.heap.size, 0, none⟩ _ (fun hk => absurd hk (Nat.lt_irrefl _))).setCell ⟨w.heap.size, 1, none⟩ _ (fun hk => absurd hk (Nat.lt_irrefl _)))
      · go_enter Tryz.func57, Tryz.ntmps57
        go_wp2_with (first | (go_at_call 100; go_must (refine (isLetter_all s[0] _ rfl _).mono ?_; rw [HL.out]; rintro e w' ⟨rfl, rfl⟩)) | (go_at_call 102; go_must (refine (isDigit_all s[0] _ rfl _).mono ?_; rw [HD.out]; rintro e w' ⟨rfl, rfl⟩)) | (go_at_call 105; go_must (refine (HN.out _).mono ?_; rintro e w' ⟨rfl, rfl⟩)) | (go_at_call 103; go_must (refine (HC.out _).mono ?_; rintro e w2 ⟨he, hf⟩; rw [HRV.out] at he; subst he; have HX2 := Lib.hid (show Box w2 w.heap.size 69 t0 from HB.out.frm hf id); have HF2 := Lib.hid (show Frm No w w2 from ((Frm.refl No w).alloc _).trans hf); have x0 : w2.cell? ⟨w.heap.size, 0, none⟩ = some (.string ⟨#[]⟩) := HX2.out.cell 0; have x1 : w2.cell? ⟨w.heap.size, 1, none⟩ = some (.string ⟨#[]⟩) := HX2.out.cell 1; have f0 : w2.frozen? ⟨w.heap.size, 0, none⟩ = false := HX2.out.f 0; have f1 : w2.frozen? ⟨w.heap.size, 1, none⟩ = false := HX2.out.f 1; clear hf)))
        refine bodyPost_ret (v := .tuple #[.agg #[.string x, .string y], .int .i64 n]) (results_part2 Tryz.results57 _ _ w.heap.size 69 _ (0, 0) _ (.int .i64 n) rfl rfl ((HX2.out.set 0 _).set 1 _) Tryz.underlying69 rfl info_tok) rfl ⟨by rw [HRV.out], ?_⟩
        exact ((HF2.out.setCell ⟨w.heap.size, 0, none⟩ _ (fun hk => absurd hk (Nat.lt_irrefl _))).setCell ⟨w.heap.size, 1, none⟩ _ (fun hk => absurd hk (Nat.lt_irrefl _)))
end Go.Proofs.YtgbibfhacjjaeaaGreat.lexs

namespace Go.Proofs.YtgbibfhacjjaeaaGreat.lexs
set_option linter.unusedVariables false set_option linter.unusedSimpArgs false
open Go.ChangeShapes Go.WideShapes Go.ChangeAt Go.RowKit Go.Proofs.YtgbibfhacjjaeaaGreat.base

/-- The cells of a list of tokens. -/
def tCs (ts : List Tok) : List Value := ts.flatMap (fun t => [.string ⟨t.k.toArray⟩, .string ⟨t.t.toArray⟩])
theorem tCs_len (ts : List Tok) : (tCs ts).length = ts.length * 2 := by
  induction ts with
  | nil => rfl
  | cons t ts ih => simp only [tCs, List.flatMap_cons, List.length_append] at ih ⊢; rw [ih]; simp; omega
theorem tCs_snoc (ts : List Tok) (t : Tok) : tCs (ts ++ [t]) = tCs ts ++ [.string ⟨t.k.toArray⟩, .string ⟨t.t.toArray⟩] := by
  simp [tCs]
/-- v is a slice of tokens of the call's own. -/
def OwnT (w : World) (B : Nat) (v : Value) (ts : List Tok) : Prop := (∃ a c, v = .slice a ts.length c) ∧ w.ownsRow B 69 2 v ts.length (tCs ts)
theorem own_lt {w : World} {B n size : Nat} {e : TypeId} {v : Value} {xs : List Value} (h : w.ownsRow B e size v n xs) {q : Nat} (hq : v.ownBlock = some q) : B ≤ q ∧ q < w.heap.size := by
  rcases h.2 with ⟨h0, h1⟩ | ⟨g, cap, cur, hv, hg, hh, _⟩
  · rw [h0] at hq; cases hq
  · rw [hv] at hq
    simp only [Value.ownBlock, Option.some.injEq] at hq
    subst hq
    exact ⟨hg, (Array.getElem?_eq_some_iff.1 hh).1⟩
theorem own_frm {w w' : World} {B n size : Nat} {e : TypeId} {v : Value} {xs : List Value} (h : w.ownsRow B e size v n xs) (hf : Frm No w w') : w'.ownsRow B e size v n xs := by
  refine ⟨h.1, h.2.elim Or.inl (fun ⟨g, cap, cur, hv, hg, hh, r⟩ => Or.inr ⟨g, cap, cur, hv, hg, ?_, r⟩)⟩
  rw [hf.block g (Array.getElem?_eq_some_iff.1 hh).1 (fun h => h)]
  exact hh
theorem OwnT.nil (w : World) (B : Nat) : OwnT w B (.slice none 0 0) [] := ⟨⟨none, 0, rfl⟩, World.ownsRow_nil _ _ _ _⟩
theorem OwnT.frm {w w' : World} {B : Nat} {v : Value} {ts : List Tok} (h : OwnT w B v ts) (hf : Frm No w w') : OwnT w' B v ts := ⟨h.1, own_frm h.2 hf⟩

theorem info_tk : (Tryz.prog.info? 69).map (fun i => (i.zero, i.size, i.bytes)) = some (some (.agg #[.string ⟨#[]⟩, .string ⟨#[]⟩]), 2, 32) := by kernel_rfl
theorem own_slice {w : World} {B n size : Nat} {e : TypeId} {v : Value} {xs : List Value} (h : w.ownsRow B e size v n xs) : ∃ a c, v = .slice a n c := by
  rcases h.2 with ⟨h0, h1⟩ | ⟨g, cap, cur, hv, hg, hh, _⟩
  · exact ⟨none, 0, by rw [h0, h1]⟩
  · exact ⟨_, _, hv⟩

/-- 'append(tokens, t)': the token lies in a new block of its own. -/
theorem wpList_appT (w : World) {ops : Array Oper} {rest : List Oper} {o : Oper} {a : Act} {Q : Exit → Act → World → Prop} (hgd : o.guard = none) (s x : Operand)
    (ho : o.op = .call { callee := .builtin .append, args := #[s, x], argTypes := #[52, 52] })
    (B : Nat) (v : Value) (ts : List Tok) (hs : a.eval s = v) (hown : OwnT w B v ts) (K T : ByteArray) (t : Tok) (hK : K = ⟨t.k.toArray⟩) (hT : T = ⟨t.t.toArray⟩)
    (p : Nat) (hx : a.eval x = .slice (some ⟨p, 0, none⟩) 1 1) (hp : p = w.heap.size) (hl : ts.length ≤ 100000) (hB : B ≤ w.heap.size)
    (h : ∀ v' w', OwnT w' B v' (ts ++ [t]) → Frm (fun k => v.ownBlock = some k) w w' → wpList Tryz.prog ops Q rest (a.put o.dst v') w') :
    wpList Tryz.prog ops Q (o :: rest) a (w.alloc (.cells #[.string K, .string T] 69)) := by
  obtain ⟨i0, hi, hz0, hz1, hz2⟩ := info_parts info_tk
  subst hK hT hp
  refine wpList_append_own _ hgd s x 52 ho B 69 i0 (.agg #[.string ⟨#[]⟩, .string ⟨#[]⟩]) 2 32 Tryz.underlying52 hi hz0 hz1 hz2 rfl (by decide) v _ _ hs (World.ownsRow.alloc hown.2 _) ⟨w.heap.size, 0, none⟩ 1 1 [.string ⟨t.k.toArray⟩, .string ⟨t.t.toArray⟩] hx rfl (World.news_of_block (cs := #[.string ⟨t.k.toArray⟩, .string ⟨t.t.toArray⟩]) (t := 69) (fr := (0, 0)) (heap_alloc_new w _)) (by simp [Value.oneCell']) (by unfold maxLen; omega) (by omega) (by simp; omega) ?_
  intro v' w' hown' hg _
  refine h v' w' ⟨?_, ?_⟩ ?_
  · have := own_slice hown'
    simpa using this
  · rw [tCs_snoc, List.length_append]
    exact hown'
  · refine ((Frm.refl _ w).alloc _).grown hg (fun k hk _ => hk)

/-- What Lex answers. -/
def LP (r : Option (List Tok)) (w : World) : Ending → World → Prop := fun e w' => Frm No w w' ∧ (match r with
  | none => e = .returned (.tuple #[.slice none 0 0, .bool false])
  | some ts => ∃ v, e = .returned (.tuple #[v, .bool true]) ∧ OwnT w' w.heap.size v ts)
def szOf (v : Value) : Nat := match v with
  | .string s => s.size
  | _ => 0
/-- The rest's tokens behind those that are there. -/
def apt (ts : List Tok) (r : Option (List Tok)) : Option (List Tok) := r.map (fun x => ts ++ x)
/-- Not too many. -/
def lim (r : Option (List Tok)) : Option (List Tok) := match r with
  | none => none
  | some r => if r.length > 20000 then none else some r
theorem lexL_big {l : List UInt8} (h : l.length > 65536) : lexL l = none := by unfold lexL; rw [if_pos h]
theorem lexL_lim {l : List UInt8} (h : ¬ l.length > 65536) : lexL l = lim (lexF (l.drop (gap l)) false) := by unfold lexL; rw [if_neg h]; cases lexF (l.drop (gap l)) false <;> rfl
theorem lim_many {ts : List Tok} {r : Option (List Tok)} {t : Tok} (h : ts.length = 20000) : lim (apt ts (r.map (fun x => t :: x))) = none := by
  cases r with
  | none => rfl
  | some x => simp only [lim, apt, Option.map_some]; rw [if_pos (by simp; omega)]
theorem lim_end {ts : List Tok} (h : ts.length ≤ 20000) : lim (apt ts (some [])) = some ts := by
  simp only [lim, apt, Option.map_some, List.append_nil]; rw [if_neg (by omega)]
theorem apt_snoc (ts : List Tok) (t : Tok) (r : Option (List Tok)) : apt ts (r.map (fun x => t :: x)) = apt (ts ++ [t]) r := by
  cases r with
  | none => rfl
  | some x => simp [apt]

theorem gap_at (s : ByteArray) (l : List UInt8) (G : Nat) (w : World) (hs : s.size ≤ 1000000) (hl : s.data.toList = l) (hG : gap l = G) :
    Calls Tryz.prog 56 #[.string s] w fun e w' => e = .returned (.int .i64 (G : Int)) ∧ Frm No w w' := by
  have := gapSize_all s w hs
  rw [hl, hG] at this
  exact this
theorem empty_iff (D : ByteArray) : D.toList.isEmpty = (D.size == 0) := by
  rw [Lib.toList_data]
  have : D.data.toList.length = D.size := by simp
  cases h : D.data.toList with
  | nil => rw [h] at this; rw [← this]; rfl
  | cons c t => rw [h] at this; rw [← this]; rfl

set_option maxHeartbeats 2000000 in
set_option maxRecDepth 20000 in
theorem lex_all (s : ByteArray) (w : World) (hs : s.size ≤ 1000000) :
    Calls Tryz.prog 27 #[.string s] w (LP (lexL s.data.toList) w) := by
  by_cases hbig : 65536 < s.size
  · have HR := Lib.hid (lexL_big (l := s.data.toList) (by rw [len_list]; exact hbig))
    have hb' : (65536 : Int) < (s.size : Int) := by omega
    go_enter Tryz.func27, Tryz.ntmps27
    go_wp2
    exact bodyPost_ret (v := .tuple #[.slice none 0 0, .bool false]) (by simp [results, Tryz.results27, go_sem]) rfl ⟨Frm.refl _ _, by rw [HR.out]⟩
  · have hb' : ¬ (65536 : Int) < (s.size : Int) := by omega
    have HR := Lib.hid (lexL_lim (l := s.data.toList) (by rw [len_list]; exact hbig))
    obtain ⟨G, hG⟩ : ∃ G, gap s.data.toList = G := ⟨_, rfl⟩
    have hGl := gap_le s.data.toList
    rw [hG, len_list] at hGl
    have HG := Lib.hid (fun w => gap_at s _ G w hs rfl hG)
    rw [hG] at HR
    clear hG
    go_enter Tryz.func27, Tryz.ntmps27
    go_wp2_with (go_at_call 56; go_must (refine (HG.out _).mono ?_; rintro e w1 ⟨rfl, hf⟩; have HF1 := Lib.hid hf; clear hf))
    go_loopw [4, 5, 6] (fun v bv rv wr => ∃ (R : ByteArray) (ts : List Tok) (b : Bool), rv = .string R ∧ bv = .bool b ∧ R.size ≤ s.size ∧ ts.length ≤ 20000 ∧ Hid (lexF (s.data.toList.drop G) false = apt ts (lexF R.data.toList b)) ∧ OwnT wr w.heap.size v ts ∧ Frm No w wr) (fun _ _ rv _ => szOf rv)
    case atStart => exact ⟨s.extract G s.size, [], false, rfl, rfl, by simp [ByteArray.size_extract], by simp, Lib.hid (by rw [extract_drop]; cases lexF (s.data.toList.drop G) false <;> rfl), OwnT.nil _ _, HF1.out⟩
    case round =>
      obtain ⟨R, ts, b, rfl, rfl, hRs, htl, HX, hown, hfr⟩ := hrel
      obtain ⟨⟨va, vc, rfl⟩, hrow⟩ := hown
      have HOWN := Lib.hid hrow
      have HFR := Lib.hid hfr
      have hwr := hfr.size
      have hRs' : R.size ≤ 1000000 := by omega
      clear hrow hfr
      by_cases he : R.size = 0
      · have hem : R.toList.isEmpty = true := by rw [empty_iff, he]; rfl
        have HL := Lib.hid (show lexL s.data.toList = some ts by
          rw [HR.out, HX.out, show R.data.toList = [] from List.eq_nil_of_length_eq_zero (by rw [len_list]; exact he), lexF_nil, lim_end htl])
        clear HX he
        go_wp2
        exact bodyPost_ret (v := .tuple #[.slice va ts.length vc, .bool true]) (by simp [results, Tryz.results27, go_sem]) rfl ⟨HFR.out, by rw [HL.out]; exact ⟨_, rfl, ⟨_, _, rfl⟩, HOWN.out⟩⟩
      · have hem : R.toList.isEmpty = false := by rw [empty_iff]; simpa using he
        have hR0 : 0 < R.size := by omega
        have hne : R.data.toList ≠ [] := fun e => he (by rw [← len_list, e]; rfl)
        have HT := Lib.hid (fun w => readToken_all R b w hRs' hR0)
        cases hr : readTok R.data.toList b with
        | none =>
          have HL := Lib.hid (show lexL s.data.toList = none by rw [HR.out, HX.out, lexF_none hne hr]; rfl)
          rw [hr] at HT
          clear HX hr hne he
          go_wp2_with (go_at_call 57; go_must (refine (HT.out _).mono ?_; rintro e w2 ⟨he, hf⟩; obtain rfl : e = .returned (.tuple #[.agg #[.string ⟨#[]⟩, .string ⟨#[]⟩], .int .i64 0]) := he; have HF2 := Lib.hid hf; clear hf))
          exact bodyPost_ret (v := .tuple #[.slice none 0 0, .bool false]) (by simp [results, Tryz.results27, go_sem]) rfl ⟨(HFR.out.trans HF2.out).alloc _, by rw [HL.out]⟩
        | some p =>
          obtain ⟨t, k⟩ := p
          obtain ⟨hk0, hkl⟩ := readTok_le hr
          rw [len_list] at hkl
          rw [hr] at HT
          obtain ⟨K, hK⟩ : ∃ K : ByteArray, K = ⟨t.k.toArray⟩ := ⟨_, rfl⟩
          obtain ⟨T, hT⟩ : ∃ T : ByteArray, T = ⟨t.t.toArray⟩ := ⟨_, rfl⟩
          have HT' := Lib.hid (show ∀ w, Calls Tryz.prog 57 #[.string R, .bool b] w fun e w' => e = .returned (.tuple #[.agg #[.string K, .string T], .int .i64 (k : Int)]) ∧ Frm No w w' by
            intro w
            refine (HT.out w).mono fun e w' ⟨h1, h2⟩ => ⟨?_, h2⟩
            rw [h1, hK, hT]; rfl)
          clear HT
          have hkz : ((k : Int) == 0) = false := by simp; omega
          have hLX := lexF_some hne hr
          by_cases hmax : ts.length = 20000
          · have hm1 : ((ts.length : Int) == 20000) = true := by rw [hmax]; rfl
            have HL := Lib.hid (show lexL s.data.toList = none by rw [HR.out, HX.out, hLX, lim_many hmax])
            clear HX hLX hr hne he hK hT hmax
            go_wp2_with (go_at_call 57; go_must (refine (HT'.out _).mono ?_; rintro e w2 ⟨rfl, hf⟩; have HF2 := Lib.hid hf; clear hf))
            refine bodyPost_ret (v := .tuple #[.slice none 0 0, .bool false]) (by simp [results, Tryz.results27, go_sem]) rfl ⟨?_, by rw [HL.out]⟩
            exact (HFR.out.trans HF2.out).alloc _
          · have hm1 : ((ts.length : Int) == 20000) = false := by simp; omega
            have HK := Lib.hid hK
            have HTT := Lib.hid hT
            have HE := Lib.hid (fun w => ends_all K T w)
            rw [show (⟨K.data.toList, T.data.toList⟩ : Tok) = t by rw [hK, hT]] at HE
            obtain ⟨R1, hR1⟩ : ∃ R1 : ByteArray, R1 = R.extract k R.size := ⟨_, rfl⟩
            have hR1d : R1.data.toList = R.data.toList.drop k := by rw [hR1, extract_drop]
            have hR1s : R1.size = R.size - k := by rw [hR1]; simp [ByteArray.size_extract]
            obtain ⟨g, hg⟩ : ∃ g, gap (R.data.toList.drop k) = g := ⟨_, rfl⟩
            have hgl := gap_le (R.data.toList.drop k)
            rw [hg, List.length_drop, len_list] at hgl
            have HGG := Lib.hid (fun w => gap_at R1 _ g w (by omega) hR1d hg)
            have HR1 := Lib.hid hR1
            have HX' := Lib.hid (show lexF (s.data.toList.drop G) false = apt (ts ++ [t]) (lexF (R1.extract g R1.size).data.toList (ends t)) by
              rw [HX.out, hLX, apt_snoc, hg, extract_drop, hR1d])
            have hR2s : (R1.extract g R1.size).size = R1.size - g := by simp [ByteArray.size_extract]
            have HR2s := Lib.hid hR2s
            have hg1 : (g : Int) ≤ (R1.size : Int) := by omega
            have hgs : R1.size - g < R.size := by omega
            have HTL := Lib.hid (show ts.length < 20000 by omega)
            clear HX hLX hr hne he hK hT hmax hg hR1d hR1 hR2s hR1s hgl
            go_wp2_with (first | (go_at_call 57; go_must (refine (HT'.out _).mono ?_; rintro e w2 ⟨rfl, hf⟩; have HF2 := Lib.hid hf; have hw2 := hf.size; have HOW2 := Lib.hid (OwnT.frm ⟨⟨va, vc, rfl⟩, HOWN.out⟩ (hf.alloc (.cells #[.string K, .string T] 69))); have HP2 := Lib.hid (Box.new w2 69 #[.string K, .string T]); clear hf)) | (at_builtin; refine wpList_appT _ rfl _ _ rfl w.heap.size (.slice va ts.length vc) ts rfl HOW2.out K T t HK.out HTT.out (w2.heap.size + 1) rfl (by simp) (by omega) (by simp; omega) ?_; intro v' w3 hown' hf3; have hb3 := HP2.out.frm hf3 (fun e => absurd (own_lt HOWN.out e).2 (by omega)); have y0 : w3.cell? ⟨w2.heap.size, 0, none⟩ = some (.string K) := hb3.cell 0; have y1 : w3.cell? ⟨w2.heap.size, 1, none⟩ = some (.string T) := hb3.cell 1; have HOW3 := Lib.hid hown'; have HF3 := Lib.hid (show Frm No w w3 from Frm.then (((HFR.out.trans HF2.out).alloc _)) hf3 (fun q hq e => absurd (own_lt HOWN.out e).1 (by omega))); clear hown' hf3 hb3) | (go_at_call 58; go_must (refine (HE.out _).mono ?_; rintro e w4 ⟨rfl, hf⟩; have HF4 := Lib.hid hf; clear hf)) | (go_at_call 56; go_must (rw [← HR1.out]; refine (HGG.out _).mono ?_; rintro e w5 ⟨rfl, hf⟩; have HF5 := Lib.hid hf; clear hf)))
            go_roundw
            case rel => exact ⟨R1.extract g R1.size, ts ++ [t], ends t, rfl, rfl, by rw [HR2s.out]; omega, by have := HTL.out; simp; omega, Lib.hid HX'.out, HOW3.out.frm (HF4.out.trans HF5.out), HF3.out.trans (HF4.out.trans HF5.out)⟩
            case measure => simp only [szOf]; rw [HR2s.out]; omega
end Go.Proofs.YtgbibfhacjjaeaaGreat.lexs
