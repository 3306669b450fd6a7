/- Contracts of lex's readStr, readEre. -/
import Derived.Test.YteaibkbdoocifaaDoorLexM
namespace Go.Proofs.YteaibkbdoocifaaDoor.lexs
set_option linter.unusedVariables false set_option linter.unusedSimpArgs false
open Go.ChangeShapes Go.WideShapes Go.ChangeAt Go.RowKit Go.Proofs.YteaibkbdoocifaaDoor.base

theorem quoV_none {s : ByteArray} {q : UInt8} (hh : s.data.toList.head? = some q) (h : qt q s.data.toList.tail = none) : quoV s = .tuple #[.string ⟨#[]⟩, .bool false] := by
  unfold quoV
  cases hl : s.data.toList with
  | nil => rw [hl] at hh; cases hh
  | cons c t => rw [hl] at hh h; cases hh; rw [List.headD_cons, List.tail_cons]; rw [List.tail_cons] at h; rw [h]
theorem quoV_some {s : ByteArray} {q : UInt8} {r : List UInt8} (hh : s.data.toList.head? = some q) (h : qt q s.data.toList.tail = some r) : quoV s = .tuple #[.string ⟨r.toArray⟩, .bool true] := by
  unfold quoV
  cases hl : s.data.toList with
  | nil => rw [hl] at hh; cases hh
  | cons c t => rw [hl] at hh h; cases hh; rw [List.headD_cons, List.tail_cons]; rw [List.tail_cons] at h; rw [h]

set_option maxHeartbeats 2000000 in
theorem readStr_all (s : ByteArray) (w : World) (hs : s.size ≤ 1000000) (hh : s.data.toList.head? = some 34) :
    Calls Tryd.prog 72 #[.string s] w (RP (readStr s.data.toList) w) := by
  have HB := Lib.hid (Box.new w 43 t0)
  have h0 : 0 < s.size := by
    rw [← len_list]
    cases hl : s.data.toList with
    | nil => rw [hl] at hh; cases hh
    | cons c t => simp
  have HQ := Lib.hid (fun w => quoted_all s w hs h0)
  cases hq : qt 34 s.data.toList.tail with
  | none =>
    have HR := Lib.hid (show readStr s.data.toList = none by unfold readStr; rw [hq])
    rw [quoV_none hh hq] at HQ
    clear hh hq
    go_enter Tryd.func72, Tryd.ntmps72
    go_wp2_with (go_at_call 83; go_must (refine (HQ.out _).mono ?_; rintro e w' ⟨rfl, rfl⟩))
    refine bodyPost_ret (v := resV none) (by simp [results, Tryd.results72, go_sem, resV, t0]) rfl ⟨by rw [HR.out], ?_⟩
    repeat' first | exact Frm.refl _ _ | apply Frm.alloc | (refine Frm.setCell ?_ _ _ (fun hk => absurd hk (by simp)))
  | some r =>
    have hl := qt_le _ _ _ hq
    rw [List.length_tail, len_list] at hl
    have hp := qt_pair _ _ _ hq
    rw [quoV_some hh hq] at HQ
    obtain ⟨R, hR⟩ : ∃ R : ByteArray, R = ⟨r.toArray⟩ := ⟨_, rfl⟩
    have hRd : R.data.toList = r := by rw [hR]
    have hRs : R.size = r.length := by rw [hR, list_size]
    rw [← hR] at HQ
    have HM := Lib.hid (fun w => meantByStr_all R w (by omega) (by rw [hRd]; exact hp))
    rw [hRd] at HM
    have hRl : (R.size : Int) ≤ 1000000 := by omega
    cases hm : mStr r with
    | none =>
      have HR := Lib.hid (show readStr s.data.toList = none by unfold readStr; rw [hq]; simp only; rw [hm])
      rw [hm] at HM
      clear hh hq hm hp hR hRd hRs hl
      go_enter Tryd.func72, Tryd.ntmps72
      go_wp2_with (first | (go_at_call 83; go_must (refine (HQ.out _).mono ?_; rintro e w' ⟨rfl, rfl⟩)) | (go_at_call 84; go_must (refine (HM.out _).mono ?_; rintro e w2 ⟨he, hf⟩; obtain rfl : e = .returned (.tuple #[.string ⟨#[]⟩, .bool false]) := he; have HX2 := Lib.hid (show Box w2 w.heap.size 43 t0 from HB.out.frm hf id); have HF2 := Lib.hid (show Frm No w w2 from ((Frm.refl No w).alloc _).trans hf); have x0 : w2.cell? ⟨w.heap.size, 0, none⟩ = some (.string ⟨#[]⟩) := HX2.out.cell 0; have x1 : w2.cell? ⟨w.heap.size, 1, none⟩ = some (.string ⟨#[]⟩) := HX2.out.cell 1; have f0 : w2.frozen? ⟨w.heap.size, 0, none⟩ = false := HX2.out.f 0; have f1 : w2.frozen? ⟨w.heap.size, 1, none⟩ = false := HX2.out.f 1; clear hf)))
      refine bodyPost_ret (v := .tuple #[.agg #[.string ⟨#[]⟩, .string ⟨#[]⟩], .int .i64 0]) (results_part2 Tryd.results72 _ _ w.heap.size 43 _ (0, 0) _ (.int .i64 0) rfl rfl ((HX2.out.set 0 _).set 1 _) Tryd.underlying43 rfl info_tok) rfl ⟨by rw [HR.out]; rfl, ?_⟩
      exact ((HF2.out.setCell ⟨w.heap.size, 0, none⟩ _ (fun hk => absurd hk (Nat.lt_irrefl _))).setCell ⟨w.heap.size, 1, none⟩ _ (fun hk => absurd hk (Nat.lt_irrefl _)))
    | some t =>
      have HR := Lib.hid (show readStr s.data.toList = some (⟨kStr, t⟩, r.length + 2) by unfold readStr; rw [hq]; simp only; rw [hm])
      rw [hm] at HM
      have HRS := Lib.hid hRs
      clear hh hq hm hp hR hRd hRs hl
      go_enter Tryd.func72, Tryd.ntmps72
      go_wp2_with (first | (go_at_call 83; go_must (refine (HQ.out _).mono ?_; rintro e w' ⟨rfl, rfl⟩)) | (go_at_call 84; go_must (refine (HM.out _).mono ?_; rintro e w2 ⟨he, hf⟩; obtain rfl : e = .returned (.tuple #[.string ⟨t.toArray⟩, .bool true]) := he; have HX2 := Lib.hid (show Box w2 w.heap.size 43 t0 from HB.out.frm hf id); have HF2 := Lib.hid (show Frm No w w2 from ((Frm.refl No w).alloc _).trans hf); have x0 : w2.cell? ⟨w.heap.size, 0, none⟩ = some (.string ⟨#[]⟩) := HX2.out.cell 0; have x1 : w2.cell? ⟨w.heap.size, 1, none⟩ = some (.string ⟨#[]⟩) := HX2.out.cell 1; have f0 : w2.frozen? ⟨w.heap.size, 0, none⟩ = false := HX2.out.f 0; have f1 : w2.frozen? ⟨w.heap.size, 1, none⟩ = false := HX2.out.f 1; clear hf)))
      refine bodyPost_ret (v := .tuple #[.agg #[.string ⟨#[115, 116, 114]⟩, .string ⟨t.toArray⟩], .int .i64 ((R.size : Int) + 2)]) (results_part2 Tryd.results72 _ _ w.heap.size 43 _ (0, 0) _ (.int .i64 ((R.size : Int) + 2)) rfl rfl ((HX2.out.set 0 _).set 1 _) Tryd.underlying43 rfl info_tok) rfl ⟨by rw [HR.out, HRS.out]; rfl, ?_⟩
      exact ((HF2.out.setCell ⟨w.heap.size, 0, none⟩ _ (fun hk => absurd hk (Nat.lt_irrefl _))).setCell ⟨w.heap.size, 1, none⟩ _ (fun hk => absurd hk (Nat.lt_irrefl _)))

theorem contains_ten (l : List UInt8) : decide (0 ≤ Lib.indexByte l 10) = l.contains 10 := by
  rcases ib_or l 10 with ⟨h1, h2, _⟩ | ⟨h1, h2⟩
  · rw [h1, h2]; rfl
  · rw [h1, h2]; simp

set_option maxHeartbeats 2000000 in
theorem readEre_all (s : ByteArray) (w : World) (hs : s.size ≤ 1000000) (hh : s.data.toList.head? = some 47) :
    Calls Tryd.prog 73 #[.string s] w (RP (readEre s.data.toList) w) := by
  have HB := Lib.hid (Box.new w 43 t0)
  have h0 : 0 < s.size := by
    rw [← len_list]
    cases hl : s.data.toList with
    | nil => rw [hl] at hh; cases hh
    | cons c t => simp
  have HQ := Lib.hid (fun w => quoted_all s w hs h0)
  cases hq : qt 47 s.data.toList.tail with
  | none =>
    have HR := Lib.hid (show readEre s.data.toList = none by unfold readEre; rw [hq])
    rw [quoV_none hh hq] at HQ
    clear hh hq
    go_enter Tryd.func73, Tryd.ntmps73
    go_wp2_with (go_at_call 83; go_must (refine (HQ.out _).mono ?_; rintro e w' ⟨rfl, rfl⟩))
    refine bodyPost_ret (v := resV none) (by simp [results, Tryd.results73, go_sem, resV, t0]) rfl ⟨by rw [HR.out], ?_⟩
    repeat' first | exact Frm.refl _ _ | apply Frm.alloc | (refine Frm.setCell ?_ _ _ (fun hk => absurd hk (by simp)))
  | some r =>
    have hl := qt_le _ _ _ hq
    rw [List.length_tail, len_list] at hl
    have hp := qt_pair _ _ _ hq
    rw [quoV_some hh hq] at HQ
    obtain ⟨R, hR⟩ : ∃ R : ByteArray, R = ⟨r.toArray⟩ := ⟨_, rfl⟩
    have hRd : R.data.toList = r := by rw [hR]
    have hRs : R.size = r.length := by rw [hR, list_size]
    rw [← hR] at HQ
    have HM := Lib.hid (fun w => meantByEre_all R w (by omega) (by rw [hRd]; exact hp))
    rw [hRd] at HM
    have HC := Lib.hid (fun w => Tryd.strings_Contains_one R 10 w)
    rw [hRd, contains_ten] at HC
    have hRl : (R.size : Int) ≤ 1000000 := by omega
    cases hm : r.contains 10 with
    | true =>
      have HR := Lib.hid (show readEre s.data.toList = none by unfold readEre; rw [hq]; simp only; rw [if_pos hm])
      rw [hm] at HC
      clear hh hq hm hp hR hRd hRs hl
      go_enter Tryd.func73, Tryd.ntmps73
      go_wp2_with (first | (go_at_call 83; go_must (refine (HQ.out _).mono ?_; rintro e w' ⟨rfl, rfl⟩)) | (go_at_call 85; go_must (refine (HC.out _).mono ?_; rintro e w' ⟨rfl, rfl⟩)))
      refine bodyPost_ret (v := resV none) (by simp [results, Tryd.results73, go_sem, resV, t0]) rfl ⟨by rw [HR.out], ?_⟩
      repeat' first | exact Frm.refl _ _ | apply Frm.alloc | (refine Frm.setCell ?_ _ _ (fun hk => absurd hk (by simp)))
    | false =>
      have HR := Lib.hid (show readEre s.data.toList = some (⟨kEre, mEre r⟩, r.length + 2) by unfold readEre; rw [hq]; simp only; rw [if_neg (by rw [hm]; decide)])
      rw [hm] at HC
      have HRS := Lib.hid hRs
      clear hh hq hm hp hR hRd hRs hl
      go_enter Tryd.func73, Tryd.ntmps73
      go_wp2_with (first | (go_at_call 83; go_must (refine (HQ.out _).mono ?_; rintro e w' ⟨rfl, rfl⟩)) | (go_at_call 85; go_must (refine (HC.out _).mono ?_; rintro e w' ⟨rfl, rfl⟩)) | (go_at_call 86; go_must (refine (HM.out _).mono ?_; rintro e w2 ⟨he, hf⟩; subst he; have HX2 := Lib.hid (show Box w2 w.heap.size 43 t0 from HB.out.frm hf id); have HF2 := Lib.hid (show Frm No w w2 from ((Frm.refl No w).alloc _).trans hf); have x0 : w2.cell? ⟨w.heap.size, 0, none⟩ = some (.string ⟨#[]⟩) := HX2.out.cell 0; have x1 : w2.cell? ⟨w.heap.size, 1, none⟩ = some (.string ⟨#[]⟩) := HX2.out.cell 1; have f0 : w2.frozen? ⟨w.heap.size, 0, none⟩ = false := HX2.out.f 0; have f1 : w2.frozen? ⟨w.heap.size, 1, none⟩ = false := HX2.out.f 1; clear hf)))
      refine bodyPost_ret (v := .tuple #[.agg #[.string ⟨#[101, 114, 101]⟩, .string ⟨(mEre r).toArray⟩], .int .i64 ((R.size : Int) + 2)]) (results_part2 Tryd.results73 _ _ w.heap.size 43 _ (0, 0) _ (.int .i64 ((R.size : Int) + 2)) rfl rfl ((HX2.out.set 0 _).set 1 _) Tryd.underlying43 rfl info_tok) rfl ⟨by rw [HR.out, HRS.out]; rfl, ?_⟩
      exact ((HF2.out.setCell ⟨w.heap.size, 0, none⟩ _ (fun hk => absurd hk (Nat.lt_irrefl _))).setCell ⟨w.heap.size, 1, none⟩ _ (fun hk => absurd hk (Nat.lt_irrefl _)))
end Go.Proofs.YteaibkbdoocifaaDoor.lexs
