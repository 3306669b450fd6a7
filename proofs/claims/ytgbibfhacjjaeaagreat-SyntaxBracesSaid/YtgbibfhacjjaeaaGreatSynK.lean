/- countsOf, rightBuilt, built. built. -/
import Derived.Test.YtgbibfhacjjaeaaGreatSynI

namespace Go.Proofs.YtgbibfhacjjaeaaGreat.syn
set_option maxRecDepth 20000 set_option linter.unusedVariables false set_option linter.unusedSimpArgs false
open Go.ChangeShapes Go.WideShapes Go.ChangeAt Go.RowKit Go.Proofs.YtgbibfhacjjaeaaGreat.base
open Go.Proofs.YtgbibfhacjjaeaaGreat.lexs (Tok kNl kNum kStr kEre kOp kName kFunc kWord kBuilt)

set_option maxHeartbeats 2000000 in
theorem countsOf_all (w : World) (t : B) : Calls Tryz.prog 293 #[.string ⟨t.toArray⟩] w fun e w' => e = .returned (.tuple #[.int .i64 (countsOf t).1, .int .i64 (countsOf t).2]) ∧ w' = w := by
  unfold countsOf w_length w_substr w_split w_sub w_gsub w_index w_match w_sprintf
  go_enter Tryz.func293, Tryz.ntmps293
  go_wp2
  all_goals (go_ret2; exact ⟨by simp_all, rfl⟩)

theorem RepC.nth {w : World} {F : Nat → Prop} {f : Fo} {C : List Value} (h : RepC w F f C) (i : Nat) (nd : Nd) (hn : f.nth i = some nd) :
    ∃ k, C[3 * i]? = some (.string ⟨nd.op.toArray⟩) ∧ C[3 * i + 1]? = some (.string ⟨nd.tx.toArray⟩) ∧ C[3 * i + 2]? = some k ∧ KV w F k nd.kids := by
  induction f generalizing C i with
  | nil => cases hn
  | cons op tx kids rest _ ih =>
    obtain ⟨k, C', rfl, h1, h2⟩ := h
    cases i with
    | zero => cases hn; exact ⟨k, rfl, rfl, rfl, h1⟩
    | succ i =>
      obtain ⟨k', a, b, c, d⟩ := ih h2 i hn
      refine ⟨k', ?_, ?_, ?_, d⟩
      · rw [show 3 * (i + 1) = 3 * i + 3 by omega]; exact a
      · rw [show 3 * (i + 1) + 1 = 3 * i + 1 + 3 by omega]; exact b
      · rw [show 3 * (i + 1) + 2 = 3 * i + 2 + 3 by omega]; exact c
theorem nth_some (f : Fo) (i : Nat) (h : i < f.len) : ∃ nd, f.nth i = some nd := by
  induction f generalizing i with
  | nil => exact absurd h (by simp [Fo.len])
  | cons op tx kids rest _ ih =>
    cases i with
    | zero => exact ⟨_, rfl⟩
    | succ i => exact ih i (by simp [Fo.len] at h; omega)
theorem nth_lt (f : Fo) (i : Nat) (nd : Nd) (hn : f.nth i = some nd) : i < f.len := by
  induction f generalizing i with
  | nil => cases hn
  | cons op tx kids rest _ ih =>
    cases i with
    | zero => simp [Fo.len]
    | succ i => have := ih i hn; simp [Fo.len]; omega
/-- The kids' cells. -/
theorem KV.nth {w : World} {F : Nat → Prop} {f : Fo} {a : Option Addr} {c : Nat} (h : KV w F (.slice a f.len c) f) (i : Nat) (nd : Nd) (hn : f.nth i = some nd) :
    ∃ g k cur, a = some ⟨g, 0, none⟩ ∧ Box w g tN cur ∧ w.cell? ⟨g, 3 * i, none⟩ = some (.string ⟨nd.op.toArray⟩) ∧ w.cell? ⟨g, 3 * i + 1, none⟩ = some (.string ⟨nd.tx.toArray⟩) ∧ w.cell? ⟨g, 3 * i + 2, none⟩ = some k ∧ KV w F k nd.kids := by
  rcases h with ⟨_, rfl⟩ | ⟨g, cap, cur, e, _, _, hb, hc⟩
  · cases hn
  · obtain ⟨k, x, y, z, u⟩ := hc.nth i nd hn
    cases e
    have hi := nth_lt f i nd hn
    rw [List.getElem?_take, if_pos (by omega)] at x y z
    exact ⟨g, k, cur, rfl, hb, by rw [hb.cell]; simpa using x, by rw [hb.cell]; simpa using y, by rw [hb.cell]; simpa using z, u⟩

set_option maxHeartbeats 2000000 in
theorem rightBuilt_out (w : World) (nd : Nd) (a : Option Addr) (c : Nat) (h : nd.kids.len < (countsOf nd.tx).1 ∨ (countsOf nd.tx).2 < nd.kids.len) :
    Calls Tryz.prog 292 #[.agg #[.string ⟨nd.op.toArray⟩, .string ⟨nd.tx.toArray⟩, .slice a nd.kids.len c]] w fun e w' => e = .returned (.bool false) ∧ Frm No w w' := by
  have HC := Lib.hid (fun W => countsOf_all W nd.tx)
  generalize countsOf nd.tx = q at *
  obtain ⟨lo, hi⟩ := q
  obtain ⟨o, t, k⟩ := nd
  have HF := Lib.hid ((Frm.refl No w).alloc (.cells #[.string ⟨o.toArray⟩, .string ⟨t.toArray⟩, .slice a k.len c] tN))
  simp only at h HC
  have hb : (((k.len : Int) < lo) ∨ ((hi : Int) < k.len)) := by omega
  clear h
  go_enter Tryz.func292, Tryz.ntmps292
  go_wp2_with (go_at_call 293; go_must (refine (HC.out _).mono ?_; rintro e w1 ⟨rfl, rfl⟩))
  all_goals (go_ret; exact ⟨rfl, HF.out⟩)
/-- The second kid's op is asked for. -/
theorem rightBuilt_split (w : World) (o : B) (k : Fo) (a : Option Addr) (c : Nat) (F : Nat → Prop) (hk : KV w F (.slice a k.len c) k) (h1 : 2 ≤ k.len) (h2 : k.len ≤ 3) :
    Calls Tryz.prog 292 #[.agg #[.string ⟨o.toArray⟩, .string ⟨w_split.toArray⟩, .slice a k.len c]] w fun e w' => e = .returned (.bool (opAt k 1 == w_var)) ∧ Frm No w w' := by
  have HC := Lib.hid (fun W => countsOf_all W w_split)
  rw [show countsOf w_split = (2, 3) from rfl] at HC
  have HF := Lib.hid ((Frm.refl No w).alloc (.cells #[.string ⟨o.toArray⟩, .string ⟨w_split.toArray⟩, .slice a k.len c] tN))
  obtain ⟨nd, hn⟩ := nth_some k 1 (by omega)
  obtain ⟨g, kk, cur, rfl, hb, e0, _⟩ := (hk.move HF.out).nth 1 nd hn
  have hop : opAt k 1 = nd.op := by unfold opAt; rw [hn]
  rw [hop]
  have hb1 : ((k.len : Int) < 2) = False := by rw [eq_iff_iff, iff_false]; omega
  have hb2 : ((3 : Int) < k.len) = False := by rw [eq_iff_iff, iff_false]; omega
  have hl1 : 1 < k.len := by omega
  clear hk hop hn
  unfold w_split at *
  generalize nd.op = po at *
  go_enter Tryz.func292, Tryz.ntmps292
  go_wp2_with (go_at_call 293; go_must (refine (HC.out _).mono ?_; rintro e w1 ⟨rfl, rfl⟩))
  go_ret
  exact ⟨rfl, HF.out⟩
/-- Two or three kids, and the third a place. -/
theorem rightBuilt_sub (w : World) (o t : B) (ht : t = w_sub ∨ t = w_gsub) (k : Fo) (a : Option Addr) (c : Nat) (F : Nat → Prop) (hk : KV w F (.slice a k.len c) k) (h1 : 2 ≤ k.len) (h2 : k.len ≤ 3) :
    Calls Tryz.prog 292 #[.agg #[.string ⟨o.toArray⟩, .string ⟨t.toArray⟩, .slice a k.len c]] w fun e w' => e = .returned (.bool (k.len == 2 || placeOp (opAt k 2))) ∧ Frm No w w' := by
  have HC := Lib.hid (fun W => countsOf_all W t)
  rw [show countsOf t = (2, 3) from by rcases ht with rfl | rfl <;> rfl] at HC
  have HF := Lib.hid ((Frm.refl No w).alloc (.cells #[.string ⟨o.toArray⟩, .string ⟨t.toArray⟩, .slice a k.len c] tN))
  have hb1 : ((k.len : Int) < 2) = False := by rw [eq_iff_iff, iff_false]; omega
  have hb2 : ((3 : Int) < k.len) = False := by rw [eq_iff_iff, iff_false]; omega
  by_cases h3 : k.len = 2
  · have h3b : ((k.len : Int) == 2) = true := by rw [h3]; rfl
    have h3c : (k.len == 2) = true := by rw [h3]; rfl
    rw [h3c, Bool.true_or]
    clear hk
    unfold w_sub w_gsub at ht
    rcases ht with rfl | rfl
    all_goals
      go_enter Tryz.func292, Tryz.ntmps292
      go_wp2_with (go_at_call 293; go_must (refine (HC.out _).mono ?_; rintro e w1 ⟨rfl, rfl⟩))
      go_ret
      exact ⟨rfl, by have := HF.out; rw [h3] at this; exact this⟩
  · have h3b : ((k.len : Int) == 2) = false := by rw [beq_eq_false_iff_ne]; omega
    have h3c : (k.len == 2) = false := by rw [beq_eq_false_iff_ne]; omega
    rw [h3c, Bool.false_or]
    obtain ⟨nd, hn⟩ := nth_some k 2 (by omega)
    obtain ⟨g, kk, cur, rfl, hb, e0, e1, e2, hkk⟩ := (hk.move HF.out).nth 2 nd hn
    obtain ⟨ka, kc, rfl⟩ := hkk.forms
    have hop : placeOp (opAt k 2) = isPlace nd := by unfold opAt; rw [hn]; rfl
    rw [hop]
    have hl2 : 2 < k.len := by omega
    have HIP := Lib.hid (fun W => isPlace_all W nd ka kc)
    have hgl := Box.lt hb
    clear hk hop hn hkk
    obtain ⟨no, nt, nk⟩ := nd
    simp only at e0 e1 e2 HIP
    unfold w_sub w_gsub at ht
    rcases ht with rfl | rfl
    all_goals
      go_enter Tryz.func292, Tryz.ntmps292
      go_wp2_with (first | (go_at_call 293; go_must (refine (HC.out _).mono ?_; rintro e w1 ⟨rfl, rfl⟩)) | (go_at_call 204; go_must (refine (HIP.out _).mono ?_; rintro e w2 ⟨rfl, hf2⟩; have HF2 := Lib.hid (HF.out.trans hf2); clear hf2)))
      go_ret
      exact ⟨rfl, HF2.out⟩
set_option maxHeartbeats 2000000 in
theorem rightBuilt_else (w : World) (nd : Nd) (a : Option Addr) (c : Nat) (h : ¬ (nd.kids.len < (countsOf nd.tx).1 ∨ (countsOf nd.tx).2 < nd.kids.len)) (h1 : nd.tx ≠ w_split) (h2 : nd.tx ≠ w_sub) (h3 : nd.tx ≠ w_gsub) :
    Calls Tryz.prog 292 #[.agg #[.string ⟨nd.op.toArray⟩, .string ⟨nd.tx.toArray⟩, .slice a nd.kids.len c]] w fun e w' => e = .returned (.bool true) ∧ Frm No w w' := by
  have HC := Lib.hid (fun W => countsOf_all W nd.tx)
  generalize countsOf nd.tx = q at *
  obtain ⟨lo, hi⟩ := q
  obtain ⟨o, t, k⟩ := nd
  have HF := Lib.hid ((Frm.refl No w).alloc (.cells #[.string ⟨o.toArray⟩, .string ⟨t.toArray⟩, .slice a k.len c] tN))
  simp only at h h1 h2 h3 HC
  unfold w_split at h1
  unfold w_sub at h2
  unfold w_gsub at h3
  have hb1 : ((k.len : Int) < lo) = False := by rw [eq_iff_iff, iff_false]; omega
  have hb2 : ((hi : Int) < k.len) = False := by rw [eq_iff_iff, iff_false]; omega
  go_enter Tryz.func292, Tryz.ntmps292
  go_wp2_with (go_at_call 293; go_must (refine (HC.out _).mono ?_; rintro e w1 ⟨rfl, rfl⟩))
  all_goals (first | (exfalso; first | omega | contradiction | (simp_all; done)) | (go_ret; exact ⟨rfl, HF.out⟩))
theorem rightBuilt_all (w : World) (nd : Nd) (a : Option Addr) (c : Nat) (F : Nat → Prop) (hk : KV w F (.slice a nd.kids.len c) nd.kids) :
    Calls Tryz.prog 292 #[.agg #[.string ⟨nd.op.toArray⟩, .string ⟨nd.tx.toArray⟩, .slice a nd.kids.len c]] w fun e w' => e = .returned (.bool (rightBuilt nd.tx nd.kids)) ∧ Frm No w w' := by
  unfold rightBuilt
  by_cases h : nd.kids.len < (countsOf nd.tx).1 ∨ (countsOf nd.tx).2 < nd.kids.len
  · rw [if_pos h]
    exact rightBuilt_out w nd a c h
  · rw [if_neg h]
    by_cases h1 : nd.tx = w_split
    · rw [if_pos h1, h1]
      rw [h1, show countsOf w_split = (2, 3) from rfl] at h
      exact rightBuilt_split w nd.op nd.kids a c F hk (by simp at h; omega) (by simp at h; omega)
    · rw [if_neg h1]
      by_cases h2 : nd.tx = w_sub ∨ nd.tx = w_gsub
      · rw [if_pos h2]
        rw [show countsOf nd.tx = (2, 3) from by rcases h2 with e | e <;> rw [e] <;> rfl] at h
        exact rightBuilt_sub w nd.op nd.tx h2 nd.kids a c F hk (by simp at h; omega) (by simp at h; omega)
      · rw [if_neg h2]
        exact rightBuilt_else w nd a c h h1 (fun e => h2 (.inl e)) (fun e => h2 (.inr e))
end Go.Proofs.YtgbibfhacjjaeaaGreat.syn

namespace Go.Proofs.YtgbibfhacjjaeaaGreat.syn
set_option maxRecDepth 20000 set_option linter.unusedVariables false set_option linter.unusedSimpArgs false
open Go.ChangeShapes Go.WideShapes Go.ChangeAt Go.RowKit Go.Proofs.YtgbibfhacjjaeaaGreat.base
open Go.Proofs.YtgbibfhacjjaeaaGreat.lexs (Tok kNl kNum kStr kEre kOp kName kFunc kWord kBuilt)

/-- length alone. -/
theorem built_length (w : World) (R n : Nat) (s : PS) (h : PW w R n s) (hc : atOp s [o_lpar] = false) :
    Calls Tryz.prog 289 #[.pointer (some ⟨R, 0, none⟩), .string ⟨w_length.toArray⟩] w (Ans w R n (⟨w_built, w_length, .nil⟩, s)) := by
  have HH := Lib.hid h
  have HT := Lib.hid (fun (W : World) (hw : PW W R n s) (g : Nat) (hg : OpsR W g [o_lpar]) => at_all W R n s hw g [o_lpar] hg (by decide))
  rw [hc] at HT
  clear h hc
  unfold w_length
  go_enter Tryz.func289, Tryz.ntmps289
  go_wp2_with (first | (go_at_call 143; go_must (refine (HT.out _ (HH.out.move (by (repeat (first | exact Frm.refl _ _ | assumption | refine Frm.alloc ?_ _)))) _ (OpsR.new _ _ _ _ rfl)).mono ?_; rintro e w2 ⟨rfl, hf1⟩; have hf := (show Frm No w w2 from Frm.trans (by (repeat (first | exact Frm.refl _ _ | assumption | refine Frm.alloc ?_ _))) hf1); have HP2 := Lib.hid (HH.out.move hf); have HF2 := Lib.hid (hf.mono (S' := At R) (fun _ _ e => e.elim)); have HX2 := Lib.hid (show Box w2 w.heap.size tN nd0 from ((Box.new w tN nd0).alloc _).frm hf1 id); have HK2 := Lib.hid (KV.nil w2 (fun g => w.heap.size + 1 ≤ g)); clear hf1 hf)) | ((go_at_call 110; go_must (refine (node_all _ _ _ _ _ _).mono ?_; rintro e w3 ⟨rfl, hf3⟩; have hf3' : Frm No w2 w3 := Frm.trans (by (repeat (first | exact Frm.refl _ _ | assumption | refine Frm.alloc ?_ _))) hf3; have HK3 := Lib.hid (HK2.out.move hf3'); have HP3 := Lib.hid (HP2.out.move hf3'); have HX3 := Lib.hid (show Box w3 w.heap.size tN nd0 from Box.frm HX2.out hf3' id); have HF3 := Lib.hid (HF2.out.trans (hf3'.mono (S' := At R) (fun _ _ e => e.elim))); have x0 := Box.cell HX3.out 0; have x1 := Box.cell HX3.out 1; have x2 := Box.cell HX3.out 2; have y0 := Box.f HX3.out 0; have y1 := Box.f HX3.out 1; have y2 := Box.f HX3.out 2; clear hf3 hf3'))))
  (have hB := (set3 HX3.out HF3.out (Nat.le_refl _) (.string ⟨#[98, 117, 105, 108, 116]⟩) (.string ⟨#[108, 101, 110, 103, 116, 104]⟩) (.slice none 0 0)).1; have hM := set3m (w1 := w3) (b := w.heap.size) (.string ⟨#[98, 117, 105, 108, 116]⟩) (.string ⟨#[108, 101, 110, 103, 116, 104]⟩) (.slice none 0 0); clear x0 x1 x2 y0 y1 y2; generalize ((w3.setCell ⟨w.heap.size, 0, none⟩ (.string ⟨#[98, 117, 105, 108, 116]⟩)).setCell ⟨w.heap.size, 1, none⟩ (.string ⟨#[108, 101, 110, 103, 116, 104]⟩)).setCell ⟨w.heap.size, 2, none⟩ (.slice none 0 0) = X at *; have g0 := hB.cell 0; have g1 := hB.cell 1; have g2 := hB.cell 2; refine bodyPost_ret (v := .agg #[.string ⟨#[98, 117, 105, 108, 116]⟩, .string ⟨#[108, 101, 110, 103, 116, 104]⟩, (.slice none 0 0)]) (by simp [results, Tryz.results289, go_sem, g0, g1, g2]) rfl ?_; exact ans_end (q := (⟨w_built, [108, 101, 110, 103, 116, 104], .nil⟩, s)) HX3.out hM HK3.out HP3.out HF3.out)

theorem built_other (w : World) (R n : Nat) (s : PS) (h : PW w R n s) (t : B) (ht : t ≠ w_length) (f : Fo) (s1 : PS) (HA : ∀ W, PW W R n s → Calls Tryz.prog 288 #[.pointer (some ⟨R, 0, none⟩)] W (AnsL W R n (f, s1))) :
    Calls Tryz.prog 289 #[.pointer (some ⟨R, 0, none⟩), .string ⟨t.toArray⟩] w (Ans w R n (if rightBuilt t f then (⟨w_built, t, f⟩, s1) else failN s1)) := by
  have HH := Lib.hid h
  have HG := Lib.hid HA
  have HRB := Lib.hid (fun W a c (hk : KV W (fun _ => True) (.slice a f.len c) f) => rightBuilt_all W ⟨w_built, t, f⟩ a c _ hk)
  have HFL := Lib.hid (fun W (hw : PW W R n s1) => fail_all W R n s1 hw)
  simp only at HRB
  unfold w_length at ht
  clear h HA
  cases hr : rightBuilt t f
  · rw [hr] at HRB
    rw [if_neg (by decide)]
    clear hr
    go_enter Tryz.func289, Tryz.ntmps289
    go_wp2_with (first | (go_at_call 288; go_must (refine (HG.out _ (HH.out.move (by (repeat (first | exact Frm.refl _ _ | assumption | refine Frm.alloc ?_ _))))).mono ?_; rintro e w0 ⟨a, c, rfl, hk2, hp2, hf2⟩; have HK0 := Lib.hid hk2.kv; have HP0 := Lib.hid hp2; have HF0 := Lib.hid (Frm.trans (show Frm (At R) w _ by (repeat (first | exact Frm.refl _ _ | assumption | refine Frm.alloc ?_ _))) hf2); have HX0 := Lib.hid (show Box w0 w.heap.size tN nd0 from Box.at (Box.new w tN nd0) (HH.out.move (by (repeat (first | exact Frm.refl _ _ | assumption | refine Frm.alloc ?_ _)))) hf2 (by decide)); clear hk2 hp2 hf2)) | (go_at_call 110; go_must (refine (node_all _ _ _ _ _ _).mono ?_; rintro e w1 ⟨rfl, hf1⟩; have HF1 := Lib.hid hf1; have HL1 := Lib.hid (Box.new w1 tN #[.string ⟨w_built.toArray⟩, .string ⟨t.toArray⟩, .slice a f.len c]); clear hf1)) | (go_at_call 292; go_must (refine (HRB.out _ a c ((HK0.out.move (HF1.out.alloc _)).mono (fun _ _ _ => trivial))).mono ?_; rintro e w2 ⟨rfl, hf2⟩; have hl2 := Box.frm HL1.out hf2 id; have HL2 := Lib.hid hl2; have hf02 : Frm No w0 w2 := (HF1.out.alloc _).trans hf2; have HP2 := Lib.hid (HP0.out.move hf02); have HK2 := Lib.hid (HK0.out.move hf02); have HX2 := Lib.hid (show Box w2 w.heap.size tN nd0 from Box.frm HX0.out hf02 id); have HF2 := Lib.hid (HF0.out.trans (hf02.mono (S' := At R) (fun _ _ e => e.elim))); have l0 := hl2.cell 0; have l1 := hl2.cell 1; have l2 := hl2.cell 2; have hll := hl2.lt; clear hl2 hf2 hf02)) | (go_at_call 194; go_must (refine (HFL.out _ HP2.out).mono ?_; rintro e w3 ⟨rfl, hp3, hf3⟩; have HP3 := Lib.hid hp3; have HX3 := Lib.hid (show Box w3 w.heap.size tN nd0 from Box.at HX2.out HP2.out hf3 (by decide)); have HF3 := Lib.hid (HF2.out.trans hf3); have HK3 := Lib.hid (KV.nil w3 (fun g => w.heap.size + 1 ≤ g)); have x0 := Box.cell HX3.out 0; have x1 := Box.cell HX3.out 1; have x2 := Box.cell HX3.out 2; have y0 := Box.f HX3.out 0; have y1 := Box.f HX3.out 1; have y2 := Box.f HX3.out 2; clear hp3 hf3)))
    (have hB := (set3 HX3.out HF3.out (Nat.le_refl _) (.string ⟨#[110, 111, 110, 101]⟩) (.string ⟨#[]⟩) (.slice none 0 0)).1; have hM := set3m (w1 := w3) (b := w.heap.size) (.string ⟨#[110, 111, 110, 101]⟩) (.string ⟨#[]⟩) (.slice none 0 0); clear x0 x1 x2 y0 y1 y2; generalize ((w3.setCell ⟨w.heap.size, 0, none⟩ (.string ⟨#[110, 111, 110, 101]⟩)).setCell ⟨w.heap.size, 1, none⟩ (.string ⟨#[]⟩)).setCell ⟨w.heap.size, 2, none⟩ (.slice none 0 0) = X at *; have g0 := hB.cell 0; have g1 := hB.cell 1; have g2 := hB.cell 2; refine bodyPost_ret (v := .agg #[.string ⟨#[110, 111, 110, 101]⟩, .string ⟨#[]⟩, (.slice none 0 0)]) (by simp [results, Tryz.results289, go_sem, g0, g1, g2]) rfl ?_; exact ans_end (q := (failN s1)) HX3.out hM HK3.out HP3.out HF3.out)
  · rw [hr] at HRB
    rw [if_pos rfl]
    clear hr
    go_enter Tryz.func289, Tryz.ntmps289
    go_wp2_with (first | (go_at_call 288; go_must (refine (HG.out _ (HH.out.move (by (repeat (first | exact Frm.refl _ _ | assumption | refine Frm.alloc ?_ _))))).mono ?_; rintro e w0 ⟨a, c, rfl, hk2, hp2, hf2⟩; have HK0 := Lib.hid hk2.kv; have HP0 := Lib.hid hp2; have HF0 := Lib.hid (Frm.trans (show Frm (At R) w _ by (repeat (first | exact Frm.refl _ _ | assumption | refine Frm.alloc ?_ _))) hf2); have HX0 := Lib.hid (show Box w0 w.heap.size tN nd0 from Box.at (Box.new w tN nd0) (HH.out.move (by (repeat (first | exact Frm.refl _ _ | assumption | refine Frm.alloc ?_ _)))) hf2 (by decide)); clear hk2 hp2 hf2)) | (go_at_call 110; go_must (refine (node_all _ _ _ _ _ _).mono ?_; rintro e w1 ⟨rfl, hf1⟩; have HF1 := Lib.hid hf1; have HL1 := Lib.hid (Box.new w1 tN #[.string ⟨w_built.toArray⟩, .string ⟨t.toArray⟩, .slice a f.len c]); clear hf1)) | (go_at_call 292; go_must (refine (HRB.out _ a c ((HK0.out.move (HF1.out.alloc _)).mono (fun _ _ _ => trivial))).mono ?_; rintro e w3 ⟨rfl, hf2⟩; have hl2 := Box.frm HL1.out hf2 id; have hf02 : Frm No w0 w3 := (HF1.out.alloc _).trans hf2; have HP3 := Lib.hid (HP0.out.move hf02); have HK3 := Lib.hid ((HK0.out.move hf02).mono (F' := fun g => w.heap.size + 1 ≤ g) (fun g hg _ => by simpa using hg)); have HX3 := Lib.hid (show Box w3 w.heap.size tN nd0 from Box.frm HX0.out hf02 id); have HF3 := Lib.hid (HF0.out.trans (hf02.mono (S' := At R) (fun _ _ e => e.elim))); have l0 := hl2.cell 0; have l1 := hl2.cell 1; have l2 := hl2.cell 2; have hll := hl2.lt; have x0 := Box.cell HX3.out 0; have x1 := Box.cell HX3.out 1; have x2 := Box.cell HX3.out 2; have y0 := Box.f HX3.out 0; have y1 := Box.f HX3.out 1; have y2 := Box.f HX3.out 2; clear hl2 hf2 hf02)))
    (have hB := (set3 HX3.out HF3.out (Nat.le_refl _) (.string ⟨w_built.toArray⟩) (.string ⟨t.toArray⟩) (.slice a f.len c)).1; have hM := set3m (w1 := w3) (b := w.heap.size) (.string ⟨w_built.toArray⟩) (.string ⟨t.toArray⟩) (.slice a f.len c); clear x0 x1 x2 y0 y1 y2; generalize ((w3.setCell ⟨w.heap.size, 0, none⟩ (.string ⟨w_built.toArray⟩)).setCell ⟨w.heap.size, 1, none⟩ (.string ⟨t.toArray⟩)).setCell ⟨w.heap.size, 2, none⟩ (.slice a f.len c) = X at *; have g0 := hB.cell 0; have g1 := hB.cell 1; have g2 := hB.cell 2; refine bodyPost_ret (v := .agg #[.string ⟨w_built.toArray⟩, .string ⟨t.toArray⟩, (.slice a f.len c)]) (by simp [results, Tryz.results289, go_sem, g0, g1, g2]) rfl ?_; exact ans_end (q := (⟨w_built, t, f⟩, s1)) HX3.out hM HK3.out HP3.out HF3.out)

theorem built_lpar (w : World) (R n : Nat) (s : PS) (h : PW w R n s) (hc : atOp s [o_lpar] = true) (f : Fo) (s1 : PS) (HA : ∀ W, PW W R n s → Calls Tryz.prog 288 #[.pointer (some ⟨R, 0, none⟩)] W (AnsL W R n (f, s1))) :
    Calls Tryz.prog 289 #[.pointer (some ⟨R, 0, none⟩), .string ⟨w_length.toArray⟩] w (Ans w R n (if rightBuilt w_length f then (⟨w_built, w_length, f⟩, s1) else failN s1)) := by
  have HH := Lib.hid h
  have HG := Lib.hid HA
  have HRB := Lib.hid (fun W a c (hk : KV W (fun _ => True) (.slice a f.len c) f) => rightBuilt_all W ⟨w_built, w_length, f⟩ a c _ hk)
  have HFL := Lib.hid (fun W (hw : PW W R n s1) => fail_all W R n s1 hw)
  simp only at HRB
  have HT := Lib.hid (fun (W : World) (hw : PW W R n s) (g : Nat) (hg : OpsR W g [o_lpar]) => at_all W R n s hw g [o_lpar] hg (by decide))
  rw [hc] at HT
  clear h HA hc
  unfold w_length at *
  generalize hr' : rightBuilt [108, 101, 110, 103, 116, 104] f = rb at *
  clear hr'
  cases rb
  · rw [if_neg (by decide)]
    go_enter Tryz.func289, Tryz.ntmps289
    go_wp2_with (first | (go_at_call 143; go_must (refine (HT.out _ (HH.out.move (by (repeat (first | exact Frm.refl _ _ | assumption | refine Frm.alloc ?_ _)))) _ (OpsR.new _ _ _ _ rfl)).mono ?_; rintro e w9 ⟨rfl, hf9⟩; have hf := (show Frm No w w9 from Frm.trans (by (repeat (first | exact Frm.refl _ _ | assumption | refine Frm.alloc ?_ _))) hf9); have HP9 := Lib.hid (HH.out.move hf); have HF9 := Lib.hid (hf.mono (S' := At R) (fun _ _ e => e.elim)); have HX9 := Lib.hid (show Box w9 w.heap.size tN nd0 from ((Box.new w tN nd0).alloc _).frm hf9 id); have HZ9 := Lib.hid (Box.lt HX9.out); clear hf9 hf)) | (go_at_call 288; go_must (refine (HG.out _ HP9.out).mono ?_; rintro e w0 ⟨a, c, rfl, hk2, hp2, hf2⟩; have HK0 := Lib.hid hk2.kv; have HP0 := Lib.hid hp2; have HF0 := Lib.hid (HF9.out.trans hf2); have HX0 := Lib.hid (show Box w0 w.heap.size tN nd0 from Box.at HX9.out HP9.out hf2 (by decide)); clear hk2 hp2 hf2)) | (go_at_call 110; go_must (refine (node_all _ _ _ _ _ _).mono ?_; rintro e w1 ⟨rfl, hf1⟩; have HF1 := Lib.hid hf1; have HL1 := Lib.hid (Box.new w1 tN #[.string ⟨w_built.toArray⟩, .string ⟨#[108, 101, 110, 103, 116, 104]⟩, .slice a f.len c]); clear hf1)) | (go_at_call 292; go_must (refine (HRB.out _ a c ((HK0.out.move (HF1.out.alloc _)).mono (fun _ _ _ => trivial))).mono ?_; rintro e w2 ⟨rfl, hf2⟩; have hl2 := Box.frm HL1.out hf2 id; have HL2 := Lib.hid hl2; have hf02 : Frm No w0 w2 := (HF1.out.alloc _).trans hf2; have HP2 := Lib.hid (HP0.out.move hf02); have HK2 := Lib.hid (HK0.out.move hf02); have HX2 := Lib.hid (show Box w2 w.heap.size tN nd0 from Box.frm HX0.out hf02 id); have HF2 := Lib.hid (HF0.out.trans (hf02.mono (S' := At R) (fun _ _ e => e.elim))); have l0 := hl2.cell 0; have l1 := hl2.cell 1; have l2 := hl2.cell 2; have hll := hl2.lt; clear hl2 hf2 hf02)) | (go_at_call 194; go_must (refine (HFL.out _ HP2.out).mono ?_; rintro e w3 ⟨rfl, hp3, hf3⟩; have HP3 := Lib.hid hp3; have HX3 := Lib.hid (show Box w3 w.heap.size tN nd0 from Box.at HX2.out HP2.out hf3 (by decide)); have HF3 := Lib.hid (HF2.out.trans hf3); have HK3 := Lib.hid (KV.nil w3 (fun g => w.heap.size + 1 ≤ g)); have x0 := Box.cell HX3.out 0; have x1 := Box.cell HX3.out 1; have x2 := Box.cell HX3.out 2; have y0 := Box.f HX3.out 0; have y1 := Box.f HX3.out 1; have y2 := Box.f HX3.out 2; clear hp3 hf3)))
    (have hB := (set3 HX3.out HF3.out (Nat.le_refl _) (.string ⟨#[110, 111, 110, 101]⟩) (.string ⟨#[]⟩) (.slice none 0 0)).1; have hM := set3m (w1 := w3) (b := w.heap.size) (.string ⟨#[110, 111, 110, 101]⟩) (.string ⟨#[]⟩) (.slice none 0 0); clear x0 x1 x2 y0 y1 y2; generalize ((w3.setCell ⟨w.heap.size, 0, none⟩ (.string ⟨#[110, 111, 110, 101]⟩)).setCell ⟨w.heap.size, 1, none⟩ (.string ⟨#[]⟩)).setCell ⟨w.heap.size, 2, none⟩ (.slice none 0 0) = X at *; have g0 := hB.cell 0; have g1 := hB.cell 1; have g2 := hB.cell 2; refine bodyPost_ret (v := .agg #[.string ⟨#[110, 111, 110, 101]⟩, .string ⟨#[]⟩, (.slice none 0 0)]) (by simp [results, Tryz.results289, go_sem, g0, g1, g2]) rfl ?_; exact ans_end (q := (failN s1)) HX3.out hM HK3.out HP3.out HF3.out)
  · rw [if_pos rfl]
    go_enter Tryz.func289, Tryz.ntmps289
    go_wp2_with (first | (go_at_call 143; go_must (refine (HT.out _ (HH.out.move (by (repeat (first | exact Frm.refl _ _ | assumption | refine Frm.alloc ?_ _)))) _ (OpsR.new _ _ _ _ rfl)).mono ?_; rintro e w9 ⟨rfl, hf9⟩; have hf := (show Frm No w w9 from Frm.trans (by (repeat (first | exact Frm.refl _ _ | assumption | refine Frm.alloc ?_ _))) hf9); have HP9 := Lib.hid (HH.out.move hf); have HF9 := Lib.hid (hf.mono (S' := At R) (fun _ _ e => e.elim)); have HX9 := Lib.hid (show Box w9 w.heap.size tN nd0 from ((Box.new w tN nd0).alloc _).frm hf9 id); have HZ9 := Lib.hid (Box.lt HX9.out); clear hf9 hf)) | (go_at_call 288; go_must (refine (HG.out _ HP9.out).mono ?_; rintro e w0 ⟨a, c, rfl, hk2, hp2, hf2⟩; have HK0 := Lib.hid hk2.kv; have HP0 := Lib.hid hp2; have HF0 := Lib.hid (HF9.out.trans hf2); have HX0 := Lib.hid (show Box w0 w.heap.size tN nd0 from Box.at HX9.out HP9.out hf2 (by decide)); clear hk2 hp2 hf2)) | (go_at_call 110; go_must (refine (node_all _ _ _ _ _ _).mono ?_; rintro e w1 ⟨rfl, hf1⟩; have HF1 := Lib.hid hf1; have HL1 := Lib.hid (Box.new w1 tN #[.string ⟨w_built.toArray⟩, .string ⟨#[108, 101, 110, 103, 116, 104]⟩, .slice a f.len c]); clear hf1)) | (go_at_call 292; go_must (refine (HRB.out _ a c ((HK0.out.move (HF1.out.alloc _)).mono (fun _ _ _ => trivial))).mono ?_; rintro e w3 ⟨rfl, hf2⟩; have hl2 := Box.frm HL1.out hf2 id; have hf02 : Frm No w0 w3 := (HF1.out.alloc _).trans hf2; have HP3 := Lib.hid (HP0.out.move hf02); have HK3 := Lib.hid ((HK0.out.move hf02).mono (F' := fun g => w.heap.size + 1 ≤ g) (fun g hg _ => by have := HZ9.out; omega)); have HX3 := Lib.hid (show Box w3 w.heap.size tN nd0 from Box.frm HX0.out hf02 id); have HF3 := Lib.hid (HF0.out.trans (hf02.mono (S' := At R) (fun _ _ e => e.elim))); have l0 := hl2.cell 0; have l1 := hl2.cell 1; have l2 := hl2.cell 2; have hll := hl2.lt; have x0 := Box.cell HX3.out 0; have x1 := Box.cell HX3.out 1; have x2 := Box.cell HX3.out 2; have y0 := Box.f HX3.out 0; have y1 := Box.f HX3.out 1; have y2 := Box.f HX3.out 2; clear hl2 hf2 hf02)))
    (have hB := (set3 HX3.out HF3.out (Nat.le_refl _) (.string ⟨w_built.toArray⟩) (.string ⟨#[108, 101, 110, 103, 116, 104]⟩) (.slice a f.len c)).1; have hM := set3m (w1 := w3) (b := w.heap.size) (.string ⟨w_built.toArray⟩) (.string ⟨#[108, 101, 110, 103, 116, 104]⟩) (.slice a f.len c); clear x0 x1 x2 y0 y1 y2; generalize ((w3.setCell ⟨w.heap.size, 0, none⟩ (.string ⟨w_built.toArray⟩)).setCell ⟨w.heap.size, 1, none⟩ (.string ⟨#[108, 101, 110, 103, 116, 104]⟩)).setCell ⟨w.heap.size, 2, none⟩ (.slice a f.len c) = X at *; have g0 := hB.cell 0; have g1 := hB.cell 1; have g2 := hB.cell 2; refine bodyPost_ret (v := .agg #[.string ⟨w_built.toArray⟩, .string ⟨#[108, 101, 110, 103, 116, 104]⟩, (.slice a f.len c)]) (by simp [results, Tryz.results289, go_sem, g0, g1, g2]) rfl ?_; exact ans_end (q := (⟨w_built, [108, 101, 110, 103, 116, 104], f⟩, s1)) HX3.out hM HK3.out HP3.out HF3.out)

theorem built_all (n : Nat) (I : Inn) (hI : InC n I) (w : World) (R : Nat) (s : PS) (h : PW w R n s) (t : B) :
    Calls Tryz.prog 289 #[.pointer (some ⟨R, 0, none⟩), .string ⟨t.toArray⟩] w (Ans w R n (built t I s)) := by
  unfold built
  by_cases ht : t = w_length
  · subst ht
    cases hc : atOp s [o_lpar]
    · rw [if_pos (by rfl)]
      exact built_length w R n s h hc
    · rw [if_neg (by simp)]
      exact built_lpar w R n s h hc _ _ (fun W hw => arguments_all n I hI W R s hw)
  · rw [if_neg (by simp [ht])]
    exact built_other w R n s h t ht _ _ (fun W hw => arguments_all n I hI W R s hw)
end Go.Proofs.YtgbibfhacjjaeaaGreat.syn
