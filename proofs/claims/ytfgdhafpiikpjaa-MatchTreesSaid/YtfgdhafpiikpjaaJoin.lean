/- Contracts of ere's repeated, row.add, row.join. -/
import Derived.Test.YtfgdhafpiikpjaaParts
namespace Go.Proofs.Ytfgdhafpiikpjaa.parts
set_option linter.unusedVariables false set_option linter.unusedSimpArgs false
open Go.ChangeShapes Go.WideShapes Go.ChangeAt Go.RowKit Go.Proofs.Ytfgdhafpiikpjaa.base Go.Proofs.Ytfgdhafpiikpjaa.read Go.Proofs.Ytfgdhafpiikpjaa.spec Go.Proofs.Ytfgdhafpiikpjaa.set

theorem sized_i (w : World) (F : Nat → Prop) (t : T) (a : Option Addr) (c n : Nat) (m : Int) (hm : m = (n : Nat)) (hk : KV w F (.slice a t.kids.len c) t.kids) :
    Calls Try.prog 69 #[.agg #[.string t.op, .string t.set, .slice a t.kids.len c, .int .i64 t.lo, .int .i64 t.hi], .int .i64 m] w fun e w' => ∃ v, e = .returned v ∧ PV w' F v (sizedP t n) ∧ Frm No w w' := by
  subst hm
  exact sized_all w F t a c n hk

/-- Blocks of F, and new ones. -/
def Or2 (F : Nat → Prop) (B : Nat) : Nat → Prop := fun k => F k ∨ B ≤ k

set_option maxHeartbeats 400000 in
theorem repeated_all (w : World) (F : Nat → Prop) (v : Value) (p : Part) (lo : Nat) (hi : Int) (hp : PV w F v p) (hlo : lo ≤ 255) (h1 : -1 ≤ hi) (h2 : hi ≤ 255) :
    Calls Try.prog 84 #[v, .int .i64 lo, .int .i64 hi] w fun e w' => ∃ v', e = .returned v' ∧ PV w' (Or2 F w.heap.size) v' (repP p lo hi) ∧ Frm No w w' := by
  have HPV := Lib.hid hp
  obtain ⟨hn, a, cap, rfl, hk⟩ := hp
  have HK := Lib.hid hk
  have HB1 := Lib.hid ((Box.new w 88 #[.string p.t.op, .string p.t.set, .slice a p.t.kids.len cap, .int .i64 p.t.lo, .int .i64 p.t.hi, .int .i64 p.n]).alloc (.cells zp 88))
  have HB2 := Lib.hid (Box.new (w.alloc (.cells #[.string p.t.op, .string p.t.set, .slice a p.t.kids.len cap, .int .i64 p.t.lo, .int .i64 p.t.hi, .int .i64 p.n] 88)) 88 zp)
  rw [World.size_alloc] at HB2
  have HF0 := Lib.hid (frm2 w (.cells #[.string p.t.op, .string p.t.set, .slice a p.t.kids.len cap, .int .i64 p.t.lo, .int .i64 p.t.hi, .int .i64 p.n] 88) (.cells zp 88))
  clear hk
  by_cases hbig : 2000 < p.n
  · have hb : decide (2000 < ((p.n : Nat) : Int)) = true := by simp; omega
    go_enter Try.func84, Try.ntmps84
    go_wp2_with (first | (go_at_call 47; go_must (refine (big_all _ _ _ _ _ _ _ _ _).mono ?_; rintro e w1 ⟨rfl, hf⟩; have HX1 := Lib.hid (HB1.out.frm hf id); have HX2 := Lib.hid (HB2.out.frm hf id); have HF := Lib.hid hf; clear hf)) | (refine wpList_load_row rfl 88 (.tmp 3) rfl w.heap.size rfl 88 _ (0, 0) _ HB1.out Try.underlying88 rfl info_part ?_) | (refine wpList_load_row rfl 88 (.tmp 3) rfl w.heap.size rfl 88 _ (0, 0) _ HX1.out Try.underlying88 rfl info_part ?_) | (refine wpList_store_row rfl 88 (.tmp 6) (.tmp 11) rfl (w.heap.size + 1) _ rfl rfl 88 zp HX2.out info_part rfl (by simp [Value.oneCell']) ?_))
    refine bodyPost_ret (results_cell_row Try.results84 _ _ (w.heap.size + 1) 88 _ (0, 0) _ rfl (setRow_eq HX2.out) Try.underlying88 rfl info_part) rfl ⟨_, rfl, ?_, frm_setRow (HF0.out.trans HF.out) _ _ (fun hk => by omega)⟩
    rw [repP, if_pos hbig]
    exact (HPV.out.move (frm_setRow (HF0.out.trans HF.out) _ _ (fun hk => by omega))).mono (fun g h _ => Or.inl h)
  · have hb : decide (2000 < ((p.n : Nat) : Int)) = false := by simp; omega
    by_cases hm : hi = -1
    · subst hm
      have hmax : max (1 : Int) (-1) = 1 := by decide
      have HM := Lib.hid (show (p.n : Int) * (lo + 1) + 1 = ((p.n * timesOf lo (-1) + 1 : Nat) : Int) by rw [show timesOf lo (-1) = lo + 1 by simp [timesOf]]; push_cast; rfl)
      have hpr : (p.n : Int) * (lo + 1) ≤ 2000 * 256 := Int.mul_le_mul (by omega) (by omega) (by omega) (by omega)
      have hpr0 : 0 ≤ (p.n : Int) * (lo + 1) := Int.mul_nonneg (by omega) (by omega)
      go_enter Try.func84, Try.ntmps84
      go_wp2_with (first | (go_at_call 47; go_must (refine (big_all _ _ _ _ _ _ _ _ _).mono ?_; rintro e w1 ⟨rfl, hf⟩; have HX1 := Lib.hid (HB1.out.frm hf id); have HX2 := Lib.hid (HB2.out.frm hf id); have HF := Lib.hid (HF0.out.trans hf); clear hf; have m0 := HX1.out.cell 0; have m1 := HX1.out.cell 1; have m2 := HX1.out.cell 2; have m3 := HX1.out.cell 3; have m4 := HX1.out.cell 4; have m5 := HX1.out.cell 5; have hsz := HF.out.size; have hlt1 := HX1.out.lt; have hlt2 := HX2.out.lt)) | (refine wpList_load_row rfl 88 (.tmp 3) rfl w.heap.size rfl 88 _ (0, 0) _ HB1.out Try.underlying88 rfl info_part ?_) | (go_at_call 69; go_must (refine (sized_i _ (Or2 F w.heap.size) ⟨repW, ⟨#[]⟩, lo, (-1), Forest.nil.snoc p.t⟩ (some ⟨w1.heap.size, 0, none⟩) 1 (p.n * timesOf lo (-1) + 1) _ HM.out (KV.one p.t ((HK.out.move (HF.out.trans (frm2 w1 _ _))).mono (fun g hg _ => Or.inl hg)) w1.heap.size (Or.inr hsz) _ ((Box.new w1 _ _).alloc _) rfl 1)).mono ?_; rintro e w2 ⟨v2, rfl, hp2, hf2⟩; have HF2 := Lib.hid ((HF.out.trans (frm2 w1 _ _)).trans hf2); have HX3 := Lib.hid (((HX2.out.frm (frm2 w1 _ _) id).frm hf2 id) : Box w2 (w.heap.size + 1) 88 zp); have HP2 := Lib.hid hp2; obtain ⟨hn2, a2, cap2, rfl, hk2⟩ := hp2; clear hf2 hk2)) | (refine wpList_store_row rfl 88 (.tmp 6) (.tmp 30) rfl (w.heap.size + 1) _ rfl rfl 88 zp HX3.out info_part rfl (by simp [Value.oneCell']) ?_))
      have HE := Lib.hid (show repP p lo (-1) = sizedP ⟨repW, ⟨#[]⟩, lo, (-1), Forest.nil.snoc p.t⟩ (p.n * timesOf lo (-1) + 1) by rw [repP, if_neg hbig])
      refine bodyPost_ret (results_cell_row Try.results84 _ _ (w.heap.size + 1) 88 _ (0, 0) _ rfl (setRow_eq HX3.out) Try.underlying88 rfl info_part) rfl ⟨_, rfl, ?_, frm_setRow HF2.out _ _ (fun hk => by omega)⟩
      rw [HE.out]
      exact HP2.out.setRow HX3.out (by decide) _
    · have hne : (hi == -1) = false := by simpa using hm
      by_cases h1' : hi ≤ 1
      · have HM := Lib.hid (show (p.n : Int) + 1 = ((p.n * timesOf lo hi + 1 : Nat) : Int) by rw [show timesOf lo hi = 1 by rw [timesOf, if_neg hm]; omega]; push_cast; omega)
        go_enter Try.func84, Try.ntmps84
        go_wp2_with (first | (go_at_call 47; go_must (refine (big_all _ _ _ _ _ _ _ _ _).mono ?_; rintro e w1 ⟨rfl, hf⟩; have HX1 := Lib.hid (HB1.out.frm hf id); have HX2 := Lib.hid (HB2.out.frm hf id); have HF := Lib.hid (HF0.out.trans hf); clear hf; have m0 := HX1.out.cell 0; have m1 := HX1.out.cell 1; have m2 := HX1.out.cell 2; have m3 := HX1.out.cell 3; have m4 := HX1.out.cell 4; have m5 := HX1.out.cell 5; have hsz := HF.out.size; have hlt1 := HX1.out.lt; have hlt2 := HX2.out.lt)) | (refine wpList_load_row rfl 88 (.tmp 3) rfl w.heap.size rfl 88 _ (0, 0) _ HB1.out Try.underlying88 rfl info_part ?_) | (go_at_call 69; go_must (refine (sized_i _ (Or2 F w.heap.size) ⟨repW, ⟨#[]⟩, lo, hi, Forest.nil.snoc p.t⟩ (some ⟨w1.heap.size, 0, none⟩) 1 (p.n * timesOf lo hi + 1) _ HM.out (KV.one p.t ((HK.out.move (HF.out.trans (frm2 w1 _ _))).mono (fun g hg _ => Or.inl hg)) w1.heap.size (Or.inr hsz) _ ((Box.new w1 _ _).alloc _) rfl 1)).mono ?_; rintro e w2 ⟨v2, rfl, hp2, hf2⟩; have HF2 := Lib.hid ((HF.out.trans (frm2 w1 _ _)).trans hf2); have HX3 := Lib.hid (((HX2.out.frm (frm2 w1 _ _) id).frm hf2 id) : Box w2 (w.heap.size + 1) 88 zp); have HP2 := Lib.hid hp2; obtain ⟨hn2, a2, cap2, rfl, hk2⟩ := hp2; clear hf2 hk2)) | (refine wpList_store_row rfl 88 (.tmp 6) (.tmp 30) rfl (w.heap.size + 1) _ rfl rfl 88 zp HX3.out info_part rfl (by simp [Value.oneCell']) ?_))
        have HE := Lib.hid (show repP p lo hi = sizedP ⟨repW, ⟨#[]⟩, lo, hi, Forest.nil.snoc p.t⟩ (p.n * timesOf lo hi + 1) by rw [repP, if_neg hbig])
        refine bodyPost_ret (results_cell_row Try.results84 _ _ (w.heap.size + 1) 88 _ (0, 0) _ rfl (setRow_eq HX3.out) Try.underlying88 rfl info_part) rfl ⟨_, rfl, ?_, frm_setRow HF2.out _ _ (fun hk => by omega)⟩
        rw [HE.out]
        exact HP2.out.setRow HX3.out (by decide) _
      · have HM := Lib.hid (show (p.n : Int) * hi + 1 = ((p.n * timesOf lo hi + 1 : Nat) : Int) by
          have e : ((timesOf lo hi : Nat) : Int) = hi := by rw [timesOf, if_neg hm]; omega
          push_cast
          rw [e])
        have hpr : (p.n : Int) * hi ≤ 2000 * 256 := Int.mul_le_mul (by omega) (by omega) (by omega) (by omega)
        have hpr0 : 0 ≤ (p.n : Int) * hi := Int.mul_nonneg (by omega) (by omega)
        go_enter Try.func84, Try.ntmps84
        go_wp2_with (first | (go_at_call 47; go_must (refine (big_all _ _ _ _ _ _ _ _ _).mono ?_; rintro e w1 ⟨rfl, hf⟩; have HX1 := Lib.hid (HB1.out.frm hf id); have HX2 := Lib.hid (HB2.out.frm hf id); have HF := Lib.hid (HF0.out.trans hf); clear hf; have m0 := HX1.out.cell 0; have m1 := HX1.out.cell 1; have m2 := HX1.out.cell 2; have m3 := HX1.out.cell 3; have m4 := HX1.out.cell 4; have m5 := HX1.out.cell 5; have hsz := HF.out.size; have hlt1 := HX1.out.lt; have hlt2 := HX2.out.lt)) | (refine wpList_load_row rfl 88 (.tmp 3) rfl w.heap.size rfl 88 _ (0, 0) _ HB1.out Try.underlying88 rfl info_part ?_) | (go_at_call 69; go_must (refine (sized_i _ (Or2 F w.heap.size) ⟨repW, ⟨#[]⟩, lo, hi, Forest.nil.snoc p.t⟩ (some ⟨w1.heap.size, 0, none⟩) 1 (p.n * timesOf lo hi + 1) _ HM.out (KV.one p.t ((HK.out.move (HF.out.trans (frm2 w1 _ _))).mono (fun g hg _ => Or.inl hg)) w1.heap.size (Or.inr hsz) _ ((Box.new w1 _ _).alloc _) rfl 1)).mono ?_; rintro e w2 ⟨v2, rfl, hp2, hf2⟩; have HF2 := Lib.hid ((HF.out.trans (frm2 w1 _ _)).trans hf2); have HX3 := Lib.hid (((HX2.out.frm (frm2 w1 _ _) id).frm hf2 id) : Box w2 (w.heap.size + 1) 88 zp); have HP2 := Lib.hid hp2; obtain ⟨hn2, a2, cap2, rfl, hk2⟩ := hp2; clear hf2 hk2)) | (refine wpList_store_row rfl 88 (.tmp 6) (.tmp 30) rfl (w.heap.size + 1) _ rfl rfl 88 zp HX3.out info_part rfl (by simp [Value.oneCell']) ?_))
        have HE := Lib.hid (show repP p lo hi = sizedP ⟨repW, ⟨#[]⟩, lo, hi, Forest.nil.snoc p.t⟩ (p.n * timesOf lo hi + 1) by rw [repP, if_neg hbig])
        refine bodyPost_ret (results_cell_row Try.results84 _ _ (w.heap.size + 1) 88 _ (0, 0) _ rfl (setRow_eq HX3.out) Try.underlying88 rfl info_part) rfl ⟨_, rfl, ?_, frm_setRow HF2.out _ _ (fun hk => by omega)⟩
        rw [HE.out]
        exact HP2.out.setRow HX3.out (by decide) _
end Go.Proofs.Ytfgdhafpiikpjaa.parts
