/- Contract of ere's group. -/
import Derived.Test.YtbfekknhmjndaaaGreatExpr
namespace Go.Proofs.YtbfekknhmjndaaaGreat.items
set_option linter.unusedVariables false set_option linter.unusedSimpArgs false
open Go.ChangeShapes Go.WideShapes Go.ChangeAt Go.RowKit Go.Proofs.YtbfekknhmjndaaaGreat.base Go.Proofs.YtbfekknhmjndaaaGreat.read Go.Proofs.YtbfekknhmjndaaaGreat.spec Go.Proofs.YtbfekknhmjndaaaGreat.set Go.Proofs.YtbfekknhmjndaaaGreat.nums Go.Proofs.YtbfekknhmjndaaaGreat.parts


theorem rd_deep {w : World} {R : Nat} {s : ByteArray} {d : Nat} {l : List UInt8} (h : Rd w R s d l) : w.cell? ⟨R, 2, none⟩ = some (.int .i64 (d : Nat)) ∧ w.frozen? ⟨R, 2, none⟩ = false ∧ ∀ d' : Nat, d' ≤ 100 → ∀ m : Int, m = (d' : Nat) → Rd (w.setCell ⟨R, 2, none⟩ (.int .i64 m)) R s d' l := by
  obtain ⟨i, h, e⟩ := h
  exact ⟨h.c2, h.1.f 2, fun d' hd m hm => ⟨i, h.deep d' hd m hm, e⟩⟩

/-- The contract of group where k groups more may be opened. -/
theorem group_all (k : Nat) : ∀ d, k + d = 100 → GrpC (groupN k) d := by
  induction k with
  | zero =>
    intro d hkd w R s l h
    obtain rfl : d = 100 := by omega
    have hRlt := h.lt
    have hR0 := h.ne0
    have HX0 := Lib.hid (Box.new w 94 zp)
    have HA := Lib.hid (h.alloc (.cells zp 94))
    obtain ⟨i, h, e⟩ := h
    have c2 : w.cell? ⟨R, 2, none⟩ = some (.int .i64 100) := h.c2
    clear h e
    go_enter Tryz.func100, Tryz.ntmps100
    go_wp2_with (refine wpList_store_row rfl 94 (.tmp 2) (.tmp 11) rfl w.heap.size _ rfl rfl 94 zp HX0.out info_part rfl (by simp [Value.oneCell']) ?_)
    refine bodyPost_ret (results_part2 Tryz.results100 _ _ w.heap.size 94 _ (0, 0) _ (.int .i64 1) rfl rfl (setRow_eq HX0.out) Tryz.underlying94 rfl info_part) rfl ?_
    exact ⟨_, rfl, ⟨_, _, _, _, _, _, _, _, rfl⟩, by omega, by omega, ⟨l, Rd.frm HA.out (frm_setRow (S := At w.heap.size) (Frm.refl _ _) _ _ (fun _ => rfl)) (fun e => by have e' : R = w.heap.size := e; omega) (fun e => by have e' : 0 = w.heap.size := e; omega)⟩, frm_setRow ((Frm.refl (At R) w).alloc _) _ _ (fun hk => absurd hk (Nat.lt_irrefl _))⟩
  | succ k ih =>
    intro d hkd w R s l h
    have HG := Lib.hid (ih (d + 1) (by omega))
    have hRlt := h.lt
    have hR0 := h.ne0
    have HX0 := Lib.hid (Box.new w 94 zp)
    have HN := Lib.hid (show ¬ At R w.heap.size from fun e => by have e' : w.heap.size = R := e; omega)
    have HN0 := Lib.hid (show ¬ At w.heap.size 0 from fun e => by have e' : 0 = w.heap.size := e; omega)
    have HNR := Lib.hid (show ¬ At w.heap.size R from fun e => by have e' : R = w.heap.size := e; omega)
    obtain ⟨i, h, e⟩ := h
    have c2 : w.cell? ⟨R, 2, none⟩ = some (.int .i64 d) := h.c2
    have cf := h.1.f 2
    have hne : (((d : Nat) : Int) == 100) = false := by simp; omega
    have HH := Lib.hid h
    have HX := Lib.hid e
    clear h e ih
    have HXZ := Lib.hid (show Box ((w.setCell ⟨R, 2, none⟩ (.int .i64 ((d : Int) + 1))).alloc (.cells zp 94)) w.heap.size 94 zp by
      have := Box.new (w.setCell ⟨R, 2, none⟩ (.int .i64 ((d : Int) + 1))) 94 zp
      rw [show (w.setCell ⟨R, 2, none⟩ (.int .i64 ((d : Int) + 1))).heap.size = w.heap.size by simp] at this
      exact this)
    have HD1 := Lib.hid (show Rd (w.setCell ⟨R, 2, none⟩ (.int .i64 ((d : Int) + 1))) R s (d + 1) l from ⟨i, HH.out.deep (d + 1) (by omega) _ (by push_cast; rfl), HX.out⟩)
    cases hpc : expr (groupN k) l with
    | bad fault =>
      have HPC := Lib.hid hpc
      have HE := Lib.hid (show groupN (k + 1) l = .bad fault by simp only [groupN, hpc])
      clear hpc
      go_enter Tryz.func100, Tryz.ntmps100
      go_wp2_with (first | (go_at_call 47; go_must (refine (expression_all _ _ R s (d + 1) HG.out (groupN_short k) l (by exact HD1.out.alloc _) _ rfl).mono ?_; intro e w3 hip; obtain ⟨C, fault2, rfl, hsh, hf3, hgot⟩ := hip.uni; rw [HPC.out] at hgot; obtain ⟨h0, h5, hfe, ⟨l3, hr3⟩⟩ : 0 < fault ∧ fault ≤ 5 ∧ fault2 = fault ∧ ∃ l3, Rd w3 R s (d + 1) l3 := hgot.bad; subst hfe; have HR3 := Lib.hid hr3; have h0' : (((fault2 : Nat) : Int) == 0) = false := (by simp; omega); have HZ3 := Lib.hid (show Box w3 w.heap.size 94 zp from Box.frm (w := (w.setCell ⟨R, 2, none⟩ (.int .i64 ((d : Int) + 1))).alloc (.cells zp 94)) HXZ.out hf3 HN.out); have HF3 := Lib.hid (show Frm (At R) w w3 from (((Frm.refl (At R) w).setCell ⟨R, 2, none⟩ _ (fun _ => rfl)).alloc _).trans hf3); have hsz3 := HZ3.out.lt; obtain ⟨q2, qf, hq⟩ := rd_deep HR3.out; have hRw3 := HR3.out.lt; have HSH := Lib.hid hsh; have HZ4 := Lib.hid ((HZ3.out.set_ne (b2 := R) (o := 2) (.int .i64 (d : Int)) (by omega)).alloc (.cells C 94)); have HB4 := Lib.hid (by have := Box.new (w3.setCell ⟨R, 2, none⟩ (.int .i64 (d : Int))) 94 C; rw [show (w3.setCell ⟨R, 2, none⟩ (.int .i64 (d : Int))).heap.size = w3.heap.size by simp] at this; exact this); have HR4 := Lib.hid ((hq d (by omega) (d : Int) rfl).alloc (.cells C 94)); have HF4 := Lib.hid ((HF3.out.setCell ⟨R, 2, none⟩ (.int .i64 (d : Int)) (fun _ => rfl)).alloc (.cells C 94));  obtain ⟨o, s1, a1, n1', c1, x1, y1, m1, hC⟩ := hsh; cases hC; clear hip hf3 hgot hq)) | (refine wpList_load_row rfl 94 (.tmp 4) rfl w3.heap.size rfl 94 _ (0, 0) _ HB4.out Tryz.underlying94 rfl info_part ?_) | (refine wpList_store_row rfl 94 (.tmp 2) (.tmp 38) rfl w.heap.size _ rfl rfl 94 zp HZ4.out info_part rfl (by simp [Value.oneCell']) ?_))
      refine bodyPost_ret (results_part2 Tryz.results100 _ _ w.heap.size 94 _ (0, 0) _ (.int .i64 (fault2 : Nat)) rfl rfl (setRow_eq HZ4.out) Tryz.underlying94 rfl info_part) rfl ?_
      rw [HE.out]
      exact ⟨_, rfl, ⟨_, _, _, _, _, _, _, _, rfl⟩, h0, h5, ⟨l3, Rd.frm HR4.out (frm_setRow (S := At w.heap.size) (Frm.refl _ _) _ _ (fun _ => rfl)) HNR.out HN0.out⟩, frm_setRow HF4.out _ _ (fun hk => absurd hk (Nat.lt_irrefl _))⟩
    | ok p l3 =>
      have HPC := Lib.hid hpc
      by_cases hh : hd l3 41 = true
      · have HE := Lib.hid (show groupN (k + 1) l = .ok p l3.tail by simp only [groupN, hpc, if_pos hh])
        clear hpc
        go_enter Tryz.func100, Tryz.ntmps100
        go_wp2_with (first | (go_at_call 47; go_must (refine (expression_all _ _ R s (d + 1) HG.out (groupN_short k) l (by exact HD1.out.alloc _) _ rfl).mono ?_; intro e w3 hip; obtain ⟨C, fault2, rfl, hsh, hf3, hgot⟩ := hip.uni; rw [HPC.out] at hgot; obtain ⟨hfe, hp3, hr3⟩ : fault2 = 0 ∧ PV w3 _ (.agg C) p ∧ Rd w3 R s (d + 1) l3 := hgot.ok; subst hfe; have HP3 := Lib.hid (hp3.mono (F' := fun k => w.heap.size ≤ k) (fun g h _ => Nat.le_trans (show w.heap.size ≤ _ from (((Frm.refl (At R) w).setCell ⟨R, 2, none⟩ (.int .i64 ((d : Int) + 1)) (fun _ => rfl)).alloc (.cells zp 94)).size) h)); have HR3 := Lib.hid hr3; have HZ3 := Lib.hid (show Box w3 w.heap.size 94 zp from Box.frm (w := (w.setCell ⟨R, 2, none⟩ (.int .i64 ((d : Int) + 1))).alloc (.cells zp 94)) HXZ.out hf3 HN.out); have HF3 := Lib.hid (show Frm (At R) w w3 from (((Frm.refl (At R) w).setCell ⟨R, 2, none⟩ _ (fun _ => rfl)).alloc _).trans hf3); have hsz3 := HZ3.out.lt; obtain ⟨q2, qf, hq⟩ := rd_deep HR3.out; have hRw3 := HR3.out.lt; have HSH := Lib.hid hsh; have HZ4 := Lib.hid ((HZ3.out.set_ne (b2 := R) (o := 2) (.int .i64 (d : Int)) (by omega)).alloc (.cells C 94)); have HB4 := Lib.hid (by have := Box.new (w3.setCell ⟨R, 2, none⟩ (.int .i64 (d : Int))) 94 C; rw [show (w3.setCell ⟨R, 2, none⟩ (.int .i64 (d : Int))).heap.size = w3.heap.size by simp] at this; exact this); have HR4 := Lib.hid ((hq d (by omega) (d : Int) rfl).alloc (.cells C 94)); have HF4 := Lib.hid ((HF3.out.setCell ⟨R, 2, none⟩ (.int .i64 (d : Int)) (fun _ => rfl)).alloc (.cells C 94)); have HP4 := Lib.hid ((HP3.out.other (w' := w3.setCell ⟨R, 2, none⟩ (.int .i64 (d : Int))) (S := At R) ((Frm.refl (At R) w3).setCell ⟨R, 2, none⟩ _ (fun _ => rfl)) (fun g e _ => by cases e; obtain ⟨ii, hr, _⟩ := HR3.out; exact ⟨_, _, hr.1, by decide⟩)).move (frm1 _ (.cells C 94))); obtain ⟨o, s1, a1, n1', c1, x1, y1, m1, hC⟩ := hsh; cases hC; clear hip hf3 hgot hq)) | (go_at_call 63; go_must (refine (take_all _ R s d l3 41 _ rfl (by exact HR4.out)).mono ?_; rintro e w5 ⟨rfl, hr5, hf5⟩; rw [if_pos hh] at hr5; have HR5 := Lib.hid hr5; have HZ5 := Lib.hid (HZ4.out.frm hf5 HN.out); have HB5 := Lib.hid (show Box w5 w3.heap.size 94 _ from HB4.out.frm hf5 (fun e => by have e' : w3.heap.size = R := e; omega)); have HF5 := Lib.hid (HF4.out.trans hf5); have HP5 := Lib.hid (HP4.out.rd hf5 HR4.out); clear hr5 hf5)) | (refine wpList_load_row rfl 94 (.tmp 4) rfl w3.heap.size rfl 94 _ (0, 0) _ HB5.out Tryz.underlying94 rfl info_part ?_) | (refine wpList_store_row rfl 94 (.tmp 2) (.tmp 38) rfl w.heap.size _ rfl rfl 94 zp HZ5.out info_part rfl (by simp [Value.oneCell']) ?_))
        refine bodyPost_ret (results_part2 Tryz.results100 _ _ w.heap.size 94 _ (0, 0) _ (.int .i64 0) rfl rfl (setRow_eq HZ5.out) Tryz.underlying94 rfl info_part) rfl ?_
        rw [HE.out]
        exact ⟨_, rfl, HP5.out.setRow HZ5.out (by decide) _, Rd.frm HR5.out (frm_setRow (S := At w.heap.size) (Frm.refl _ _) _ _ (fun _ => rfl)) HNR.out HN0.out, frm_setRow HF5.out _ _ (fun hk => absurd hk (Nat.lt_irrefl _))⟩
      · have HE := Lib.hid (show groupN (k + 1) l = .bad 1 by simp only [groupN, hpc, if_neg hh])
        have hh : hd l3 41 = false := by simpa using hh
        clear hpc
        go_enter Tryz.func100, Tryz.ntmps100
        go_wp2_with (first | (go_at_call 47; go_must (refine (expression_all _ _ R s (d + 1) HG.out (groupN_short k) l (by exact HD1.out.alloc _) _ rfl).mono ?_; intro e w3 hip; obtain ⟨C, fault2, rfl, hsh, hf3, hgot⟩ := hip.uni; rw [HPC.out] at hgot; obtain ⟨hfe, hp3, hr3⟩ : fault2 = 0 ∧ PV w3 _ (.agg C) p ∧ Rd w3 R s (d + 1) l3 := hgot.ok; subst hfe; have HP3 := Lib.hid (hp3.mono (F' := fun k => w.heap.size ≤ k) (fun g h _ => Nat.le_trans (show w.heap.size ≤ _ from (((Frm.refl (At R) w).setCell ⟨R, 2, none⟩ (.int .i64 ((d : Int) + 1)) (fun _ => rfl)).alloc (.cells zp 94)).size) h)); have HR3 := Lib.hid hr3; have HZ3 := Lib.hid (show Box w3 w.heap.size 94 zp from Box.frm (w := (w.setCell ⟨R, 2, none⟩ (.int .i64 ((d : Int) + 1))).alloc (.cells zp 94)) HXZ.out hf3 HN.out); have HF3 := Lib.hid (show Frm (At R) w w3 from (((Frm.refl (At R) w).setCell ⟨R, 2, none⟩ _ (fun _ => rfl)).alloc _).trans hf3); have hsz3 := HZ3.out.lt; obtain ⟨q2, qf, hq⟩ := rd_deep HR3.out; have hRw3 := HR3.out.lt; have HSH := Lib.hid hsh; have HZ4 := Lib.hid ((HZ3.out.set_ne (b2 := R) (o := 2) (.int .i64 (d : Int)) (by omega)).alloc (.cells C 94)); have HB4 := Lib.hid (by have := Box.new (w3.setCell ⟨R, 2, none⟩ (.int .i64 (d : Int))) 94 C; rw [show (w3.setCell ⟨R, 2, none⟩ (.int .i64 (d : Int))).heap.size = w3.heap.size by simp] at this; exact this); have HR4 := Lib.hid ((hq d (by omega) (d : Int) rfl).alloc (.cells C 94)); have HF4 := Lib.hid ((HF3.out.setCell ⟨R, 2, none⟩ (.int .i64 (d : Int)) (fun _ => rfl)).alloc (.cells C 94)); have HP4 := Lib.hid ((HP3.out.other (w' := w3.setCell ⟨R, 2, none⟩ (.int .i64 (d : Int))) (S := At R) ((Frm.refl (At R) w3).setCell ⟨R, 2, none⟩ _ (fun _ => rfl)) (fun g e _ => by cases e; obtain ⟨ii, hr, _⟩ := HR3.out; exact ⟨_, _, hr.1, by decide⟩)).move (frm1 _ (.cells C 94))); obtain ⟨o, s1, a1, n1', c1, x1, y1, m1, hC⟩ := hsh; cases hC; clear hip hf3 hgot hq)) | (go_at_call 63; go_must (refine (take_all _ R s d l3 41 _ rfl (by exact HR4.out)).mono ?_; rintro e w5 ⟨rfl, hr5, hf5⟩; rw [if_neg (by rw [hh]; decide)] at hr5; have HR5 := Lib.hid hr5; have HZ5 := Lib.hid (HZ4.out.frm hf5 HN.out); have HB5 := Lib.hid (show Box w5 w3.heap.size 94 _ from HB4.out.frm hf5 (fun e => by have e' : w3.heap.size = R := e; omega)); have HF5 := Lib.hid (HF4.out.trans hf5); have HP5 := Lib.hid (HP4.out.rd hf5 HR4.out); clear hr5 hf5)) | (refine wpList_load_row rfl 94 (.tmp 4) rfl w3.heap.size rfl 94 _ (0, 0) _ HB5.out Tryz.underlying94 rfl info_part ?_) | (refine wpList_store_row rfl 94 (.tmp 2) (.tmp 38) rfl w.heap.size _ rfl rfl 94 zp HZ5.out info_part rfl (by simp [Value.oneCell']) ?_))
        refine bodyPost_ret (results_part2 Tryz.results100 _ _ w.heap.size 94 _ (0, 0) _ (.int .i64 1) rfl rfl (setRow_eq HZ5.out) Tryz.underlying94 rfl info_part) rfl ?_
        rw [HE.out]
        exact ⟨_, rfl, ⟨_, _, _, _, _, _, _, _, rfl⟩, by omega, by omega, ⟨l3, Rd.frm HR5.out (frm_setRow (S := At w.heap.size) (Frm.refl _ _) _ _ (fun _ => rfl)) HNR.out HN0.out⟩, frm_setRow HF5.out _ _ (fun hk => absurd hk (Nat.lt_irrefl _))⟩
end Go.Proofs.YtbfekknhmjndaaaGreat.items
