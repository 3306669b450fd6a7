/- Contract of match's readRep. -/
import Derived.Test.YtbfekknhmjndaaaGreatReadAlt
namespace Go.Proofs.YtbfekknhmjndaaaGreat.part
set_option linter.unusedVariables false set_option linter.unusedSimpArgs false
open Go.ChangeShapes Go.WideShapes Go.ChangeAt Go.RowKit Go.Proofs.YtbfekknhmjndaaaGreat.base Go.Proofs.YtbfekknhmjndaaaGreat.spec Go.Proofs.YtbfekknhmjndaaaGreat.nfa Go.Proofs.YtbfekknhmjndaaaGreat.set Go.Proofs.YtbfekknhmjndaaaGreat.parts Go.Proofs.YtbfekknhmjndaaaGreat.items
attribute [local go_sem ↓] Go.wp_at_zero Go.wp_at_succ

theorem box2 (w : World) (T1 T2 : TypeId) (A B : Array Value) : Box ((w.alloc (.cells A T1)).alloc (.cells B T2)) w.heap.size T1 A ∧ Box ((w.alloc (.cells A T1)).alloc (.cells B T2)) (w.heap.size + 1) T2 B ∧ Frm No w ((w.alloc (.cells A T1)).alloc (.cells B T2)) := by
  refine ⟨(Box.new w T1 A).alloc _, ?_, ((Frm.refl No w).alloc _).alloc _⟩
  have := Box.new (w.alloc (.cells A T1)) T2 B
  rw [World.size_alloc] at this
  exact this
theorem wrap_nat (n : Nat) (h : n ≤ 3000000) (x : Int) (hx : x = (n : Int)) : IntKind.i64.wrap x = (n : Int) := by
  subst hx
  rw [IntKind.wrap_i64]
  have h2 : wrap64 (n : Int) = (n : Int) := IntWalk.wrap64_in _ ⟨by omega, by omega⟩
  unfold wrap64 at h2
  omega
def timesI (lo hi : Int) : Int := if hi = -1 then lo + 1 else max 1 hi
theorem times_le {lo hi : Int} (hb : bounds lo hi = true) : 0 ≤ timesI lo hi ∧ timesI lo hi ≤ 256 ∧ 0 ≤ lo ∧ lo ≤ 255 := by
  unfold bounds at hb
  simp only [Bool.and_eq_true, Bool.or_eq_true, decide_eq_true_eq] at hb
  obtain ⟨⟨h1, h2⟩, h3⟩ := hb
  unfold timesI
  split <;> omega
theorem rep_int {lo hi : Int} {m : Nat} (hb : bounds lo hi = true) : (m : Int) * timesI lo hi + 1 = (repN lo hi m : Nat) := by
  have h := (times_le hb).1
  have e : timesI lo hi = ((timesI lo hi).toNat : Int) := by omega
  have e2 : repN lo hi m = m * (timesI lo hi).toNat + 1 := rfl
  rw [e2]
  push_cast
  rw [← e]

/-- A part stays one where the variable of another one is written. -/
theorem part_set {w : World} {F : Nat → Prop} {v : Value} {p : T} {U : Nat} {C D : Array Value} (h : PT w F v p) (hb : Box w (U + 1) 100 C) (hF : ∀ k, F k → U + 1 < k) : PT (w.setRow (U + 1) D) (Ge U) v p := by
  have hf := frm_setRow (S := At (U + 1)) (Frm.refl _ w) (U + 1) D (fun _ => rfl)
  exact h.go (fun g cur h1 h2 => ⟨by have := hF g h1; show U ≤ g; omega, h2.frm hf (fun e => by have e' : g = U + 1 := e; have := hF g h1; omega)⟩) (fun fb ff h2 => Box.frm h2 hf (fun e => by have e' : fb = U + 1 := e; subst e'; have h3 := box_ty hb h2; revert h3; decide))
/-- One part in a new block, as a rep's kid. -/
theorem part_one {w : World} {F : Nat → Prop} {p : T} {U : Nat} {C D : Array Value} {px pa : Option Addr} {pc : Nat} {lo hi : Int} (h : PT w F (.agg #[.string p.op, .pointer px, .slice pa p.kids.len pc, .int .i64 p.lo, .int .i64 p.hi]) p) (hb : Box w (U + 1) 100 C) (hlt : U + 1 < w.heap.size) (hF : ∀ k, F k → U + 1 < k) :
    PT ((w.alloc (.cells #[.string p.op, .pointer px, .slice pa p.kids.len pc, .int .i64 p.lo, .int .i64 p.hi] 100)).setRow (U + 1) D) (Ge U) (.agg #[.string repW, .pointer none, .slice (some ⟨w.heap.size, 0, none⟩) 1 1, .int .i64 lo, .int .i64 hi]) ⟨repW, ⟨#[]⟩, lo, hi, Forest.nil.snoc p⟩ := by
  have hf1 := (Frm.refl No w).alloc (.cells #[.string p.op, .pointer px, .slice pa p.kids.len pc, .int .i64 p.lo, .int .i64 p.hi] 100)
  have hp := part_set (D := D) (h.move hf1) (hb.frm hf1 id) hF
  obtain ⟨x, a, c, hv, hs, hk⟩ := hp
  cases hv
  refine ⟨none, some ⟨w.heap.size, 0, none⟩, 1, rfl, fun e => absurd (show repW = setW from e) (by decide), Or.inr ⟨w.heap.size, 1, _, rfl, ⟨(by intro e; cases e), by show 1 ≤ 1; omega⟩, by show U ≤ w.heap.size; omega, (Box.new w _ _).frm (frm_setRow (S := At (U + 1)) (Frm.refl _ _) (U + 1) D (fun _ => rfl)) (fun e => by have e' : w.heap.size = U + 1 := e; omega), ?_⟩⟩
  exact PC.snoc (f := .nil) (C := []) rfl p px _ hs hk
section
variable (w : World) (t : T) (a : Option Addr) (cap : Nat) (d : Nat)

theorem rep_bad (hbad : t.kids.len ≠ 1 ∨ bounds t.lo t.hi = false) :
    Calls Tryz.prog 67 #[.agg #[.string t.op, .string t.set, .slice a t.kids.len cap, .int .i64 t.lo, .int .i64 t.hi], .int .i64 (d : Int)] w (ReadPost w none) := by
  obtain ⟨b1, b2, bf⟩ := box2 w 47 100 #[.string t.op, .string t.set, .slice a t.kids.len cap, .int .i64 t.lo, .int .i64 t.hi] zc
  have HB2 := Lib.hid b2
  clear b1 b2 bf
  by_cases h1 : t.kids.len = 1
  · have hb : bounds t.lo t.hi = false := hbad.elim (fun h => absurd h1 h) (fun h => h)
    have HBD := Lib.hid hb
    clear hbad hb
    rw [h1] at HB2 ⊢
    go_enter Tryz.func67, Tryz.ntmps67
    go_wp2_with (first | (go_at_call 85; go_must (refine (rightBounds_all _ t.lo t.hi).mono ?_; rw [HBD.out]; rintro en w2 ⟨rfl, rfl⟩)))
    refine bodyPost_ret (v := .tuple #[.agg zc, .int .i64 0, .bool false]) (by simp [results, Tryz.results67, go_sem, zc]) rfl ⟨?_, rfl⟩
    repeat' first | exact Frm.refl _ _ | apply Frm.alloc | (refine Frm.setCell ?_ _ _ (fun hk => absurd hk (by simp)))
  · have h1' : ((t.kids.len : Int) == 1) = false := beq_eq_false_iff_ne.2 (by omega)
    clear hbad
    go_enter Tryz.func67, Tryz.ntmps67
    go_wp2
    refine bodyPost_ret (v := .tuple #[.agg zc, .int .i64 0, .bool false]) (by simp [results, Tryz.results67, go_sem, zc]) rfl ⟨?_, rfl⟩
    repeat' first | exact Frm.refl _ _ | apply Frm.alloc | (refine Frm.setCell ?_ _ _ (fun hk => absurd hk (by simp)))

set_option maxRecDepth 20000 in
set_option maxHeartbeats 2000000 in
theorem rep_none (h1 : t.kids.len = 1) (hb : bounds t.lo t.hi = true) (hk : TK w t.kids a) (hd : d ≤ 2000) (tk : T) (htk : nthF t.kids 0 = some tk)
    (IH : ∀ (w' : World) (C : Array Value), TAV w' C tk → Calls Tryz.prog 50 #[.agg C, .int .i64 ((d : Int) + 1)] w' (ReadPost w' (rdT tk (d + 1)))) (hrd : rdT tk (d + 1) = none) :
    Calls Tryz.prog 67 #[.agg #[.string t.op, .string t.set, .slice a t.kids.len cap, .int .i64 t.lo, .int .i64 t.hi], .int .i64 (d : Int)] w (ReadPost w none) := by
  obtain ⟨g0, o0, rfl, hta⟩ : ∃ g0 o0, a = some ⟨g0, o0, none⟩ ∧ TA w t.kids g0 o0 := by
    rcases hk with h | h
    · rw [h] at h1; cases h1
    · exact h
  obtain ⟨x0, x1, x3, x4, ak, ck, x2, hkk⟩ := hta.nth htk
  rw [Nat.zero_mul, Nat.add_zero] at x0 x1 x2 x3 x4
  obtain ⟨b1, b2, bf⟩ := box2 w 47 100 #[.string t.op, .string t.set, .slice (some ⟨g0, o0, none⟩) 1 cap, .int .i64 t.lo, .int .i64 t.hi] zc
  have HB1 := Lib.hid b1
  have HB2 := Lib.hid b2
  have HBF := Lib.hid bf
  have y0 := cell_frm HBF.out x0 id
  have y1 := cell_frm HBF.out x1 id
  have y2 := cell_frm HBF.out x2 id
  have y3 := cell_frm HBF.out x3 id
  have y4 := cell_frm HBF.out x4 id
  unfold zc at y0 y1 y2 y3 y4
  clear x0 x1 x2 x3 x4
  have HTK := Lib.hid hkk
  have HIH := Lib.hid IH
  have HRD := Lib.hid hrd
  have HBD := Lib.hid hb
  have hd0 : (0 : Int) ≤ (d : Int) := by omega
  have htm := (times_le hb).1
  have htm2 := (times_le hb).2.1
  have hlo := (times_le hb).2.2.1
  have hlo2 := (times_le hb).2.2.2
  clear IH hrd hb hkk hta htk hk b1 b2 bf
  rw [h1]
  by_cases hh : t.hi = -1
  · have hh' : (t.hi == -1) = true := by rw [hh]; rfl
    clear hh
    go_enter Tryz.func67, Tryz.ntmps67
    go_wp2_with (first | (go_at_call 85; go_must (refine (rightBounds_all _ t.lo t.hi).mono ?_; rw [HBD.out]; rintro en w1 ⟨rfl, rfl⟩)) | (go_at_call 50; go_must (refine (HIH.out _ _ ⟨ak, ck, rfl, HTK.out.move HBF.out⟩).mono ?_; rw [HRD.out]; rintro en w2 ⟨hf2, hen⟩; obtain rfl : en = .returned (.tuple #[.agg #[.string ⟨#[]⟩, .pointer none, .slice none 0 0, .int .i64 0, .int .i64 0], .int .i64 0, .bool false]) := hen; have HF2 := Lib.hid (HBF.out.trans hf2); have HB1' := Lib.hid (HB1.out.frm hf2 id); have HB2' := Lib.hid (HB2.out.frm hf2 id); have e3 : w2.cell? ⟨w.heap.size, 3, none⟩ = some (.int .i64 t.lo) := HB1'.out.cell 3; have e4 : w2.cell? ⟨w.heap.size, 4, none⟩ = some (.int .i64 t.hi) := HB1'.out.cell 4; have hlb := HB1'.out.lt; have hlb2 := HB2'.out.lt)) | (refine wpList_store_row rfl 100 (.tmp 4) (.tmp 54) rfl (w.heap.size + 1) _ rfl rfl 100 zc (HB2'.out.alloc _) info_part5 rfl (by simp [Value.oneCell']) ?_))
    refine bodyPost_ret (results_part3 Tryz.results67 _ _ (w.heap.size + 1) 100 _ (0, 0) _ (.int .i64 0) (.bool false) rfl rfl rfl (setRow_eq (HB2'.out.alloc _)) Tryz.underlying100 rfl info_part5) rfl ⟨frm_setRow (HF2.out.alloc _) _ _ (fun hk => absurd hk (by omega)), rfl⟩
  · have hh' : (t.hi == -1) = false := beq_eq_false_iff_ne.2 hh
    clear hh
    go_enter Tryz.func67, Tryz.ntmps67
    go_wp2_with (first | (go_at_call 85; go_must (refine (rightBounds_all _ t.lo t.hi).mono ?_; rw [HBD.out]; rintro en w1 ⟨rfl, rfl⟩)) | (go_at_call 50; go_must (refine (HIH.out _ _ ⟨ak, ck, rfl, HTK.out.move HBF.out⟩).mono ?_; rw [HRD.out]; rintro en w2 ⟨hf2, hen⟩; obtain rfl : en = .returned (.tuple #[.agg #[.string ⟨#[]⟩, .pointer none, .slice none 0 0, .int .i64 0, .int .i64 0], .int .i64 0, .bool false]) := hen; have HF2 := Lib.hid (HBF.out.trans hf2); have HB1' := Lib.hid (HB1.out.frm hf2 id); have HB2' := Lib.hid (HB2.out.frm hf2 id); have e3 : w2.cell? ⟨w.heap.size, 3, none⟩ = some (.int .i64 t.lo) := HB1'.out.cell 3; have e4 : w2.cell? ⟨w.heap.size, 4, none⟩ = some (.int .i64 t.hi) := HB1'.out.cell 4; have hlb := HB1'.out.lt; have hlb2 := HB2'.out.lt)) | (refine wpList_store_row rfl 100 (.tmp 4) (.tmp 54) rfl (w.heap.size + 1) _ rfl rfl 100 zc (HB2'.out.alloc _) info_part5 rfl (by simp [Value.oneCell']) ?_))
    refine bodyPost_ret (results_part3 Tryz.results67 _ _ (w.heap.size + 1) 100 _ (0, 0) _ (.int .i64 0) (.bool false) rfl rfl rfl (setRow_eq (HB2'.out.alloc _)) Tryz.underlying100 rfl info_part5) rfl ⟨frm_setRow (HF2.out.alloc _) _ _ (fun hk => absurd hk (by omega)), rfl⟩

set_option maxRecDepth 20000 in
set_option maxHeartbeats 4000000 in
theorem rep_big (h1 : t.kids.len = 1) (hb : bounds t.lo t.hi = true) (hk : TK w t.kids a) (hd : d ≤ 2000) (tk : T) (htk : nthF t.kids 0 = some tk)
    (IH : ∀ (w' : World) (C : Array Value), TAV w' C tk → Calls Tryz.prog 50 #[.agg C, .int .i64 ((d : Int) + 1)] w' (ReadPost w' (rdT tk (d + 1)))) (p : T) (m : Nat) (hrd : rdT tk (d + 1) = some (p, m)) (hbg : 2000 < repN t.lo t.hi m) :
    Calls Tryz.prog 67 #[.agg #[.string t.op, .string t.set, .slice a t.kids.len cap, .int .i64 t.lo, .int .i64 t.hi], .int .i64 (d : Int)] w (ReadPost w none) := by
  obtain ⟨g0, o0, rfl, hta⟩ : ∃ g0 o0, a = some ⟨g0, o0, none⟩ ∧ TA w t.kids g0 o0 := by
    rcases hk with h | h
    · rw [h] at h1; cases h1
    · exact h
  obtain ⟨x0, x1, x3, x4, ak, ck, x2, hkk⟩ := hta.nth htk
  rw [Nat.zero_mul, Nat.add_zero] at x0 x1 x2 x3 x4
  obtain ⟨b1, b2, bf⟩ := box2 w 47 100 #[.string t.op, .string t.set, .slice (some ⟨g0, o0, none⟩) 1 cap, .int .i64 t.lo, .int .i64 t.hi] zc
  have HB1 := Lib.hid b1
  have HB2 := Lib.hid b2
  have HBF := Lib.hid bf
  have y0 := cell_frm HBF.out x0 id
  have y1 := cell_frm HBF.out x1 id
  have y2 := cell_frm HBF.out x2 id
  have y3 := cell_frm HBF.out x3 id
  have y4 := cell_frm HBF.out x4 id
  unfold zc at y0 y1 y2 y3 y4
  clear x0 x1 x2 x3 x4
  have HTK := Lib.hid hkk
  have HIH := Lib.hid IH
  have HRD := Lib.hid hrd
  have HBD := Lib.hid hb
  have hd0 : (0 : Int) ≤ (d : Int) := by omega
  have htm := (times_le hb).1
  have htm2 := (times_le hb).2.1
  have hlo := (times_le hb).2.2.1
  have hlo2 := (times_le hb).2.2.2
  have hm := (rd_good hrd).size
  clear IH hrd hkk hta htk hk b1 b2 bf
  rw [h1]
  by_cases hh : t.hi = -1
  · have hh' : (t.hi == -1) = true := by rw [hh]; rfl
    obtain ⟨M, hM, hMr⟩ : ∃ M : Nat, (m : Int) * (t.lo + 1) = (M : Int) ∧ M + 1 = repN t.lo t.hi m := by
      have h2 := rep_int (m := m) hb
      rw [timesI, if_pos hh] at h2
      have h3 : 0 ≤ (m : Int) * (t.lo + 1) := Int.mul_nonneg (by omega) (by omega)
      exact ⟨((m : Int) * (t.lo + 1)).toNat, by omega, by omega⟩
    have hM2 : M ≤ 512000 := by
      have h3 : (m : Int) * (t.lo + 1) ≤ 2000 * 256 := Int.mul_le_mul (by omega) (by omega) (by omega) (by omega)
      omega
    have hw := wrap_nat M (by omega) _ hM
    have hw2 := wrap_nat (M + 1) (by omega) ((M : Int) + 1) (by omega)
    have hbig : (2000 : Int) < (M : Int) + 1 := by omega
    have HMR := Lib.hid hMr
    clear hb hM hMr hh
    go_enter Tryz.func67, Tryz.ntmps67
    go_wp2_with (first | (go_at_call 85; go_must (refine (rightBounds_all _ t.lo t.hi).mono ?_; rw [HBD.out]; rintro en w1 ⟨rfl, rfl⟩)) | (go_at_call 50; go_must (refine (HIH.out _ _ ⟨ak, ck, rfl, HTK.out.move HBF.out⟩).mono ?_; rw [HRD.out]; rintro en w2 ⟨hf2, v2, rfl, hpt2⟩; have HPT := Lib.hid hpt2; obtain ⟨px, pa, pc, rfl, hps, hpk⟩ := hpt2; have HF2 := Lib.hid (HBF.out.trans hf2); have HB1' := Lib.hid (HB1.out.frm hf2 id); have HB2' := Lib.hid (HB2.out.frm hf2 id); have e3 : w2.cell? ⟨w.heap.size, 3, none⟩ = some (.int .i64 t.lo) := HB1'.out.cell 3; have e4 : w2.cell? ⟨w.heap.size, 4, none⟩ = some (.int .i64 t.hi) := HB1'.out.cell 4; have hlb := HB1'.out.lt; have hlb2 := HB2'.out.lt)) | (refine wpList_store_row rfl 100 (.tmp 4) (.tmp 54) rfl (w.heap.size + 1) _ rfl rfl 100 zc (HB2'.out.alloc _) info_part5 rfl (by simp [Value.oneCell']) ?_))
    refine bodyPost_ret (results_part3 Tryz.results67 _ _ (w.heap.size + 1) 100 _ (0, 0) _ (.int .i64 0) (.bool false) rfl rfl rfl (setRow_eq (HB2'.out.alloc _)) Tryz.underlying100 rfl info_part5) rfl ⟨frm_setRow (HF2.out.alloc _) _ _ (fun hk => absurd hk (by omega)), rfl⟩
  · have hh' : (t.hi == -1) = false := beq_eq_false_iff_ne.2 hh
    obtain ⟨M, hM, hMr⟩ : ∃ M : Nat, (m : Int) * (max 1 t.hi) = (M : Int) ∧ M + 1 = repN t.lo t.hi m := by
      have h2 := rep_int (m := m) hb
      rw [timesI, if_neg hh] at h2
      have h3 : 0 ≤ (m : Int) * (max 1 t.hi) := Int.mul_nonneg (by omega) (by omega)
      exact ⟨((m : Int) * (max 1 t.hi)).toNat, by omega, by omega⟩
    have hM2 : M ≤ 512000 := by
      have h3 : (m : Int) * (max 1 t.hi) ≤ 2000 * 256 := Int.mul_le_mul (by omega) (by rw [timesI, if_neg hh] at htm2; omega) (by omega) (by omega)
      omega
    have hw := wrap_nat M (by omega) _ hM
    have hw2 := wrap_nat (M + 1) (by omega) ((M : Int) + 1) (by omega)
    have hbig : (2000 : Int) < (M : Int) + 1 := by omega
    have HMR := Lib.hid hMr
    clear hb hM hMr hh
    go_enter Tryz.func67, Tryz.ntmps67
    go_wp2_with (first | (go_at_call 85; go_must (refine (rightBounds_all _ t.lo t.hi).mono ?_; rw [HBD.out]; rintro en w1 ⟨rfl, rfl⟩)) | (go_at_call 50; go_must (refine (HIH.out _ _ ⟨ak, ck, rfl, HTK.out.move HBF.out⟩).mono ?_; rw [HRD.out]; rintro en w2 ⟨hf2, v2, rfl, hpt2⟩; have HPT := Lib.hid hpt2; obtain ⟨px, pa, pc, rfl, hps, hpk⟩ := hpt2; have HF2 := Lib.hid (HBF.out.trans hf2); have HB1' := Lib.hid (HB1.out.frm hf2 id); have HB2' := Lib.hid (HB2.out.frm hf2 id); have e3 : w2.cell? ⟨w.heap.size, 3, none⟩ = some (.int .i64 t.lo) := HB1'.out.cell 3; have e4 : w2.cell? ⟨w.heap.size, 4, none⟩ = some (.int .i64 t.hi) := HB1'.out.cell 4; have hlb := HB1'.out.lt; have hlb2 := HB2'.out.lt)) | (refine wpList_store_row rfl 100 (.tmp 4) (.tmp 54) rfl (w.heap.size + 1) _ rfl rfl 100 zc (HB2'.out.alloc _) info_part5 rfl (by simp [Value.oneCell']) ?_))
    refine bodyPost_ret (results_part3 Tryz.results67 _ _ (w.heap.size + 1) 100 _ (0, 0) _ (.int .i64 0) (.bool false) rfl rfl rfl (setRow_eq (HB2'.out.alloc _)) Tryz.underlying100 rfl info_part5) rfl ⟨frm_setRow (HF2.out.alloc _) _ _ (fun hk => absurd hk (by omega)), rfl⟩

set_option maxRecDepth 20000 in
set_option maxHeartbeats 4000000 in
theorem rep_no (h1 : t.kids.len = 1) (hb : bounds t.lo t.hi = true) (hk : TK w t.kids a) (hd : d ≤ 2000) (tk : T) (htk : nthF t.kids 0 = some tk)
    (IH : ∀ (w' : World) (C : Array Value), TAV w' C tk → Calls Tryz.prog 50 #[.agg C, .int .i64 ((d : Int) + 1)] w' (ReadPost w' (rdT tk (d + 1)))) (p : T) (m : Nat) (hrd : rdT tk (d + 1) = some (p, m)) (hbg : ¬ 2000 < repN t.lo t.hi m) (hno : isNo p = true) :
    Calls Tryz.prog 67 #[.agg #[.string t.op, .string t.set, .slice a t.kids.len cap, .int .i64 t.lo, .int .i64 t.hi], .int .i64 (d : Int)] w (ReadPost w (some (p, repN t.lo t.hi m))) := by
  obtain ⟨g0, o0, rfl, hta⟩ : ∃ g0 o0, a = some ⟨g0, o0, none⟩ ∧ TA w t.kids g0 o0 := by
    rcases hk with h | h
    · rw [h] at h1; cases h1
    · exact h
  obtain ⟨x0, x1, x3, x4, ak, ck, x2, hkk⟩ := hta.nth htk
  rw [Nat.zero_mul, Nat.add_zero] at x0 x1 x2 x3 x4
  obtain ⟨b1, b2, bf⟩ := box2 w 47 100 #[.string t.op, .string t.set, .slice (some ⟨g0, o0, none⟩) 1 cap, .int .i64 t.lo, .int .i64 t.hi] zc
  have HB1 := Lib.hid b1
  have HB2 := Lib.hid b2
  have HBF := Lib.hid bf
  have y0 := cell_frm HBF.out x0 id
  have y1 := cell_frm HBF.out x1 id
  have y2 := cell_frm HBF.out x2 id
  have y3 := cell_frm HBF.out x3 id
  have y4 := cell_frm HBF.out x4 id
  unfold zc at y0 y1 y2 y3 y4
  clear x0 x1 x2 x3 x4
  have HTK := Lib.hid hkk
  have HIH := Lib.hid IH
  have HRD := Lib.hid hrd
  have HBD := Lib.hid hb
  have hd0 : (0 : Int) ≤ (d : Int) := by omega
  have htm := (times_le hb).1
  have htm2 := (times_le hb).2.1
  have hlo := (times_le hb).2.2.1
  have hlo2 := (times_le hb).2.2.2
  have hm := (rd_good hrd).size
  have HNO := Lib.hid (show (decide (p.op = catW) && decide (p.kids.len = 0)) = true from hno)
  clear IH hrd hkk hta htk hk b1 b2 bf
  rw [h1]
  by_cases hh : t.hi = -1
  · have hh' : (t.hi == -1) = true := by rw [hh]; rfl
    obtain ⟨M, hM, hMr⟩ : ∃ M : Nat, (m : Int) * (t.lo + 1) = (M : Int) ∧ M + 1 = repN t.lo t.hi m := by
      have h2 := rep_int (m := m) hb
      rw [timesI, if_pos hh] at h2
      have h3 : 0 ≤ (m : Int) * (t.lo + 1) := Int.mul_nonneg (by omega) (by omega)
      exact ⟨((m : Int) * (t.lo + 1)).toNat, by omega, by omega⟩
    have hM2 : M ≤ 512000 := by
      have h3 : (m : Int) * (t.lo + 1) ≤ 2000 * 256 := Int.mul_le_mul (by omega) (by omega) (by omega) (by omega)
      omega
    have hw := wrap_nat M (by omega) _ hM
    have hw2 := wrap_nat (M + 1) (by omega) ((M : Int) + 1) (by omega)
    have hbig : ¬ (2000 : Int) < (M : Int) + 1 := by omega
    have HMR := Lib.hid hMr
    clear hb hM hMr hh
    go_enter Tryz.func67, Tryz.ntmps67
    go_wp2_with (first | (go_at_call 85; go_must (refine (rightBounds_all _ t.lo t.hi).mono ?_; rw [HBD.out]; rintro en w1 ⟨rfl, rfl⟩)) | (go_at_call 50; go_must (refine (HIH.out _ _ ⟨ak, ck, rfl, HTK.out.move HBF.out⟩).mono ?_; rw [HRD.out]; rintro en w2 ⟨hf2, v2, rfl, hpt2⟩; have HPT := Lib.hid hpt2; obtain ⟨px, pa, pc, rfl, hps, hpk⟩ := hpt2; have HF2 := Lib.hid (HBF.out.trans hf2); have HB1' := Lib.hid (HB1.out.frm hf2 id); have HB2' := Lib.hid (HB2.out.frm hf2 id); have e3 : w2.cell? ⟨w.heap.size, 3, none⟩ = some (.int .i64 t.lo) := HB1'.out.cell 3; have e4 : w2.cell? ⟨w.heap.size, 4, none⟩ = some (.int .i64 t.hi) := HB1'.out.cell 4; have hlb := HB1'.out.lt; have hlb2 := HB2'.out.lt)) | (go_at_call 83; go_must (refine (isNothing_all _ p.op px pa p.kids.len pc p.lo p.hi).mono ?_; rw [HNO.out]; rintro en w4 ⟨rfl, hf4⟩; have HF4 := Lib.hid ((HF2.out.alloc (.cells #[.string p.op, .pointer px, .slice pa p.kids.len pc, .int .i64 p.lo, .int .i64 p.hi] 100)).trans hf4); have HBP := Lib.hid (show Box w4 w2.heap.size 100 #[.string p.op, .pointer px, .slice pa p.kids.len pc, .int .i64 p.lo, .int .i64 p.hi] from Box.frm (Box.new w2 _ _) hf4 id); have HB4 := Lib.hid (show Box w4 (w.heap.size + 1) 100 zc from Box.frm (HB2'.out.alloc _) hf4 id); have HE4 := Lib.hid (show Box w4 w.heap.size 47 #[.string t.op, .string t.set, .slice (some ⟨g0, o0, none⟩) 1 cap, .int .i64 t.lo, .int .i64 t.hi] from Box.frm (HB1'.out.alloc _) hf4 id); have HP4 := Lib.hid (HPT.out.move (((Frm.refl No w2).alloc (.cells #[.string p.op, .pointer px, .slice pa p.kids.len pc, .int .i64 p.lo, .int .i64 p.hi] 100)).trans hf4)); have hsz4 := hf4.size; have hsz2 := hf2.size; have e3b : (w4.alloc (.cells #[.string p.op, .pointer px, .slice pa p.kids.len pc, .int .i64 p.lo, .int .i64 p.hi] 100)).cell? ⟨w.heap.size, 3, none⟩ = some (.int .i64 t.lo) := (HE4.out.alloc _).cell 3; have e4b : (w4.alloc (.cells #[.string p.op, .pointer px, .slice pa p.kids.len pc, .int .i64 p.lo, .int .i64 p.hi] 100)).cell? ⟨w.heap.size, 4, none⟩ = some (.int .i64 t.hi) := (HE4.out.alloc _).cell 4; clear hf4)) | (refine wpList_load_row rfl 100 (.tmp 7) rfl w2.heap.size rfl 100 _ (0, 0) _ HBP.out Tryz.underlying100 rfl info_part5 ?_) | (refine wpList_store_row rfl 100 (.tmp 4) (.tmp 57) rfl (w.heap.size + 1) _ rfl rfl 100 zc HB4.out info_part5 rfl (by simp [Value.oneCell']) ?_))
    refine bodyPost_ret (results_part3 Tryz.results67 _ _ (w.heap.size + 1) 100 _ (0, 0) _ (.int .i64 ((M : Int) + 1)) (.bool true) rfl rfl rfl (setRow_eq HB4.out) Tryz.underlying100 rfl info_part5) rfl ⟨frm_setRow HF4.out _ _ (fun hk => absurd hk (by omega)), _, by rw [← HMR.out]; rfl, ?_⟩
    exact part_set HP4.out HB4.out (fun k hk => by have h8 : _ ≤ k := hk; rw [World.size_alloc, World.size_alloc] at h8; omega)
  · have hh' : (t.hi == -1) = false := beq_eq_false_iff_ne.2 hh
    obtain ⟨M, hM, hMr⟩ : ∃ M : Nat, (m : Int) * (max 1 t.hi) = (M : Int) ∧ M + 1 = repN t.lo t.hi m := by
      have h2 := rep_int (m := m) hb
      rw [timesI, if_neg hh] at h2
      have h3 : 0 ≤ (m : Int) * (max 1 t.hi) := Int.mul_nonneg (by omega) (by omega)
      exact ⟨((m : Int) * (max 1 t.hi)).toNat, by omega, by omega⟩
    have hM2 : M ≤ 512000 := by
      have h3 : (m : Int) * (max 1 t.hi) ≤ 2000 * 256 := Int.mul_le_mul (by omega) (by rw [timesI, if_neg hh] at htm2; omega) (by omega) (by omega)
      omega
    have hw := wrap_nat M (by omega) _ hM
    have hw2 := wrap_nat (M + 1) (by omega) ((M : Int) + 1) (by omega)
    have hbig : ¬ (2000 : Int) < (M : Int) + 1 := by omega
    have HMR := Lib.hid hMr
    clear hb hM hMr hh
    go_enter Tryz.func67, Tryz.ntmps67
    go_wp2_with (first | (go_at_call 85; go_must (refine (rightBounds_all _ t.lo t.hi).mono ?_; rw [HBD.out]; rintro en w1 ⟨rfl, rfl⟩)) | (go_at_call 50; go_must (refine (HIH.out _ _ ⟨ak, ck, rfl, HTK.out.move HBF.out⟩).mono ?_; rw [HRD.out]; rintro en w2 ⟨hf2, v2, rfl, hpt2⟩; have HPT := Lib.hid hpt2; obtain ⟨px, pa, pc, rfl, hps, hpk⟩ := hpt2; have HF2 := Lib.hid (HBF.out.trans hf2); have HB1' := Lib.hid (HB1.out.frm hf2 id); have HB2' := Lib.hid (HB2.out.frm hf2 id); have e3 : w2.cell? ⟨w.heap.size, 3, none⟩ = some (.int .i64 t.lo) := HB1'.out.cell 3; have e4 : w2.cell? ⟨w.heap.size, 4, none⟩ = some (.int .i64 t.hi) := HB1'.out.cell 4; have hlb := HB1'.out.lt; have hlb2 := HB2'.out.lt)) | (go_at_call 83; go_must (refine (isNothing_all _ p.op px pa p.kids.len pc p.lo p.hi).mono ?_; rw [HNO.out]; rintro en w4 ⟨rfl, hf4⟩; have HF4 := Lib.hid ((HF2.out.alloc (.cells #[.string p.op, .pointer px, .slice pa p.kids.len pc, .int .i64 p.lo, .int .i64 p.hi] 100)).trans hf4); have HBP := Lib.hid (show Box w4 w2.heap.size 100 #[.string p.op, .pointer px, .slice pa p.kids.len pc, .int .i64 p.lo, .int .i64 p.hi] from Box.frm (Box.new w2 _ _) hf4 id); have HB4 := Lib.hid (show Box w4 (w.heap.size + 1) 100 zc from Box.frm (HB2'.out.alloc _) hf4 id); have HE4 := Lib.hid (show Box w4 w.heap.size 47 #[.string t.op, .string t.set, .slice (some ⟨g0, o0, none⟩) 1 cap, .int .i64 t.lo, .int .i64 t.hi] from Box.frm (HB1'.out.alloc _) hf4 id); have HP4 := Lib.hid (HPT.out.move (((Frm.refl No w2).alloc (.cells #[.string p.op, .pointer px, .slice pa p.kids.len pc, .int .i64 p.lo, .int .i64 p.hi] 100)).trans hf4)); have hsz4 := hf4.size; have hsz2 := hf2.size; have e3b : (w4.alloc (.cells #[.string p.op, .pointer px, .slice pa p.kids.len pc, .int .i64 p.lo, .int .i64 p.hi] 100)).cell? ⟨w.heap.size, 3, none⟩ = some (.int .i64 t.lo) := (HE4.out.alloc _).cell 3; have e4b : (w4.alloc (.cells #[.string p.op, .pointer px, .slice pa p.kids.len pc, .int .i64 p.lo, .int .i64 p.hi] 100)).cell? ⟨w.heap.size, 4, none⟩ = some (.int .i64 t.hi) := (HE4.out.alloc _).cell 4; clear hf4)) | (refine wpList_load_row rfl 100 (.tmp 7) rfl w2.heap.size rfl 100 _ (0, 0) _ HBP.out Tryz.underlying100 rfl info_part5 ?_) | (refine wpList_store_row rfl 100 (.tmp 4) (.tmp 57) rfl (w.heap.size + 1) _ rfl rfl 100 zc HB4.out info_part5 rfl (by simp [Value.oneCell']) ?_))
    refine bodyPost_ret (results_part3 Tryz.results67 _ _ (w.heap.size + 1) 100 _ (0, 0) _ (.int .i64 ((M : Int) + 1)) (.bool true) rfl rfl rfl (setRow_eq HB4.out) Tryz.underlying100 rfl info_part5) rfl ⟨frm_setRow HF4.out _ _ (fun hk => absurd hk (by omega)), _, by rw [← HMR.out]; rfl, ?_⟩
    exact part_set HP4.out HB4.out (fun k hk => by have h8 : _ ≤ k := hk; rw [World.size_alloc, World.size_alloc] at h8; omega)

set_option maxRecDepth 20000 in
set_option maxHeartbeats 4000000 in
theorem rep_yes (h1 : t.kids.len = 1) (hb : bounds t.lo t.hi = true) (hk : TK w t.kids a) (hd : d ≤ 2000) (tk : T) (htk : nthF t.kids 0 = some tk)
    (IH : ∀ (w' : World) (C : Array Value), TAV w' C tk → Calls Tryz.prog 50 #[.agg C, .int .i64 ((d : Int) + 1)] w' (ReadPost w' (rdT tk (d + 1)))) (p : T) (m : Nat) (hrd : rdT tk (d + 1) = some (p, m)) (hbg : ¬ 2000 < repN t.lo t.hi m) (hno : isNo p = false) :
    Calls Tryz.prog 67 #[.agg #[.string t.op, .string t.set, .slice a t.kids.len cap, .int .i64 t.lo, .int .i64 t.hi], .int .i64 (d : Int)] w (ReadPost w (some (⟨repW, ⟨#[]⟩, t.lo, t.hi, Forest.nil.snoc p⟩, repN t.lo t.hi m))) := by
  obtain ⟨g0, o0, rfl, hta⟩ : ∃ g0 o0, a = some ⟨g0, o0, none⟩ ∧ TA w t.kids g0 o0 := by
    rcases hk with h | h
    · rw [h] at h1; cases h1
    · exact h
  obtain ⟨x0, x1, x3, x4, ak, ck, x2, hkk⟩ := hta.nth htk
  rw [Nat.zero_mul, Nat.add_zero] at x0 x1 x2 x3 x4
  obtain ⟨b1, b2, bf⟩ := box2 w 47 100 #[.string t.op, .string t.set, .slice (some ⟨g0, o0, none⟩) 1 cap, .int .i64 t.lo, .int .i64 t.hi] zc
  have HB1 := Lib.hid b1
  have HB2 := Lib.hid b2
  have HBF := Lib.hid bf
  have y0 := cell_frm HBF.out x0 id
  have y1 := cell_frm HBF.out x1 id
  have y2 := cell_frm HBF.out x2 id
  have y3 := cell_frm HBF.out x3 id
  have y4 := cell_frm HBF.out x4 id
  unfold zc at y0 y1 y2 y3 y4
  clear x0 x1 x2 x3 x4
  have HTK := Lib.hid hkk
  have HIH := Lib.hid IH
  have HRD := Lib.hid hrd
  have HBD := Lib.hid hb
  have hd0 : (0 : Int) ≤ (d : Int) := by omega
  have htm := (times_le hb).1
  have htm2 := (times_le hb).2.1
  have hlo := (times_le hb).2.2.1
  have hlo2 := (times_le hb).2.2.2
  have hm := (rd_good hrd).size
  have HNO := Lib.hid (show (decide (p.op = catW) && decide (p.kids.len = 0)) = false from hno)
  clear IH hrd hkk hta htk hk b1 b2 bf
  rw [h1]
  by_cases hh : t.hi = -1
  · have hh' : (t.hi == -1) = true := by rw [hh]; rfl
    obtain ⟨M, hM, hMr⟩ : ∃ M : Nat, (m : Int) * (t.lo + 1) = (M : Int) ∧ M + 1 = repN t.lo t.hi m := by
      have h2 := rep_int (m := m) hb
      rw [timesI, if_pos hh] at h2
      have h3 : 0 ≤ (m : Int) * (t.lo + 1) := Int.mul_nonneg (by omega) (by omega)
      exact ⟨((m : Int) * (t.lo + 1)).toNat, by omega, by omega⟩
    have hM2 : M ≤ 512000 := by
      have h3 : (m : Int) * (t.lo + 1) ≤ 2000 * 256 := Int.mul_le_mul (by omega) (by omega) (by omega) (by omega)
      omega
    have hw := wrap_nat M (by omega) _ hM
    have hw2 := wrap_nat (M + 1) (by omega) ((M : Int) + 1) (by omega)
    have hbig : ¬ (2000 : Int) < (M : Int) + 1 := by omega
    have HMR := Lib.hid hMr
    clear hb hM hMr hh
    go_enter Tryz.func67, Tryz.ntmps67
    go_wp2_with (first | (go_at_call 85; go_must (refine (rightBounds_all _ t.lo t.hi).mono ?_; rw [HBD.out]; rintro en w1 ⟨rfl, rfl⟩)) | (go_at_call 50; go_must (refine (HIH.out _ _ ⟨ak, ck, rfl, HTK.out.move HBF.out⟩).mono ?_; rw [HRD.out]; rintro en w2 ⟨hf2, v2, rfl, hpt2⟩; have HPT := Lib.hid hpt2; obtain ⟨px, pa, pc, rfl, hps, hpk⟩ := hpt2; have HF2 := Lib.hid (HBF.out.trans hf2); have HB1' := Lib.hid (HB1.out.frm hf2 id); have HB2' := Lib.hid (HB2.out.frm hf2 id); have e3 : w2.cell? ⟨w.heap.size, 3, none⟩ = some (.int .i64 t.lo) := HB1'.out.cell 3; have e4 : w2.cell? ⟨w.heap.size, 4, none⟩ = some (.int .i64 t.hi) := HB1'.out.cell 4; have hlb := HB1'.out.lt; have hlb2 := HB2'.out.lt)) | (go_at_call 83; go_must (refine (isNothing_all _ p.op px pa p.kids.len pc p.lo p.hi).mono ?_; rw [HNO.out]; rintro en w4 ⟨rfl, hf4⟩; have HF4 := Lib.hid ((HF2.out.alloc (.cells #[.string p.op, .pointer px, .slice pa p.kids.len pc, .int .i64 p.lo, .int .i64 p.hi] 100)).trans hf4); have HBP := Lib.hid (show Box w4 w2.heap.size 100 #[.string p.op, .pointer px, .slice pa p.kids.len pc, .int .i64 p.lo, .int .i64 p.hi] from Box.frm (Box.new w2 _ _) hf4 id); have HB4 := Lib.hid (show Box w4 (w.heap.size + 1) 100 zc from Box.frm (HB2'.out.alloc _) hf4 id); have HE4 := Lib.hid (show Box w4 w.heap.size 47 #[.string t.op, .string t.set, .slice (some ⟨g0, o0, none⟩) 1 cap, .int .i64 t.lo, .int .i64 t.hi] from Box.frm (HB1'.out.alloc _) hf4 id); have HP4 := Lib.hid (HPT.out.move (((Frm.refl No w2).alloc (.cells #[.string p.op, .pointer px, .slice pa p.kids.len pc, .int .i64 p.lo, .int .i64 p.hi] 100)).trans hf4)); have hsz4 := hf4.size; have hsz2 := hf2.size; have e3b : (w4.alloc (.cells #[.string p.op, .pointer px, .slice pa p.kids.len pc, .int .i64 p.lo, .int .i64 p.hi] 100)).cell? ⟨w.heap.size, 3, none⟩ = some (.int .i64 t.lo) := (HE4.out.alloc _).cell 3; have e4b : (w4.alloc (.cells #[.string p.op, .pointer px, .slice pa p.kids.len pc, .int .i64 p.lo, .int .i64 p.hi] 100)).cell? ⟨w.heap.size, 4, none⟩ = some (.int .i64 t.hi) := (HE4.out.alloc _).cell 4; clear hf4)) | (refine wpList_load_row rfl 100 (.tmp 7) rfl w2.heap.size rfl 100 _ (0, 0) _ HBP.out Tryz.underlying100 rfl info_part5 ?_) | (refine wpList_store_row rfl 100 (.tmp 4) (.tmp 65) rfl (w.heap.size + 1) _ rfl rfl 100 zc (HB4.out.alloc _) info_part5 rfl (by simp [Value.oneCell']) ?_))
    refine bodyPost_ret (results_part3 Tryz.results67 _ _ (w.heap.size + 1) 100 _ (0, 0) _ (.int .i64 ((M : Int) + 1)) (.bool true) rfl rfl rfl (setRow_eq (HB4.out.alloc _)) Tryz.underlying100 rfl info_part5) rfl ⟨frm_setRow (HF4.out.alloc _) _ _ (fun hk => absurd hk (by omega)), _, by rw [← HMR.out]; rfl, ?_⟩
    exact part_one HP4.out HB4.out (by rw [World.size_alloc] at hsz4; omega) (fun k hk => by have h8 : _ ≤ k := hk; rw [World.size_alloc, World.size_alloc] at h8; omega)
  · have hh' : (t.hi == -1) = false := beq_eq_false_iff_ne.2 hh
    obtain ⟨M, hM, hMr⟩ : ∃ M : Nat, (m : Int) * (max 1 t.hi) = (M : Int) ∧ M + 1 = repN t.lo t.hi m := by
      have h2 := rep_int (m := m) hb
      rw [timesI, if_neg hh] at h2
      have h3 : 0 ≤ (m : Int) * (max 1 t.hi) := Int.mul_nonneg (by omega) (by omega)
      exact ⟨((m : Int) * (max 1 t.hi)).toNat, by omega, by omega⟩
    have hM2 : M ≤ 512000 := by
      have h3 : (m : Int) * (max 1 t.hi) ≤ 2000 * 256 := Int.mul_le_mul (by omega) (by rw [timesI, if_neg hh] at htm2; omega) (by omega) (by omega)
      omega
    have hw := wrap_nat M (by omega) _ hM
    have hw2 := wrap_nat (M + 1) (by omega) ((M : Int) + 1) (by omega)
    have hbig : ¬ (2000 : Int) < (M : Int) + 1 := by omega
    have HMR := Lib.hid hMr
    clear hb hM hMr hh
    go_enter Tryz.func67, Tryz.ntmps67
    go_wp2_with (first | (go_at_call 85; go_must (refine (rightBounds_all _ t.lo t.hi).mono ?_; rw [HBD.out]; rintro en w1 ⟨rfl, rfl⟩)) | (go_at_call 50; go_must (refine (HIH.out _ _ ⟨ak, ck, rfl, HTK.out.move HBF.out⟩).mono ?_; rw [HRD.out]; rintro en w2 ⟨hf2, v2, rfl, hpt2⟩; have HPT := Lib.hid hpt2; obtain ⟨px, pa, pc, rfl, hps, hpk⟩ := hpt2; have HF2 := Lib.hid (HBF.out.trans hf2); have HB1' := Lib.hid (HB1.out.frm hf2 id); have HB2' := Lib.hid (HB2.out.frm hf2 id); have e3 : w2.cell? ⟨w.heap.size, 3, none⟩ = some (.int .i64 t.lo) := HB1'.out.cell 3; have e4 : w2.cell? ⟨w.heap.size, 4, none⟩ = some (.int .i64 t.hi) := HB1'.out.cell 4; have hlb := HB1'.out.lt; have hlb2 := HB2'.out.lt)) | (go_at_call 83; go_must (refine (isNothing_all _ p.op px pa p.kids.len pc p.lo p.hi).mono ?_; rw [HNO.out]; rintro en w4 ⟨rfl, hf4⟩; have HF4 := Lib.hid ((HF2.out.alloc (.cells #[.string p.op, .pointer px, .slice pa p.kids.len pc, .int .i64 p.lo, .int .i64 p.hi] 100)).trans hf4); have HBP := Lib.hid (show Box w4 w2.heap.size 100 #[.string p.op, .pointer px, .slice pa p.kids.len pc, .int .i64 p.lo, .int .i64 p.hi] from Box.frm (Box.new w2 _ _) hf4 id); have HB4 := Lib.hid (show Box w4 (w.heap.size + 1) 100 zc from Box.frm (HB2'.out.alloc _) hf4 id); have HE4 := Lib.hid (show Box w4 w.heap.size 47 #[.string t.op, .string t.set, .slice (some ⟨g0, o0, none⟩) 1 cap, .int .i64 t.lo, .int .i64 t.hi] from Box.frm (HB1'.out.alloc _) hf4 id); have HP4 := Lib.hid (HPT.out.move (((Frm.refl No w2).alloc (.cells #[.string p.op, .pointer px, .slice pa p.kids.len pc, .int .i64 p.lo, .int .i64 p.hi] 100)).trans hf4)); have hsz4 := hf4.size; have hsz2 := hf2.size; have e3b : (w4.alloc (.cells #[.string p.op, .pointer px, .slice pa p.kids.len pc, .int .i64 p.lo, .int .i64 p.hi] 100)).cell? ⟨w.heap.size, 3, none⟩ = some (.int .i64 t.lo) := (HE4.out.alloc _).cell 3; have e4b : (w4.alloc (.cells #[.string p.op, .pointer px, .slice pa p.kids.len pc, .int .i64 p.lo, .int .i64 p.hi] 100)).cell? ⟨w.heap.size, 4, none⟩ = some (.int .i64 t.hi) := (HE4.out.alloc _).cell 4; clear hf4)) | (refine wpList_load_row rfl 100 (.tmp 7) rfl w2.heap.size rfl 100 _ (0, 0) _ HBP.out Tryz.underlying100 rfl info_part5 ?_) | (refine wpList_store_row rfl 100 (.tmp 4) (.tmp 65) rfl (w.heap.size + 1) _ rfl rfl 100 zc (HB4.out.alloc _) info_part5 rfl (by simp [Value.oneCell']) ?_))
    refine bodyPost_ret (results_part3 Tryz.results67 _ _ (w.heap.size + 1) 100 _ (0, 0) _ (.int .i64 ((M : Int) + 1)) (.bool true) rfl rfl rfl (setRow_eq (HB4.out.alloc _)) Tryz.underlying100 rfl info_part5) rfl ⟨frm_setRow (HF4.out.alloc _) _ _ (fun hk => absurd hk (by omega)), _, by rw [← HMR.out]; rfl, ?_⟩
    exact part_one HP4.out HB4.out (by rw [World.size_alloc] at hsz4; omega) (fun k hk => by have h8 : _ ≤ k := hk; rw [World.size_alloc, World.size_alloc] at h8; omega)
end
end Go.Proofs.YtbfekknhmjndaaaGreat.part
