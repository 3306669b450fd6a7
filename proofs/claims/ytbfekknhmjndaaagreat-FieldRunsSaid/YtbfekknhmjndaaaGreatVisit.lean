/- Contract of match's search.visit. Contract of match's search.visit, where states are laid to go on from. -/
import Derived.Test.YtbfekknhmjndaaaGreatMach

namespace Go.Proofs.YtbfekknhmjndaaaGreat.nfa
set_option linter.unusedVariables false set_option linter.unusedSimpArgs false
open Go.ChangeShapes Go.WideShapes Go.ChangeAt Go.RowKit Go.Proofs.YtbfekknhmjndaaaGreat.base

theorem info_th : (Tryz.prog.info? 163).map (fun i => (i.zero, i.size, i.bytes)) = some (some (.agg #[.int .i64 0, .int .i64 0]), 2, 16) := by kernel_rfl
theorem info_int : (Tryz.prog.info? 3).map (fun i => (i.zero, i.size, i.bytes)) = some (some (.int .i64 0), 1, 8) := by kernel_rfl

section
variable {w : World} {B R MB : Nat} {s : ByteArray} {p : Nat} {nv sv ev ov : Value} {e : E} {spr : List (Nat × Nat)}
/-- Another slice for the threads. -/
theorem SV.setNow (h : SV w B R MB s p nv sv ev ov e spr) {w1 : World} (hf : Frm (fun k => nv.ownBlock = some k) w w1) {nv' : Value} (now : List (Nat × Nat)) (hn : w1.ownsRow B 163 2 nv' now.length (thL now)) (hat : ∀ g, nv'.ownBlock = some g → nv.ownBlock = some g ∨ w.heap.size ≤ g) :
    SV (w1.setCell ⟨R, 3, none⟩ nv') B R MB s p nv' sv ev ov { e with now := now } spr ∧ Frm (Ge B) w (w1.setCell ⟨R, 3, none⟩ nv') := by
  have hR := own_far h.hn h.box (by decide)
  have hb := h.box.frm hf hR
  have hs := own_move h.hs hf (fun g h1 h2 => h.ns g h2 h1)
  have he := own_move h.he hf (fun g h1 h2 => own_apart h.hn h.he (by decide) h2 h1)
  have ho := own_move h.ho hf (fun g h1 h2 => own_apart h.hn h.ho (by decide) h2 h1)
  have hf1 : Frm (At R) w1 (w1.setCell ⟨R, 3, none⟩ nv') := Frm.setCell (Frm.refl _ _) ⟨R, 3, none⟩ _ (fun _ => rfl)
  have hlt := hf.size
  refine ⟨⟨hb.set 3 nv', own_move hn hf1 (fun g h1 h2 => own_far hn hb (by decide) (h2 ▸ h1)), own_move hs hf1 (fun g h1 h2 => own_far hs hb (by decide) (h2 ▸ h1)), own_move he hf1 (fun g h1 h2 => own_far he hb (by decide) (h2 ▸ h1)), own_move ho hf1 (fun g h1 h2 => own_far ho hb (by decide) (h2 ▸ h1)), ?_, h.eo, h.hR⟩, ?_⟩
  · intro g h1 h2
    rcases hat g h1 with h3 | h3
    · exact h.ns g h3 h2
    · have := (own_type h.hs h2).2.1
      omega
  · exact (hf.mono (S' := Ge B) (fun k _ h1 => (own_type h.hn h1).1)).then hf1 (fun k _ h1 => by cases h1; exact h.hR)
/-- Another slice for the states to go on from. -/
theorem SV.setOpn (h : SV w B R MB s p nv sv ev ov e spr) {w1 : World} (hf : Frm (fun k => ov.ownBlock = some k) w w1) {ov' : Value} (opn : List Nat) (ho : w1.ownsRow B 3 1 ov' opn.length (opn.reverse.map iC)) (hat : ∀ g, ov'.ownBlock = some g → ov.ownBlock = some g ∨ w.heap.size ≤ g) :
    SV (w1.setCell ⟨R, 6, none⟩ ov') B R MB s p nv sv ev ov' { e with opn := opn } spr ∧ Frm (Ge B) w (w1.setCell ⟨R, 6, none⟩ ov') := by
  have hR := own_far h.ho h.box (by decide)
  have hb := h.box.frm hf hR
  have hs := own_move h.hs hf (fun g h1 h2 => own_apart h.ho h.hs (by decide) h2 h1)
  have he := own_move h.he hf (fun g h1 h2 => h.eo g h2 h1)
  have hn := own_move h.hn hf (fun g h1 h2 => own_apart h.ho h.hn (by decide) h2 h1)
  have hf1 : Frm (At R) w1 (w1.setCell ⟨R, 6, none⟩ ov') := Frm.setCell (Frm.refl _ _) ⟨R, 6, none⟩ _ (fun _ => rfl)
  have hlt := hf.size
  refine ⟨⟨hb.set 6 ov', own_move hn hf1 (fun g h1 h2 => own_far hn hb (by decide) (h2 ▸ h1)), own_move hs hf1 (fun g h1 h2 => own_far hs hb (by decide) (h2 ▸ h1)), own_move he hf1 (fun g h1 h2 => own_far he hb (by decide) (h2 ▸ h1)), own_move ho hf1 (fun g h1 h2 => own_far ho hb (by decide) (h2 ▸ h1)), h.ns, ?_, h.hR⟩, ?_⟩
  · intro g h1 h2
    rcases hat g h1 with h3 | h3
    · exact h.eo g h3 h2
    · have := (own_type h.he h2).2.1
      omega
  · exact (hf.mono (S' := Ge B) (fun k _ h1 => (own_type h.ho h1).1)).then hf1 (fun k _ h1 => by cases h1; exact h.hR)
/-- Blocks that are new, or draws. -/
theorem SV.no (h : SV w B R MB s p nv sv ev ov e spr) {w1 : World} (hf : Frm No w w1) : SV w1 B R MB s p nv sv ev ov e spr :=
  ⟨h.box.frm hf id, own_move h.hn hf (fun _ _ => id), own_move h.hs hf (fun _ _ => id), own_move h.he hf (fun _ _ => id), own_move h.ho hf (fun _ _ => id), h.ns, h.eo, h.hR⟩
theorem SV.found (h : SV w B R MB s p nv sv ev ov e spr) (b : Nat) :
    SV (((w.setCell ⟨R, 7, none⟩ (.bool true)).setCell ⟨R, 8, none⟩ (.int .i64 (b : Int))).setCell ⟨R, 9, none⟩ (.int .i64 (p : Int))) B R MB s p nv sv ev ov { e with fd := true, rs := b, re := p } spr ∧
    Frm (Ge B) w (((w.setCell ⟨R, 7, none⟩ (.bool true)).setCell ⟨R, 8, none⟩ (.int .i64 (b : Int))).setCell ⟨R, 9, none⟩ (.int .i64 (p : Int))) := by
  have hf1 : Frm (At R) w (((w.setCell ⟨R, 7, none⟩ (.bool true)).setCell ⟨R, 8, none⟩ (.int .i64 (b : Int))).setCell ⟨R, 9, none⟩ (.int .i64 (p : Int))) :=
    (((Frm.refl (At R) w).setCell ⟨R, 7, none⟩ _ (fun _ => rfl)).setCell ⟨R, 8, none⟩ _ (fun _ => rfl)).setCell ⟨R, 9, none⟩ _ (fun _ => rfl)
  exact ⟨⟨((h.box.set 7 _).set 8 _).set 9 _, own_move h.hn hf1 (fun g h1 h2 => own_far h.hn h.box (by decide) (h2 ▸ h1)), own_move h.hs hf1 (fun g h1 h2 => own_far h.hs h.box (by decide) (h2 ▸ h1)), own_move h.he hf1 (fun g h1 h2 => own_far h.he h.box (by decide) (h2 ▸ h1)), own_move h.ho hf1 (fun g h1 h2 => own_far h.ho h.box (by decide) (h2 ▸ h1)), h.ns, h.eo, h.hR⟩,
    hf1.mono (fun k _ h1 => by cases h1; exact h.hR)⟩
end

section
variable (w : World) (B R MB : Nat) (s : ByteArray) (p : Nat) (sv ev : Value) (e : E) (spr : List (Nat × Nat)) (M : Nm) (f : Nat → Bool) (em : Bool) (SB cap : Nat)
variable (id b : Nat)

/-- What a call of visit leaves. -/
def VisitPost (e2 : E) (en : Ending) (w' : World) : Prop := en = .returned (.tuple #[]) ∧ SW w' B R MB s p sv ev e2 spr ∧ Frm (Ge B) w w'

theorem visit_acc (h : SW w B R MB s p sv ev e spr) (hM : MachW w B MB M f em SB cap) (hB : B ≤ w.heap.size) (hst : M.sts[id]? = some .acc) :
    Calls Tryz.prog 117 #[.pointer (some ⟨R, 0, none⟩), .int .i64 (id : Int), .int .i64 (b : Int)] w (VisitPost w B R MB s p sv ev spr (visitF s.size p id b .acc e)) := by
  obtain ⟨nv, ov, h⟩ := h
  obtain ⟨r0, r1, r2, r3, r4, r5, r6, r7, r8, r9⟩ := h.cells
  have g7 := h.box.f 7
  have g8 := h.box.f 8
  have g9 := h.box.f 9
  have hc : w.cell? ⟨SB, id * 4, none⟩ = some (.int .i64 0) := hM.st id _ hst
  have m0 := hM.c0
  have hidn : id < M.sts.length := (List.getElem?_eq_some_iff.1 hst).1
  have hx0 : (0 : Int) ≤ (id : Int) := by omega
  have hx1 : (id : Int) < (M.sts.length : Int) := by omega
  have hn := hM.n
  have H := Lib.hid h
  clear h hM
  go_enter Tryz.func117, Tryz.ntmps117
  go_wp2
  refine bodyPost_end (v := .tuple #[]) (by simp [results, Tryz.results117, go_sem]) rfl ⟨rfl, ?_⟩
  obtain ⟨h1, h2⟩ := H.out.found b
  exact ⟨⟨nv, ov, h1⟩, h2⟩

set_option maxRecDepth 20000 in
set_option maxHeartbeats 1000000 in
theorem visit_take (h : SW w B R MB s p sv ev e spr) (hM : MachW w B MB M f em SB cap) (hB : B ≤ w.heap.size) (hb : e.now.length ≤ 1000000) (fs : Nat → Bool) (nx : Nat) (hst : M.sts[id]? = some (.take fs nx)) :
    Calls Tryz.prog 117 #[.pointer (some ⟨R, 0, none⟩), .int .i64 (id : Int), .int .i64 (b : Int)] w (VisitPost w B R MB s p sv ev spr (visitF s.size p id b (.take fs nx) e)) := by
  obtain ⟨nv, ov, h⟩ := h
  obtain ⟨r0, r1, r2, r3, r4, r5, r6, r7, r8, r9⟩ := h.cells
  have g3 := h.box.f 3
  have hc : w.cell? ⟨SB, id * 4, none⟩ = some (.int .i64 1) := (hM.st id _ hst).1
  have m0 := hM.c0
  have hidn : id < M.sts.length := (List.getElem?_eq_some_iff.1 hst).1
  have hx0 : (0 : Int) ≤ (id : Int) := by omega
  have hx1 : (id : Int) < (M.sts.length : Int) := by omega
  have hn := hM.n
  have H := Lib.hid h
  have hlen := thL_len e.now
  obtain ⟨i0, hi, hz0, hz1, hz2⟩ := info_parts info_th
  have hRlt := h.box.lt
  have hRne := own_far h.hn h.box (by decide)
  clear h hM
  go_enter Tryz.func117, Tryz.ntmps117
  go_wp2_with (refine wpList_append_lies _ rfl _ _ _ rfl B 163 i0 _ 2 16 Tryz.underlying145 hi hz0 hz1 hz2 rfl (by omega) nv e.now.length (thL e.now) rfl (World.ownsRow.alloc H.out.hn _) ⟨w.heap.size, 0, none⟩ 1 1 [.int .i64 (id : Int), .int .i64 (b : Int)] rfl rfl (World.news_of_block (heap_alloc_new w _)) (by simp [Value.oneCell']) (by omega) (by unfold maxLen; omega) (by omega) (by simp; omega) (w.heap.size + 1) (by simp) ?_; intro g gcap w1 hown1 hgrow hat hlt; have f3 : w1.frozen? ⟨R, 3, none⟩ = false := (hgrow.frozen_far _ (by simp; omega) (Ne.symm hRne)).trans (by exact (H.out.box.alloc _).f 3); have e3 : w1.cell? ⟨R, 3, none⟩ = some nv := (hgrow.cell_far _ (by simp; omega) (Ne.symm hRne)).trans (by exact (H.out.box.alloc _).cell 3))
  refine bodyPost_end (v := .tuple #[]) (by simp [results, Tryz.results117, go_sem]) rfl ⟨rfl, ?_⟩
  have hf : Frm (fun k => nv.ownBlock = some k) w w1 := ((Frm.refl _ w).alloc _).grown hgrow (fun k h _ => h)
  obtain ⟨h1, h2⟩ := H.out.setNow hf (nv' := .slice (some ⟨g, 0, none⟩) (e.now.length + 1) gcap) (e.now ++ [(id, b)]) (by
    rw [List.length_append, thL, List.flatMap_append]
    exact hown1) (fun g' h => by
      simp only [Value.ownBlock, Option.some.injEq] at h
      subst h
      exact hat.imp (fun h => h) (fun h => by omega))
  exact ⟨⟨_, ov, h1⟩, h2⟩
end
end Go.Proofs.YtbfekknhmjndaaaGreat.nfa

namespace Go.Proofs.YtbfekknhmjndaaaGreat.nfa
set_option linter.unusedVariables false set_option linter.unusedSimpArgs false
open Go.ChangeShapes Go.WideShapes Go.ChangeAt Go.RowKit Go.Proofs.YtbfekknhmjndaaaGreat.base
attribute [local go_sem ↓] Go.wp_at_zero Go.wp_at_succ
section
variable (w : World) (B R MB : Nat) (s : ByteArray) (p : Nat) (sv ev : Value) (e : E) (spr : List (Nat × Nat)) (M : Nm) (f : Nat → Bool) (em : Bool) (SB cap : Nat)
variable (id b : Nat)

set_option maxRecDepth 20000 in
set_option maxHeartbeats 2000000 in
theorem visit_fork (h : SW w B R MB s p sv ev e spr) (hM : MachW w B MB M f em SB cap) (hB : B ≤ w.heap.size) (hb : e.opn.length ≤ 10000000) (x y : Nat) (hst : M.sts[id]? = some (.fork x y)) :
    Calls Tryz.prog 117 #[.pointer (some ⟨R, 0, none⟩), .int .i64 (id : Int), .int .i64 (b : Int)] w (VisitPost w B R MB s p sv ev spr (visitF s.size p id b (.fork x y) e)) := by
  obtain ⟨nv, ov, h⟩ := h
  obtain ⟨r0, r1, r2, r3, r4, r5, r6, r7, r8, r9⟩ := h.cells
  have g6 := h.box.f 6
  have hc : w.cell? ⟨SB, id * 4, none⟩ = some (.int .i64 2) := (hM.st id _ hst).1
  have hc2 : w.cell? ⟨SB, id * 4 + 2, none⟩ = some (.int .i64 (x : Int)) := (hM.st id _ hst).2.1
  have hc3 : w.cell? ⟨SB, id * 4 + 3, none⟩ = some (.int .i64 (y : Int)) := (hM.st id _ hst).2.2
  have m0 := hM.c0
  have hidn : id < M.sts.length := (List.getElem?_eq_some_iff.1 hst).1
  have hx0 : (0 : Int) ≤ (id : Int) := by omega
  have hx1 : (id : Int) < (M.sts.length : Int) := by omega
  have hn := hM.n
  have H := Lib.hid h
  have hlen : (e.opn.reverse.map iC).length = e.opn.length := by simp
  obtain ⟨i0, hi, hz0, hz1, hz2⟩ := info_parts info_int
  have hRlt := h.box.lt
  have hRne := own_far h.ho h.box (by decide)
  have HV := Lib.hid (show visitF s.size p id b (.fork x y) e = { e with opn := x :: y :: e.opn } from rfl)
  clear h hM
  go_enter Tryz.func117, Tryz.ntmps117
  go_wp2
  go_region_law ((refine step_append_lies _ (by rfl) _ _ _ (by rfl) B 3 i0 _ 1 8 Tryz.underlying130 hi hz0 hz1 hz2 (by rfl) (by omega) ov e.opn.length (e.opn.reverse.map iC) (by rfl) (by exact (H.out.ho.alloc _).drew) ⟨w.heap.size, 0, none⟩ 2 2 [.int .i64 (y : Int), .int .i64 (x : Int)] (by rfl) (by rfl) (World.news_of_block (cs := #[.int .i64 (y : Int), .int .i64 (x : Int)]) (t := 3) (fr := (0, 0)) (by exact heap_alloc_new w _)) (by simp [Value.oneCell']) (by omega) (by unfold maxLen; omega) (by omega) (by simp; omega) (w.heap.size + 1) (by simp) ?_; intro g gcap w1 hown1 hgrow hat hlt; have e6 : w1.cell? ⟨R, 6, none⟩ = some ov := (hgrow.cell_far _ (by simp; omega) (Ne.symm hRne)).trans (by exact (H.out.box.alloc _).cell 6); have f6 : w1.frozen? ⟨R, 6, none⟩ = false := (hgrow.frozen_far _ (by simp; omega) (Ne.symm hRne)).trans (by exact (H.out.box.alloc _).f 6)))
  all_goals
    refine bodyPost_end (v := .tuple #[]) (by simp [results, Tryz.results117, go_sem]) rfl ⟨rfl, ?_⟩
    have hf : Frm (fun k => ov.ownBlock = some k) w w1 := (((Frm.refl _ w).alloc _).drew).grown hgrow (fun k h _ => h)
    obtain ⟨h1, h2⟩ := H.out.setOpn hf (ov' := .slice (some ⟨g, 0, none⟩) (e.opn.length + 2) gcap) (x :: y :: e.opn) (by
      have e1 : (x :: y :: e.opn : List Nat).length = e.opn.length + 2 := by simp
      have e2 : (x :: y :: e.opn : List Nat).reverse.map iC = e.opn.reverse.map iC ++ [.int .i64 (y : Int), .int .i64 (x : Int)] := by simp [iC]
      rw [e1, e2]
      exact hown1) (fun g' h => by
        simp only [Value.ownBlock, Option.some.injEq] at h
        subst h
        exact hat.imp (fun h => h) (fun h => by omega))
    rw [HV.out]
    exact ⟨⟨nv, _, h1⟩, h2⟩

set_option maxRecDepth 20000 in
set_option maxHeartbeats 2000000 in
theorem visit_bol (h : SW w B R MB s p sv ev e spr) (hM : MachW w B MB M f em SB cap) (hB : B ≤ w.heap.size) (hb : e.opn.length ≤ 10000000) (x : Nat) (hst : M.sts[id]? = some (.bol x)) (hp : p = 0) :
    Calls Tryz.prog 117 #[.pointer (some ⟨R, 0, none⟩), .int .i64 (id : Int), .int .i64 (b : Int)] w (VisitPost w B R MB s p sv ev spr (visitF s.size p id b (.bol x) e)) := by
  obtain ⟨nv, ov, h⟩ := h
  obtain ⟨r0, r1, r2, r3, r4, r5, r6, r7, r8, r9⟩ := h.cells
  have g6 := h.box.f 6
  have hc : w.cell? ⟨SB, id * 4, none⟩ = some (.int .i64 3) := (hM.st id _ hst).1
  have hc2 : w.cell? ⟨SB, id * 4 + 2, none⟩ = some (.int .i64 (x : Int)) := (hM.st id _ hst).2
  have hp0 : (p : Int) = 0 := by omega
  have m0 := hM.c0
  have hidn : id < M.sts.length := (List.getElem?_eq_some_iff.1 hst).1
  have hx0 : (0 : Int) ≤ (id : Int) := by omega
  have hx1 : (id : Int) < (M.sts.length : Int) := by omega
  have hn := hM.n
  have H := Lib.hid h
  have hlen : (e.opn.reverse.map iC).length = e.opn.length := by simp
  obtain ⟨i0, hi, hz0, hz1, hz2⟩ := info_parts info_int
  have hRlt := h.box.lt
  have hRne := own_far h.ho h.box (by decide)
  have HV := Lib.hid (show visitF s.size p id b (.bol x) e = { e with opn := x :: e.opn } from by rw [visitF, if_pos hp])
  clear h hM
  go_enter Tryz.func117, Tryz.ntmps117
  go_wp2
  go_region_law ((refine step_append_lies _ (by rfl) _ _ _ (by rfl) B 3 i0 _ 1 8 Tryz.underlying130 hi hz0 hz1 hz2 (by rfl) (by omega) ov e.opn.length (e.opn.reverse.map iC) (by rfl) (by exact (H.out.ho.alloc _).drew) ⟨w.heap.size, 0, none⟩ 1 1 [.int .i64 (x : Int)] (by rfl) (by rfl) (World.news_of_block (cs := #[.int .i64 (x : Int)]) (t := 3) (fr := (0, 0)) (by exact heap_alloc_new w _)) (by simp [Value.oneCell']) (by omega) (by unfold maxLen; omega) (by omega) (by simp; omega) (w.heap.size + 1) (by simp) ?_; intro g gcap w1 hown1 hgrow hat hlt; have e6 : w1.cell? ⟨R, 6, none⟩ = some ov := (hgrow.cell_far _ (by simp; omega) (Ne.symm hRne)).trans (by exact (H.out.box.alloc _).cell 6); have f6 : w1.frozen? ⟨R, 6, none⟩ = false := (hgrow.frozen_far _ (by simp; omega) (Ne.symm hRne)).trans (by exact (H.out.box.alloc _).f 6)))
  all_goals
    refine bodyPost_end (v := .tuple #[]) (by simp [results, Tryz.results117, go_sem]) rfl ⟨rfl, ?_⟩
    have hf : Frm (fun k => ov.ownBlock = some k) w w1 := (((Frm.refl _ w).alloc _).drew).grown hgrow (fun k h _ => h)
    obtain ⟨h1, h2⟩ := H.out.setOpn hf (ov' := .slice (some ⟨g, 0, none⟩) (e.opn.length + 1) gcap) (x :: e.opn) (by
      have e1 : (x :: e.opn : List Nat).length = e.opn.length + 1 := by simp
      have e2 : (x :: e.opn : List Nat).reverse.map iC = e.opn.reverse.map iC ++ [.int .i64 (x : Int)] := by simp [iC]
      rw [e1, e2]
      exact hown1) (fun g' h => by
        simp only [Value.ownBlock, Option.some.injEq] at h
        subst h
        exact hat.imp (fun h => h) (fun h => by omega))
    rw [HV.out]
    exact ⟨⟨nv, _, h1⟩, h2⟩

set_option maxRecDepth 20000 in
set_option maxHeartbeats 2000000 in
theorem visit_eol (h : SW w B R MB s p sv ev e spr) (hM : MachW w B MB M f em SB cap) (hB : B ≤ w.heap.size) (hb : e.opn.length ≤ 10000000) (x : Nat) (hst : M.sts[id]? = some (.eol x)) (hp : p = s.size) :
    Calls Tryz.prog 117 #[.pointer (some ⟨R, 0, none⟩), .int .i64 (id : Int), .int .i64 (b : Int)] w (VisitPost w B R MB s p sv ev spr (visitF s.size p id b (.eol x) e)) := by
  obtain ⟨nv, ov, h⟩ := h
  obtain ⟨r0, r1, r2, r3, r4, r5, r6, r7, r8, r9⟩ := h.cells
  have g6 := h.box.f 6
  have hc : w.cell? ⟨SB, id * 4, none⟩ = some (.int .i64 4) := (hM.st id _ hst).1
  have hc2 : w.cell? ⟨SB, id * 4 + 2, none⟩ = some (.int .i64 (x : Int)) := (hM.st id _ hst).2
  have hp0 : (p : Int) = (s.size : Int) := by omega
  have m0 := hM.c0
  have hidn : id < M.sts.length := (List.getElem?_eq_some_iff.1 hst).1
  have hx0 : (0 : Int) ≤ (id : Int) := by omega
  have hx1 : (id : Int) < (M.sts.length : Int) := by omega
  have hn := hM.n
  have H := Lib.hid h
  have hlen : (e.opn.reverse.map iC).length = e.opn.length := by simp
  obtain ⟨i0, hi, hz0, hz1, hz2⟩ := info_parts info_int
  have hRlt := h.box.lt
  have hRne := own_far h.ho h.box (by decide)
  have HV := Lib.hid (show visitF s.size p id b (.eol x) e = { e with opn := x :: e.opn } from by rw [visitF, if_pos hp])
  clear h hM
  go_enter Tryz.func117, Tryz.ntmps117
  go_wp2
  go_quiet (fail)
  go_wp2
  have H2 := Lib.hid (H.out.no ((Frm.refl No w).drewN nq))
  have HF2 := Lib.hid ((Frm.refl No w).drewN nq)
  have d2 : (w.drewN nq).cell? ⟨SB, id * 4 + 2, none⟩ = some (.int .i64 (x : Int)) := hc2
  have hsz2 : (w.drewN nq).heap.size = w.heap.size := rfl
  generalize w.drewN nq = w2 at H2 HF2 d2 hsz2 ⊢
  have k6 : w2.cell? ⟨R, 6, none⟩ = some ov := H2.out.box.cell 6
  have kf6 : w2.frozen? ⟨R, 6, none⟩ = false := H2.out.box.f 6
  have hRlt2 : R < w2.heap.size := H2.out.box.lt
  go_region_law ((refine step_append_lies _ (by rfl) _ _ _ (by rfl) B 3 i0 _ 1 8 Tryz.underlying130 hi hz0 hz1 hz2 (by rfl) (by omega) ov e.opn.length (e.opn.reverse.map iC) (by rfl) (by exact (H2.out.ho.alloc _).drew) ⟨w.heap.size, 0, none⟩ 1 1 [.int .i64 (x : Int)] (by rfl) (by rfl) (World.news_of_block (cs := #[.int .i64 (x : Int)]) (t := 3) (fr := (0, 0)) (by rw [← hsz2]; exact heap_alloc_new w2 _)) (by simp [Value.oneCell']) (by omega) (by unfold maxLen; omega) (by omega) (by simp; omega) (w.heap.size + 1) (by simp; omega) ?_; intro g gcap w1 hown1 hgrow hat hlt; have e6 : w1.cell? ⟨R, 6, none⟩ = some ov := (hgrow.cell_far _ (by simp; omega) (Ne.symm hRne)).trans (by exact (H2.out.box.alloc _).cell 6); have f6 : w1.frozen? ⟨R, 6, none⟩ = false := (hgrow.frozen_far _ (by simp; omega) (Ne.symm hRne)).trans (by exact (H2.out.box.alloc _).f 6)))
  all_goals
    refine bodyPost_end (v := .tuple #[]) (by simp [results, Tryz.results117, go_sem]) rfl ⟨rfl, ?_⟩
    have hf : Frm (fun k => ov.ownBlock = some k) w2 w1 := (((Frm.refl _ w2).alloc _).drew).grown hgrow (fun k h _ => h)
    obtain ⟨h1, h2⟩ := H2.out.setOpn hf (ov' := .slice (some ⟨g, 0, none⟩) (e.opn.length + 1) gcap) (x :: e.opn) (by
      have e1 : (x :: e.opn : List Nat).length = e.opn.length + 1 := by simp
      have e2 : (x :: e.opn : List Nat).reverse.map iC = e.opn.reverse.map iC ++ [.int .i64 (x : Int)] := by simp [iC]
      rw [e1, e2]
      exact hown1) (fun g' h => by
        simp only [Value.ownBlock, Option.some.injEq] at h
        subst h
        exact hat.imp (fun h => h) (fun h => by omega))
    rw [HV.out]
    exact ⟨⟨nv, _, h1⟩, (HF2.out.mono (fun _ _ h => h.elim)).trans h2⟩

theorem visit_bol_no (h : SW w B R MB s p sv ev e spr) (hM : MachW w B MB M f em SB cap) (hB : B ≤ w.heap.size) (x : Nat) (hst : M.sts[id]? = some (.bol x)) (hp : ¬ p = 0) :
    Calls Tryz.prog 117 #[.pointer (some ⟨R, 0, none⟩), .int .i64 (id : Int), .int .i64 (b : Int)] w (VisitPost w B R MB s p sv ev spr (visitF s.size p id b (.bol x) e)) := by
  obtain ⟨nv, ov, h⟩ := h
  obtain ⟨r0, r1, r2, r3, r4, r5, r6, r7, r8, r9⟩ := h.cells
  have hc : w.cell? ⟨SB, id * 4, none⟩ = some (.int .i64 3) := (hM.st id _ hst).1
  have m0 := hM.c0
  have hidn : id < M.sts.length := (List.getElem?_eq_some_iff.1 hst).1
  have hx0 : (0 : Int) ≤ (id : Int) := by omega
  have hx1 : (id : Int) < (M.sts.length : Int) := by omega
  have hpn : ((p : Int) == 0) = false := by simp; omega
  have hn := hM.n
  have H := Lib.hid h
  have HV := Lib.hid (show visitF s.size p id b (.bol x) e = e from by rw [visitF, if_neg hp])
  clear h hM
  go_enter Tryz.func117, Tryz.ntmps117
  go_wp2
  refine bodyPost_end (v := .tuple #[]) (by simp [results, Tryz.results117, go_sem]) rfl ⟨rfl, ?_⟩
  rw [HV.out]
  exact ⟨⟨nv, ov, H.out⟩, Frm.refl _ _⟩

theorem visit_eol_no (h : SW w B R MB s p sv ev e spr) (hM : MachW w B MB M f em SB cap) (hB : B ≤ w.heap.size) (x : Nat) (hst : M.sts[id]? = some (.eol x)) (hp : ¬ p = s.size) :
    Calls Tryz.prog 117 #[.pointer (some ⟨R, 0, none⟩), .int .i64 (id : Int), .int .i64 (b : Int)] w (VisitPost w B R MB s p sv ev spr (visitF s.size p id b (.eol x) e)) := by
  obtain ⟨nv, ov, h⟩ := h
  obtain ⟨r0, r1, r2, r3, r4, r5, r6, r7, r8, r9⟩ := h.cells
  have hc : w.cell? ⟨SB, id * 4, none⟩ = some (.int .i64 4) := (hM.st id _ hst).1
  have m0 := hM.c0
  have hidn : id < M.sts.length := (List.getElem?_eq_some_iff.1 hst).1
  have hx0 : (0 : Int) ≤ (id : Int) := by omega
  have hx1 : (id : Int) < (M.sts.length : Int) := by omega
  have hpn : ((p : Int) == (s.size : Int)) = false := by simp; omega
  have hn := hM.n
  have H := Lib.hid h
  have HV := Lib.hid (show visitF s.size p id b (.eol x) e = e from by rw [visitF, if_neg hp])
  clear h hM
  go_enter Tryz.func117, Tryz.ntmps117
  go_wp2
  go_quiet (fail)
  go_wp2
  refine bodyPost_end (v := .tuple #[]) (by simp [results, Tryz.results117, go_sem]) rfl ⟨rfl, ?_⟩
  rw [HV.out]
  exact ⟨⟨nv, ov, H.out.no ((Frm.refl No w).drewN nq)⟩, (Frm.refl _ w).drewN nq⟩

theorem visit_all (h : SW w B R MB s p sv ev e spr) (hM : MachW w B MB M f em SB cap) (hB : B ≤ w.heap.size) (hb1 : e.now.length ≤ 1000000) (hb : e.opn.length ≤ 10000000) (st : St) (hst : M.sts[id]? = some st) :
    Calls Tryz.prog 117 #[.pointer (some ⟨R, 0, none⟩), .int .i64 (id : Int), .int .i64 (b : Int)] w (VisitPost w B R MB s p sv ev spr (visitF s.size p id b st e)) := by
  cases st with
  | acc => exact visit_acc w B R MB s p sv ev e spr M f em SB cap id b h hM hB hst
  | take fs nx => exact visit_take w B R MB s p sv ev e spr M f em SB cap id b h hM hB hb1 fs nx hst
  | fork x y => exact visit_fork w B R MB s p sv ev e spr M f em SB cap id b h hM hB hb x y hst
  | bol x =>
    by_cases hp : p = 0
    · exact visit_bol w B R MB s p sv ev e spr M f em SB cap id b h hM hB hb x hst hp
    · exact visit_bol_no w B R MB s p sv ev e spr M f em SB cap id b h hM hB x hst hp
  | eol x =>
    by_cases hp : p = s.size
    · exact visit_eol w B R MB s p sv ev e spr M f em SB cap id b h hM hB hb x hst hp
    · exact visit_eol_no w B R MB s p sv ev e spr M f em SB cap id b h hM hB x hst hp
end
end Go.Proofs.YtbfekknhmjndaaaGreat.nfa
