/- atSimpleEnd, leaving, deletion, condition, takeElse, unless. block, forLoop. printed, printing, command, simple. -/
import Derived.Test.YtgbibfhacjjaeaaGreatSynZb

namespace Go.Proofs.YtgbibfhacjjaeaaGreat.syn
set_option maxRecDepth 20000 set_option linter.unusedVariables false set_option linter.unusedSimpArgs false
open Go.ChangeShapes Go.WideShapes Go.ChangeAt Go.RowKit Go.Proofs.YtgbibfhacjjaeaaGreat.base
open Go.Proofs.YtgbibfhacjjaeaaGreat.lexs (Tok kNl kNum kStr kEre kOp kName kFunc kWord kBuilt)

theorem PW.rest {w w2 : World} {R n : Nat} {s s2 : PS} {ra : Option Addr} {rc : Nat} (h : PWr w R n s ra rc) (h2 : PW w2 R n s2) (hf : Frm (At R) w w2) : PW (w2.setCell ⟨R, 0, none⟩ (.slice ra s.r.length rc)) R n { s2 with r := s.r } := by
  have k := h2
  obtain ⟨ra2, rc2, hb2, _⟩ := h2
  exact PW.to k ((Frm.refl (At R) w2).setCell ⟨R, 0, none⟩ _ (fun _ => rfl)) ra rc (PW.set0 (w' := w2) hb2 ra s.r.length rc { s2 with r := s.r } rfl ⟨rfl, rfl, rfl, rfl⟩) (h.2.other hf (fun g e _ => by cases e; exact ⟨_, _, h.1, by decide⟩))
theorem PW.set4 {w : World} {R n : Nat} {s : PS} (h : PW w R n s) (l : Int) : PW (w.setCell ⟨R, 4, none⟩ (.int .i64 l)) R n { s with l := l } := by
  have hf : Frm (At R) w (w.setCell ⟨R, 4, none⟩ (.int .i64 l)) := (Frm.refl (At R) w).setCell ⟨R, 4, none⟩ _ (fun _ => rfl)
  obtain ⟨ra, rc, hb, ht⟩ := h
  exact PW.to ⟨ra, rc, hb, ht⟩ hf ra rc (hb.set 4 (.int .i64 l)) ht
theorem PW.loops {w : World} {R n : Nat} {s : PS} (h : PW w R n s) : w.cell? ⟨R, 4, none⟩ = some (.int .i64 s.l) := by
  obtain ⟨ra, rc, hb⟩ := h.box
  exact hb.cell 4
theorem PW.frz {w : World} {R n : Nat} {s : PS} (h : PW w R n s) (o : Nat) : w.frozen? ⟨R, o, none⟩ = false := by
  obtain ⟨ra, rc, hb⟩ := h.box
  exact hb.f o
theorem PW.cell0 {w : World} {R n : Nat} {s : PS} (h : PW w R n s) : ∃ (a : Option Addr) (l c : Nat), w.cell? ⟨R, 0, none⟩ = some (.slice a l c) := by
  obtain ⟨ra, rc, hb⟩ := h.box
  exact ⟨_, _, _, hb.cell 0⟩
theorem frm_c (w : World) (R o : Nat) (v : Value) : Frm (At R) w (w.setCell ⟨R, o, none⟩ v) := (Frm.refl (At R) w).setCell ⟨R, o, none⟩ _ (fun _ => rfl)

/-- What a function answers that tells yes or no and reads nothing. -/
def Tells (w : World) (b : Bool) : Ending → World → Prop := fun e w' => e = .returned (.bool b) ∧ Frm No w w'

set_option maxHeartbeats 1000000 in
theorem atSimpleEnd_all (n : Nat) (s : PS) (W : World) (R : Nat) (h : PW W R n s) :
    Calls Tryz.prog 266 #[.pointer (some ⟨R, 0, none⟩)] W fun e w' => e = .returned (.bool (atSimpleEnd s)) ∧ Frm No W w' := by
  have HE := Lib.hid (fun W R (hw : PW W R n s) => atEnd_all W R n s hw)
  have HT := Lib.hid (fun W R (hw : PW W R n s) => at_b n s [o_rbrace, o_rpar] (by decide) _ rfl W R hw)
  have HH := Lib.hid h
  unfold atSimpleEnd
  generalize atOp s [o_rbrace, o_rpar] = y at *
  clear h
  cases hc : atEnd s
  · rw [hc] at HE
    clear hc
    go_enter Tryz.func266, Tryz.ntmps266
    go_wp2_with (first | (go_at_call 106; go_must (refine (HE.out _ _ HH.out).mono ?_; rintro e w1 ⟨rfl, hf1⟩; have HF1 := Lib.hid hf1; clear hf1)) | (go_at_call 143; go_must (refine (HT.out _ _ (HH.out.move (HF1.out.trans (by (repeat (first | exact Frm.refl _ _ | assumption | refine Frm.alloc ?_ _ | refine Frm.drew ?_))))) _ (OpsR.one _ _ _ rfl)).mono ?_; rintro e w2 ⟨rfl, hf2⟩; have HF2 := Lib.hid (HF1.out.trans (Frm.trans (by (repeat (first | exact Frm.refl _ _ | assumption | refine Frm.alloc ?_ _ | refine Frm.drew ?_))) hf2)); clear hf2)))
    go_ret
    exact ⟨rfl, HF2.out⟩
  · rw [hc] at HE
    clear hc
    go_enter Tryz.func266, Tryz.ntmps266
    go_wp2_with (first | (go_at_call 106; go_must (refine (HE.out _ _ HH.out).mono ?_; rintro e w1 ⟨rfl, hf1⟩; have HF1 := Lib.hid hf1; clear hf1)))
    go_ret
    exact ⟨rfl, HF1.out⟩

set_option maxHeartbeats 2000000 in
theorem leaving_all (n : Nat) (I : Inn) (hI : InC n I) (nm : B) (W : World) (R : Nat) (s : PS) (h : PW W R n s) :
    Calls Tryz.prog 262 #[.pointer (some ⟨R, 0, none⟩), .string ⟨nm.toArray⟩] W (Ans W R n (leaving nm I s)) := by
  revert W
  intro w h
  have HS0 := Lib.hid (St.init h)
  have HE := Lib.hid (fun W R (hw : PW W R n s) => atSimpleEnd_all n s W R hw)
  have HI := Lib.hid (fun W R (hw : PW W R n s) => hI.expr W R s hw)
  unfold leaving
  generalize I .expr s = q at *
  obtain ⟨⟨o, u, k⟩, s1⟩ := q
  clear h hI
  cases hc : atSimpleEnd s
  · rw [hc] at HE
    rw [if_neg (by decide)]
    clear hc
    go_enter Tryz.func262, Tryz.ntmps262
    go_wp2_with (first | ((have hz := HS2; clear hz; go_at_call 110; go_must (refine (node_all _ _ _ _ _ _).mono ?_; rintro e w3 ⟨rfl, hf⟩; have HK3 := Lib.hid (kids1e HK2.out (St.size (Hid.out HS2)) (Frm.trans (by (repeat (first | exact Frm.refl _ _ | assumption | refine Frm.alloc ?_ _ | refine Frm.drew ?_))) hf)); have HS3 := Lib.hid (St.move (Hid.out HS2) (Frm.trans (by (repeat (first | exact Frm.refl _ _ | assumption | refine Frm.alloc ?_ _ | refine Frm.drew ?_))) hf)); clear hf; (have x0 := Box.cell (St.box (Hid.out HS3)) 0; have x1 := Box.cell (St.box (Hid.out HS3)) 1; have x2 := Box.cell (St.box (Hid.out HS3)) 2; have y0 := Box.f (St.box (Hid.out HS3)) 0; have y1 := Box.f (St.box (Hid.out HS3)) 1; have y2 := Box.f (St.box (Hid.out HS3)) 2)))) | ((have hz := HS1; clear hz; go_at_call 147; go_must (refine (Hid.out HI _ _ ((St.pw (Hid.out HS1)).move (by (repeat (first | exact Frm.refl _ _ | assumption | refine Frm.alloc ?_ _ | refine Frm.drew ?_))))).mono ?_; rintro e w2 ⟨a, c, rfl, hk, hp, hf⟩; dsimp only at hk hp; have HS2 := Lib.hid (St.go (Hid.out HS1) (Frm.trans (by (repeat (first | exact Frm.refl _ _ | assumption | refine Frm.alloc ?_ _ | refine Frm.drew ?_))) hf) hp); have HK2 := Lib.hid (St.new (Hid.out HS1) (by (repeat (first | exact Frm.refl _ _ | assumption | refine Frm.alloc ?_ _ | refine Frm.drew ?_))) hk); clear hp hf hk))) | ((have hz := HS0; clear hz; go_at_call 266; go_must (refine (Hid.out HE _ _ ((St.pw (Hid.out HS0)).move (by (repeat (first | exact Frm.refl _ _ | assumption | refine Frm.alloc ?_ _ | refine Frm.drew ?_))))).mono ?_; rintro e w1 ⟨rfl, hf⟩; have HS1 := Lib.hid (St.move (Hid.out HS0) (Frm.trans (by (repeat (first | exact Frm.refl _ _ | assumption | refine Frm.alloc ?_ _ | refine Frm.drew ?_))) hf)); clear hf))))
    (have hB := (set3 (St.box (Hid.out HS3)) (St.frm (Hid.out HS3)) (Nat.le_refl _) (.string ⟨nm.toArray⟩) (.string ⟨#[]⟩) (.slice (some ⟨w2.heap.size, 0, none⟩) 1 1)).1; have hM := set3m (w1 := w3) (b := w.heap.size) (.string ⟨nm.toArray⟩) (.string ⟨#[]⟩) (.slice (some ⟨w2.heap.size, 0, none⟩) 1 1); clear x0 x1 x2 y0 y1 y2; generalize World.setCell (World.setCell (World.setCell w3 ⟨w.heap.size, 0, none⟩ (.string ⟨nm.toArray⟩)) ⟨w.heap.size, 1, none⟩ (.string ⟨#[]⟩)) ⟨w.heap.size, 2, none⟩ (.slice (some ⟨w2.heap.size, 0, none⟩) 1 1) = X at *; have g0 := hB.cell 0; have g1 := hB.cell 1; have g2 := hB.cell 2; refine bodyPost_ret (v := .agg #[.string ⟨nm.toArray⟩, .string ⟨#[]⟩, (.slice (some ⟨w2.heap.size, 0, none⟩) 1 1)]) (by simp [results, Tryz.results262, go_sem, g0, g1, g2]) rfl ?_; exact St.fin (Hid.out HS3) (Hid.out HK3) hM)
  · rw [hc] at HE
    rw [if_pos rfl]
    clear hc HI
    go_enter Tryz.func262, Tryz.ntmps262
    go_wp2_with (first | ((have hz := HS1; clear hz; go_at_call 110; go_must (refine (node_all _ _ _ _ _ _).mono ?_; rintro e w3 ⟨rfl, hf⟩; have HK3 := Lib.hid (KV.nil w3 (fun g => w.heap.size + 1 ≤ g)); have HS3 := Lib.hid (St.move (Hid.out HS1) (Frm.trans (by (repeat (first | exact Frm.refl _ _ | assumption | refine Frm.alloc ?_ _ | refine Frm.drew ?_))) hf)); clear hf; (have x0 := Box.cell (St.box (Hid.out HS3)) 0; have x1 := Box.cell (St.box (Hid.out HS3)) 1; have x2 := Box.cell (St.box (Hid.out HS3)) 2; have y0 := Box.f (St.box (Hid.out HS3)) 0; have y1 := Box.f (St.box (Hid.out HS3)) 1; have y2 := Box.f (St.box (Hid.out HS3)) 2)))) | ((have hz := HS0; clear hz; go_at_call 266; go_must (refine (Hid.out HE _ _ ((St.pw (Hid.out HS0)).move (by (repeat (first | exact Frm.refl _ _ | assumption | refine Frm.alloc ?_ _ | refine Frm.drew ?_))))).mono ?_; rintro e w1 ⟨rfl, hf⟩; have HS1 := Lib.hid (St.move (Hid.out HS0) (Frm.trans (by (repeat (first | exact Frm.refl _ _ | assumption | refine Frm.alloc ?_ _ | refine Frm.drew ?_))) hf)); clear hf))))
    (have hB := (set3 (St.box (Hid.out HS3)) (St.frm (Hid.out HS3)) (Nat.le_refl _) (.string ⟨nm.toArray⟩) (.string ⟨#[]⟩) (.slice none 0 0)).1; have hM := set3m (w1 := w3) (b := w.heap.size) (.string ⟨nm.toArray⟩) (.string ⟨#[]⟩) (.slice none 0 0); clear x0 x1 x2 y0 y1 y2; generalize World.setCell (World.setCell (World.setCell w3 ⟨w.heap.size, 0, none⟩ (.string ⟨nm.toArray⟩)) ⟨w.heap.size, 1, none⟩ (.string ⟨#[]⟩)) ⟨w.heap.size, 2, none⟩ (.slice none 0 0) = X at *; have g0 := hB.cell 0; have g1 := hB.cell 1; have g2 := hB.cell 2; refine bodyPost_ret (v := .agg #[.string ⟨nm.toArray⟩, .string ⟨#[]⟩, (.slice none 0 0)]) (by simp [results, Tryz.results262, go_sem, g0, g1, g2]) rfl ?_; exact St.fin (Hid.out HS3) (Hid.out HK3) hM)

set_option maxHeartbeats 2000000 in
theorem deletion_all (n : Nat) (I : Inn) (hI : InC n I) : RC 261 n (deletion I) := by
  intro w R s h
  have HS0 := Lib.hid (St.init h)
  have HN := Lib.hid (fun W R (hw : PW W R n s) => name_all W R n s hw)
  unfold deletion
  generalize name s = q at *
  obtain ⟨t, s1⟩ := q
  simp only
  have HW := Lib.hid (fun W R (hw : PW W R n s1) => want_all W R n s1 hw o_lbr)
  generalize wantO o_lbr s1 = s2 at *
  have HC := Lib.hid (fun W R (hw : PW W R n s2) => closedList_all n I hI W R s2 hw o_rbr)
  generalize closedList o_rbr I s2 = q at *
  obtain ⟨f, s3⟩ := q
  clear h hI
  go_enter Tryz.func261, Tryz.ntmps261
  go_wp2_with (first | ((have hz := HS4; clear hz; go_at_call 110; go_must (refine (node_all _ _ _ _ _ _).mono ?_; rintro e w3 ⟨rfl, hf⟩; have HK3 := Lib.hid (KV.move HK4.out (Frm.trans (by (repeat (first | exact Frm.refl _ _ | assumption | refine Frm.alloc ?_ _ | refine Frm.drew ?_))) hf)); have HS3 := Lib.hid (St.move (Hid.out HS4) (Frm.trans (by (repeat (first | exact Frm.refl _ _ | assumption | refine Frm.alloc ?_ _ | refine Frm.drew ?_))) hf)); clear hf; (have x0 := Box.cell (St.box (Hid.out HS3)) 0; have x1 := Box.cell (St.box (Hid.out HS3)) 1; have x2 := Box.cell (St.box (Hid.out HS3)) 2; have y0 := Box.f (St.box (Hid.out HS3)) 0; have y1 := Box.f (St.box (Hid.out HS3)) 1; have y2 := Box.f (St.box (Hid.out HS3)) 2)))) | (have hz := HS2; clear hz; go_at_call 269; go_must (refine (HC.out _ _ ((St.pw (Hid.out HS2)).move (by (repeat (first | exact Frm.refl _ _ | assumption | refine Frm.alloc ?_ _ | refine Frm.drew ?_))))).mono ?_; rintro e w4 ⟨a, c, rfl, hk, hp, hf⟩; have HS4 := Lib.hid (St.go (Hid.out HS2) (Frm.trans (by (repeat (first | exact Frm.refl _ _ | assumption | refine Frm.alloc ?_ _ | refine Frm.drew ?_))) hf) hp); have HK4 := Lib.hid (St.new (Hid.out HS2) (by (repeat (first | exact Frm.refl _ _ | assumption | refine Frm.alloc ?_ _ | refine Frm.drew ?_))) hk.kv); clear hk hp hf)) | ((have hz := HS1; clear hz; go_at_call 145; go_must (refine (Hid.out HW _ _ ((St.pw (Hid.out HS1)).move (by (repeat (first | exact Frm.refl _ _ | assumption | refine Frm.alloc ?_ _ | refine Frm.drew ?_))))).mono ?_; rintro e w2 ⟨rfl, hp, hf⟩; have HS2 := Lib.hid (St.go (Hid.out HS1) (Frm.trans (by (repeat (first | exact Frm.refl _ _ | assumption | refine Frm.alloc ?_ _ | refine Frm.drew ?_))) hf) hp); clear hp hf))) | ((have hz := HS0; clear hz; go_at_call 149; go_must (refine (Hid.out HN _ _ ((St.pw (Hid.out HS0)).move (by (repeat (first | exact Frm.refl _ _ | assumption | refine Frm.alloc ?_ _ | refine Frm.drew ?_))))).mono ?_; rintro e w1 ⟨rfl, hp, hf⟩; have HS1 := Lib.hid (St.go (Hid.out HS0) (Frm.trans (by (repeat (first | exact Frm.refl _ _ | assumption | refine Frm.alloc ?_ _ | refine Frm.drew ?_))) hf) hp); clear hp hf))))
  (have hB := (set3 (St.box (Hid.out HS3)) (St.frm (Hid.out HS3)) (Nat.le_refl _) (.string ⟨#[100, 101, 108, 101, 116, 101]⟩) (.string ⟨t.toArray⟩) (.slice a f.len c)).1; have hM := set3m (w1 := w3) (b := w.heap.size) (.string ⟨#[100, 101, 108, 101, 116, 101]⟩) (.string ⟨t.toArray⟩) (.slice a f.len c); clear x0 x1 x2 y0 y1 y2; generalize World.setCell (World.setCell (World.setCell w3 ⟨w.heap.size, 0, none⟩ (.string ⟨#[100, 101, 108, 101, 116, 101]⟩)) ⟨w.heap.size, 1, none⟩ (.string ⟨t.toArray⟩)) ⟨w.heap.size, 2, none⟩ (.slice a f.len c) = X at *; have g0 := hB.cell 0; have g1 := hB.cell 1; have g2 := hB.cell 2; refine bodyPost_ret (v := .agg #[.string ⟨#[100, 101, 108, 101, 116, 101]⟩, .string ⟨t.toArray⟩, (.slice a f.len c)]) (by simp [results, Tryz.results261, go_sem, g0, g1, g2]) rfl ?_; exact St.fin (Hid.out HS3) (Hid.out HK3) hM)

set_option maxHeartbeats 2000000 in
theorem condition_all (n : Nat) (I : Inn) (hI : InC n I) : RC 198 n (condition I) := by
  intro w R s h
  have HS0 := Lib.hid (St.init h)
  have HW := Lib.hid (fun W R (hw : PW W R n s) => want_all W R n s hw o_lpar)
  unfold condition
  generalize wantO o_lpar s = s1 at *
  have HI := Lib.hid (fun W R (hw : PW W R n s1) => hI.expr W R s1 hw)
  generalize I .expr s1 = q at *
  obtain ⟨⟨o, u, k⟩, s2⟩ := q
  have HW2 := Lib.hid (fun W R (hw : PW W R n s2) => want_all W R n s2 hw o_rpar)
  clear h hI
  go_enter Tryz.func198, Tryz.ntmps198
  go_wp2_with (first | ((have hz := HS2; clear hz; go_at_call 145; go_must (refine (Hid.out HW2 _ _ ((St.pw (Hid.out HS2)).move (by (repeat (first | exact Frm.refl _ _ | assumption | refine Frm.alloc ?_ _ | refine Frm.drew ?_))))).mono ?_; rintro e w3 ⟨rfl, hp, hf⟩; have HS3 := Lib.hid (St.go (Hid.out HS2) (Frm.trans (by (repeat (first | exact Frm.refl _ _ | assumption | refine Frm.alloc ?_ _ | refine Frm.drew ?_))) hf) hp); clear hp hf)); have HK3 := Lib.hid (St.k1 (Hid.out HS3)); (have x0 := Box.cell (St.box (Hid.out HS3)) 0; have x1 := Box.cell (St.box (Hid.out HS3)) 1; have x2 := Box.cell (St.box (Hid.out HS3)) 2; have y0 := Box.f (St.box (Hid.out HS3)) 0; have y1 := Box.f (St.box (Hid.out HS3)) 1; have y2 := Box.f (St.box (Hid.out HS3)) 2); (have l0 := Box.cell (St.b1 (Hid.out HS3)) 0; have l1 := Box.cell (St.b1 (Hid.out HS3)) 1; have l2 := Box.cell (St.b1 (Hid.out HS3)) 2; have hll := Box.lt (St.b1 (Hid.out HS3)))) | ((have hz := HS1; clear hz; go_at_call 147; go_must (refine (Hid.out HI _ _ ((St.pw (Hid.out HS1)).move (by (repeat (first | exact Frm.refl _ _ | assumption | refine Frm.alloc ?_ _ | refine Frm.drew ?_))))).mono ?_; rintro e w2 ⟨a, c, rfl, hk, hp, hf⟩; dsimp only at hk hp; have HS2' := Lib.hid (St.go (Hid.out HS1) (Frm.trans (by (repeat (first | exact Frm.refl _ _ | assumption | refine Frm.alloc ?_ _ | refine Frm.drew ?_))) hf) hp); have HK2 := Lib.hid (St.new (Hid.out HS1) (by (repeat (first | exact Frm.refl _ _ | assumption | refine Frm.alloc ?_ _ | refine Frm.drew ?_))) hk); clear hp hf hk)); have HS2 := Lib.hid (St.nd (Hid.out HS2') o u k HK2.out)) | ((have hz := HS0; clear hz; go_at_call 145; go_must (refine (Hid.out HW _ _ ((St.pw (Hid.out HS0)).move (by (repeat (first | exact Frm.refl _ _ | assumption | refine Frm.alloc ?_ _ | refine Frm.drew ?_))))).mono ?_; rintro e w1 ⟨rfl, hp, hf⟩; have HS1 := Lib.hid (St.go (Hid.out HS0) (Frm.trans (by (repeat (first | exact Frm.refl _ _ | assumption | refine Frm.alloc ?_ _ | refine Frm.drew ?_))) hf) hp); clear hp hf))))
  (have hB := (set3 (St.box (Hid.out HS3)) (St.frm (Hid.out HS3)) (Nat.le_refl _) (.string ⟨o.toArray⟩) (.string ⟨u.toArray⟩) (.slice a k.len c)).1; have hM := set3m (w1 := w3) (b := w.heap.size) (.string ⟨o.toArray⟩) (.string ⟨u.toArray⟩) (.slice a k.len c); clear x0 x1 x2 y0 y1 y2; generalize World.setCell (World.setCell (World.setCell w3 ⟨w.heap.size, 0, none⟩ (.string ⟨o.toArray⟩)) ⟨w.heap.size, 1, none⟩ (.string ⟨u.toArray⟩)) ⟨w.heap.size, 2, none⟩ (.slice a k.len c) = X at *; have g0 := hB.cell 0; have g1 := hB.cell 1; have g2 := hB.cell 2; refine bodyPost_ret (v := .agg #[.string ⟨o.toArray⟩, .string ⟨u.toArray⟩, (.slice a k.len c)]) (by simp [results, Tryz.results198, go_sem, g0, g1, g2]) rfl ?_; exact St.fin (Hid.out HS3) (Hid.out HK3) hM)

set_option maxHeartbeats 2000000 in
theorem takeElse_all (n : Nat) (s : PS) (W : World) (R : Nat) (h : PW W R n s) :
    Calls Tryz.prog 233 #[.pointer (some ⟨R, 0, none⟩)] W fun e w' => e = .returned (.bool (takeElse s).1) ∧ PW w' R n (takeElse s).2 ∧ Frm (At R) W w' := by
  have HE := Lib.hid (skipEnds_all W R n s h)
  have HTT := fun hq W hw => takeWord_t n (skipEnds s) w_else hq W R hw
  have HTF := fun hq W hw => takeWord_f n (skipEnds s) w_else hq W R hw
  have HH := h
  obtain ⟨ra, rc, hr⟩ := h
  have HR := Lib.hid hr
  have hln := hr.1.lt
  have c0 : W.cell? ⟨R, 0, none⟩ = some (.slice ra s.r.length rc) := hr.1.cell 0
  have hs : takeElse s = if isWord (skipEnds s) w_else then (true, nextS (skipEnds s)) else (false, { skipEnds s with r := s.r }) := rfl
  rw [hs]
  clear hr hs
  cases hc : isWord (skipEnds s) w_else
  · have HT := Lib.hid (HTF hc)
    rw [if_neg (by decide)]
    clear hc HTT HTF
    generalize skipEnds s = s1 at *
    generalize hLL : s.r.length = LL at *
    go_enter Tryz.func233, Tryz.ntmps233
    go_wp2_with (first | (go_at_call 59; go_must (refine (HE.out).mono ?_; rintro e w1 ⟨rfl, hp, hf⟩; have HP1 := Lib.hid hp; have HF1 := Lib.hid hf; clear hp hf)) | (go_at_call 237; go_must (refine (HT.out _ HP1.out).mono ?_; rintro e w2 ⟨rfl, hp, hf⟩; have HP2 := Lib.hid hp; have HF2 := Lib.hid (HF1.out.trans hf); have z0 := PW.frz hp 0; have z1 := PW.lt hp; obtain ⟨ra2, l2, rc2, zc⟩ := PW.cell0 hp; clear hp hf)))
    go_ret
    refine ⟨rfl, ?_, HF2.out.trans (frm_c w2 R 0 _)⟩
    have k := PW.rest HR.out HP2.out HF2.out
    rw [hLL] at k
    exact k
  · have HT := Lib.hid (HTT hc)
    rw [if_pos rfl]
    clear hc HTT HTF
    generalize skipEnds s = s1 at *
    go_enter Tryz.func233, Tryz.ntmps233
    go_wp2_with (first | (go_at_call 59; go_must (refine (HE.out).mono ?_; rintro e w1 ⟨rfl, hp, hf⟩; have HP1 := Lib.hid hp; have HF1 := Lib.hid hf; clear hp hf)) | (go_at_call 237; go_must (refine (HT.out _ HP1.out).mono ?_; rintro e w2 ⟨rfl, hp, hf⟩; have HP2 := Lib.hid hp; have HF2 := Lib.hid (HF1.out.trans hf); clear hp hf)))
    go_ret
    exact ⟨rfl, HP2.out, HF2.out⟩

set_option maxHeartbeats 2000000 in
theorem unless_all (n : Nat) (I : Inn) (x : W) (f : FuncId) (hx : ∀ w R s, PW w R n s → Calls Tryz.prog 147 #[.pointer (some ⟨R, 0, none⟩), bnd f R] w (Ans w R n (I x s))) (t : B) (w : World) (R : Nat) (s : PS) (h : PW w R n s) :
    Calls Tryz.prog 235 #[.pointer (some ⟨R, 0, none⟩), .string ⟨t.toArray⟩, bnd f R] w (Ans w R n (unlessO t x I s)) := by
  have HS0 := Lib.hid (St.init h)
  have HA := Lib.hid (fun b hb => at_b n s [t] (by simp) b hb)
  have HI := Lib.hid (fun W R (hw : PW W R n s) => hx W R s hw)
  unfold unlessO
  generalize I x s = q at *
  obtain ⟨⟨o, u, k⟩, s1⟩ := q
  clear h hx
  cases hc : atOp s [t]
  · have HT := Lib.hid (HA.out _ hc)
    clear hc HA
    rw [if_neg (by decide)]
    go_enter Tryz.func235, Tryz.ntmps235
    go_wp2_with (first | ((have hz := HS1; clear hz; go_at_call 147; go_must (refine (Hid.out HI _ _ ((St.pw (Hid.out HS1)).move (by (repeat (first | exact Frm.refl _ _ | assumption | refine Frm.alloc ?_ _ | refine Frm.drew ?_))))).mono ?_; rintro e w3 ⟨a, c, rfl, hk, hp, hf⟩; dsimp only at hk hp; have HS3 := Lib.hid (St.go (Hid.out HS1) (Frm.trans (by (repeat (first | exact Frm.refl _ _ | assumption | refine Frm.alloc ?_ _ | refine Frm.drew ?_))) hf) hp); have HK3 := Lib.hid (St.new (Hid.out HS1) (by (repeat (first | exact Frm.refl _ _ | assumption | refine Frm.alloc ?_ _ | refine Frm.drew ?_))) hk); clear hp hf hk)); (have x0 := Box.cell (St.box (Hid.out HS3)) 0; have x1 := Box.cell (St.box (Hid.out HS3)) 1; have x2 := Box.cell (St.box (Hid.out HS3)) 2; have y0 := Box.f (St.box (Hid.out HS3)) 0; have y1 := Box.f (St.box (Hid.out HS3)) 1; have y2 := Box.f (St.box (Hid.out HS3)) 2)) | ((have hz := HS0; clear hz; go_at_call 143; go_must (refine (Hid.out HT _ _ ((St.pw (Hid.out HS0)).move (by (repeat (first | exact Frm.refl _ _ | assumption | refine Frm.alloc ?_ _ | refine Frm.drew ?_)))) _ (by first | exact OpsR.one _ _ _ rfl | exact OpsR.new _ _ _ _ rfl)).mono ?_; rintro e w1 ⟨rfl, hf⟩; have HS1 := Lib.hid (St.move (Hid.out HS0) (Frm.trans (by (repeat (first | exact Frm.refl _ _ | assumption | refine Frm.alloc ?_ _ | refine Frm.drew ?_))) hf)); clear hf))))
    (have hB := (set3 (St.box (Hid.out HS3)) (St.frm (Hid.out HS3)) (Nat.le_refl _) (.string ⟨o.toArray⟩) (.string ⟨u.toArray⟩) (.slice a k.len c)).1; have hM := set3m (w1 := w3) (b := w.heap.size) (.string ⟨o.toArray⟩) (.string ⟨u.toArray⟩) (.slice a k.len c); clear x0 x1 x2 y0 y1 y2; generalize World.setCell (World.setCell (World.setCell w3 ⟨w.heap.size, 0, none⟩ (.string ⟨o.toArray⟩)) ⟨w.heap.size, 1, none⟩ (.string ⟨u.toArray⟩)) ⟨w.heap.size, 2, none⟩ (.slice a k.len c) = X at *; have g0 := hB.cell 0; have g1 := hB.cell 1; have g2 := hB.cell 2; refine bodyPost_ret (v := .agg #[.string ⟨o.toArray⟩, .string ⟨u.toArray⟩, (.slice a k.len c)]) (by simp [results, Tryz.results235, go_sem, g0, g1, g2]) rfl ?_; exact St.fin (Hid.out HS3) (Hid.out HK3) hM)
  · have HT := Lib.hid (HA.out _ hc)
    clear hc HA HI
    rw [if_pos rfl]
    go_enter Tryz.func235, Tryz.ntmps235
    go_wp2_with (first | (have hz := HS1; clear hz; go_at_call 152; go_must (refine (none_all _).mono ?_; rintro e w3 ⟨rfl, hf⟩; have HS3 := Lib.hid (St.move (Hid.out HS1) (Frm.trans (by (repeat (first | exact Frm.refl _ _ | assumption | refine Frm.alloc ?_ _ | refine Frm.drew ?_))) hf)); have HK3 := Lib.hid (KV.nil w3 (fun g => w.heap.size + 1 ≤ g)); clear hf; (have x0 := Box.cell (St.box (Hid.out HS3)) 0; have x1 := Box.cell (St.box (Hid.out HS3)) 1; have x2 := Box.cell (St.box (Hid.out HS3)) 2; have y0 := Box.f (St.box (Hid.out HS3)) 0; have y1 := Box.f (St.box (Hid.out HS3)) 1; have y2 := Box.f (St.box (Hid.out HS3)) 2))) | ((have hz := HS0; clear hz; go_at_call 143; go_must (refine (Hid.out HT _ _ ((St.pw (Hid.out HS0)).move (by (repeat (first | exact Frm.refl _ _ | assumption | refine Frm.alloc ?_ _ | refine Frm.drew ?_)))) _ (by first | exact OpsR.one _ _ _ rfl | exact OpsR.new _ _ _ _ rfl)).mono ?_; rintro e w1 ⟨rfl, hf⟩; have HS1 := Lib.hid (St.move (Hid.out HS0) (Frm.trans (by (repeat (first | exact Frm.refl _ _ | assumption | refine Frm.alloc ?_ _ | refine Frm.drew ?_))) hf)); clear hf))))
    (have hB := (set3 (St.box (Hid.out HS3)) (St.frm (Hid.out HS3)) (Nat.le_refl _) (.string ⟨#[110, 111, 110, 101]⟩) (.string ⟨#[]⟩) (.slice none 0 0)).1; have hM := set3m (w1 := w3) (b := w.heap.size) (.string ⟨#[110, 111, 110, 101]⟩) (.string ⟨#[]⟩) (.slice none 0 0); clear x0 x1 x2 y0 y1 y2; generalize World.setCell (World.setCell (World.setCell w3 ⟨w.heap.size, 0, none⟩ (.string ⟨#[110, 111, 110, 101]⟩)) ⟨w.heap.size, 1, none⟩ (.string ⟨#[]⟩)) ⟨w.heap.size, 2, none⟩ (.slice none 0 0) = X at *; have g0 := hB.cell 0; have g1 := hB.cell 1; have g2 := hB.cell 2; refine bodyPost_ret (v := .agg #[.string ⟨#[110, 111, 110, 101]⟩, .string ⟨#[]⟩, (.slice none 0 0)]) (by simp [results, Tryz.results235, go_sem, g0, g1, g2]) rfl ?_; exact St.fin (Hid.out HS3) (Hid.out HK3) hM)
end Go.Proofs.YtgbibfhacjjaeaaGreat.syn

namespace Go.Proofs.YtgbibfhacjjaeaaGreat.syn
set_option maxRecDepth 20000 set_option linter.unusedVariables false set_option linter.unusedSimpArgs false
open Go.ChangeShapes Go.WideShapes Go.ChangeAt Go.RowKit Go.Proofs.YtgbibfhacjjaeaaGreat.base
open Go.Proofs.YtgbibfhacjjaeaaGreat.lexs (Tok kNl kNum kStr kEre kOp kName kFunc kWord kBuilt)

theorem PW.failed {w : World} {R n : Nat} {s : PS} (h : PW w R n s) : w.cell? ⟨R, 1, none⟩ = some (.bool s.f) := by
  obtain ⟨ra, rc, hb⟩ := h.box
  exact hb.cell 1
/-- A row of one's own takes one node more. -/
theorem St.more {w w4 w5 : World} {R n U g gcap c kc : Nat} {a ka : Option Addr} {f : Fo} {t : Nd} {s : PS} {C : List Value} {o : Obj} {L : List Sv} (hs : St w w4 R n s L) (hr : RowN w4 (w.heap.size + 1) a c f)
    (hk : KV w4 (fun k => U ≤ k) (.slice ka t.kids.len kc) t.kids) (hU : w.heap.size + 1 ≤ U) (hUr : ∀ g, (Value.slice a f.len c).ownBlock = some g → g < U) (hC : w4.ownsRow (w.heap.size + 1) tN 3 (.slice a f.len c) f.len C)
    (hown : w5.ownsRow (w.heap.size + 1) tN 3 (.slice (some ⟨g, 0, none⟩) (f.len + 1) gcap) (f.len + 1) (C ++ [.string ⟨t.op.toArray⟩, .string ⟨t.tx.toArray⟩, .slice ka t.kids.len kc]))
    (hgrow : (w4.alloc o).grownBy w5 (Value.slice a f.len c).ownBlock) (hat : (Value.slice a f.len c).ownBlock = some g ∨ g = w4.heap.size + 1) :
    RowN w5 (w.heap.size + 1) (some ⟨g, 0, none⟩) gcap (f.snoc t) ∧ St w w5 R n s [] := by
  have hA : Frm No w4 (w4.alloc o) := (Frm.refl No w4).alloc o
  have hG : Frm (fun k => (Value.slice a f.len c).ownBlock = some k) (w4.alloc o) w5 := (Frm.refl _ _).grown hgrow (fun k h _ => h)
  have hB : ∀ k, (Value.slice a f.len c).ownBlock = some k → w.heap.size + 1 ≤ k := fun k hk => by obtain ⟨cur, cap, _, hb, _⟩ := own_box hC hk; exact hb
  refine ⟨RowN.push hr (World.ownsRow.alloc hC o) hA (hk.move hA) hU hUr hown hG (hat.imp id (fun e => by rw [World.size_alloc]; omega)), ?_, ?_, ?_, trivial⟩
  · refine (hs.pw.move hA).other hG (fun k hk _ => ?_)
    obtain ⟨cur, cap, hb, _⟩ := own_box (World.ownsRow.alloc hC o) hk
    exact ⟨_, _, hb, by decide, by decide⟩
  · exact (hs.frm.alloc o).grown hgrow (fun k hk hl => by have := hB k hk; omega)
  · exact Box.frm (Box.alloc hs.box o) hG (fun e => by have := hB _ e; omega)

theorem blkL_fail (I : Inn) (k : Nat) (f : Fo) (q : PS) (h : q.f = true) : blkL I k f q = (f, q) := by
  cases k <;> simp [blkL, h]

set_option maxHeartbeats 8000000 in
theorem block_all (n : Nat) (I : Inn) (hI : InC n I) : RC 111 n (block I) := by
  intro w R s h
  obtain ⟨i0, hi, hz0, hz1, hz2⟩ := node_parts
  have HS0 := Lib.hid (St.init h)
  have HW := Lib.hid (fun W R (hw : PW W R n s) => want_all W R n s hw o_lbrace)
  unfold block
  generalize wantO o_lbrace s = s0 at *
  have HE := Lib.hid (fun W R (hw : PW W R n s0) => skipEnds_all W R n s0 hw)
  generalize skipEnds s0 = s1 at *
  have HI := Lib.hid (fun q W R (hw : PW W R n q) => hI.statement W R q hw)
  have HEq := Lib.hid (fun q W R (hw : PW W R n q) => skipEnds_all W R n q hw)
  have HLT := Lib.hid hI.lt
  generalize hres : blkL I (s1.r.length + 2) .nil s1 = res
  have HD := Lib.hid hres
  clear h hI hres
  go_enter Tryz.func111, Tryz.ntmps111
  go_wp2_with (first | ((have hz := HS1; clear hz; go_at_call 59; go_must (refine (Hid.out HE _ _ ((St.pw (Hid.out HS1)).move (by (repeat (first | exact Frm.refl _ _ | assumption | refine Frm.alloc ?_ _ | refine Frm.drew ?_))))).mono ?_; rintro e w2 ⟨rfl, hp, hf⟩; have HS2 := Lib.hid (St.go (Hid.out HS1) (Frm.trans (by (repeat (first | exact Frm.refl _ _ | assumption | refine Frm.alloc ?_ _ | refine Frm.drew ?_))) hf) hp); clear hp hf))) | ((have hz := HS0; clear hz; go_at_call 145; go_must (refine (Hid.out HW _ _ ((St.pw (Hid.out HS0)).move (by (repeat (first | exact Frm.refl _ _ | assumption | refine Frm.alloc ?_ _ | refine Frm.drew ?_))))).mono ?_; rintro e w1 ⟨rfl, hp, hf⟩; have HS1 := Lib.hid (St.go (Hid.out HS0) (Frm.trans (by (repeat (first | exact Frm.refl _ _ | assumption | refine Frm.alloc ?_ _ | refine Frm.drew ?_))) hf) hp); clear hp hf))))
  go_loopg [3] (s1.r.length + 2) (fun gf lv wx => ∃ (f : Fo) (q : PS) (a : Option Addr) (c : Nat), lv = .slice a f.len c ∧ RowN wx (w.heap.size + 1) a c f ∧ St w wx R n q [] ∧ blkL I gf f q = res ∧ 1 ≤ gf ∧ (q.f = false → q.r.length + 2 ≤ gf ∧ f.len + q.r.length ≤ 100000) ∧ f.len ≤ 100001)
  case atStart =>
    exact ⟨.nil, s1, none, 0, rfl, RowN.nil _ _, HS2.out, HD.out, by omega, fun _ => ⟨Nat.le_refl _, by have := PW.len (St.pw HS2.out); simp [Fo.len]; omega⟩, by simp [Fo.len]⟩
  case round =>
    obtain ⟨f, q, a, c, rfl, hr, hs, hl, hg, hq, hfl⟩ := hrel
    have HR := Lib.hid hr
    have HS3 := Lib.hid hs
    have HL := Lib.hid hl
    have HG := Lib.hid hg
    have HQ := Lib.hid hq
    have HFL := Lib.hid hfl
    have c1 := PW.failed (St.pw hs)
    have hRl := PW.lt (St.pw hs)
    clear hr hs hl hg hq hfl HS2 HD HW HE
    cases hqf : q.f
    · have hqq := HQ.out hqf
      obtain ⟨gf, rfl⟩ : ∃ m, gk = m + 1 := ⟨gk - 1, by omega⟩
      rw [hqf] at c1
      cases hc : isOp q o_rbrace
      · have HT := Lib.hid (take_f n q o_rbrace hc)
        have hls := HL.out
        rw [show blkL I (gf + 1) f q = blkL I gf (f.snoc (I .statement q).1) (skipEnds (I .statement q).2) from by rw [blkL, if_neg (by rw [hqf]; decide), if_neg (by rw [hc]; decide)]] at hls
        have HLS := Lib.hid hls
        have hlt := (Lt.trans (skipEnds_le _) (HLT.out .statement q)).2.1
        have hb1 : f.len + 1 ≤ 100001 := by omega
        have HSQ := Lib.hid (HI.out q)
        have HEQ := Lib.hid (HEq.out (I .statement q).2)
        have HLT2 := Lib.hid hlt
        have HQQ := Lib.hid hqq
        clear hls hlt hqq hc hqf HL HI HEq HLT
        generalize I .statement q = q1 at *
        obtain ⟨t1, s3⟩ := q1
        dsimp only at HLS HEQ HLT2
        go_wp2_with (first | (have hz := HS5; clear hz; go_at_call 59; go_must (refine (HEQ.out _ _ (St.pw (Hid.out HS5))).mono ?_; rintro e w6 ⟨rfl, hp, hf6⟩; have HS6 := Lib.hid (St.go (Hid.out HS5) hf6 hp); have HR6 := Lib.hid (RowN.at HR5.out (St.pw (Hid.out HS5)) hf6); clear hp hf6)) | (have hz := HS4; clear hz; go_at_call 147; go_must (refine (HSQ.out _ _ ((St.pw (Hid.out HS4)).move (by (repeat (first | exact Frm.refl _ _ | assumption | refine Frm.alloc ?_ _ | refine Frm.drew ?_))))).mono ?_; rintro e w7 ⟨a4, c4, rfl, hk4, hp4, hf4⟩; dsimp only at hk4 hp4; have HS7 := Lib.hid (St.go (Hid.out HS4) hf4 hp4); have HK4 := Lib.hid hk4; have HR4 := Lib.hid (HR3.out.at (St.pw (Hid.out HS4)) hf4); obtain ⟨C, hro, hro2⟩ := HR4.out; have HO := Lib.hid hro; have hsz4 := St.size (Hid.out HS7); have hsz3 := St.size (Hid.out HS4); clear hk4 hp4 hf4 hro hro2)) | (refine wpList_append_lies _ rfl _ _ _ rfl (w.heap.size + 1) tN i0 _ 3 56 Tryz.underlying23 hi hz0 hz1 hz2 rfl (by omega) (.slice a f.len c) f.len C rfl (World.ownsRow.alloc HO.out _) ⟨w7.heap.size, 0, none⟩ 1 1 [.string ⟨t1.op.toArray⟩, .string ⟨t1.tx.toArray⟩, .slice a4 t1.kids.len c4] rfl rfl (World.news_of_block (heap_alloc_new w7 _)) (by simp [Value.oneCell']) (by omega) (by unfold maxLen; omega) (by omega) (by simp; omega) (w7.heap.size + 1) (by simp) ?_; intro g gcap w5 hown5 hgrow hat hlt5; obtain ⟨hr5, hs5⟩ := St.more HS7.out HR4.out HK4.out hsz3 (fun g hg => RowN.ownlt HR3.out g hg) HO.out hown5 hgrow hat; have HS5 := Lib.hid hs5; have HR5 := Lib.hid hr5; clear hr5 hs5) | (have hz := HS3; clear hz; go_at_call 146; go_must (refine (HT.out _ _ ((St.pw (Hid.out HS3)).move (by (repeat (first | exact Frm.refl _ _ | assumption | refine Frm.alloc ?_ _ | refine Frm.drew ?_))))).mono ?_; rintro e w4 ⟨rfl, hp, hf4⟩; have HS4 := Lib.hid (St.go (Hid.out HS3) hf4 hp); have HR3 := Lib.hid (HR.out.at (St.pw HS3.out) hf4); clear hp hf4)))
        go_roundg gf
        case measure => omega
        case rel =>
          have e1 := HQQ.out
          have e2 := HLT2.out
          exact ⟨f.snoc t1, skipEnds s3, some ⟨g, 0, none⟩, gcap, by rw [Fo.len_snoc], HR6.out, HS6.out, HLS.out, by omega, fun h => by rw [Fo.len_snoc]; rcases e2 with e2 | e2; (rw [h] at e2; cases e2); omega, by rw [Fo.len_snoc]; omega⟩
      · have HT := Lib.hid (take_t n q o_rbrace hc)
        have hls := HL.out
        rw [show blkL I (gf + 1) f q = (f, nextS q) from by rw [blkL, if_neg (by rw [hqf]; decide), if_pos hc]] at hls
        subst hls
        clear hqq hc hqf HL HI HEq HLT
        go_wp2_with (first | (have hz := HS3; clear hz; go_at_call 146; go_must (refine (HT.out _ _ ((St.pw (Hid.out HS3)).move (by (repeat (first | exact Frm.refl _ _ | assumption | refine Frm.alloc ?_ _ | refine Frm.drew ?_))))).mono ?_; rintro e w4 ⟨rfl, hp, hf4⟩; have HS4 := Lib.hid (St.go (Hid.out HS3) hf4 hp); have HR3 := Lib.hid (HR.out.at (St.pw HS3.out) hf4); clear hp hf4)) | ((have hz := HS4; clear hz; go_at_call 110; go_must (refine (node_all _ _ _ _ _ _).mono ?_; rintro e w3 ⟨rfl, hf⟩; have HK3 := Lib.hid (KV.move (RowN.kv HR3.out) (Frm.trans (by (repeat (first | exact Frm.refl _ _ | assumption | refine Frm.alloc ?_ _ | refine Frm.drew ?_))) hf)); have HSZ := Lib.hid (St.move (Hid.out HS4) (Frm.trans (by (repeat (first | exact Frm.refl _ _ | assumption | refine Frm.alloc ?_ _ | refine Frm.drew ?_))) hf)); clear hf; (have x0 := Box.cell (St.box (Hid.out HSZ)) 0; have x1 := Box.cell (St.box (Hid.out HSZ)) 1; have x2 := Box.cell (St.box (Hid.out HSZ)) 2; have y0 := Box.f (St.box (Hid.out HSZ)) 0; have y1 := Box.f (St.box (Hid.out HSZ)) 1; have y2 := Box.f (St.box (Hid.out HSZ)) 2)))))
        (have hB := (set3 (St.box (Hid.out HSZ)) (St.frm (Hid.out HSZ)) (Nat.le_refl _) (.string ⟨#[98, 108, 111, 99, 107]⟩) (.string ⟨#[]⟩) (.slice a f.len c)).1; have hM := set3m (w1 := w3) (b := w.heap.size) (.string ⟨#[98, 108, 111, 99, 107]⟩) (.string ⟨#[]⟩) (.slice a f.len c); clear x0 x1 x2 y0 y1 y2; generalize World.setCell (World.setCell (World.setCell w3 ⟨w.heap.size, 0, none⟩ (.string ⟨#[98, 108, 111, 99, 107]⟩)) ⟨w.heap.size, 1, none⟩ (.string ⟨#[]⟩)) ⟨w.heap.size, 2, none⟩ (.slice a f.len c) = X at *; have g0 := hB.cell 0; have g1 := hB.cell 1; have g2 := hB.cell 2; refine bodyPost_ret (v := .agg #[.string ⟨#[98, 108, 111, 99, 107]⟩, .string ⟨#[]⟩, (.slice a f.len c)]) (by simp [results, Tryz.results111, go_sem, g0, g1, g2]) rfl ?_; exact St.fin (Hid.out HSZ) (Hid.out HK3) hM)
    · have hls := HL.out
      rw [blkL_fail I _ f q hqf] at hls
      subst hls
      rw [hqf] at c1
      clear hqf HL HI HEq HLT
      go_wp2_with ((have hz := HS3; clear hz; go_at_call 110; go_must (refine (node_all _ _ _ _ _ _).mono ?_; rintro e w3 ⟨rfl, hf⟩; have HK3 := Lib.hid (KV.move (RowN.kv HR.out) (Frm.trans (by (repeat (first | exact Frm.refl _ _ | assumption | refine Frm.alloc ?_ _ | refine Frm.drew ?_))) hf)); have HSZ := Lib.hid (St.move (Hid.out HS3) (Frm.trans (by (repeat (first | exact Frm.refl _ _ | assumption | refine Frm.alloc ?_ _ | refine Frm.drew ?_))) hf)); clear hf; (have x0 := Box.cell (St.box (Hid.out HSZ)) 0; have x1 := Box.cell (St.box (Hid.out HSZ)) 1; have x2 := Box.cell (St.box (Hid.out HSZ)) 2; have y0 := Box.f (St.box (Hid.out HSZ)) 0; have y1 := Box.f (St.box (Hid.out HSZ)) 1; have y2 := Box.f (St.box (Hid.out HSZ)) 2))))
      (have hB := (set3 (St.box (Hid.out HSZ)) (St.frm (Hid.out HSZ)) (Nat.le_refl _) (.string ⟨#[98, 108, 111, 99, 107]⟩) (.string ⟨#[]⟩) (.slice a f.len c)).1; have hM := set3m (w1 := w3) (b := w.heap.size) (.string ⟨#[98, 108, 111, 99, 107]⟩) (.string ⟨#[]⟩) (.slice a f.len c); clear x0 x1 x2 y0 y1 y2; generalize World.setCell (World.setCell (World.setCell w3 ⟨w.heap.size, 0, none⟩ (.string ⟨#[98, 108, 111, 99, 107]⟩)) ⟨w.heap.size, 1, none⟩ (.string ⟨#[]⟩)) ⟨w.heap.size, 2, none⟩ (.slice a f.len c) = X at *; have g0 := hB.cell 0; have g1 := hB.cell 1; have g2 := hB.cell 2; refine bodyPost_ret (v := .agg #[.string ⟨#[98, 108, 111, 99, 107]⟩, .string ⟨#[]⟩, (.slice a f.len c)]) (by simp [results, Tryz.results111, go_sem, g0, g1, g2]) rfl ?_; exact St.fin (Hid.out HSZ) (Hid.out HK3) hM)
end Go.Proofs.YtgbibfhacjjaeaaGreat.syn

namespace Go.Proofs.YtgbibfhacjjaeaaGreat.syn
set_option maxRecDepth 20000 set_option linter.unusedVariables false set_option linter.unusedSimpArgs false
open Go.ChangeShapes Go.WideShapes Go.ChangeAt Go.RowKit Go.Proofs.YtgbibfhacjjaeaaGreat.base
open Go.Proofs.YtgbibfhacjjaeaaGreat.lexs (Tok kNl kNum kStr kEre kOp kName kFunc kWord kBuilt)

set_option maxHeartbeats 8000000 in
theorem printed_all (n : Nat) (I : Inn) (hI : InC n I) : RL 267 n (printed I) := by
  intro w R s h
  have HH := Lib.hid h
  have HL := Lib.hid (fun q W (hw : PW W R n q) => list_all n I hI W R q hw)
  have HTT := fun hq W hw => take_t n s o_lpar hq W R hw
  have HTF := fun hq W hw => take_f n s o_lpar hq W R hw
  have hpw := h
  obtain ⟨ra, rc, hr⟩ := h
  have HR := Lib.hid hr
  have hln := hr.1.lt
  have c0 : w.cell? ⟨R, 0, none⟩ = some (.slice ra s.r.length rc) := hr.1.cell 0
  unfold printed
  clear hr
  cases hc : isOp s o_lpar
  · have HT := Lib.hid (HTF hc)
    rw [if_neg (by decide)]
    unfold sentList
    clear HTT HTF hc c0 HR
    have HL1 := Lib.hid (HL.out { s with s := true })
    generalize list I { s with s := true } = q at *
    obtain ⟨f, s1⟩ := q
    dsimp only
    clear HL hI hpw
    have c0 : ∃ (a : Option Addr) (l c : Nat), w.cell? ⟨R, 0, none⟩ = some (.slice a l c) := by
      obtain ⟨ra, rc, hb⟩ := HH.out.box
      exact ⟨_, _, _, hb.cell 0⟩
    obtain ⟨ra0, l0, rc0, c0⟩ := c0
    go_enter Tryz.func267, Tryz.ntmps267
    go_wp2_with (first | (have hz := HP2; clear hz; go_at_call 272; go_must (refine (HL1.out _ HP2.out).mono ?_; rintro e w2 ⟨a, c, rfl, hr2, hp2, hf2⟩; dsimp only at hr2 hp2; have HR2 := Lib.hid hr2; have HP3 := Lib.hid hp2; have HF3 := Lib.hid (HF2.out.trans hf2); have z0 := PW.frz hp2 5; have z1 := PW.lt hp2; have zc5 := PW.sends hp2; clear hr2 hp2 hf2)) | (go_at_call 146; go_must (refine (HT.out _ HH.out).mono ?_; rintro e w1 ⟨rfl, hp, hf⟩; have HP2 := Lib.hid (PW.set5 hp true); have HF2 := Lib.hid (hf.trans (frm_c w1 R 5 (.bool true))); have z0 := PW.frz hp 5; have z1 := PW.lt hp; have zc5 := PW.sends hp; clear hp hf)))
    go_ret
    have hsz : w.heap.size ≤ (w1.setCell ⟨R, 5, none⟩ (.bool true)).heap.size := HF2.out.size
    exact ⟨a, c, rfl, (HR2.out.at HP3.out (frm_c w2 R 5 (.bool false))).mono hsz, PW.set5 HP3.out false, HF3.out.trans (frm_c w2 R 5 (.bool false))⟩
  · have HT := Lib.hid (HTT hc)
    rw [if_pos rfl]
    clear HTT HTF hc
    have HC := Lib.hid (fun W (hw : PW W R n (nextS s)) => closedList_all n I hI W R (nextS s) hw o_rpar)
    generalize closedList o_rpar I (nextS s) = q at *
    obtain ⟨f, s2⟩ := q
    dsimp only
    have HPK := Lib.hid (fun W (hw : PW W R n s2) => peek_v n s2 W R hw)
    have HWD := Lib.hid (fun W => word_all W ⟨#[105, 110]⟩)
    have hm := eq_guard
    have HLx := Lib.hid (HL.out { s2 with r := s.r, s := true })
    unfold isWord sentList
    dsimp only
    generalize list I { s2 with r := s.r, s := true } = q at *
    obtain ⟨f1, s3⟩ := q
    dsimp only
    generalize peek s2 = T at *
    obtain ⟨pk, pt⟩ := T
    dsimp only at HPK
    have hq : ∀ W, (binOp .neq tT (.agg #[.string ⟨pk.toArray⟩, .string ⟨pt.toArray⟩]) (.agg #[.string ⟨#[119, 111, 114, 100]⟩, .string ⟨#[105, 110]⟩])).run Tryz.prog W = .ok (.bool (!((⟨pk, pt⟩ : Tok) == ⟨kWord, w_in⟩))) W := fun W => tok_neq ⟨pk, pt⟩ ⟨kWord, w_in⟩ W
    generalize ((⟨pk, pt⟩ : Tok) == ⟨kWord, w_in⟩) = y at *
    clear HL hI hpw HH
    cases hfl : s2.f
    · by_cases hlen : 1 < f.len
      · have hlb : decide ((1 : Int) < (f.len : Int)) = true := by rw [decide_eq_true_iff]; omega
        have hlp : (1 : Int) < (f.len : Int) := by omega
        cases y
        · rw [if_pos (by simp [hlen])]
          clear HLx
          go_enter Tryz.func267, Tryz.ntmps267
          go_wp2_with (first | (go_at_call 109; go_must (refine (HWD.out _).mono ?_; rintro e w5 ⟨rfl, hf⟩; have HF5 := Lib.hid (HF4.out.trans hf); clear hf)) | (go_at_call 108; go_must (refine (HPK.out _ HP3.out).mono ?_; rintro e w4 ⟨rfl, hf⟩; have HF4 := Lib.hid hf; clear hf)) | (go_at_call 269; go_must (refine (HC.out _ HP1.out).mono ?_; rintro e w3 ⟨a, c, rfl, hr2, hp2, hf2⟩; dsimp only at hr2 hp2; have HR3 := Lib.hid hr2; have HP3 := Lib.hid hp2; have HF3 := Lib.hid (HF1.out.trans hf2); have b1 := (PW.failed hp2).trans (by rw [hfl]); have z1 := PW.lt hp2; clear hr2 hp2 hf2)) | (go_at_call 146; go_must (refine (HT.out _ (show PW w R n s from ⟨ra, rc, HR.out⟩)).mono ?_; rintro e w1 ⟨rfl, hp, hf⟩; have HP1 := Lib.hid hp; have HF1 := Lib.hid hf; clear hp hf)))
          go_ret
          exact ⟨a, c, rfl, (HR3.out.move HF5.out).mono HF1.out.size, HP3.out.move HF5.out, HF3.out.trans (frm_no HF5.out)⟩
        · rw [if_neg (by simp)]
          go_enter Tryz.func267, Tryz.ntmps267
          go_wp2_with (first | (have hz := HPa; clear hz; go_at_call 272; go_must (refine (HLx.out _ HPa.out).mono ?_; rintro e w6 ⟨a6, c6, rfl, hr2, hp2, hf2⟩; dsimp only at hr2 hp2; have HR6 := Lib.hid hr2; have HP6 := Lib.hid hp2; have HF6 := Lib.hid (HFa.out.trans hf2); have z0 := PW.frz hp2 5; have z1 := PW.lt hp2; have zc5 := PW.sends hp2; clear hr2 hp2 hf2)) | (go_at_call 109; go_must (refine (HWD.out _).mono ?_; rintro e w5 ⟨rfl, hf⟩; have HF5 := Lib.hid (HF4.out.trans hf); have hp5 : PW w5 R n s2 := HP3.out.move HF5.out; have HPa := Lib.hid (PW.set5 (PW.rest HR.out hp5 (HF3.out.trans (frm_no HF5.out))) true); have HFa := Lib.hid ((HF3.out.trans (frm_no HF5.out)).trans ((frm_c w5 R 0 (.slice ra s.r.length rc)).trans (frm_c _ R 5 (.bool true)))); have z0 := PW.frz hp5 5; have z2 := PW.frz hp5 0; have z3 := PW.lt hp5; have zc5 := PW.sends hp5; obtain ⟨ra2, l2, rc2, zc0⟩ := PW.cell0 hp5; clear hp5; clear hf)) | (go_at_call 108; go_must (refine (HPK.out _ HP3.out).mono ?_; rintro e w4 ⟨rfl, hf⟩; have HF4 := Lib.hid hf; clear hf)) | (go_at_call 269; go_must (refine (HC.out _ HP1.out).mono ?_; rintro e w3 ⟨a, c, rfl, hr2, hp2, hf2⟩; dsimp only at hr2 hp2; have HP3 := Lib.hid hp2; have HF3 := Lib.hid (HF1.out.trans hf2); have b1 := (PW.failed hp2).trans (by rw [hfl]); have z1 := PW.lt hp2; skip; clear hr2 hp2 hf2)) | (go_at_call 146; go_must (refine (HT.out _ (show PW w R n s from ⟨ra, rc, HR.out⟩)).mono ?_; rintro e w1 ⟨rfl, hp, hf⟩; have HP1 := Lib.hid hp; have HF1 := Lib.hid hf; clear hp hf)))
          go_ret
          exact ⟨a6, c6, rfl, (HR6.out.at HP6.out (frm_c w6 R 5 (.bool false))).mono HFa.out.size, PW.set5 HP6.out false, HF6.out.trans (frm_c w6 R 5 (.bool false))⟩
      · have hlb : decide ((1 : Int) < (f.len : Int)) = false := by rw [decide_eq_false_iff_not]; omega
        have hlp : (f.len : Int) ≤ 1 := by omega
        rw [if_neg (by simp [hlen])]
        clear hlen
        go_enter Tryz.func267, Tryz.ntmps267
        go_wp2_with (first | (have hz := HPa; clear hz; go_at_call 272; go_must (refine (HLx.out _ HPa.out).mono ?_; rintro e w6 ⟨a6, c6, rfl, hr2, hp2, hf2⟩; dsimp only at hr2 hp2; have HR6 := Lib.hid hr2; have HP6 := Lib.hid hp2; have HF6 := Lib.hid (HFa.out.trans hf2); have z0 := PW.frz hp2 5; have z1 := PW.lt hp2; have zc5 := PW.sends hp2; clear hr2 hp2 hf2)) | (go_at_call 269; go_must (refine (HC.out _ HP1.out).mono ?_; rintro e w3 ⟨a, c, rfl, hr2, hp2, hf2⟩; dsimp only at hr2 hp2; have HP3 := Lib.hid hp2; have HF3 := Lib.hid (HF1.out.trans hf2); have b1 := (PW.failed hp2).trans (by rw [hfl]); have z1 := PW.lt hp2; have hp5 : PW w3 R n s2 := HP3.out; have HPa := Lib.hid (PW.set5 (PW.rest HR.out hp5 (HF3.out.trans (Frm.refl (At R) w3))) true); have HFa := Lib.hid ((HF3.out.trans (Frm.refl (At R) w3)).trans ((frm_c w3 R 0 (.slice ra s.r.length rc)).trans (frm_c _ R 5 (.bool true)))); have z0 := PW.frz hp5 5; have z2 := PW.frz hp5 0; have z3 := PW.lt hp5; have zc5 := PW.sends hp5; obtain ⟨ra2, l2, rc2, zc0⟩ := PW.cell0 hp5; clear hp5; clear hr2 hp2 hf2)) | (go_at_call 146; go_must (refine (HT.out _ (show PW w R n s from ⟨ra, rc, HR.out⟩)).mono ?_; rintro e w1 ⟨rfl, hp, hf⟩; have HP1 := Lib.hid hp; have HF1 := Lib.hid hf; clear hp hf)))
        go_ret
        exact ⟨a6, c6, rfl, (HR6.out.at HP6.out (frm_c w6 R 5 (.bool false))).mono HFa.out.size, PW.set5 HP6.out false, HF6.out.trans (frm_c w6 R 5 (.bool false))⟩
    · rw [if_pos (by simp)]
      clear HLx HPK HWD hq
      go_enter Tryz.func267, Tryz.ntmps267
      go_wp2_with (first | (go_at_call 269; go_must (refine (HC.out _ HP1.out).mono ?_; rintro e w3 ⟨a, c, rfl, hr2, hp2, hf2⟩; dsimp only at hr2 hp2; have HR3 := Lib.hid hr2; have HP3 := Lib.hid hp2; have HF3 := Lib.hid (HF1.out.trans hf2); have b1 := (PW.failed hp2).trans (by rw [hfl]); have z1 := PW.lt hp2; clear hr2 hp2 hf2)) | (go_at_call 146; go_must (refine (HT.out _ (show PW w R n s from ⟨ra, rc, HR.out⟩)).mono ?_; rintro e w1 ⟨rfl, hp, hf⟩; have HP1 := Lib.hid hp; have HF1 := Lib.hid hf; clear hp hf)))
      go_ret
      exact ⟨a, c, rfl, HR3.out.mono HF1.out.size, HP3.out, HF3.out⟩

end Go.Proofs.YtgbibfhacjjaeaaGreat.syn
