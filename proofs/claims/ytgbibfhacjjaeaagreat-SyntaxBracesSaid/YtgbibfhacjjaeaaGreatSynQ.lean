/- operand. operand: names; operand. stepAhead, stepped. -/
import Derived.Test.YtgbibfhacjjaeaaGreatSynK

namespace Go.Proofs.YtgbibfhacjjaeaaGreat.syn
set_option maxRecDepth 20000 set_option linter.unusedVariables false set_option linter.unusedSimpArgs false
open Go.ChangeShapes Go.WideShapes Go.ChangeAt Go.RowKit Go.Proofs.YtgbibfhacjjaeaaGreat.base
open Go.Proofs.YtgbibfhacjjaeaaGreat.lexs (Tok kNl kNum kStr kEre kOp kName kFunc kWord kBuilt)


set_option maxHeartbeats 2000000 in
theorem operand_lit (w : World) (R n : Nat) (s : PS) (h : PW w R n s) (k t : B) (hp : peek s = ⟨k, t⟩) (hk : k = kNum ∨ k = kStr ∨ k = kEre) :
    Calls Tryz.prog 287 #[.pointer (some ⟨R, 0, none⟩)] w (Ans w R n (⟨k, t, .nil⟩, nextS s)) := by
  have HH := Lib.hid h
  have HN := Lib.hid (fun W (hw : PW W R n s) => next_all W R n s hw)
  rw [hp] at HN
  have ht0 := tok_f0
  have ht1 := tok_f1
  clear h hp
  unfold kNum kStr kEre at hk
  rcases hk with rfl | rfl | rfl
  · go_enter Tryz.func287, Tryz.ntmps287
    go_wp2_with (first | (go_at_call 107; go_must (refine (HN.out _ (HH.out.move (by (repeat (first | exact Frm.refl _ _ | assumption | refine Frm.alloc ?_ _))))).mono ?_; rintro e w2 ⟨rfl, hp2, hf2⟩; have HP2 := Lib.hid hp2; have HF2 := Lib.hid (Frm.trans (show Frm (At R) w _ by (repeat (first | exact Frm.refl _ _ | assumption | refine Frm.alloc ?_ _))) hf2); have HX2 := Lib.hid (show Box w2 w.heap.size tN nd0 from Box.at (Box.new w tN nd0) (HH.out.move (by (repeat (first | exact Frm.refl _ _ | assumption | refine Frm.alloc ?_ _)))) hf2 (by decide)); have HK2 := Lib.hid (KV.nil w2 (fun g => w.heap.size + 1 ≤ g)); clear hp2 hf2)) | ((go_at_call 110; go_must (refine (node_all _ _ _ _ _ _).mono ?_; rintro e w3 ⟨rfl, hf3⟩; have hf3' : Frm No w2 w3 := Frm.trans (by (repeat (first | exact Frm.refl _ _ | assumption | refine Frm.alloc ?_ _))) hf3; have HK3 := Lib.hid (HK2.out.move hf3'); have HP3 := Lib.hid (HP2.out.move hf3'); have HX3 := Lib.hid (show Box w3 w.heap.size tN nd0 from Box.frm HX2.out hf3' id); have HF3 := Lib.hid (HF2.out.trans (hf3'.mono (S' := At R) (fun _ _ e => e.elim))); have x0 := Box.cell HX3.out 0; have x1 := Box.cell HX3.out 1; have x2 := Box.cell HX3.out 2; have y0 := Box.f HX3.out 0; have y1 := Box.f HX3.out 1; have y2 := Box.f HX3.out 2; clear hf3 hf3'))))
    (have hB := (set3 HX3.out HF3.out (Nat.le_refl _) (.string ⟨#[110, 117, 109]⟩) (.string ⟨t.toArray⟩) (.slice none 0 0)).1; have hM := set3m (w1 := w3) (b := w.heap.size) (.string ⟨#[110, 117, 109]⟩) (.string ⟨t.toArray⟩) (.slice none 0 0); clear x0 x1 x2 y0 y1 y2; generalize ((w3.setCell ⟨w.heap.size, 0, none⟩ (.string ⟨#[110, 117, 109]⟩)).setCell ⟨w.heap.size, 1, none⟩ (.string ⟨t.toArray⟩)).setCell ⟨w.heap.size, 2, none⟩ (.slice none 0 0) = X at *; have g0 := hB.cell 0; have g1 := hB.cell 1; have g2 := hB.cell 2; refine bodyPost_ret (v := .agg #[.string ⟨#[110, 117, 109]⟩, .string ⟨t.toArray⟩, (.slice none 0 0)]) (by simp [results, Tryz.results287, go_sem, g0, g1, g2]) rfl ?_; exact ans_end (q := (⟨[110, 117, 109], t, .nil⟩, nextS s)) HX3.out hM HK3.out HP3.out HF3.out)
  · go_enter Tryz.func287, Tryz.ntmps287
    go_wp2_with (first | (go_at_call 107; go_must (refine (HN.out _ (HH.out.move (by (repeat (first | exact Frm.refl _ _ | assumption | refine Frm.alloc ?_ _))))).mono ?_; rintro e w2 ⟨rfl, hp2, hf2⟩; have HP2 := Lib.hid hp2; have HF2 := Lib.hid (Frm.trans (show Frm (At R) w _ by (repeat (first | exact Frm.refl _ _ | assumption | refine Frm.alloc ?_ _))) hf2); have HX2 := Lib.hid (show Box w2 w.heap.size tN nd0 from Box.at (Box.new w tN nd0) (HH.out.move (by (repeat (first | exact Frm.refl _ _ | assumption | refine Frm.alloc ?_ _)))) hf2 (by decide)); have HK2 := Lib.hid (KV.nil w2 (fun g => w.heap.size + 1 ≤ g)); clear hp2 hf2)) | ((go_at_call 110; go_must (refine (node_all _ _ _ _ _ _).mono ?_; rintro e w3 ⟨rfl, hf3⟩; have hf3' : Frm No w2 w3 := Frm.trans (by (repeat (first | exact Frm.refl _ _ | assumption | refine Frm.alloc ?_ _))) hf3; have HK3 := Lib.hid (HK2.out.move hf3'); have HP3 := Lib.hid (HP2.out.move hf3'); have HX3 := Lib.hid (show Box w3 w.heap.size tN nd0 from Box.frm HX2.out hf3' id); have HF3 := Lib.hid (HF2.out.trans (hf3'.mono (S' := At R) (fun _ _ e => e.elim))); have x0 := Box.cell HX3.out 0; have x1 := Box.cell HX3.out 1; have x2 := Box.cell HX3.out 2; have y0 := Box.f HX3.out 0; have y1 := Box.f HX3.out 1; have y2 := Box.f HX3.out 2; clear hf3 hf3'))))
    (have hB := (set3 HX3.out HF3.out (Nat.le_refl _) (.string ⟨#[115, 116, 114]⟩) (.string ⟨t.toArray⟩) (.slice none 0 0)).1; have hM := set3m (w1 := w3) (b := w.heap.size) (.string ⟨#[115, 116, 114]⟩) (.string ⟨t.toArray⟩) (.slice none 0 0); clear x0 x1 x2 y0 y1 y2; generalize ((w3.setCell ⟨w.heap.size, 0, none⟩ (.string ⟨#[115, 116, 114]⟩)).setCell ⟨w.heap.size, 1, none⟩ (.string ⟨t.toArray⟩)).setCell ⟨w.heap.size, 2, none⟩ (.slice none 0 0) = X at *; have g0 := hB.cell 0; have g1 := hB.cell 1; have g2 := hB.cell 2; refine bodyPost_ret (v := .agg #[.string ⟨#[115, 116, 114]⟩, .string ⟨t.toArray⟩, (.slice none 0 0)]) (by simp [results, Tryz.results287, go_sem, g0, g1, g2]) rfl ?_; exact ans_end (q := (⟨[115, 116, 114], t, .nil⟩, nextS s)) HX3.out hM HK3.out HP3.out HF3.out)
  · go_enter Tryz.func287, Tryz.ntmps287
    go_wp2_with (first | (go_at_call 107; go_must (refine (HN.out _ (HH.out.move (by (repeat (first | exact Frm.refl _ _ | assumption | refine Frm.alloc ?_ _))))).mono ?_; rintro e w2 ⟨rfl, hp2, hf2⟩; have HP2 := Lib.hid hp2; have HF2 := Lib.hid (Frm.trans (show Frm (At R) w _ by (repeat (first | exact Frm.refl _ _ | assumption | refine Frm.alloc ?_ _))) hf2); have HX2 := Lib.hid (show Box w2 w.heap.size tN nd0 from Box.at (Box.new w tN nd0) (HH.out.move (by (repeat (first | exact Frm.refl _ _ | assumption | refine Frm.alloc ?_ _)))) hf2 (by decide)); have HK2 := Lib.hid (KV.nil w2 (fun g => w.heap.size + 1 ≤ g)); clear hp2 hf2)) | ((go_at_call 110; go_must (refine (node_all _ _ _ _ _ _).mono ?_; rintro e w3 ⟨rfl, hf3⟩; have hf3' : Frm No w2 w3 := Frm.trans (by (repeat (first | exact Frm.refl _ _ | assumption | refine Frm.alloc ?_ _))) hf3; have HK3 := Lib.hid (HK2.out.move hf3'); have HP3 := Lib.hid (HP2.out.move hf3'); have HX3 := Lib.hid (show Box w3 w.heap.size tN nd0 from Box.frm HX2.out hf3' id); have HF3 := Lib.hid (HF2.out.trans (hf3'.mono (S' := At R) (fun _ _ e => e.elim))); have x0 := Box.cell HX3.out 0; have x1 := Box.cell HX3.out 1; have x2 := Box.cell HX3.out 2; have y0 := Box.f HX3.out 0; have y1 := Box.f HX3.out 1; have y2 := Box.f HX3.out 2; clear hf3 hf3'))))
    (have hB := (set3 HX3.out HF3.out (Nat.le_refl _) (.string ⟨#[101, 114, 101]⟩) (.string ⟨t.toArray⟩) (.slice none 0 0)).1; have hM := set3m (w1 := w3) (b := w.heap.size) (.string ⟨#[101, 114, 101]⟩) (.string ⟨t.toArray⟩) (.slice none 0 0); clear x0 x1 x2 y0 y1 y2; generalize ((w3.setCell ⟨w.heap.size, 0, none⟩ (.string ⟨#[101, 114, 101]⟩)).setCell ⟨w.heap.size, 1, none⟩ (.string ⟨t.toArray⟩)).setCell ⟨w.heap.size, 2, none⟩ (.slice none 0 0) = X at *; have g0 := hB.cell 0; have g1 := hB.cell 1; have g2 := hB.cell 2; refine bodyPost_ret (v := .agg #[.string ⟨#[101, 114, 101]⟩, .string ⟨t.toArray⟩, (.slice none 0 0)]) (by simp [results, Tryz.results287, go_sem, g0, g1, g2]) rfl ?_; exact ans_end (q := (⟨[101, 114, 101], t, .nil⟩, nextS s)) HX3.out hM HK3.out HP3.out HF3.out)

/-- An operand that another function reads behind its first token. -/
theorem operand_built (w : World) (R n : Nat) (s : PS) (h : PW w R n s) (t : B) (hp : peek s = ⟨kBuilt, t⟩) (q : Nd × PS) (hc : ∀ W, PW W R n (nextS s) → Calls Tryz.prog 289 #[.pointer (some ⟨R, 0, none⟩), .string ⟨t.toArray⟩] W (Ans W R n q)) :
    Calls Tryz.prog 287 #[.pointer (some ⟨R, 0, none⟩)] w (Ans w R n q) := by
  have HH := Lib.hid h
  have HC := Lib.hid hc
  have HN := Lib.hid (fun W (hw : PW W R n s) => next_all W R n s hw)
  rw [hp] at HN
  have ht0 := tok_f0
  have ht1 := tok_f1
  obtain ⟨⟨o, u, k⟩, s'⟩ := q
  clear h hp hc
  unfold kBuilt at *
  go_enter Tryz.func287, Tryz.ntmps287
  go_wp2_with (first | (go_at_call 107; go_must (refine (HN.out _ (HH.out.move (by (repeat (first | exact Frm.refl _ _ | assumption | refine Frm.alloc ?_ _))))).mono ?_; rintro e w2 ⟨rfl, hp2, hf2⟩; have HP2 := Lib.hid hp2; have HF2 := Lib.hid (Frm.trans (show Frm (At R) w _ by (repeat (first | exact Frm.refl _ _ | assumption | refine Frm.alloc ?_ _))) hf2); have HX2 := Lib.hid (show Box w2 w.heap.size tN nd0 from Box.at (Box.new w tN nd0) (HH.out.move (by (repeat (first | exact Frm.refl _ _ | assumption | refine Frm.alloc ?_ _)))) hf2 (by decide)); have HK2 := Lib.hid (KV.nil w2 (fun g => w.heap.size + 1 ≤ g)); clear hp2 hf2)) | (go_at_call 289; go_must (refine (Hid.out HC _ (HP2.out.move (by (repeat (first | exact Frm.refl _ _ | assumption | refine Frm.alloc ?_ _))))).mono ?_; rintro e w3 ⟨a3, c3, rfl, hk3, hp3, hf3⟩; have HX3 := Lib.hid (show Box w3 w.heap.size tN nd0 from Box.at (Box.frm HX2.out (show Frm No w2 _ by (repeat (first | exact Frm.refl _ _ | assumption | refine Frm.alloc ?_ _))) id) (HP2.out.move (by (repeat (first | exact Frm.refl _ _ | assumption | refine Frm.alloc ?_ _)))) hf3 (by decide)); have HK3 := Lib.hid (hk3.mono (F' := fun g => w.heap.size + 1 ≤ g) (fun g hg _ => by have hz := Box.lt HX2.out; (try simp only [World.size_alloc] at hg); omega)); have HP3 := Lib.hid hp3; have HF3 := Lib.hid (HF2.out.trans (Frm.trans (show Frm (At R) w2 _ by (repeat (first | exact Frm.refl _ _ | assumption | refine Frm.alloc ?_ _))) hf3)); have x0 := Box.cell HX3.out 0; have x1 := Box.cell HX3.out 1; have x2 := Box.cell HX3.out 2; have y0 := Box.f HX3.out 0; have y1 := Box.f HX3.out 1; have y2 := Box.f HX3.out 2; clear hp3 hf3 hk3)))
  (have hB := (set3 HX3.out HF3.out (Nat.le_refl _) (.string ⟨o.toArray⟩) (.string ⟨u.toArray⟩) (.slice a3 k.len c3)).1; have hM := set3m (w1 := w3) (b := w.heap.size) (.string ⟨o.toArray⟩) (.string ⟨u.toArray⟩) (.slice a3 k.len c3); clear x0 x1 x2 y0 y1 y2; generalize ((w3.setCell ⟨w.heap.size, 0, none⟩ (.string ⟨o.toArray⟩)).setCell ⟨w.heap.size, 1, none⟩ (.string ⟨u.toArray⟩)).setCell ⟨w.heap.size, 2, none⟩ (.slice a3 k.len c3) = X at *; have g0 := hB.cell 0; have g1 := hB.cell 1; have g2 := hB.cell 2; refine bodyPost_ret (v := .agg #[.string ⟨o.toArray⟩, .string ⟨u.toArray⟩, (.slice a3 k.len c3)]) (by simp [results, Tryz.results287, go_sem, g0, g1, g2]) rfl ?_; exact ans_end (q := (⟨o, u, k⟩, s')) HX3.out hM HK3.out HP3.out HF3.out)
theorem operand_parens (w : World) (R n : Nat) (s : PS) (h : PW w R n s) (hp : peek s = ⟨kOp, o_lpar⟩) (q : Nd × PS) (hc : ∀ W, PW W R n (nextS s) → Calls Tryz.prog 290 #[.pointer (some ⟨R, 0, none⟩)] W (Ans W R n q)) :
    Calls Tryz.prog 287 #[.pointer (some ⟨R, 0, none⟩)] w (Ans w R n q) := by
  have HH := Lib.hid h
  have HC := Lib.hid hc
  have HN := Lib.hid (fun W (hw : PW W R n s) => next_all W R n s hw)
  rw [hp] at HN
  have ht0 := tok_f0
  have ht1 := tok_f1
  obtain ⟨⟨o, u, k⟩, s'⟩ := q
  clear h hp hc
  unfold kOp o_lpar at *
  go_enter Tryz.func287, Tryz.ntmps287
  go_wp2_with (first | (go_at_call 107; go_must (refine (HN.out _ (HH.out.move (by (repeat (first | exact Frm.refl _ _ | assumption | refine Frm.alloc ?_ _))))).mono ?_; rintro e w2 ⟨rfl, hp2, hf2⟩; have HP2 := Lib.hid hp2; have HF2 := Lib.hid (Frm.trans (show Frm (At R) w _ by (repeat (first | exact Frm.refl _ _ | assumption | refine Frm.alloc ?_ _))) hf2); have HX2 := Lib.hid (show Box w2 w.heap.size tN nd0 from Box.at (Box.new w tN nd0) (HH.out.move (by (repeat (first | exact Frm.refl _ _ | assumption | refine Frm.alloc ?_ _)))) hf2 (by decide)); have HK2 := Lib.hid (KV.nil w2 (fun g => w.heap.size + 1 ≤ g)); clear hp2 hf2)) | (go_at_call 290; go_must (refine (Hid.out HC _ (HP2.out.move (by (repeat (first | exact Frm.refl _ _ | assumption | refine Frm.alloc ?_ _))))).mono ?_; rintro e w3 ⟨a3, c3, rfl, hk3, hp3, hf3⟩; have HX3 := Lib.hid (show Box w3 w.heap.size tN nd0 from Box.at (Box.frm HX2.out (show Frm No w2 _ by (repeat (first | exact Frm.refl _ _ | assumption | refine Frm.alloc ?_ _))) id) (HP2.out.move (by (repeat (first | exact Frm.refl _ _ | assumption | refine Frm.alloc ?_ _)))) hf3 (by decide)); have HK3 := Lib.hid (hk3.mono (F' := fun g => w.heap.size + 1 ≤ g) (fun g hg _ => by have hz := Box.lt HX2.out; (try simp only [World.size_alloc] at hg); omega)); have HP3 := Lib.hid hp3; have HF3 := Lib.hid (HF2.out.trans (Frm.trans (show Frm (At R) w2 _ by (repeat (first | exact Frm.refl _ _ | assumption | refine Frm.alloc ?_ _))) hf3)); have x0 := Box.cell HX3.out 0; have x1 := Box.cell HX3.out 1; have x2 := Box.cell HX3.out 2; have y0 := Box.f HX3.out 0; have y1 := Box.f HX3.out 1; have y2 := Box.f HX3.out 2; clear hp3 hf3 hk3)))
  (have hB := (set3 HX3.out HF3.out (Nat.le_refl _) (.string ⟨o.toArray⟩) (.string ⟨u.toArray⟩) (.slice a3 k.len c3)).1; have hM := set3m (w1 := w3) (b := w.heap.size) (.string ⟨o.toArray⟩) (.string ⟨u.toArray⟩) (.slice a3 k.len c3); clear x0 x1 x2 y0 y1 y2; generalize ((w3.setCell ⟨w.heap.size, 0, none⟩ (.string ⟨o.toArray⟩)).setCell ⟨w.heap.size, 1, none⟩ (.string ⟨u.toArray⟩)).setCell ⟨w.heap.size, 2, none⟩ (.slice a3 k.len c3) = X at *; have g0 := hB.cell 0; have g1 := hB.cell 1; have g2 := hB.cell 2; refine bodyPost_ret (v := .agg #[.string ⟨o.toArray⟩, .string ⟨u.toArray⟩, (.slice a3 k.len c3)]) (by simp [results, Tryz.results287, go_sem, g0, g1, g2]) rfl ?_; exact ans_end (q := (⟨o, u, k⟩, s')) HX3.out hM HK3.out HP3.out HF3.out)
theorem operand_field (w : World) (R n : Nat) (s : PS) (h : PW w R n s) (hp : peek s = ⟨kOp, o_dollar⟩) (q : Nd × PS) (hc : ∀ W, PW W R n (nextS s) → Calls Tryz.prog 291 #[.pointer (some ⟨R, 0, none⟩)] W (Ans W R n q)) :
    Calls Tryz.prog 287 #[.pointer (some ⟨R, 0, none⟩)] w (Ans w R n q) := by
  have HH := Lib.hid h
  have HC := Lib.hid hc
  have HN := Lib.hid (fun W (hw : PW W R n s) => next_all W R n s hw)
  rw [hp] at HN
  have ht0 := tok_f0
  have ht1 := tok_f1
  obtain ⟨⟨o, u, k⟩, s'⟩ := q
  clear h hp hc
  unfold kOp o_dollar at *
  go_enter Tryz.func287, Tryz.ntmps287
  go_wp2_with (first | (go_at_call 107; go_must (refine (HN.out _ (HH.out.move (by (repeat (first | exact Frm.refl _ _ | assumption | refine Frm.alloc ?_ _))))).mono ?_; rintro e w2 ⟨rfl, hp2, hf2⟩; have HP2 := Lib.hid hp2; have HF2 := Lib.hid (Frm.trans (show Frm (At R) w _ by (repeat (first | exact Frm.refl _ _ | assumption | refine Frm.alloc ?_ _))) hf2); have HX2 := Lib.hid (show Box w2 w.heap.size tN nd0 from Box.at (Box.new w tN nd0) (HH.out.move (by (repeat (first | exact Frm.refl _ _ | assumption | refine Frm.alloc ?_ _)))) hf2 (by decide)); have HK2 := Lib.hid (KV.nil w2 (fun g => w.heap.size + 1 ≤ g)); clear hp2 hf2)) | (go_at_call 291; go_must (refine (Hid.out HC _ (HP2.out.move (by (repeat (first | exact Frm.refl _ _ | assumption | refine Frm.alloc ?_ _))))).mono ?_; rintro e w3 ⟨a3, c3, rfl, hk3, hp3, hf3⟩; have HX3 := Lib.hid (show Box w3 w.heap.size tN nd0 from Box.at (Box.frm HX2.out (show Frm No w2 _ by (repeat (first | exact Frm.refl _ _ | assumption | refine Frm.alloc ?_ _))) id) (HP2.out.move (by (repeat (first | exact Frm.refl _ _ | assumption | refine Frm.alloc ?_ _)))) hf3 (by decide)); have HK3 := Lib.hid (hk3.mono (F' := fun g => w.heap.size + 1 ≤ g) (fun g hg _ => by have hz := Box.lt HX2.out; (try simp only [World.size_alloc] at hg); omega)); have HP3 := Lib.hid hp3; have HF3 := Lib.hid (HF2.out.trans (Frm.trans (show Frm (At R) w2 _ by (repeat (first | exact Frm.refl _ _ | assumption | refine Frm.alloc ?_ _))) hf3)); have x0 := Box.cell HX3.out 0; have x1 := Box.cell HX3.out 1; have x2 := Box.cell HX3.out 2; have y0 := Box.f HX3.out 0; have y1 := Box.f HX3.out 1; have y2 := Box.f HX3.out 2; clear hp3 hf3 hk3)))
  (have hB := (set3 HX3.out HF3.out (Nat.le_refl _) (.string ⟨o.toArray⟩) (.string ⟨u.toArray⟩) (.slice a3 k.len c3)).1; have hM := set3m (w1 := w3) (b := w.heap.size) (.string ⟨o.toArray⟩) (.string ⟨u.toArray⟩) (.slice a3 k.len c3); clear x0 x1 x2 y0 y1 y2; generalize ((w3.setCell ⟨w.heap.size, 0, none⟩ (.string ⟨o.toArray⟩)).setCell ⟨w.heap.size, 1, none⟩ (.string ⟨u.toArray⟩)).setCell ⟨w.heap.size, 2, none⟩ (.slice a3 k.len c3) = X at *; have g0 := hB.cell 0; have g1 := hB.cell 1; have g2 := hB.cell 2; refine bodyPost_ret (v := .agg #[.string ⟨o.toArray⟩, .string ⟨u.toArray⟩, (.slice a3 k.len c3)]) (by simp [results, Tryz.results287, go_sem, g0, g1, g2]) rfl ?_; exact ans_end (q := (⟨o, u, k⟩, s')) HX3.out hM HK3.out HP3.out HF3.out)
theorem operand_fail (w : World) (R n : Nat) (s : PS) (h : PW w R n s) (k t : B) (hp : peek s = ⟨k, t⟩) (h1 : k ≠ kNum) (h2 : k ≠ kStr) (h3 : k ≠ kEre) (h4 : k ≠ kName) (h5 : k ≠ kFunc) (h6 : k ≠ kBuilt) (h7 : ¬ (k = kOp ∧ t = o_lpar)) (h8 : ¬ (k = kOp ∧ t = o_dollar)) :
    Calls Tryz.prog 287 #[.pointer (some ⟨R, 0, none⟩)] w (Ans w R n (failN (nextS s))) := by
  have HH := Lib.hid h
  have HN := Lib.hid (fun W (hw : PW W R n s) => next_all W R n s hw)
  rw [hp] at HN
  have ht0 := tok_f0
  have ht1 := tok_f1
  clear h hp
  have b1 : (k == [110, 117, 109]) = false := by rw [beq_eq_false_iff_ne]; exact h1
  have b2 : (k == [115, 116, 114]) = false := by rw [beq_eq_false_iff_ne]; exact h2
  have b3 : (k == [101, 114, 101]) = false := by rw [beq_eq_false_iff_ne]; exact h3
  have b4 : (k == [110, 97, 109, 101]) = false := by rw [beq_eq_false_iff_ne]; exact h4
  have b5 : (k == [102, 117, 110, 99]) = false := by rw [beq_eq_false_iff_ne]; exact h5
  have b6 : (k == [98, 117, 105, 108, 116]) = false := by rw [beq_eq_false_iff_ne]; exact h6
  by_cases hk : k = kOp
  · subst hk
    have g7 : t ≠ o_lpar := fun e => h7 ⟨rfl, e⟩
    have g8 : t ≠ o_dollar := fun e => h8 ⟨rfl, e⟩
    clear h7 h8 h1 h2 h3 h4 h5 h6 b1 b2 b3 b4 b5 b6
    have b7 : (t == [40]) = false := by rw [beq_eq_false_iff_ne]; exact g7
    have b8 : (t == [36]) = false := by rw [beq_eq_false_iff_ne]; exact g8
    unfold kOp at *
    go_enter Tryz.func287, Tryz.ntmps287
    go_wp2_with (first | (go_at_call 107; go_must (refine (HN.out _ (HH.out.move (by (repeat (first | exact Frm.refl _ _ | assumption | refine Frm.alloc ?_ _))))).mono ?_; rintro e w2 ⟨rfl, hp2, hf2⟩; have HP2 := Lib.hid hp2; have HF2 := Lib.hid (Frm.trans (show Frm (At R) w _ by (repeat (first | exact Frm.refl _ _ | assumption | refine Frm.alloc ?_ _))) hf2); have HX2 := Lib.hid (show Box w2 w.heap.size tN nd0 from Box.at (Box.new w tN nd0) (HH.out.move (by (repeat (first | exact Frm.refl _ _ | assumption | refine Frm.alloc ?_ _)))) hf2 (by decide)); have HK2 := Lib.hid (KV.nil w2 (fun g => w.heap.size + 1 ≤ g)); clear hp2 hf2)) | (go_at_call 194; go_must (refine (fail_all _ R n (nextS s) (HP2.out.move (by (repeat (first | exact Frm.refl _ _ | assumption | refine Frm.alloc ?_ _))))).mono ?_; rintro e w3 ⟨rfl, hp3, hf3⟩; have HX3 := Lib.hid (show Box w3 w.heap.size tN nd0 from Box.at (Box.frm HX2.out (show Frm No w2 _ by (repeat (first | exact Frm.refl _ _ | assumption | refine Frm.alloc ?_ _))) id) (HP2.out.move (by (repeat (first | exact Frm.refl _ _ | assumption | refine Frm.alloc ?_ _)))) hf3 (by decide)); have HK3 := Lib.hid (KV.nil w3 (fun g => w.heap.size + 1 ≤ g)); have HP3 := Lib.hid hp3; have HF3 := Lib.hid (HF2.out.trans (Frm.trans (show Frm (At R) w2 _ by (repeat (first | exact Frm.refl _ _ | assumption | refine Frm.alloc ?_ _))) hf3)); have x0 := Box.cell HX3.out 0; have x1 := Box.cell HX3.out 1; have x2 := Box.cell HX3.out 2; have y0 := Box.f HX3.out 0; have y1 := Box.f HX3.out 1; have y2 := Box.f HX3.out 2; clear hp3 hf3)))
    (have hB := (set3 HX3.out HF3.out (Nat.le_refl _) (.string ⟨#[110, 111, 110, 101]⟩) (.string ⟨#[]⟩) (.slice none 0 0)).1; have hM := set3m (w1 := w3) (b := w.heap.size) (.string ⟨#[110, 111, 110, 101]⟩) (.string ⟨#[]⟩) (.slice none 0 0); clear x0 x1 x2 y0 y1 y2; generalize ((w3.setCell ⟨w.heap.size, 0, none⟩ (.string ⟨#[110, 111, 110, 101]⟩)).setCell ⟨w.heap.size, 1, none⟩ (.string ⟨#[]⟩)).setCell ⟨w.heap.size, 2, none⟩ (.slice none 0 0) = X at *; have g0 := hB.cell 0; have g1 := hB.cell 1; have g2 := hB.cell 2; refine bodyPost_ret (v := .agg #[.string ⟨#[110, 111, 110, 101]⟩, .string ⟨#[]⟩, (.slice none 0 0)]) (by simp [results, Tryz.results287, go_sem, g0, g1, g2]) rfl ?_; exact ans_end (q := (failN (nextS s))) HX3.out hM HK3.out HP3.out HF3.out)
  · clear h7 h8
    have b0 : (k == [111, 112]) = false := by rw [beq_eq_false_iff_ne]; exact hk
    clear h1 h2 h3 h4 h5 h6 hk
    go_enter Tryz.func287, Tryz.ntmps287
    go_wp2_with (first | (go_at_call 107; go_must (refine (HN.out _ (HH.out.move (by (repeat (first | exact Frm.refl _ _ | assumption | refine Frm.alloc ?_ _))))).mono ?_; rintro e w2 ⟨rfl, hp2, hf2⟩; have HP2 := Lib.hid hp2; have HF2 := Lib.hid (Frm.trans (show Frm (At R) w _ by (repeat (first | exact Frm.refl _ _ | assumption | refine Frm.alloc ?_ _))) hf2); have HX2 := Lib.hid (show Box w2 w.heap.size tN nd0 from Box.at (Box.new w tN nd0) (HH.out.move (by (repeat (first | exact Frm.refl _ _ | assumption | refine Frm.alloc ?_ _)))) hf2 (by decide)); have HK2 := Lib.hid (KV.nil w2 (fun g => w.heap.size + 1 ≤ g)); clear hp2 hf2)) | (go_at_call 194; go_must (refine (fail_all _ R n (nextS s) (HP2.out.move (by (repeat (first | exact Frm.refl _ _ | assumption | refine Frm.alloc ?_ _))))).mono ?_; rintro e w3 ⟨rfl, hp3, hf3⟩; have HX3 := Lib.hid (show Box w3 w.heap.size tN nd0 from Box.at (Box.frm HX2.out (show Frm No w2 _ by (repeat (first | exact Frm.refl _ _ | assumption | refine Frm.alloc ?_ _))) id) (HP2.out.move (by (repeat (first | exact Frm.refl _ _ | assumption | refine Frm.alloc ?_ _)))) hf3 (by decide)); have HK3 := Lib.hid (KV.nil w3 (fun g => w.heap.size + 1 ≤ g)); have HP3 := Lib.hid hp3; have HF3 := Lib.hid (HF2.out.trans (Frm.trans (show Frm (At R) w2 _ by (repeat (first | exact Frm.refl _ _ | assumption | refine Frm.alloc ?_ _))) hf3)); have x0 := Box.cell HX3.out 0; have x1 := Box.cell HX3.out 1; have x2 := Box.cell HX3.out 2; have y0 := Box.f HX3.out 0; have y1 := Box.f HX3.out 1; have y2 := Box.f HX3.out 2; clear hp3 hf3)))
    (have hB := (set3 HX3.out HF3.out (Nat.le_refl _) (.string ⟨#[110, 111, 110, 101]⟩) (.string ⟨#[]⟩) (.slice none 0 0)).1; have hM := set3m (w1 := w3) (b := w.heap.size) (.string ⟨#[110, 111, 110, 101]⟩) (.string ⟨#[]⟩) (.slice none 0 0); clear x0 x1 x2 y0 y1 y2; generalize ((w3.setCell ⟨w.heap.size, 0, none⟩ (.string ⟨#[110, 111, 110, 101]⟩)).setCell ⟨w.heap.size, 1, none⟩ (.string ⟨#[]⟩)).setCell ⟨w.heap.size, 2, none⟩ (.slice none 0 0) = X at *; have g0 := hB.cell 0; have g1 := hB.cell 1; have g2 := hB.cell 2; refine bodyPost_ret (v := .agg #[.string ⟨#[110, 111, 110, 101]⟩, .string ⟨#[]⟩, (.slice none 0 0)]) (by simp [results, Tryz.results287, go_sem, g0, g1, g2]) rfl ?_; exact ans_end (q := (failN (nextS s))) HX3.out hM HK3.out HP3.out HF3.out)
theorem operand_call (w : World) (R n : Nat) (s : PS) (h : PW w R n s) (t : B) (hp : peek s = ⟨kFunc, t⟩) (f : Fo) (s1 : PS) (hc : ∀ W, PW W R n (nextS s) → Calls Tryz.prog 288 #[.pointer (some ⟨R, 0, none⟩)] W (AnsL W R n (f, s1))) :
    Calls Tryz.prog 287 #[.pointer (some ⟨R, 0, none⟩)] w (Ans w R n (⟨w_call, t, f⟩, s1)) := by
  have HH := Lib.hid h
  have HC := Lib.hid hc
  have HN := Lib.hid (fun W (hw : PW W R n s) => next_all W R n s hw)
  rw [hp] at HN
  have ht0 := tok_f0
  have ht1 := tok_f1
  clear h hp hc
  unfold kFunc at *
  go_enter Tryz.func287, Tryz.ntmps287
  go_wp2_with (first | (go_at_call 107; go_must (refine (HN.out _ (HH.out.move (by (repeat (first | exact Frm.refl _ _ | assumption | refine Frm.alloc ?_ _))))).mono ?_; rintro e w0 ⟨rfl, hp2, hf2⟩; have HP0 := Lib.hid hp2; have HF0 := Lib.hid (Frm.trans (show Frm (At R) w _ by (repeat (first | exact Frm.refl _ _ | assumption | refine Frm.alloc ?_ _))) hf2); have HX0 := Lib.hid (show Box w0 w.heap.size tN nd0 from Box.at (Box.new w tN nd0) (HH.out.move (by (repeat (first | exact Frm.refl _ _ | assumption | refine Frm.alloc ?_ _)))) hf2 (by decide)); clear hp2 hf2)))
  go_region_with (first | (go_at_call 288; go_must (refine (HC.out _ (HP0.out.move (by (repeat (first | exact Frm.refl _ _ | assumption | refine Frm.alloc ?_ _ | refine Frm.drew ?_))))).mono ?_; rintro e w2 ⟨a, c, rfl, hk2, hp2, hf2⟩; have HK2 := Lib.hid (hk2.kv.mono (F' := fun g => w.heap.size + 1 ≤ g) (fun g hg _ => by have hz := Box.lt HX0.out; (try simp only [World.size_alloc, World.size_drew] at hg); omega)); have HP2 := Lib.hid hp2; have HL2 := Lib.hid (Box.at (Box.frm (Box.new w0 tT #[.string ⟨#[102, 117, 110, 99]⟩, .string ⟨t.toArray⟩]) (show Frm No _ _ by (repeat (first | exact Frm.refl _ _ | assumption | refine Frm.alloc ?_ _ | refine Frm.drew ?_))) id) (HP0.out.move (by (repeat (first | exact Frm.refl _ _ | assumption | refine Frm.alloc ?_ _ | refine Frm.drew ?_)))) hf2 (by decide)); have HF2 := Lib.hid (HF0.out.trans (Frm.trans (show Frm (At R) w0 _ by (repeat (first | exact Frm.refl _ _ | assumption | refine Frm.alloc ?_ _ | refine Frm.drew ?_))) hf2)); have HX2 := Lib.hid (show Box w2 w.heap.size tN nd0 from Box.at (Box.frm HX0.out (show Frm No w0 _ by (repeat (first | exact Frm.refl _ _ | assumption | refine Frm.alloc ?_ _ | refine Frm.drew ?_))) id) (HP0.out.move (by (repeat (first | exact Frm.refl _ _ | assumption | refine Frm.alloc ?_ _ | refine Frm.drew ?_)))) hf2 (by decide)); have l0 := Box.cell HL2.out 0; have l1 := Box.cell HL2.out 1; clear hk2 hp2 hf2)) | ((go_at_call 110; go_must (refine (node_all _ _ _ _ _ _).mono ?_; rintro e w3 ⟨rfl, hf3⟩; have hf3' : Frm No w2 w3 := Frm.trans (by (repeat (first | exact Frm.refl _ _ | assumption | refine Frm.alloc ?_ _ | refine Frm.drew ?_))) hf3; have HK3 := Lib.hid (HK2.out.move hf3'); have HP3 := Lib.hid (HP2.out.move hf3'); have HX3 := Lib.hid (show Box w3 w.heap.size tN nd0 from Box.frm HX2.out hf3' id); have HF3 := Lib.hid (HF2.out.trans (hf3'.mono (S' := At R) (fun _ _ e => e.elim))); have x0 := Box.cell HX3.out 0; have x1 := Box.cell HX3.out 1; have x2 := Box.cell HX3.out 2; have y0 := Box.f HX3.out 0; have y1 := Box.f HX3.out 1; have y2 := Box.f HX3.out 2; clear hf3 hf3'))))
  all_goals (go_wp2_with fail)
  all_goals (have hB := (set3 HX3.out HF3.out (Nat.le_refl _) (.string ⟨#[99, 97, 108, 108]⟩) (.string ⟨t.toArray⟩) (.slice a f.len c)).1; have hM := set3m (w1 := w3) (b := w.heap.size) (.string ⟨#[99, 97, 108, 108]⟩) (.string ⟨t.toArray⟩) (.slice a f.len c); clear x0 x1 x2 y0 y1 y2; generalize ((w3.setCell ⟨w.heap.size, 0, none⟩ (.string ⟨#[99, 97, 108, 108]⟩)).setCell ⟨w.heap.size, 1, none⟩ (.string ⟨t.toArray⟩)).setCell ⟨w.heap.size, 2, none⟩ (.slice a f.len c) = X at *; have g0 := hB.cell 0; have g1 := hB.cell 1; have g2 := hB.cell 2; refine bodyPost_ret (v := .agg #[.string ⟨#[99, 97, 108, 108]⟩, .string ⟨t.toArray⟩, (.slice a f.len c)]) (by simp [results, Tryz.results287, go_sem, g0, g1, g2]) rfl ?_; exact ans_end (q := (⟨w_call, t, f⟩, s1)) HX3.out hM HK3.out HP3.out HF3.out)
end Go.Proofs.YtgbibfhacjjaeaaGreat.syn

namespace Go.Proofs.YtgbibfhacjjaeaaGreat.syn
set_option maxRecDepth 20000 set_option linter.unusedVariables false set_option linter.unusedSimpArgs false
open Go.ChangeShapes Go.WideShapes Go.ChangeAt Go.RowKit Go.Proofs.YtgbibfhacjjaeaaGreat.base
open Go.Proofs.YtgbibfhacjjaeaaGreat.lexs (Tok kNl kNum kStr kEre kOp kName kFunc kWord kBuilt)

theorem operand_var (w : World) (R n : Nat) (s : PS) (h : PW w R n s) (t : B) (hp : peek s = ⟨kName, t⟩) (hb : isOp (nextS s) o_lbr = false) :
    Calls Tryz.prog 287 #[.pointer (some ⟨R, 0, none⟩)] w (Ans w R n (⟨w_var, t, .nil⟩, nextS s)) := by
  have HH := Lib.hid h
  have HN := Lib.hid (fun W (hw : PW W R n s) => next_all W R n s hw)
  have HT := Lib.hid (fun W (hw : PW W R n (nextS s)) => take_all W R n (nextS s) hw o_lbr)
  rw [hp] at HN
  rw [hb] at HT
  have ht0 := tok_f0
  have ht1 := tok_f1
  clear h hp hb
  unfold kName at *
  go_enter Tryz.func287, Tryz.ntmps287
  go_wp2_with (first | (go_at_call 107; go_must (refine (HN.out _ (HH.out.move (by (repeat (first | exact Frm.refl _ _ | assumption | refine Frm.alloc ?_ _))))).mono ?_; rintro e w0 ⟨rfl, hp2, hf2⟩; have HP0 := Lib.hid hp2; have HF0 := Lib.hid (Frm.trans (show Frm (At R) w _ by (repeat (first | exact Frm.refl _ _ | assumption | refine Frm.alloc ?_ _))) hf2); have HX0 := Lib.hid (show Box w0 w.heap.size tN nd0 from Box.at (Box.new w tN nd0) (HH.out.move (by (repeat (first | exact Frm.refl _ _ | assumption | refine Frm.alloc ?_ _)))) hf2 (by decide)); clear hp2 hf2)) | (go_at_call 146; go_must (refine (HT.out _ (HP0.out.move (by (repeat (first | exact Frm.refl _ _ | assumption | refine Frm.alloc ?_ _ | refine Frm.drew ?_))))).mono ?_; rintro e w2 ⟨rfl, hp2, hf2⟩; have HP2 := Lib.hid (show PW w2 R n (nextS s) from hp2); have HK2 := Lib.hid (KV.nil w2 (fun g => w.heap.size + 1 ≤ g)); have HL2 := Lib.hid (Box.at (Box.new w0 tT #[.string ⟨#[110, 97, 109, 101]⟩, .string ⟨t.toArray⟩]) (HP0.out.move (by (repeat (first | exact Frm.refl _ _ | assumption | refine Frm.alloc ?_ _ | refine Frm.drew ?_)))) hf2 (by decide)); have HF2 := Lib.hid (HF0.out.trans (Frm.trans (show Frm (At R) w0 _ by (repeat (first | exact Frm.refl _ _ | assumption | refine Frm.alloc ?_ _ | refine Frm.drew ?_))) hf2)); have HX2 := Lib.hid (show Box w2 w.heap.size tN nd0 from Box.at (Box.frm HX0.out (show Frm No w0 _ by (repeat (first | exact Frm.refl _ _ | assumption | refine Frm.alloc ?_ _ | refine Frm.drew ?_))) id) (HP0.out.move (by (repeat (first | exact Frm.refl _ _ | assumption | refine Frm.alloc ?_ _ | refine Frm.drew ?_)))) hf2 (by decide)); have l0 := Box.cell HL2.out 0; have l1 := Box.cell HL2.out 1; clear hp2 hf2)) | ((go_at_call 110; go_must (refine (node_all _ _ _ _ _ _).mono ?_; rintro e w3 ⟨rfl, hf3⟩; have hf3' : Frm No w2 w3 := Frm.trans (by (repeat (first | exact Frm.refl _ _ | assumption | refine Frm.alloc ?_ _ | refine Frm.drew ?_))) hf3; have HK3 := Lib.hid (HK2.out.move hf3'); have HP3 := Lib.hid (HP2.out.move hf3'); have HX3 := Lib.hid (show Box w3 w.heap.size tN nd0 from Box.frm HX2.out hf3' id); have HF3 := Lib.hid (HF2.out.trans (hf3'.mono (S' := At R) (fun _ _ e => e.elim))); have x0 := Box.cell HX3.out 0; have x1 := Box.cell HX3.out 1; have x2 := Box.cell HX3.out 2; have y0 := Box.f HX3.out 0; have y1 := Box.f HX3.out 1; have y2 := Box.f HX3.out 2; clear hf3 hf3'))))
  (have hB := (set3 HX3.out HF3.out (Nat.le_refl _) (.string ⟨#[118, 97, 114]⟩) (.string ⟨t.toArray⟩) (.slice none 0 0)).1; have hM := set3m (w1 := w3) (b := w.heap.size) (.string ⟨#[118, 97, 114]⟩) (.string ⟨t.toArray⟩) (.slice none 0 0); clear x0 x1 x2 y0 y1 y2; generalize ((w3.setCell ⟨w.heap.size, 0, none⟩ (.string ⟨#[118, 97, 114]⟩)).setCell ⟨w.heap.size, 1, none⟩ (.string ⟨t.toArray⟩)).setCell ⟨w.heap.size, 2, none⟩ (.slice none 0 0) = X at *; have g0 := hB.cell 0; have g1 := hB.cell 1; have g2 := hB.cell 2; refine bodyPost_ret (v := .agg #[.string ⟨#[118, 97, 114]⟩, .string ⟨t.toArray⟩, (.slice none 0 0)]) (by simp [results, Tryz.results287, go_sem, g0, g1, g2]) rfl ?_; exact ans_end (q := (⟨w_var, t, .nil⟩, nextS s)) HX3.out hM HK3.out HP3.out HF3.out)

theorem operand_elem (w : World) (R n : Nat) (s : PS) (h : PW w R n s) (t : B) (hp : peek s = ⟨kName, t⟩) (hb : isOp (nextS s) o_lbr = true) (f : Fo) (s1 : PS) (hc : ∀ W, PW W R n (nextS (nextS s)) → Calls Tryz.prog 269 #[.pointer (some ⟨R, 0, none⟩), .string ⟨o_rbr.toArray⟩] W (AnsL W R n (f, s1))) :
    Calls Tryz.prog 287 #[.pointer (some ⟨R, 0, none⟩)] w (Ans w R n (⟨w_elem, t, f⟩, s1)) := by
  have HH := Lib.hid h
  have HC := Lib.hid hc
  have HN := Lib.hid (fun W (hw : PW W R n s) => next_all W R n s hw)
  have HT := Lib.hid (fun W (hw : PW W R n (nextS s)) => take_all W R n (nextS s) hw o_lbr)
  rw [hp] at HN
  rw [hb] at HT
  have ht0 := tok_f0
  have ht1 := tok_f1
  clear h hp hb hc
  unfold kName at *
  go_enter Tryz.func287, Tryz.ntmps287
  go_wp2_with (first | (go_at_call 107; go_must (refine (HN.out _ (HH.out.move (by (repeat (first | exact Frm.refl _ _ | assumption | refine Frm.alloc ?_ _))))).mono ?_; rintro e w0 ⟨rfl, hp2, hf2⟩; have HP0 := Lib.hid hp2; have HF0 := Lib.hid (Frm.trans (show Frm (At R) w _ by (repeat (first | exact Frm.refl _ _ | assumption | refine Frm.alloc ?_ _))) hf2); have HX0 := Lib.hid (show Box w0 w.heap.size tN nd0 from Box.at (Box.new w tN nd0) (HH.out.move (by (repeat (first | exact Frm.refl _ _ | assumption | refine Frm.alloc ?_ _)))) hf2 (by decide)); clear hp2 hf2)) | (go_at_call 146; go_must (refine (HT.out _ (HP0.out.move (by (repeat (first | exact Frm.refl _ _ | assumption | refine Frm.alloc ?_ _ | refine Frm.drew ?_))))).mono ?_; rintro e w1 ⟨rfl, hp2, hf2⟩; have HP1 := Lib.hid (show PW w1 R n (nextS (nextS s)) from hp2); have HL1 := Lib.hid (Box.at (Box.new w0 tT #[.string ⟨#[110, 97, 109, 101]⟩, .string ⟨t.toArray⟩]) (HP0.out.move (by (repeat (first | exact Frm.refl _ _ | assumption | refine Frm.alloc ?_ _ | refine Frm.drew ?_)))) hf2 (by decide)); have HF1 := Lib.hid (HF0.out.trans (Frm.trans (show Frm (At R) w0 _ by (repeat (first | exact Frm.refl _ _ | assumption | refine Frm.alloc ?_ _ | refine Frm.drew ?_))) hf2)); have HX1 := Lib.hid (show Box w1 w.heap.size tN nd0 from Box.at (Box.frm HX0.out (show Frm No w0 _ by (repeat (first | exact Frm.refl _ _ | assumption | refine Frm.alloc ?_ _ | refine Frm.drew ?_))) id) (HP0.out.move (by (repeat (first | exact Frm.refl _ _ | assumption | refine Frm.alloc ?_ _ | refine Frm.drew ?_)))) hf2 (by decide)); have l0 := Box.cell HL1.out 0; have l1 := Box.cell HL1.out 1; clear hp2 hf2)))
  go_region_with (first | (go_at_call 269; go_must (refine (HC.out _ (HP1.out.move (by (repeat (first | exact Frm.refl _ _ | assumption | refine Frm.alloc ?_ _ | refine Frm.drew ?_))))).mono ?_; rintro e w2 ⟨a, c, rfl, hk2, hp2, hf2⟩; have HK2 := Lib.hid (hk2.kv.mono (F' := fun g => w.heap.size + 1 ≤ g) (fun g hg _ => by have hz := Box.lt HX1.out; (try simp only [World.size_alloc, World.size_drew] at hg); omega)); have HP2 := Lib.hid hp2; have HL2 := Lib.hid (Box.at (Box.frm HL1.out (show Frm No w1 _ by (repeat (first | exact Frm.refl _ _ | assumption | refine Frm.alloc ?_ _ | refine Frm.drew ?_))) id) (HP1.out.move (by (repeat (first | exact Frm.refl _ _ | assumption | refine Frm.alloc ?_ _ | refine Frm.drew ?_)))) hf2 (by decide)); have HF2 := Lib.hid (HF1.out.trans (Frm.trans (show Frm (At R) w1 _ by (repeat (first | exact Frm.refl _ _ | assumption | refine Frm.alloc ?_ _ | refine Frm.drew ?_))) hf2)); have HX2 := Lib.hid (show Box w2 w.heap.size tN nd0 from Box.at (Box.frm HX1.out (show Frm No w1 _ by (repeat (first | exact Frm.refl _ _ | assumption | refine Frm.alloc ?_ _ | refine Frm.drew ?_))) id) (HP1.out.move (by (repeat (first | exact Frm.refl _ _ | assumption | refine Frm.alloc ?_ _ | refine Frm.drew ?_)))) hf2 (by decide)); have l20 := Box.cell HL2.out 0; have l21 := Box.cell HL2.out 1; clear hk2 hp2 hf2)) | ((go_at_call 110; go_must (refine (node_all _ _ _ _ _ _).mono ?_; rintro e w3 ⟨rfl, hf3⟩; have hf3' : Frm No w2 w3 := Frm.trans (by (repeat (first | exact Frm.refl _ _ | assumption | refine Frm.alloc ?_ _ | refine Frm.drew ?_))) hf3; have HK3 := Lib.hid (HK2.out.move hf3'); have HP3 := Lib.hid (HP2.out.move hf3'); have HX3 := Lib.hid (show Box w3 w.heap.size tN nd0 from Box.frm HX2.out hf3' id); have HF3 := Lib.hid (HF2.out.trans (hf3'.mono (S' := At R) (fun _ _ e => e.elim))); have x0 := Box.cell HX3.out 0; have x1 := Box.cell HX3.out 1; have x2 := Box.cell HX3.out 2; have y0 := Box.f HX3.out 0; have y1 := Box.f HX3.out 1; have y2 := Box.f HX3.out 2; clear hf3 hf3'))))
  all_goals (go_wp2_with fail)
  all_goals (have hB := (set3 HX3.out HF3.out (Nat.le_refl _) (.string ⟨#[101, 108, 101, 109]⟩) (.string ⟨t.toArray⟩) (.slice a f.len c)).1; have hM := set3m (w1 := w3) (b := w.heap.size) (.string ⟨#[101, 108, 101, 109]⟩) (.string ⟨t.toArray⟩) (.slice a f.len c); clear x0 x1 x2 y0 y1 y2; generalize ((w3.setCell ⟨w.heap.size, 0, none⟩ (.string ⟨#[101, 108, 101, 109]⟩)).setCell ⟨w.heap.size, 1, none⟩ (.string ⟨t.toArray⟩)).setCell ⟨w.heap.size, 2, none⟩ (.slice a f.len c) = X at *; have g0 := hB.cell 0; have g1 := hB.cell 1; have g2 := hB.cell 2; refine bodyPost_ret (v := .agg #[.string ⟨#[101, 108, 101, 109]⟩, .string ⟨t.toArray⟩, (.slice a f.len c)]) (by simp [results, Tryz.results287, go_sem, g0, g1, g2]) rfl ?_; exact ans_end (q := (⟨w_elem, t, f⟩, s1)) HX3.out hM HK3.out HP3.out HF3.out)

theorem field_all (n : Nat) (I : Inn) (hI : InC n I) : RC 291 n (field I) := by
  intro w R s h
  unfold field
  cases hc : atOp s opsStep
  · rw [if_neg (by decide)]
    exact field_one w R n s h false hc _ (fun e => by cases e) (fun _ W hw => hI.operand W R s hw)
  · rw [if_pos rfl]
    exact field_one w R n s h true hc _ (fun _ W hw => hI.step W R s hw) (fun e => by cases e)
theorem operand_all (n : Nat) (I : Inn) (hI : InC n I) : RC 287 n (operand I) := by
  intro w R s h
  unfold operand
  generalize hp : peek s = T
  obtain ⟨k, t⟩ := T
  simp only
  by_cases h1 : k = kNum ∨ k = kStr ∨ k = kEre
  · rw [if_pos h1]
    exact operand_lit w R n s h k t hp h1
  rw [if_neg h1]
  by_cases h2 : k = kName
  · subst h2
    rw [if_pos rfl]
    cases hb : isOp (nextS s) o_lbr
    · rw [if_neg (by decide)]
      exact operand_var w R n s h t hp hb
    · rw [if_pos rfl]
      exact operand_elem w R n s h t hp hb _ _ (fun W hw => closedList_all n I hI W R _ hw o_rbr)
  rw [if_neg h2]
  by_cases h3 : k = kFunc
  · subst h3
    rw [if_pos rfl]
    exact operand_call w R n s h t hp _ _ (fun W hw => arguments_all n I hI W R _ hw)
  rw [if_neg h3]
  by_cases h4 : k = kBuilt
  · subst h4
    rw [if_pos rfl]
    exact operand_built w R n s h t hp _ (fun W hw => built_all n I hI W R _ hw t)
  rw [if_neg h4]
  by_cases h5 : k = kOp ∧ t = o_lpar
  · rw [if_pos h5]
    obtain ⟨rfl, rfl⟩ := h5
    exact operand_parens w R n s h hp _ (fun W hw => parenthesized_all n I hI W R _ hw)
  rw [if_neg h5]
  by_cases h6 : k = kOp ∧ t = o_dollar
  · rw [if_pos h6]
    obtain ⟨rfl, rfl⟩ := h6
    exact operand_field w R n s h hp _ (fun W hw => field_all n I hI W R _ hw)
  rw [if_neg h6]
  exact operand_fail w R n s h k t hp (fun e => h1 (.inl e)) (fun e => h1 (.inr (.inl e))) (fun e => h1 (.inr (.inr e))) h2 h3 h4 h5 h6
end Go.Proofs.YtgbibfhacjjaeaaGreat.syn

namespace Go.Proofs.YtgbibfhacjjaeaaGreat.syn
set_option maxRecDepth 20000 set_option linter.unusedVariables false set_option linter.unusedSimpArgs false
open Go.ChangeShapes Go.WideShapes Go.ChangeAt Go.RowKit Go.Proofs.YtgbibfhacjjaeaaGreat.base
open Go.Proofs.YtgbibfhacjjaeaaGreat.lexs (Tok kNl kNum kStr kEre kOp kName kFunc kWord kBuilt)

theorem stepAhead_all (n : Nat) (I : Inn) (hI : InC n I) : RC 286 n (stepAhead I) := by
  intro w R s h
  have HH := Lib.hid h
  have HN := Lib.hid (fun W (hw : PW W R n s) => next_all W R n s hw)
  have HI := Lib.hid (fun W (hw : PW W R n (nextS s)) => hI.operand W R _ hw)
  have ht0 := tok_f0
  have ht1 := tok_f1
  unfold stepAhead
  generalize peek s = T at *
  generalize I .operand (nextS s) = q at *
  obtain ⟨⟨o, u, k⟩, s1⟩ := q
  obtain ⟨tk, tt⟩ := T
  have HIP := Lib.hid (fun W a c => isPlace_all W ⟨o, u, k⟩ a c)
  simp only at HIP
  clear h hI
  cases hb : isPlace ⟨o, u, k⟩
  · rw [hb] at HIP
    rw [if_neg (by decide)]
    clear hb
    go_enter Tryz.func286, Tryz.ntmps286
    go_wp2_with (first | (go_at_call 107; go_must (refine (HN.out _ (HH.out.move (by (repeat (first | exact Frm.refl _ _ | assumption | refine Frm.alloc ?_ _))))).mono ?_; rintro e w0 ⟨rfl, hp2, hf2⟩; have HP0 := Lib.hid hp2; have HF0 := Lib.hid (Frm.trans (show Frm (At R) w _ by (repeat (first | exact Frm.refl _ _ | assumption | refine Frm.alloc ?_ _))) hf2); have HX0 := Lib.hid (show Box w0 w.heap.size tN nd0 from Box.at (Box.new w tN nd0) (HH.out.move (by (repeat (first | exact Frm.refl _ _ | assumption | refine Frm.alloc ?_ _)))) hf2 (by decide)); clear hp2 hf2)) | (go_at_call 147; go_must (refine (HI.out _ (HP0.out.move (by (repeat (first | exact Frm.refl _ _ | assumption | refine Frm.alloc ?_ _ | refine Frm.drew ?_))))).mono ?_; rintro e w1 ⟨a, c, rfl, hk1, hp1, hf1⟩; have HK1 := Lib.hid (hk1.mono (F' := fun g => w.heap.size + 1 ≤ g) (fun g hg _ => by have hz := Box.lt HX0.out; (try simp only [World.size_alloc, World.size_drew] at hg); omega)); have HP1 := Lib.hid hp1; have HF1 := Lib.hid (HF0.out.trans (Frm.trans (show Frm (At R) w0 _ by (repeat (first | exact Frm.refl _ _ | assumption | refine Frm.alloc ?_ _ | refine Frm.drew ?_))) hf1)); have HX1 := Lib.hid (show Box w1 w.heap.size tN nd0 from Box.at (Box.frm HX0.out (show Frm No w0 _ by (repeat (first | exact Frm.refl _ _ | assumption | refine Frm.alloc ?_ _ | refine Frm.drew ?_))) id) (HP0.out.move (by (repeat (first | exact Frm.refl _ _ | assumption | refine Frm.alloc ?_ _ | refine Frm.drew ?_)))) hf1 (by decide)); clear hk1 hp1 hf1)) | (go_at_call 204; go_must (refine (HIP.out _ _ _).mono ?_; rintro e w2 ⟨rfl, hf2⟩; have hf12 : Frm No w1 w2 := Frm.trans (by (repeat (first | exact Frm.refl _ _ | assumption | refine Frm.alloc ?_ _ | refine Frm.drew ?_))) hf2; have HK2 := Lib.hid (HK1.out.move hf12); have HP2 := Lib.hid (HP1.out.move hf12); have HL2 := Lib.hid (Box.frm (Box.new w1 tN #[.string ⟨o.toArray⟩, .string ⟨u.toArray⟩, .slice a k.len c]) hf2 id); have HX2 := Lib.hid (show Box w2 w.heap.size tN nd0 from Box.frm HX1.out hf12 id); have HF2 := Lib.hid (HF1.out.trans (hf12.mono (S' := At R) (fun _ _ e => e.elim))); have l0 := Box.cell HL2.out 0; have l1 := Box.cell HL2.out 1; have l2 := Box.cell HL2.out 2; have hll := Box.lt HL2.out; clear hf2 hf12)) | (go_at_call 194; go_must (refine (fail_all _ R n s1 (HP2.out.move (by (repeat (first | exact Frm.refl _ _ | assumption | refine Frm.alloc ?_ _))))).mono ?_; rintro e w3 ⟨rfl, hp3, hf3⟩; have HX3 := Lib.hid (show Box w3 w.heap.size tN nd0 from Box.at (Box.frm HX2.out (show Frm No w2 _ by (repeat (first | exact Frm.refl _ _ | assumption | refine Frm.alloc ?_ _))) id) (HP2.out.move (by (repeat (first | exact Frm.refl _ _ | assumption | refine Frm.alloc ?_ _)))) hf3 (by decide)); have HK3 := Lib.hid (KV.nil w3 (fun g => w.heap.size + 1 ≤ g)); have HP3 := Lib.hid hp3; have HF3 := Lib.hid (HF2.out.trans (Frm.trans (show Frm (At R) w2 _ by (repeat (first | exact Frm.refl _ _ | assumption | refine Frm.alloc ?_ _))) hf3)); have x0 := Box.cell HX3.out 0; have x1 := Box.cell HX3.out 1; have x2 := Box.cell HX3.out 2; have y0 := Box.f HX3.out 0; have y1 := Box.f HX3.out 1; have y2 := Box.f HX3.out 2; clear hp3 hf3)))
    (have hB := (set3 HX3.out HF3.out (Nat.le_refl _) (.string ⟨#[110, 111, 110, 101]⟩) (.string ⟨#[]⟩) (.slice none 0 0)).1; have hM := set3m (w1 := w3) (b := w.heap.size) (.string ⟨#[110, 111, 110, 101]⟩) (.string ⟨#[]⟩) (.slice none 0 0); clear x0 x1 x2 y0 y1 y2; generalize ((w3.setCell ⟨w.heap.size, 0, none⟩ (.string ⟨#[110, 111, 110, 101]⟩)).setCell ⟨w.heap.size, 1, none⟩ (.string ⟨#[]⟩)).setCell ⟨w.heap.size, 2, none⟩ (.slice none 0 0) = X at *; have g0 := hB.cell 0; have g1 := hB.cell 1; have g2 := hB.cell 2; refine bodyPost_ret (v := .agg #[.string ⟨#[110, 111, 110, 101]⟩, .string ⟨#[]⟩, (.slice none 0 0)]) (by simp [results, Tryz.results286, go_sem, g0, g1, g2]) rfl ?_; exact ans_end (q := (failN s1)) HX3.out hM HK3.out HP3.out HF3.out)
  · rw [hb] at HIP
    rw [if_pos rfl]
    clear hb
    go_enter Tryz.func286, Tryz.ntmps286
    go_wp2_with (first | (go_at_call 107; go_must (refine (HN.out _ (HH.out.move (by (repeat (first | exact Frm.refl _ _ | assumption | refine Frm.alloc ?_ _))))).mono ?_; rintro e w0 ⟨rfl, hp2, hf2⟩; have HP0 := Lib.hid hp2; have HF0 := Lib.hid (Frm.trans (show Frm (At R) w _ by (repeat (first | exact Frm.refl _ _ | assumption | refine Frm.alloc ?_ _))) hf2); have HX0 := Lib.hid (show Box w0 w.heap.size tN nd0 from Box.at (Box.new w tN nd0) (HH.out.move (by (repeat (first | exact Frm.refl _ _ | assumption | refine Frm.alloc ?_ _)))) hf2 (by decide)); clear hp2 hf2)) | (go_at_call 147; go_must (refine (HI.out _ (HP0.out.move (by (repeat (first | exact Frm.refl _ _ | assumption | refine Frm.alloc ?_ _ | refine Frm.drew ?_))))).mono ?_; rintro e w1 ⟨a, c, rfl, hk1, hp1, hf1⟩; have HK1 := Lib.hid (hk1.mono (F' := fun g => w.heap.size + 1 ≤ g) (fun g hg _ => by have hz := Box.lt HX0.out; (try simp only [World.size_alloc, World.size_drew] at hg); omega)); have HP1 := Lib.hid hp1; have HF1 := Lib.hid (HF0.out.trans (Frm.trans (show Frm (At R) w0 _ by (repeat (first | exact Frm.refl _ _ | assumption | refine Frm.alloc ?_ _ | refine Frm.drew ?_))) hf1)); have HX1 := Lib.hid (show Box w1 w.heap.size tN nd0 from Box.at (Box.frm HX0.out (show Frm No w0 _ by (repeat (first | exact Frm.refl _ _ | assumption | refine Frm.alloc ?_ _ | refine Frm.drew ?_))) id) (HP0.out.move (by (repeat (first | exact Frm.refl _ _ | assumption | refine Frm.alloc ?_ _ | refine Frm.drew ?_)))) hf1 (by decide)); clear hk1 hp1 hf1)) | (go_at_call 204; go_must (refine (HIP.out _ _ _).mono ?_; rintro e w2 ⟨rfl, hf2⟩; have hf12 : Frm No w1 w2 := Frm.trans (by (repeat (first | exact Frm.refl _ _ | assumption | refine Frm.alloc ?_ _ | refine Frm.drew ?_))) hf2; have HK2 := Lib.hid (HK1.out.move hf12); have HP2 := Lib.hid (HP1.out.move hf12); have HL2 := Lib.hid (Box.frm (Box.new w1 tN #[.string ⟨o.toArray⟩, .string ⟨u.toArray⟩, .slice a k.len c]) hf2 id); have HX2 := Lib.hid (show Box w2 w.heap.size tN nd0 from Box.frm HX1.out hf12 id); have HF2 := Lib.hid (HF1.out.trans (hf12.mono (S' := At R) (fun _ _ e => e.elim))); have l0 := Box.cell HL2.out 0; have l1 := Box.cell HL2.out 1; have l2 := Box.cell HL2.out 2; have hll := Box.lt HL2.out; clear hf2 hf12)) | (go_at_call 110; go_must (refine (node_all _ _ _ _ _ _).mono ?_; rintro e w3 ⟨rfl, hf3⟩; have hf3' : Frm No w2 w3 := Frm.trans (by (repeat (first | exact Frm.refl _ _ | assumption | refine Frm.alloc ?_ _ | refine Frm.drew ?_))) hf3; have HK3 := Lib.hid (kids1 (w := w) (n1 := ⟨o, u, k⟩) HK2.out (Nat.le_refl _) (Box.lt HX2.out) hf3); have HP3 := Lib.hid (HP2.out.move hf3'); have HX3 := Lib.hid (show Box w3 w.heap.size tN nd0 from Box.frm HX2.out hf3' id); have HF3 := Lib.hid (HF2.out.trans (hf3'.mono (S' := At R) (fun _ _ e => e.elim))); have x0 := Box.cell HX3.out 0; have x1 := Box.cell HX3.out 1; have x2 := Box.cell HX3.out 2; have y0 := Box.f HX3.out 0; have y1 := Box.f HX3.out 1; have y2 := Box.f HX3.out 2; clear hf3 hf3')))
    (have hB := (set3 HX3.out HF3.out (Nat.le_refl _) (.string ⟨#[112, 114, 101]⟩) (.string ⟨tt.toArray⟩) (.slice (some ⟨w2.heap.size, 0, none⟩) 1 1)).1; have hM := set3m (w1 := w3) (b := w.heap.size) (.string ⟨#[112, 114, 101]⟩) (.string ⟨tt.toArray⟩) (.slice (some ⟨w2.heap.size, 0, none⟩) 1 1); clear x0 x1 x2 y0 y1 y2; generalize ((w3.setCell ⟨w.heap.size, 0, none⟩ (.string ⟨#[112, 114, 101]⟩)).setCell ⟨w.heap.size, 1, none⟩ (.string ⟨tt.toArray⟩)).setCell ⟨w.heap.size, 2, none⟩ (.slice (some ⟨w2.heap.size, 0, none⟩) 1 1) = X at *; have g0 := hB.cell 0; have g1 := hB.cell 1; have g2 := hB.cell 2; refine bodyPost_ret (v := .agg #[.string ⟨#[112, 114, 101]⟩, .string ⟨tt.toArray⟩, (.slice (some ⟨w2.heap.size, 0, none⟩) 1 1)]) (by simp [results, Tryz.results286, go_sem, g0, g1, g2]) rfl ?_; exact ans_end (q := (⟨w_pre, tt, one ⟨o, u, k⟩⟩, s1)) HX3.out hM HK3.out HP3.out HF3.out)
end Go.Proofs.YtgbibfhacjjaeaaGreat.syn
