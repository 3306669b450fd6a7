/- awake of the laws of layer 12. -/
import Derived.Test.YtkemdhaalcploaaGreatDoorSplM
import Derived.Test.YtkemdhaalcploaaGreatDoorSplT
namespace Go.Proofs.YtkemdhaalcploaaGreatDoor.spl
set_option linter.unusedVariables false set_option linter.unusedSimpArgs false
open Go.ChangeShapes Go.WideShapes Go.ChangeAt Go.RowKit Go.Proofs.YtkemdhaalcploaaGreatDoor.base

theorem cutno2 (s : ByteArray) (h : Lib.hasPrefix s.data.toList [37, 37] = false) (W : World) :
    Calls Tryz.prog 17 #[.string s, .string ⟨#[37, 37]⟩] W fun e w' => e = .returned (.tuple #[.string s, .bool false]) ∧ w' = W := by
  have k := Tryz.strings_CutPrefix s ⟨#[37, 37]⟩ W
  rw [show (⟨#[37, 37]⟩ : ByteArray).data.toList = [37, 37] from rfl, h, show Lib.trimPrefix s.data.toList [37, 37] = s.data.toList by unfold Lib.trimPrefix; rw [h]; rfl, str_eta] at k
  exact k

set_option maxHeartbeats 2000000 in
set_option maxRecDepth 100000 in
/-- A step at a conversion. -/
theorem step_conv (w : World) (B b : Nat) (R r1 tl : ByteArray) (args args2 : Value) (conv : ByteArray) (l l2 : List UInt8) (most : Int) (h : WR B b R args conv l most w) (hM : MaxL w) (hB : B ≤ w.heap.size) (Q : List UInt8) (y : Bool) (hP : Lib.cut R.data.toList [37] = ([], Q, y)) (hno : Lib.hasPrefix R.data.toList [37, 37] = false) (hz : R.size ≤ 1000) (hz1 : 1 ≤ R.size) (hr : R.extract 1 R.size = r1)
    (hcv : ∀ W, WR B b r1 args conv l most W → Kb B b w W → Frm (At b) w W → Calls Tryz.prog 18 #[.pointer (some ⟨b, 0, none⟩)] W fun e w' => e = .returned (.bool true) ∧ WR B b tl args2 conv l2 most w' ∧ Kb B b W w') :
    Calls Tryz.prog 11 #[.pointer (some ⟨b, 0, none⟩)] w fun e w' => e = .returned (.bool true) ∧ WR B b tl args2 conv l2 most w' ∧ Kb B b w w' := by
  subst hr
  have HC := Lib.hid (cutp R w (by omega) hM [] Q y hP)
  have HD := Lib.hid (fun W => cutno2 R hno W)
  have c0 := h.c0
  have hf := h.f 0
  have hBb : B ≤ b := h.1
  have HX := Lib.hid (fun (n : Nat) => hcv ((w.drewN n).setCell ⟨b, 0, none⟩ (.string (R.extract 1 R.size))) (h.frm ((Frm.refl No w).drewN n)).rest (Kb.at (((Frm.refl (At b) w).drewN n).setCell ⟨b, 0, none⟩ _ (fun _ => rfl)) hB hBb) (((Frm.refl (At b) w).drewN n).setCell ⟨b, 0, none⟩ _ (fun _ => rfl)))
  have HK := Lib.hid (fun (n : Nat) => show Kb B b w ((w.drewN n).setCell ⟨b, 0, none⟩ (.string (R.extract 1 R.size))) from Kb.at (((Frm.refl (At b) w).drewN n).setCell ⟨b, 0, none⟩ _ (fun _ => rfl)) hB hBb)
  clear h hM hP hno hcv hz
  go_enter Tryz.func11, Tryz.ntmps11
  go_wp2_with (first | (go_at_call 15; go_must (refine (HC.out).mono ?_; rintro e w1 ⟨rfl, nq, rfl⟩)) | (go_at_call 17; go_must (refine (HD.out _).mono ?_; rintro e w1 ⟨rfl, rfl⟩)) | (go_at_call 18; go_must (refine (HX.out _).mono ?_; rintro e w2 ⟨rfl, hw2, hk2⟩; have HW2 := Lib.hid hw2; have HK2 := Lib.hid ((HK.out _).trans hk2); clear hw2 hk2)))
  go_ret
  exact ⟨rfl, HW2.out, HK2.out⟩

theorem st1 (w wx : World) (g : Nat) (conv : ByteArray) (hw : Below w.heap.size w wx) (h : WR w.heap.size w.heap.size ⟨#[37, 48, 51, 100, 124, 37, 45, 51, 115, 124, 37, 99]⟩ (.slice (some ⟨g, 0, none⟩) 3 3) conv [] 100 wx) (hM : MaxL w) (hv : w.cell? ⟨g, 0, none⟩ = some (numV 4619567317775286272)) (hT : sev.TabF w) :
    Calls Tryz.prog 11 #[.pointer (some ⟨w.heap.size, 0, none⟩)] wx fun e w' => e = .returned (.bool true) ∧ WR w.heap.size w.heap.size ⟨#[124, 37, 45, 51, 115, 124, 37, 99]⟩ (.slice (some ⟨g, 1, none⟩) 2 2) conv [48, 48, 55] 100 w' ∧ Below w.heap.size w w' := by
  have hg : g < w.heap.size := World.block_lt_of_cell? w _ hv
  refine (step_conv wx _ _ ⟨#[37, 48, 51, 100, 124, 37, 45, 51, 115, 124, 37, 99]⟩ ⟨#[48, 51, 100, 124, 37, 45, 51, 115, 124, 37, 99]⟩ ⟨#[124, 37, 45, 51, 115, 124, 37, 99]⟩ _ (.slice (some ⟨g, 1, none⟩) 2 2) conv _ [48, 48, 55] 100 h (hM.below hw (World.block_lt_of_cell? w _ hM.choose_spec)) hw.size (Lib.cut (⟨#[37, 48, 51, 100, 124, 37, 45, 51, 115, 124, 37, 99]⟩ : ByteArray).data.toList [37]).2.1 true (by decide +kernel) (by decide +kernel) (by decide) (by decide) (by decide +kernel) ?_).mono (fun e w' ⟨e1, e2, e3⟩ => ⟨e1, e2, hw.trans e3.bel⟩)
  intro W hW hk hf
  have hvW : W.cell? ⟨g, 0, none⟩ = some (numV 4619567317775286272) := by
    rw [World.cell?_of_block (hf.block g (Nat.lt_of_lt_of_le hg hw.size) (by intro e; have e2 : g = w.heap.size := e; omega)), hw.cell (by exact hg)]
    exact hv
  exact convert_d W w.heap.size w.heap.size g conv [] 100 hW hvW (by omega) (Nat.le_trans hw.size hf.size) (by decide) (by decide) (by decide) (fun X hX => hT.below ((hw.trans hk.bel).trans hX))

theorem st2 (w wx : World) (g : Nat) (conv : ByteArray) (hw : Below w.heap.size w wx) (h : WR w.heap.size w.heap.size ⟨#[124, 37, 45, 51, 115, 124, 37, 99]⟩ (.slice (some ⟨g, 1, none⟩) 2 2) conv [48, 48, 55] 100 wx) (hM : MaxL w) :
    Calls Tryz.prog 11 #[.pointer (some ⟨w.heap.size, 0, none⟩)] wx fun e w' => e = .returned (.bool true) ∧ WR w.heap.size w.heap.size ⟨#[37, 45, 51, 115, 124, 37, 99]⟩ (.slice (some ⟨g, 1, none⟩) 2 2) conv [48, 48, 55, 124] 100 w' ∧ Below w.heap.size w w' := by
  have hlt : 0 < w.heap.size := World.block_lt_of_cell? w _ hM.choose_spec
  have k := step_plain wx _ _ ⟨#[124, 37, 45, 51, 115, 124, 37, 99]⟩ _ conv _ 100 h (by decide) (hM.below hw hlt) hlt [124] (Lib.cut (⟨#[124, 37, 45, 51, 115, 124, 37, 99]⟩ : ByteArray).data.toList [37]).2.1 true (by decide +kernel) (by decide) (by decide) hw.size (by decide) (by decide) (by decide) (by decide)
  rw [show (⟨#[124, 37, 45, 51, 115, 124, 37, 99]⟩ : ByteArray).extract ([124] : List UInt8).length (⟨#[124, 37, 45, 51, 115, 124, 37, 99]⟩ : ByteArray).size = ⟨#[37, 45, 51, 115, 124, 37, 99]⟩ by decide +kernel] at k
  exact k.mono (fun e w' ⟨e1, e2, e3⟩ => ⟨e1, e2, hw.trans e3.bel⟩)

theorem st3 (w wx : World) (g : Nat) (conv : ByteArray) (hw : Below w.heap.size w wx) (h : WR w.heap.size w.heap.size ⟨#[37, 45, 51, 115, 124, 37, 99]⟩ (.slice (some ⟨g, 1, none⟩) 2 2) conv [48, 48, 55, 124] 100 wx) (hM : MaxL w) (hv : w.cell? ⟨g, 1, none⟩ = some (strV ⟨#[97]⟩)) :
    Calls Tryz.prog 11 #[.pointer (some ⟨w.heap.size, 0, none⟩)] wx fun e w' => e = .returned (.bool true) ∧ WR w.heap.size w.heap.size ⟨#[124, 37, 99]⟩ (.slice (some ⟨g, 2, none⟩) 1 1) conv [48, 48, 55, 124, 97, 32, 32] 100 w' ∧ Below w.heap.size w w' := by
  have hg : g < w.heap.size := World.block_lt_of_cell? w _ hv
  refine (step_conv wx _ _ ⟨#[37, 45, 51, 115, 124, 37, 99]⟩ ⟨#[45, 51, 115, 124, 37, 99]⟩ ⟨#[124, 37, 99]⟩ _ (.slice (some ⟨g, 2, none⟩) 1 1) conv _ [48, 48, 55, 124, 97, 32, 32] 100 h (hM.below hw (World.block_lt_of_cell? w _ hM.choose_spec)) hw.size (Lib.cut (⟨#[37, 45, 51, 115, 124, 37, 99]⟩ : ByteArray).data.toList [37]).2.1 true (by decide +kernel) (by decide +kernel) (by decide) (by decide) (by decide +kernel) ?_).mono (fun e w' ⟨e1, e2, e3⟩ => ⟨e1, e2, hw.trans e3.bel⟩)
  intro W hW hk hf
  have hvW : W.cell? ⟨g, 1, none⟩ = some (strV ⟨#[97]⟩) := by
    rw [World.cell?_of_block (hf.block g (Nat.lt_of_lt_of_le hg hw.size) (by intro e; have e2 : g = w.heap.size := e; omega)), hw.cell (by exact hg)]
    exact hv
  exact convert_s W w.heap.size w.heap.size g conv [48, 48, 55, 124] 100 hW hvW (by omega) (Nat.le_trans hw.size hf.size) (by decide) (by decide) (by decide)

theorem st4 (w wx : World) (g : Nat) (conv : ByteArray) (hw : Below w.heap.size w wx) (h : WR w.heap.size w.heap.size ⟨#[124, 37, 99]⟩ (.slice (some ⟨g, 2, none⟩) 1 1) conv [48, 48, 55, 124, 97, 32, 32] 100 wx) (hM : MaxL w) :
    Calls Tryz.prog 11 #[.pointer (some ⟨w.heap.size, 0, none⟩)] wx fun e w' => e = .returned (.bool true) ∧ WR w.heap.size w.heap.size ⟨#[37, 99]⟩ (.slice (some ⟨g, 2, none⟩) 1 1) conv [48, 48, 55, 124, 97, 32, 32, 124] 100 w' ∧ Below w.heap.size w w' := by
  have hlt : 0 < w.heap.size := World.block_lt_of_cell? w _ hM.choose_spec
  have k := step_plain wx _ _ ⟨#[124, 37, 99]⟩ _ conv _ 100 h (by decide) (hM.below hw hlt) hlt [124] (Lib.cut (⟨#[124, 37, 99]⟩ : ByteArray).data.toList [37]).2.1 true (by decide +kernel) (by decide) (by decide) hw.size (by decide) (by decide) (by decide) (by decide)
  rw [show (⟨#[124, 37, 99]⟩ : ByteArray).extract ([124] : List UInt8).length (⟨#[124, 37, 99]⟩ : ByteArray).size = ⟨#[37, 99]⟩ by decide +kernel] at k
  exact k.mono (fun e w' ⟨e1, e2, e3⟩ => ⟨e1, e2, hw.trans e3.bel⟩)

theorem st5 (w wx : World) (g : Nat) (conv : ByteArray) (hw : Below w.heap.size w wx) (h : WR w.heap.size w.heap.size ⟨#[37, 99]⟩ (.slice (some ⟨g, 2, none⟩) 1 1) conv [48, 48, 55, 124, 97, 32, 32, 124] 100 wx) (hM : MaxL w) (hv : w.cell? ⟨g, 2, none⟩ = some (numV 4634274385308418048)) :
    Calls Tryz.prog 11 #[.pointer (some ⟨w.heap.size, 0, none⟩)] wx fun e w' => e = .returned (.bool true) ∧ WR w.heap.size w.heap.size ⟨#[]⟩ (.slice (some ⟨g, 2, none⟩) 0 0) conv [48, 48, 55, 124, 97, 32, 32, 124, 65] 100 w' ∧ Below w.heap.size w w' := by
  have hg : g < w.heap.size := World.block_lt_of_cell? w _ hv
  refine (step_conv wx _ _ ⟨#[37, 99]⟩ ⟨#[99]⟩ ⟨#[]⟩ _ (.slice (some ⟨g, 2, none⟩) 0 0) conv _ [48, 48, 55, 124, 97, 32, 32, 124, 65] 100 h (hM.below hw (World.block_lt_of_cell? w _ hM.choose_spec)) hw.size (Lib.cut (⟨#[37, 99]⟩ : ByteArray).data.toList [37]).2.1 true (by decide +kernel) (by decide +kernel) (by decide) (by decide) (by decide +kernel) ?_).mono (fun e w' ⟨e1, e2, e3⟩ => ⟨e1, e2, hw.trans e3.bel⟩)
  intro W hW hk hf
  have hvW : W.cell? ⟨g, 2, none⟩ = some (numV 4634274385308418048) := by
    rw [World.cell?_of_block (hf.block g (Nat.lt_of_lt_of_le hg hw.size) (by intro e; have e2 : g = w.heap.size := e; omega)), hw.cell (by exact hg)]
    exact hv
  exact convert_c W w.heap.size w.heap.size g conv [48, 48, 55, 124, 97, 32, 32, 124] 100 hW hvW (by omega) (Nat.le_trans hw.size hf.size) (by decide) (by decide) (by decide)

set_option maxHeartbeats 4000000 in
set_option maxRecDepth 100000 in
/-- Spell of the example. -/
theorem spell_ex (w : World) (g : Nat) (conv : ByteArray) (hT : sev.TabF w) (hM : MaxL w) (h0 : w.cell? ⟨g, 0, none⟩ = some (numV 4619567317775286272)) (h1 : w.cell? ⟨g, 1, none⟩ = some (strV ⟨#[97]⟩)) (h2 : w.cell? ⟨g, 2, none⟩ = some (numV 4634274385308418048)) :
    Calls Tryz.prog 6 #[.string ⟨#[37, 48, 51, 100, 124, 37, 45, 51, 115, 124, 37, 99]⟩, .slice (some ⟨g, 0, none⟩) 3 3, .string conv, .int .i64 100] w fun e w' => e = .returned (.tuple #[.string ⟨#[48, 48, 55, 124, 97, 32, 32, 124, 65]⟩, .bool true]) ∧ Below w.heap.size w w' := by
  have HT := Lib.hid hT
  have HM := Lib.hid hM
  have H0 := Lib.hid h0
  have H1 := Lib.hid h1
  have H2 := Lib.hid h2
  have HW0 := Lib.hid (WR.new w ⟨#[37, 48, 51, 100, 124, 37, 45, 51, 115, 124, 37, 99]⟩ (.slice (some ⟨g, 0, none⟩) 3 3) conv 100)
  have HB0 := Lib.hid ((Below.refl w.heap.size w).alloc (Nat.le_refl _) (.cells #[.string ⟨#[37, 48, 51, 100, 124, 37, 45, 51, 115, 124, 37, 99]⟩, .slice (some ⟨g, 0, none⟩) 3 3, .string conv, .pointer none, .slice none 0 0, .int .i64 100] 44))
  clear hT hM h0 h1 h2
  go_enter Tryz.func6, Tryz.ntmps6
  go_wp2
  refine wp_loop_rounds 6 ?_
  rw [rounds_succ]
  go_wp2_with (go_at_call 11; go_must (refine (st1 w _ g conv (by exact HB0.out) (by exact HW0.out) HM.out H0.out HT.out).mono ?_; rintro e w1 ⟨rfl, hw1, hb1⟩; have HW1 := Lib.hid hw1; have HB1 := Lib.hid hb1; have c1 := hw1.c0; clear hw1 hb1))
  rw [rounds_succ]
  go_wp2_with (go_at_call 11; go_must (refine (st2 w _ g conv HB1.out HW1.out HM.out).mono ?_; rintro e w2 ⟨rfl, hw2, hb2⟩; have HW2 := Lib.hid hw2; have HB2 := Lib.hid hb2; have c2 := hw2.c0; clear hw2 hb2))
  rw [rounds_succ]
  go_wp2_with (go_at_call 11; go_must (refine (st3 w _ g conv HB2.out HW2.out HM.out H1.out).mono ?_; rintro e w3 ⟨rfl, hw3, hb3⟩; have HW3 := Lib.hid hw3; have HB3 := Lib.hid hb3; have c3 := hw3.c0; clear hw3 hb3))
  rw [rounds_succ]
  go_wp2_with (go_at_call 11; go_must (refine (st4 w _ g conv HB3.out HW3.out HM.out).mono ?_; rintro e w4 ⟨rfl, hw4, hb4⟩; have HW4 := Lib.hid hw4; have HB4 := Lib.hid hb4; have c4 := hw4.c0; clear hw4 hb4))
  rw [rounds_succ]
  go_wp2_with (go_at_call 11; go_must (refine (st5 w _ g conv HB4.out HW4.out HM.out H2.out).mono ?_; rintro e w5 ⟨rfl, hw5, hb5⟩; have HW5 := Lib.hid hw5; have HB5 := Lib.hid hb5; have c5 := hw5.c0; clear hw5 hb5))
  rw [rounds_succ]
  go_wp2_with (go_at_call 12; go_must (refine (string_all _ _ _ _ _ _ _ _ HW5.out HB5.out.size).mono ?_; rintro e w6 ⟨rfl, hk6⟩; have HK6 := Lib.hid (HB5.out.trans hk6.bel); clear hk6))
  go_ret2
  exact ⟨rfl, HK6.out⟩
end Go.Proofs.YtkemdhaalcploaaGreatDoor.spl
