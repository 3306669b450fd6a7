/- awake (tedderlaw02), and the law DecReads: the walks. -/
import Derived.Test.YtcjeeoadgoghfaaGreatDoorGAwk12
import Derived.Test.YtcjeeoadgoghfaaGreatDoorDocQ

namespace Go.Proofs.YtcjeeoadgoghfaaGreatDoor.law02
set_option linter.unusedVariables false set_option linter.unusedSimpArgs false
open Go.ChangeShapes Go.WideShapes Go.ChangeAt Go.RowKit Go.Proofs.YtcjeeoadgoghfaaGreatDoor.awk Go.Proofs.YtcjeeoadgoghfaaGreatDoor.deci Go.Proofs.YtcjeeoadgoghfaaGreatDoor.base
open Go.Proofs.YtcjeeoadgoghfaaGreatDoor.whole Go.Proofs.YtcjeeoadgoghfaaGreatDoor.Usc Go.Proofs.YtcjeeoadgoghfaaGreatDoor.Deci

/-- What the laws take of the tables. -/
def Tabs (w : World) : Prop := TabF w ∧ w.cell? ⟨10, 0, none⟩ = some (.int .u64 52) ∧ ∃ m, w.cell? ⟨1, 0, none⟩ = some (.int .i64 m)
theorem Tabs.below {w w' : World} (h : Tabs w) (hb : Below w.heap.size w w') : Tabs w' := by
  obtain ⟨h1, h2, m, h3⟩ := h
  refine ⟨h1.below hb, ?_, m, ?_⟩
  · rw [hb.cell (by exact World.block_lt_of_cell? w _ h2)]; exact h2
  · rw [hb.cell (by exact World.block_lt_of_cell? w _ h3)]; exact h3

theorem format_t (w : World) (h : Tabs w) : Calls Tryz.prog 43 #[.float .f64 4591870180066957722, .int .u8 103, .int .i64 6, .bool false] w fun e w' => e = .returned (.string ⟨#[48, 46, 49]⟩) ∧ Below w.heap.size w w' := by
  obtain ⟨h1, _, m, h3⟩ := h
  exact format_c w h1 m h3

set_option maxRecDepth 100000 in
set_option maxHeartbeats 400000 in
theorem awake_all (w : World) (h : Tabs w) : Calls Tryz.prog 9 #[] w fun e w' => e = .returned (.bool true) ∧ Below w.heap.size w w' := by
  have f1 : (FloatKind.f64.format.order 4638496509959077888 4638496509959077888 == some .eq) = true := by decide +kernel
  have H := Lib.hid h
  have HP := Lib.hid (prefix_all w h.2.1 h.1.opt)
  clear h
  go_enter Tryz.func9, Tryz.ntmps9
  go_wp2_with (first | (go_at_call 10; go_must (refine (HP.out).mono ?_; rintro e w1 ⟨rfl, hb1⟩; have hz1 := hb1.size)) | (go_at_call 42; go_must (refine (whole_c _ (H.out.below hb1).1.pow).mono ?_; rintro e w2 ⟨rfl, hb2⟩; have hb12 := hb1.trans (hb2.mono hz1); have hz2 := hb12.size)) | (go_at_call 43; go_must (refine (format_t _ (H.out.below hb12)).mono ?_; rintro e w3 ⟨rfl, hb3⟩; have hb13 := hb12.trans (hb3.mono hz2); have hz3 := hb13.size)) | (go_at_call 44; go_must (refine (looks_c _).mono ?_; rintro e w4 ⟨rfl, hb4⟩)))
  go_ret
  exact ⟨rfl, hb13.trans (hb4.mono hz3)⟩

/-- A number's word; 1 of what is none. -/
def bitsN (c : Nat) : Nat := if Ieee.double.order c c = some .eq then c else 1
theorem bits_any (c : Nat) (w : World) : Calls Tryz.prog 12 #[.float .f64 c] w fun e w' => e = .returned (.int .u64 (bitsN c : Nat)) ∧ w = w' := by
  have hb := run_bits c
  by_cases h : Ieee.double.order c c = some .eq
  · have ho := ord_ne c c h
    have HE := Lib.hid (show bitsN c = c from if_pos h)
    clear h
    go_enter Tryz.func12, Tryz.ntmps12
    go_wp2
    go_ret
    exact ⟨ret_int (by rw [HE.out]), rfl⟩
  · have ho := ord_ne2 c c h
    have HE := Lib.hid (show bitsN c = 1 from if_neg h)
    clear h
    go_enter Tryz.func12, Tryz.ntmps12
    go_wp2
    go_ret
    exact ⟨ret_int (by rw [HE.out]; rfl), rfl⟩

set_option maxRecDepth 100000 in
set_option maxHeartbeats 1000000 in
theorem reads (s : ByteArray) (w : World) (h : Tabs w) (B Pb T : Nat) (hw : deca.Dw w B Pb T) (hr : deca.Rg w) (ht : deca.Tens w) :
    Calls Tryz.prog 3 #[.string s] w fun e w' => e = .returned (.bool true) ∧ Below w.heap.size w w' := by
  have H := Lib.hid h
  have HW := Lib.hid (And.intro hw (And.intro hr ht))
  clear h hw hr ht
  by_cases hs : (700 : Int) < (s.size : Int)
  · go_enter Tryz.func3, Tryz.ntmps3
    go_wp2_with (go_at_call 9; go_must (refine (awake_all _ H.out).mono ?_; rintro e w1 ⟨rfl, hb1⟩))
    go_ret
    exact ⟨rfl, hb1⟩
  · have hs7 : s.size ≤ 700 := by omega
    have H1 := Lib.hid (fun w h1 h2 h3 => pre_p w B Pb T s hs7 h1 h2 h3)
    have H2 := Lib.hid (fun w => pre_d s w hs7)
    obtain ⟨F, hF⟩ : ∃ F, pw s = F := ⟨_, rfl⟩
    obtain ⟨k, hk⟩ : ∃ k, szN s = k := ⟨_, rfl⟩
    rw [hF, hk] at H1 H2
    clear hs7 hF hk
    go_enter Tryz.func3, Tryz.ntmps3
    go_wp2_with (first | (go_at_call 9; go_must (refine (awake_all _ H.out).mono ?_; rintro e w1 ⟨rfl, hb1⟩; have HF1 := Lib.hid (Frm.ofBelow hb1 (Nat.le_refl _)); clear hb1)) | (go_at_call 10; go_must (refine (H1.out _ (HW.out.1.frm HF1.out) (HW.out.2.1.frm HF1.out) (HW.out.2.2.frm HF1.out)).mono ?_; rintro e w2 ⟨rfl, hf2⟩; have HF2 := Lib.hid (HF1.out.trans hf2); clear hf2)) | (go_at_call 11; go_must (refine (H2.out _).mono ?_; rintro e w3 ⟨rfl, hb3⟩; have HF3 := Lib.hid (HF2.out.trans (Frm.ofBelow hb3 (Nat.le_refl _))); clear hb3)) | (go_at_call 12; go_must (refine (bits_any F _).mono ?_; rintro e w4 ⟨rfl, rfl⟩)))
    go_ret
    exact ⟨by simp, HF3.out.below (Nat.le_refl _) (fun _ _ h => h)⟩
end Go.Proofs.YtcjeeoadgoghfaaGreatDoor.law02
