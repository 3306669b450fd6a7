/- awake (tedderlaw02), and the law DecLooks: the walks. -/
import Derived.Test.YthckhhifpmhlbaaGreatDoorAwk12
import Derived.Test.YthckhhifpmhlbaaGreatDoorLookC
namespace Go.Proofs.YthckhhifpmhlbaaGreatDoor.law02
set_option linter.unusedVariables false set_option linter.unusedSimpArgs false
open Go.ChangeShapes Go.WideShapes Go.ChangeAt Go.RowKit Go.Proofs.YthckhhifpmhlbaaGreatDoor.awk Go.Proofs.YthckhhifpmhlbaaGreatDoor.deci

/-- What the laws take of the tables. -/
def Tabs (w : World) : Prop := TabF w ∧ w.cell? ⟨10, 0, none⟩ = some (.int .u64 52) ∧ ∃ m, w.cell? ⟨6, 0, none⟩ = some (.int .i64 m)
theorem Tabs.below {w w' : World} (h : Tabs w) (hb : Below w.heap.size w w') : Tabs w' := by
  obtain ⟨h1, h2, m, h3⟩ := h
  refine ⟨h1.below hb, ?_, m, ?_⟩
  · rw [hb.cell (by exact World.block_lt_of_cell? w _ h2)]; exact h2
  · rw [hb.cell (by exact World.block_lt_of_cell? w _ h3)]; exact h3

theorem format_t (w : World) (h : Tabs w) : Calls Tryz.prog 9 #[.float .f64 4591870180066957722, .int .u8 103, .int .i64 6, .bool false] w fun e w' => e = .returned (.string ⟨#[48, 46, 49]⟩) ∧ Below w.heap.size w w' := by
  obtain ⟨h1, _, m, h3⟩ := h
  exact format_c w h1 m h3

set_option maxRecDepth 100000 in
set_option maxHeartbeats 400000 in
theorem awake_all (w : World) (h : Tabs w) : Calls Tryz.prog 4 #[] w fun e w' => e = .returned (.bool true) ∧ Below w.heap.size w w' := by
  have f1 : (FloatKind.f64.format.order 4638496509959077888 4638496509959077888 == some .eq) = true := by decide +kernel
  have H := Lib.hid h
  have HP := Lib.hid (prefix_all w h.2.1 h.1.opt)
  clear h
  go_enter Tryz.func4, Tryz.ntmps4
  go_wp2_with (first | (go_at_call 7; go_must (refine (HP.out).mono ?_; rintro e w1 ⟨rfl, hb1⟩; have hz1 := hb1.size)) | (go_at_call 8; go_must (refine (whole_c _ (H.out.below hb1).1.pow).mono ?_; rintro e w2 ⟨rfl, hb2⟩; have hb12 := hb1.trans (hb2.mono hz1); have hz2 := hb12.size)) | (go_at_call 9; go_must (refine (format_t _ (H.out.below hb12)).mono ?_; rintro e w3 ⟨rfl, hb3⟩; have hb13 := hb12.trans (hb3.mono hz2); have hz3 := hb13.size)) | (go_at_call 5; go_must (refine (looks_c _).mono ?_; rintro e w4 ⟨rfl, hb4⟩)))
  go_ret
  exact ⟨rfl, hb13.trans (hb4.mono hz3)⟩

theorem size_lit (s : ByteArray) : ((s.size : Int) ≤ 700 ∨ (700 : Int) < (s.size : Int)) := by omega
set_option maxRecDepth 100000 in
set_option maxHeartbeats 400000 in
theorem looks (s : ByteArray) (w : World) (h : Tabs w) :
    Calls Tryz.prog 3 #[.string s] w fun e w' => e = .returned (.bool true) ∧ Below w.heap.size w w' := by
  have H := Lib.hid h
  clear h
  by_cases hs : (700 : Int) < (s.size : Int)
  · go_enter Tryz.func3, Tryz.ntmps3
    go_wp2_with (go_at_call 4; go_must (refine (awake_all _ H.out).mono ?_; rintro e w1 ⟨rfl, hb1⟩))
    go_ret
    exact ⟨rfl, hb1⟩
  · have hs2 : s.size ≤ 1000 := by omega
    have H1 := Lib.hid (fun w => scan.Looks_all s w (by omega))
    have H2 := Lib.hid (fun w => scan.refLooks_all s w hs2)
    clear hs2
    generalize scan.looksOf s.data.toList = b at *
    go_enter Tryz.func3, Tryz.ntmps3
    go_wp2_with (first | (go_at_call 4; go_must (refine (awake_all _ H.out).mono ?_; rintro e w1 ⟨rfl, hb1⟩; have hz1 := hb1.size)) | (go_at_call 5; go_must (refine (H1.out _).mono ?_; rintro e w2 ⟨rfl, hb2⟩; have hb12 := hb1.trans (hb2.mono hz1); have hz2 := hb12.size)) | (go_at_call 6; go_must (refine (H2.out _).mono ?_; rintro e w3 ⟨rfl, hb3⟩)))
    go_ret
    exact ⟨by simp, hb12.trans (hb3.mono hz2)⟩
end Go.Proofs.YthckhhifpmhlbaaGreatDoor.law02
