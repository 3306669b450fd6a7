/- awake (tedderlaw02), and the law DecWholes: the walks. -/
import Derived.Test.YtplnpplmhjddbaaGreatDoorAwk12
import Derived.Test.YtplnpplmhjddbaaGreatDoorWhole2
namespace Go.Proofs.YtplnpplmhjddbaaGreatDoor.law02
set_option linter.unusedVariables false set_option linter.unusedSimpArgs false
open Go.ChangeShapes Go.WideShapes Go.ChangeAt Go.RowKit Go.Proofs.YtplnpplmhjddbaaGreatDoor.awk Go.Proofs.YtplnpplmhjddbaaGreatDoor.deci

/-- What the laws take of the tables. -/
def Tabs (w : World) : Prop := TabF w ∧ w.cell? ⟨10, 0, none⟩ = some (.int .u64 52) ∧ ∃ m, w.cell? ⟨6, 0, none⟩ = some (.int .i64 m)
theorem Tabs.below {w w' : World} (h : Tabs w) (hb : Below w.heap.size w w') : Tabs w' := by
  obtain ⟨h1, h2, m, h3⟩ := h
  refine ⟨h1.below hb, ?_, m, ?_⟩
  · rw [hb.cell (by exact World.block_lt_of_cell? w _ h2)]; exact h2
  · rw [hb.cell (by exact World.block_lt_of_cell? w _ h3)]; exact h3

theorem format_t (w : World) (h : Tabs w) : Calls Tryz.prog 17 #[.float .f64 4591870180066957722, .int .u8 103, .int .i64 6, .bool false] w fun e w' => e = .returned (.string ⟨#[48, 46, 49]⟩) ∧ Below w.heap.size w w' := by
  obtain ⟨h1, _, m, h3⟩ := h
  exact format_c w h1 m h3

set_option maxRecDepth 100000 in
set_option maxHeartbeats 400000 in
theorem awake_all (w : World) (h : Tabs w) : Calls Tryz.prog 7 #[] w fun e w' => e = .returned (.bool true) ∧ Below w.heap.size w w' := by
  have f1 : (FloatKind.f64.format.order 4638496509959077888 4638496509959077888 == some .eq) = true := by decide +kernel
  have H := Lib.hid h
  have HP := Lib.hid (prefix_all w h.2.1 h.1.opt)
  clear h
  go_enter Tryz.func7, Tryz.ntmps7
  go_wp2_with (first | (go_at_call 8; go_must (refine (HP.out).mono ?_; rintro e w1 ⟨rfl, hb1⟩; have hz1 := hb1.size)) | (go_at_call 14; go_must (refine (whole_c _ (H.out.below hb1).1.pow).mono ?_; rintro e w2 ⟨rfl, hb2⟩; have hb12 := hb1.trans (hb2.mono hz1); have hz2 := hb12.size)) | (go_at_call 17; go_must (refine (format_t _ (H.out.below hb12)).mono ?_; rintro e w3 ⟨rfl, hb3⟩; have hb13 := hb12.trans (hb3.mono hz2); have hz3 := hb13.size)) | (go_at_call 11; go_must (refine (looks_c _).mono ?_; rintro e w4 ⟨rfl, hb4⟩)))
  go_ret
  exact ⟨rfl, hb13.trans (hb4.mono hz3)⟩

set_option maxRecDepth 100000 in
set_option maxHeartbeats 400000 in
theorem wholes_none (b : Nat) (w : World) (h : Tabs w) (h1 : ∀ w, Calls Tryz.prog 14 #[.float .f64 b] w fun e w' => e = .returned (.tuple #[.string ⟨#[]⟩, .bool false]) ∧ Below w.heap.size w w')
    (h2 : ∀ w, Calls Tryz.prog 15 #[.float .f64 b] w fun e w' => e = .returned (.tuple #[.string ⟨#[]⟩, .bool false]) ∧ Below w.heap.size w w') :
    Calls Tryz.prog 5 #[.int .u64 b] w fun e w' => e = .returned (.bool true) ∧ Below w.heap.size w w' := by
  have hfrom := run_frombits b
  have H := Lib.hid h
  have H1 := Lib.hid h1
  have H2 := Lib.hid h2
  clear h h1 h2
  go_enter Tryz.func5, Tryz.ntmps5
  go_wp2_with (first | (go_at_call 7; go_must (refine (awake_all _ H.out).mono ?_; rintro e w1 ⟨rfl, hb1⟩; have hz1 := hb1.size)) | (go_at_call 14; go_must (refine (H1.out _).mono ?_; rintro e w2 ⟨rfl, hb2⟩; have hb12 := hb1.trans (hb2.mono hz1); have hz2 := hb12.size)) | (go_at_call 15; go_must (refine (H2.out _).mono ?_; rintro e w3 ⟨rfl, hb3⟩)))
  go_ret
  exact ⟨rfl, hb12.trans (hb3.mono hz2)⟩

set_option maxRecDepth 100000 in
set_option maxHeartbeats 400000 in
theorem wholes_some (b : Nat) (S : ByteArray) (w : World) (h : Tabs w) (h1 : ∀ w, Tabs w → Calls Tryz.prog 14 #[.float .f64 b] w fun e w' => e = .returned (.tuple #[.string S, .bool true]) ∧ Below w.heap.size w w')
    (h2 : ∀ w, Calls Tryz.prog 15 #[.float .f64 b] w fun e w' => e = .returned (.tuple #[.string S, .bool true]) ∧ Below w.heap.size w w') :
    Calls Tryz.prog 5 #[.int .u64 b] w fun e w' => e = .returned (.bool true) ∧ Below w.heap.size w w' := by
  have hfrom := run_frombits b
  have H := Lib.hid h
  have H1 := Lib.hid h1
  have H2 := Lib.hid h2
  clear h h1 h2
  go_enter Tryz.func5, Tryz.ntmps5
  go_wp2_with (first | (go_at_call 7; go_must (refine (awake_all _ H.out).mono ?_; rintro e w1 ⟨rfl, hb1⟩; have hz1 := hb1.size)) | (go_at_call 14; go_must (refine (H1.out _ (H.out.below hb1)).mono ?_; rintro e w2 ⟨rfl, hb2⟩; have hb12 := hb1.trans (hb2.mono hz1); have hz2 := hb12.size)) | (go_at_call 15; go_must (refine (H2.out _).mono ?_; rintro e w3 ⟨rfl, hb3⟩)))
  go_ret
  exact ⟨rfl, hb12.trans (hb3.mono hz2)⟩

theorem wholes (b : Nat) (w : World) (h : Tabs w) (hb : b < 18446744073709551616) :
    Calls Tryz.prog 5 #[.int .u64 b] w fun e w' => e = .returned (.bool true) ∧ Below w.heap.size w w' := by
  by_cases hc : b % 9223372036854775808 < 4890909195324358656
  · by_cases hd : denOf b ∣ numOf b
    · exact wholes_some b _ w h (fun w hw => whole.Whole_yes b w hb hc hd hw.1.pow) (fun w => refWhole_yes b w hb hc hd)
    · exact wholes_none b w h (fun w => whole.Whole_part b w hb (finite_of hc) hd) (fun w => refWhole_part b w hb hc hd)
  · refine wholes_none b w h ?_ (fun w => refWhole_big b w hb (by omega))
    by_cases hn : 9218868437227405312 < b % 9223372036854775808
    · exact fun w => whole.Whole_nan b w hb hn
    · by_cases hi : b % 9223372036854775808 = 9218868437227405312
      · exact fun w => whole.Whole_inf b w hb hi
      · exact fun w => whole.Whole_big b w hb (by omega) (by omega)
end Go.Proofs.YtplnpplmhjddbaaGreatDoor.law02
