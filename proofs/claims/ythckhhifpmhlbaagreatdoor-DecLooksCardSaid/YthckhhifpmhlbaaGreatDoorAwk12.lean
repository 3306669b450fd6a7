/- awake (tedderlaw02): the four calls that it makes, and itself. -/
import Derived.Test.YthckhhifpmhlbaaGreatDoorAwk8
import Derived.Test.YthckhhifpmhlbaaGreatDoorAwk11
namespace Go.Proofs.YthckhhifpmhlbaaGreatDoor.awk
set_option linter.unusedVariables false set_option linter.unusedSimpArgs false
open Go.ChangeShapes Go.WideShapes Go.ChangeAt Go.RowKit Go.Proofs.YthckhhifpmhlbaaGreatDoor.scan

set_option maxRecDepth 100000 in
theorem value_c (w : World) (h : w.cell? ⟨10, 0, none⟩ = some (.int .u64 52)) (ho : w.cell? ⟨5, 0, none⟩ = some (.bool true)) :
    Calls Tryz.prog 14 #[.agg #[.bool false, .string ⟨#[49, 50]⟩, .string ⟨#[53]⟩, .string ⟨#[49]⟩]] w fun e w' => e = .returned (.float .f64 4638496509959077888) ∧ Below w.heap.size w w' := by
  have l1 := World.block_lt_of_cell? w _ h
  have l2 := World.block_lt_of_cell? w _ ho
  have H1 := Lib.hid h
  have H2 := Lib.hid ho
  have HB := Lib.hid (Box4.new w 32 (.bool false) (.string ⟨#[49, 50]⟩) (.string ⟨#[53]⟩) (.string ⟨#[49]⟩))
  have HLT := Lib.hid (show w.heap.size < (w.alloc (.cells #[.bool false, .string ⟨#[49, 50]⟩, .string ⟨#[53]⟩, .string ⟨#[49]⟩] 32)).heap.size by simp)
  have HA := Lib.hid ((Below.refl w.heap.size w).alloc (Nat.le_refl _) (.cells #[.bool false, .string ⟨#[49, 50]⟩, .string ⟨#[53]⟩, .string ⟨#[49]⟩] 32))
  clear h ho
  go_enter Tryz.func14, Tryz.ntmps14
  go_wp2_with (first | (go_at_call 30; go_must (refine (plain_c _).mono ?_; rintro e w1 ⟨rfl, hb1⟩; have M := Lib.hid (Box4.below HB.out hb1 HLT.out); have k0 := M.out.c0; have HW := Lib.hid (HA.out.trans (hb1.mono (Nat.le_of_lt HLT.out))))) | (go_at_call 31; go_must (refine (Parse_c _ (by rw [HW.out.cell (by exact l1)]; exact H1.out) (by rw [HW.out.cell (by exact l2)]; exact H2.out)).mono ?_; rintro e w2 ⟨rfl, rfl⟩)))
  go_ret
  exact ⟨rfl, HW.out⟩

set_option maxRecDepth 100000 in
theorem prefix_all (w : World) (h : w.cell? ⟨10, 0, none⟩ = some (.int .u64 52)) (ho : w.cell? ⟨5, 0, none⟩ = some (.bool true)) :
    Calls Tryz.prog 7 #[.string ⟨#[32, 49, 50, 46, 53, 101, 49, 120]⟩] w fun e w' => e = .returned (.tuple #[.float .f64 4638496509959077888, .int .i64 7]) ∧ Below w.heap.size w w' := by
  have l1 := World.block_lt_of_cell? w _ h
  have l2 := World.block_lt_of_cell? w _ ho
  have H1 := Lib.hid h
  have H2 := Lib.hid ho
  have j1 : (⟨#[32, 49, 50, 46, 53, 101, 49, 120]⟩ : ByteArray).extract 1 8 = ⟨#[49, 50, 46, 53, 101, 49, 120]⟩ := rfl
  clear h ho
  go_enter Tryz.func7, Tryz.ntmps7
  go_wp2_with (first | (go_at_call 10; go_must (refine (blank1_c _).mono ?_; rintro e w1 ⟨rfl, rfl⟩)) | (go_at_call 11; go_must (refine (num1_c _).mono ?_; rintro e w1 ⟨rfl, hb1⟩; have hz1 := hb1.size)) | (go_at_call 14; go_must (refine (value_c _ (by rw [World.cell?_alloc_lt _ _ _ (by exact Nat.lt_of_lt_of_le l1 hz1), hb1.cell (by exact l1)]; exact H1.out) (by rw [World.cell?_alloc_lt _ _ _ (by exact Nat.lt_of_lt_of_le l2 hz1), hb1.cell (by exact l2)]; exact H2.out)).mono ?_; rintro e w2 ⟨rfl, hb2⟩)))
  go_ret2
  exact ⟨rfl, (hb1.alloc hz1 _).trans (hb2.mono (by simp; omega))⟩

end Go.Proofs.YthckhhifpmhlbaaGreatDoor.awk
