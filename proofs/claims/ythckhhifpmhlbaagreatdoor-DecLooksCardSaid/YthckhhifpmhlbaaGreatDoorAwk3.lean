/- What awake asks of strconv.FormatFloat: 0.1's six digits, and the bytes that say them. -/
import Derived.Test.YthckhhifpmhlbaaGreatDoorAwk2
import Derived.OpenShut
namespace Go.Proofs.YthckhhifpmhlbaaGreatDoor.awk
set_option linter.unusedVariables false
open Go.ChangeShapes Go.WideShapes Go.ChangeAt Go.RowKit

/-- What is asked of the tables. -/
def TabF (w : World) : Prop := w.cell? ⟨16, 710, none⟩ = some (.int .u64 10995116277760000000) ∧ w.cell? ⟨16, 711, none⟩ = some (.int .u64 0) ∧ w.cell? ⟨1, 6, none⟩ = some (.int .u64 1000000) ∧ w.cell? ⟨5, 0, none⟩ = some (.bool true) ∧ Lib.TabIs Tryz.prog w "internal/strconv.uint64pow10" .u64 Lib.pow10Tab
theorem TabF.hi {w : World} (h : TabF w) : w.cell? ⟨16, 710, none⟩ = some (.int .u64 10995116277760000000) := h.1
theorem TabF.lo {w : World} (h : TabF w) : w.cell? ⟨16, 711, none⟩ = some (.int .u64 0) := h.2.1
theorem TabF.six {w : World} (h : TabF w) : w.cell? ⟨1, 6, none⟩ = some (.int .u64 1000000) := h.2.2.1
theorem TabF.opt {w : World} (h : TabF w) : w.cell? ⟨5, 0, none⟩ = some (.bool true) := h.2.2.2.1
theorem TabF.pow {w : World} (h : TabF w) : Lib.TabIs Tryz.prog w "internal/strconv.uint64pow10" .u64 Lib.pow10Tab := h.2.2.2.2

theorem TabF.lt {w : World} (h : TabF w) : 16 < w.heap.size ∧ 1 < w.heap.size ∧ 5 < w.heap.size :=
  ⟨World.block_lt_of_cell? w _ h.hi, World.block_lt_of_cell? w _ h.six, World.block_lt_of_cell? w _ h.opt⟩

set_option maxRecDepth 100000 in
set_option maxHeartbeats 400000 in
theorem prescale_new (w : World) (h : TabF w) :
    Calls Tryz.prog 151 #[.pointer (some ⟨w.heap.size, 0, none⟩), .int .i64 (-67), .int .i64 7, .int .i64 23] (w.alloc (.cells #[.int .u64 0, .int .u64 0, .int .i64 0] 182)) fun e w' => e = .returned (.tuple #[]) ∧ w' = w.alloc (.cells #[.int .u64 10995116277760000000, .int .u64 0, .int .i64 41] 182) := by
  obtain ⟨l1, l2, l3⟩ := h.lt
  have h0 := h.hi
  have h1 := h.lo
  clear h
  go_enter Tryz.func151, Tryz.ntmps151
  go_wp2
  go_end0
  exact ⟨rfl, rfl⟩

theorem uscale_new (w : World) (T : TypeId) : Calls Tryz.prog 153 #[.int .u64 14757395258967642112, .pointer (some ⟨w.heap.size, 0, none⟩)] (w.alloc (.cells #[.int .u64 10995116277760000000, .int .u64 0, .int .i64 41] T)) fun e w' => e = .returned (.int .u64 4000001) ∧ w.alloc (.cells #[.int .u64 10995116277760000000, .int .u64 0, .int .i64 41] T) = w' :=
  uscale_c w.heap.size _ (by simp only [World.cell?, heap_alloc_new]; rfl) (by simp only [World.cell?, heap_alloc_new]; rfl)

set_option maxRecDepth 100000 in
set_option maxHeartbeats 1000000 in
theorem fixedWidth_e (w : World) (h : TabF w) :
    Calls Tryz.prog 119 #[.int .u64 14757395258967642112, .int .i64 (-67), .int .i64 6, .int .i64 5, .int .u8 101] w fun e w' => e = .returned (.tuple #[.int .u64 100000, .int .i64 (-6)]) ∧ Below w.heap.size w w' := by
  obtain ⟨l1, l2, l3⟩ := h.lt
  have h6 := h.six
  have HT := Lib.hid h
  clear h
  go_enter Tryz.func119, Tryz.ntmps119
  go_wp2_with (first | (go_at_call 86; go_must (refine (log10_m4 _).mono ?_; rintro e w1 ⟨rfl, rfl⟩)) | (go_at_call 152; go_must (refine (log2_7 _).mono ?_; rintro e w1 ⟨rfl, rfl⟩)) | (go_at_call 151; go_must (refine (prescale_new _ HT.out).mono ?_; rintro e w1 ⟨rfl, rfl⟩)) | (go_at_call 153; go_must (refine (uscale_new _ _).mono ?_; rintro e w1 ⟨rfl, rfl⟩)) | (go_at_call 158; go_must (refine (unmin_c _).mono ?_; rintro e w1 ⟨rfl, rfl⟩)) | (go_at_call 159; go_must (refine (div_c _).mono ?_; rintro e w2 ⟨rfl, hb2⟩)) | (go_at_call 157; go_must (refine (round_c _).mono ?_; rintro e w1 ⟨rfl, rfl⟩)))
  go_ret2
  exact ⟨rfl, ((Below.refl _ _).alloc (Nat.le_refl _) _).trans (hb2.mono (by simp))⟩

set_option maxRecDepth 100000 in
set_option maxHeartbeats 1000000 in
theorem fixedWidth_f (w : World) (h : TabF w) :
    Calls Tryz.prog 119 #[.int .u64 14757395258967642112, .int .i64 (-67), .int .i64 6, .int .i64 6, .int .u8 102] w fun e w' => e = .returned (.tuple #[.int .u64 100000, .int .i64 (-6)]) ∧ Below w.heap.size w w' := by
  obtain ⟨l1, l2, l3⟩ := h.lt
  have h6 := h.six
  have HT := Lib.hid h
  clear h
  go_enter Tryz.func119, Tryz.ntmps119
  go_wp2_with (first | (go_at_call 86; go_must (refine (log10_m4 _).mono ?_; rintro e w1 ⟨rfl, rfl⟩)) | (go_at_call 152; go_must (refine (log2_7 _).mono ?_; rintro e w1 ⟨rfl, rfl⟩)) | (go_at_call 151; go_must (refine (prescale_new _ HT.out).mono ?_; rintro e w1 ⟨rfl, rfl⟩)) | (go_at_call 153; go_must (refine (uscale_new _ _).mono ?_; rintro e w1 ⟨rfl, rfl⟩)) | (go_at_call 158; go_must (refine (unmin_c _).mono ?_; rintro e w1 ⟨rfl, rfl⟩)) | (go_at_call 159; go_must (refine (div_c _).mono ?_; rintro e w2 ⟨rfl, hb2⟩)))
  go_rounds 1
  go_wp2_with (go_at_call 157; go_must (refine (round_c _).mono ?_; rintro e w1 ⟨rfl, rfl⟩))
  go_ret2
  exact ⟨rfl, ((Below.refl _ _).alloc (Nat.le_refl _) _).trans (hb2.mono (by simp))⟩
end Go.Proofs.YthckhhifpmhlbaaGreatDoor.awk
