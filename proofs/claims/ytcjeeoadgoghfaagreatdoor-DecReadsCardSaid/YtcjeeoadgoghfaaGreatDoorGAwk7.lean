/- What awake asks of strconv.FormatFloat: 0.1 by e with 5, and by f with 6. What awake asks of dec.Format: 0.1 by g with 6. -/
import Derived.Test.YtcjeeoadgoghfaaGreatDoorGAwk5
import Derived.Lib.SmallJoins

namespace Go.Proofs.YtcjeeoadgoghfaaGreatDoor.awk
set_option linter.unusedVariables false
open Go.ChangeShapes Go.WideShapes Go.ChangeAt Go.RowKit

theorem run_sbits (x : Nat) (W : World) : (callFunc 215 #[.float .f64 x]).run Tryz.prog W = .ok (.value (.int .u64 x)) W := by
  rw [run_callFunc_extern (e := Extern.MathFloatBits.float64bits) Tryz.func215 (by kernel_rfl) (by kernel_rfl) (by kernel_rfl) (by kernel_rfl)]
  rfl
theorem TabF.below {w w' : World} (h : TabF w) (hb : Below w.heap.size w w') : TabF w' := by
  obtain ⟨l1, l2, l3⟩ := h.lt
  refine ⟨?_, ?_, ?_, ?_, Joins.tab_stays (g := 2) (by kernel_rfl) h.pow hb (Nat.le_refl _)⟩
  · rw [hb.cell (by exact l1)]; exact h.hi
  · rw [hb.cell (by exact l1)]; exact h.lo
  · rw [hb.cell (by exact l2)]; exact h.six
  · rw [hb.cell (by exact l3)]; exact h.opt

theorem below_draws (w : World) (n : Nat) : Below w.heap.size w (w.drewN n) := ⟨rfl, rfl, rfl, Nat.le_refl _, fun _ _ => rfl⟩

/-- 24 bytes, all 0. -/
def zeros24 : Array Value := Array.replicate 24 (.int .u8 0)
theorem zeros_cells (w : World) (T : TypeId) : (∀ j, j < 24 → (w.alloc (.cells zeros24 T)).cell? ⟨w.heap.size, j, none⟩ = some (.int .u8 0)) ∧ ∀ j, (w.alloc (.cells zeros24 T)).frozen? ⟨w.heap.size, j, none⟩ = false := by
  refine ⟨fun j hj => ?_, fun j => ?_⟩
  · simp only [World.cell?, heap_alloc_new]
    unfold zeros24
    rw [Array.getElem?_replicate, if_pos hj]
    rfl
  · exact World.frozen?_alloc_new _ _ _ _

theorem len_c (w : World) : Calls Tryz.prog 178 #[.int .u64 7205759403792794] w fun e w' => e = .returned (.int .i64 53) ∧ w' = w := by
  have h := Tryz.bits_Len64 7205759403792794 w (by decide) (by decide)
  rw [show (Lib.bitLen (7205759403792794 : Int).toNat) = 53 by decide +kernel] at h
  exact h
theorem num_c (w : World) (h : TabF w) : Calls Tryz.prog 134 #[.int .u64 100000] w fun e w' => e = .returned (.int .i64 6) ∧ w' = w := by
  have h := Tryz.internal_strconv_numDigits 100000 (by decide) (by decide) w h.pow
  rw [show (Lib.nDigits 100000) = 6 by decide +kernel] at h
  exact h

theorem OwnB.belowB {w w' : World} {B b : Nat} {e : TypeId} {v : Value} {l : List UInt8} (h : OwnB w B e v l) (hb : Below b w w') (hlt : ∀ g, v.ownBlock = some g → g < b) : OwnB w' B e v l := by
  refine ⟨h.1, h.2.elim Or.inl (fun ⟨g, cap, cur, hv, hg, hh, r⟩ => Or.inr ⟨g, cap, cur, hv, hg, ?_, r⟩)⟩
  rw [hb.block g (hlt g (by rw [hv]; rfl))]
  exact hh

set_option maxRecDepth 100000 in
set_option maxHeartbeats 2000000 in
theorem ftoa_e (B : Nat) (v : Value) (w : World) (hown : OwnB w B 5 v []) (hB : B ≤ w.heap.size) (hT : TabF w) :
    Calls Tryz.prog 184 #[v, .float .f64 4591870180066957722, .int .u8 101, .int .i64 5] w fun e w' => ∃ v', e = .returned v' ∧ OwnB w' B 5 v' [49, 46, 48, 48, 48, 48, 48, 101, 45, 48, 49] ∧ Below B w w' := by
  have hsb := run_sbits 4591870180066957722
  have b1 : bits BinOp.and IntKind.i64 1019 2047 = 1019 := by decide +kernel
  have b2 : bits BinOp.and IntKind.u64 4591870180066957722 4503599627370495 = 2702159776422298 := by decide +kernel
  have b3 : bits BinOp.or IntKind.u64 2702159776422298 4503599627370496 = 7205759403792794 := by decide +kernel
  have HT := Lib.hid hT
  have hopt := hT.opt
  clear hT
  go_enter Tryz.func184, Tryz.ntmps184
  go_wp2_with fail
  go_quiet (fail)
  have hW0 : Below w.heap.size w ((w.drewN nq).alloc (.cells zeros24 162)) := (below_draws w nq).alloc (Nat.le_refl _) _
  have HT0 := Lib.hid (HT.out.below hW0)
  have HW0 := Lib.hid hW0
  have hz := zeros_cells (w.drewN nq) 162
  have HZ := Lib.hid hz
  have hlt := fun g hg => (World.ownsRow.lt hown g hg).2
  have HLT := Lib.hid hlt
  clear hW0 hz hlt
  have HE := Lib.hid (fixedWidth_e _ HT0.out)
  go_wp2_with (first | (go_at_call 178; go_must (refine (len_c _).mono ?_; rintro e w1 ⟨rfl, rfl⟩)) | (go_at_call 221; go_must (refine (HE.out).mono ?_; rintro e w1 ⟨rfl, hb1⟩; have hz1 := hb1.size)) | (go_at_call 134; go_must (refine (num_c _ (HT0.out.below hb1)).mono ?_; rintro e w2 ⟨rfl, rfl⟩)))
  have hblt : w.heap.size < ((w.drewN nq).alloc (.cells zeros24 162)).heap.size := by simp
  have hz0 : ∀ j, j < 24 → w1.cell? ⟨w.heap.size, j, none⟩ = some (.int .u8 0) := fun j hj => by
    rw [hb1.cell (by exact hblt)]; exact HZ.out.1 j hj
  have hf0 : ∀ j, w1.frozen? ⟨w.heap.size, j, none⟩ = false := fun j => by
    rw [hb1.frozen (by exact hblt)]; exact HZ.out.2 j
  have HSD := Lib.hid (fun (W : World) (h1 : ∀ j, j < 24 → W.cell? ⟨w.heap.size, j, none⟩ = some (.int .u8 0)) (h2 : ∀ j, W.frozen? ⟨w.heap.size, j, none⟩ = false) => setDigits_c w.heap.size W h1 h2)
  have HNM := Lib.hid (fun (W : World) (h : TabF W) => num_c W h)
  have HT1 := Lib.hid (HT0.out.below hb1)
  have HZ0 := Lib.hid hz0
  have HF0 := Lib.hid hf0
  have hb1w : Below w.heap.size w w1 := HW0.out.trans (hb1.mono (by simp))
  have HB1 := Lib.hid hb1w
  clear hz0 hf0 hb1 hz1 hb1w hblt
  go_region_with (first | (go_at_call 134; go_must (refine (HNM.out _ (by exact HT1.out)).mono ?_; rintro e w2 ⟨rfl, rfl⟩)) | (go_at_call 220; go_must (refine (HSD.out _ (by exact HZ0.out) (by exact HF0.out)).mono ?_; rintro e w3 ⟨rfl, hc3, hb3⟩)))
  have hown1 : OwnB w1 B 5 v [] := hown.below HB1.out
  have hb3' : Below w.heap.size w1 w3 := ((Below.refl w.heap.size w1).drew).trans hb3
  have hown3 : OwnB w3 B 5 v [] := OwnB.belowB (w := w1) hown1 hb3' HLT.out
  have hsz1 := HB1.out.size
  have hsz3 : w1.heap.size ≤ w3.heap.size := hb3'.size
  have HEFG := Lib.hid (fmt_e w.heap.size B v w3 hown3 (by omega) hc3)
  go_wp2_with (go_at_call 218; go_must (refine (HEFG.out).mono ?_; rintro e w4 ⟨v4, rfl, hown4, hb4⟩))
  go_ret
  exact ⟨_, rfl, hown4, ((HB1.out.mono hB).trans (hb3'.mono hB)).trans hb4⟩

set_option maxRecDepth 100000 in
set_option maxHeartbeats 2000000 in
theorem ftoa_f (B : Nat) (v : Value) (w : World) (hown : OwnB w B 5 v []) (hB : B ≤ w.heap.size) (hT : TabF w) :
    Calls Tryz.prog 184 #[v, .float .f64 4591870180066957722, .int .u8 102, .int .i64 6] w fun e w' => ∃ v', e = .returned v' ∧ OwnB w' B 5 v' [48, 46, 49, 48, 48, 48, 48, 48] ∧ Below B w w' := by
  have hsb := run_sbits 4591870180066957722
  have b1 : bits BinOp.and IntKind.i64 1019 2047 = 1019 := by decide +kernel
  have b2 : bits BinOp.and IntKind.u64 4591870180066957722 4503599627370495 = 2702159776422298 := by decide +kernel
  have b3 : bits BinOp.or IntKind.u64 2702159776422298 4503599627370496 = 7205759403792794 := by decide +kernel
  have HT := Lib.hid hT
  have hopt := hT.opt
  clear hT
  go_enter Tryz.func184, Tryz.ntmps184
  go_wp2_with fail
  go_quiet (fail)
  have hW0 : Below w.heap.size w ((w.drewN nq).alloc (.cells zeros24 162)) := (below_draws w nq).alloc (Nat.le_refl _) _
  have HT0 := Lib.hid (HT.out.below hW0)
  have HW0 := Lib.hid hW0
  have hz := zeros_cells (w.drewN nq) 162
  have HZ := Lib.hid hz
  have hlt := fun g hg => (World.ownsRow.lt hown g hg).2
  have HLT := Lib.hid hlt
  clear hW0 hz hlt
  have HE := Lib.hid (fixedWidth_f _ HT0.out)
  go_wp2_with (first | (go_at_call 179; go_must (refine (log10_4 _).mono ?_; rintro e w1 ⟨rfl, rfl⟩)) | (go_at_call 178; go_must (refine (len_c _).mono ?_; rintro e w1 ⟨rfl, rfl⟩)) | (go_at_call 221; go_must (refine (HE.out).mono ?_; rintro e w1 ⟨rfl, hb1⟩; have hz1 := hb1.size)) | (go_at_call 134; go_must (refine (num_c _ (HT0.out.below hb1)).mono ?_; rintro e w2 ⟨rfl, rfl⟩)))
  have hblt : w.heap.size < ((w.drewN nq).alloc (.cells zeros24 162)).heap.size := by simp
  have hz0 : ∀ j, j < 24 → w1.cell? ⟨w.heap.size, j, none⟩ = some (.int .u8 0) := fun j hj => by
    rw [hb1.cell (by exact hblt)]; exact HZ.out.1 j hj
  have hf0 : ∀ j, w1.frozen? ⟨w.heap.size, j, none⟩ = false := fun j => by
    rw [hb1.frozen (by exact hblt)]; exact HZ.out.2 j
  have HSD := Lib.hid (fun (W : World) (h1 : ∀ j, j < 24 → W.cell? ⟨w.heap.size, j, none⟩ = some (.int .u8 0)) (h2 : ∀ j, W.frozen? ⟨w.heap.size, j, none⟩ = false) => setDigits_c w.heap.size W h1 h2)
  have HNM := Lib.hid (fun (W : World) (h : TabF W) => num_c W h)
  have HT1 := Lib.hid (HT0.out.below hb1)
  have HZ0 := Lib.hid hz0
  have HF0 := Lib.hid hf0
  have hb1w : Below w.heap.size w w1 := HW0.out.trans (hb1.mono (by simp))
  have HB1 := Lib.hid hb1w
  clear hz0 hf0 hb1 hz1 hb1w hblt
  go_region_with (first | (go_at_call 134; go_must (refine (HNM.out _ (by exact HT1.out)).mono ?_; rintro e w2 ⟨rfl, rfl⟩)) | (go_at_call 220; go_must (refine (HSD.out _ (by exact HZ0.out) (by exact HF0.out)).mono ?_; rintro e w3 ⟨rfl, hc3, hb3⟩)))
  have hown1 : OwnB w1 B 5 v [] := hown.below HB1.out
  have hb3' : Below w.heap.size w1 w3 := ((Below.refl w.heap.size w1).drew).trans hb3
  have hown3 : OwnB w3 B 5 v [] := OwnB.belowB (w := w1) hown1 hb3' HLT.out
  have hsz1 := HB1.out.size
  have hsz3 : w1.heap.size ≤ w3.heap.size := hb3'.size
  have HEFG := Lib.hid (fmt_f w.heap.size B v w3 hown3 (by omega) hc3 (fun h => by have := HLT.out _ h; omega))
  go_wp2_with (go_at_call 218; go_must (refine (HEFG.out).mono ?_; rintro e w4 ⟨v4, rfl, hown4, hb4⟩))
  go_ret
  exact ⟨_, rfl, hown4, ((HB1.out.mono hB).trans (hb3'.mono hB)).trans hb4⟩
end Go.Proofs.YtcjeeoadgoghfaaGreatDoor.awk

namespace Go.Proofs.YtcjeeoadgoghfaaGreatDoor.awk
set_option linter.unusedVariables false
open Go.ChangeShapes Go.WideShapes Go.ChangeAt Go.RowKit

theorem made_own (w : World) (B : Nat) (e : TypeId) (hB : B ≤ w.heap.size) : OwnB (w.alloc (.cells zeros24 e)) B e (.slice (some ⟨w.heap.size, 0, none⟩) 0 24) [] :=
  ⟨rfl, Or.inr ⟨w.heap.size, 24, zeros24, rfl, hB, heap_alloc_new w _, Nat.zero_le _, by unfold maxLen; omega, by unfold zeros24; simp, by simp⟩⟩

set_option maxRecDepth 100000 in
set_option maxHeartbeats 800000 in
theorem iFormat_e (w : World) (hT : TabF w) :
    Calls Tryz.prog 137 #[.float .f64 4591870180066957722, .int .u8 101, .int .i64 5, .int .i64 64] w fun e w' => e = .returned (.string ⟨#[49, 46, 48, 48, 48, 48, 48, 101, 45, 48, 49]⟩) ∧ Below w.heap.size w w' := by
  have m1 : max (9 : Int) 24 = 24 := by decide
  have hmk : ∀ W : World, (Instr.makeSlice 136 (.int .i64 0) (.int .i64 24)).run Tryz.prog W = .ok (.slice (some ⟨W.heap.size, 0, none⟩) 0 24) (W.alloc (.cells zeros24 5)) := fun _ => by kernel_rfl
  have HT := Lib.hid (hT.below ((Below.refl w.heap.size w).alloc (Nat.le_refl _) (.cells zeros24 5)))
  have HO := Lib.hid (made_own w w.heap.size 5 (Nat.le_refl _))
  clear hT
  go_enter Tryz.func137, Tryz.ntmps137
  go_wp2_with (go_at_call 184; go_must (refine (ftoa_e w.heap.size _ _ HO.out (by simp) HT.out).mono ?_; rintro e w1 ⟨v1, rfl, hown1, hb1⟩; have hcv := hown1.str (P := Tryz.prog) 136 9 Tryz.underlying136 Tryz.underlying5 Tryz.underlying9))
  go_ret
  exact ⟨rfl, ((Below.refl _ _).alloc (Nat.le_refl _) _).trans hb1⟩
theorem iFormat_f (w : World) (hT : TabF w) :
    Calls Tryz.prog 137 #[.float .f64 4591870180066957722, .int .u8 102, .int .i64 6, .int .i64 64] w fun e w' => e = .returned (.string ⟨#[48, 46, 49, 48, 48, 48, 48, 48]⟩) ∧ Below w.heap.size w w' := by
  have m1 : max (10 : Int) 24 = 24 := by decide
  have hmk : ∀ W : World, (Instr.makeSlice 136 (.int .i64 0) (.int .i64 24)).run Tryz.prog W = .ok (.slice (some ⟨W.heap.size, 0, none⟩) 0 24) (W.alloc (.cells zeros24 5)) := fun _ => by kernel_rfl
  have HT := Lib.hid (hT.below ((Below.refl w.heap.size w).alloc (Nat.le_refl _) (.cells zeros24 5)))
  have HO := Lib.hid (made_own w w.heap.size 5 (Nat.le_refl _))
  clear hT
  go_enter Tryz.func137, Tryz.ntmps137
  go_wp2_with (go_at_call 184; go_must (refine (ftoa_f w.heap.size _ _ HO.out (by simp) HT.out).mono ?_; rintro e w1 ⟨v1, rfl, hown1, hb1⟩; have hcv := hown1.str (P := Tryz.prog) 136 9 Tryz.underlying136 Tryz.underlying5 Tryz.underlying9))
  go_ret
  exact ⟨rfl, ((Below.refl _ _).alloc (Nat.le_refl _) _).trans hb1⟩

theorem Format_e (w : World) (hT : TabF w) :
    Calls Tryz.prog 106 #[.float .f64 4591870180066957722, .int .u8 101, .int .i64 5, .int .i64 64] w fun e w' => e = .returned (.string ⟨#[49, 46, 48, 48, 48, 48, 48, 101, 45, 48, 49]⟩) ∧ Below w.heap.size w w' := by
  have H := Lib.hid (iFormat_e w hT)
  clear hT
  go_enter Tryz.func106, Tryz.ntmps106
  go_wp2_with (go_at_call 137; go_must (refine (H.out).mono ?_; rintro e w1 ⟨rfl, hb1⟩))
  go_ret
  exact ⟨rfl, hb1⟩
theorem Format_f (w : World) (hT : TabF w) :
    Calls Tryz.prog 106 #[.float .f64 4591870180066957722, .int .u8 102, .int .i64 6, .int .i64 64] w fun e w' => e = .returned (.string ⟨#[48, 46, 49, 48, 48, 48, 48, 48]⟩) ∧ Below w.heap.size w w' := by
  have H := Lib.hid (iFormat_f w hT)
  clear hT
  go_enter Tryz.func106, Tryz.ntmps106
  go_wp2_with (go_at_call 137; go_must (refine (H.out).mono ?_; rintro e w1 ⟨rfl, hb1⟩))
  go_ret
  exact ⟨rfl, hb1⟩
end Go.Proofs.YtcjeeoadgoghfaaGreatDoor.awk
