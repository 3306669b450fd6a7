/- What awake asks of strconv.FormatFloat: 7 by f with no digits behind the point. -/
import Derived.Test.YtkemdhaalcploaaGreatDoorShelf
import Derived.Test.YtkemdhaalcploaaGreatDoorKit
import Derived.Handy
import Derived.Outline
import Derived.OpenShut
import Derived.Laws.FloatArith
import Derived.Laws.Externs
import Derived.WalkSpells
import Derived.Deep.RegionWith
import Derived.Lib.SmallJoins
import Derived.Lib.ItoaNum
import Derived.Lib.Itoa
import Derived.Lib.Hide
namespace Go.Proofs.YtkemdhaalcploaaGreatDoor.sev
set_option linter.unusedVariables false set_option linter.unusedSimpArgs false
open Go.ChangeShapes Go.WideShapes Go.ChangeAt Go.RowKit

theorem log10_s (x : Int) (h : x = 3 ∨ x = 2) (w : World) : Calls Tryz.prog 174 #[.int .i64 x] w fun e w' => e = .returned (.int .i64 0) ∧ w = w' := by
  rcases h with rfl | rfl
  all_goals
    go_enter Tryz.func174, Tryz.ntmps174
    go_wp2
    go_ret
    exact ⟨rfl, rfl⟩
theorem log2_0 (w : World) : Calls Tryz.prog 186 #[.int .i64 0] w fun e w' => e = .returned (.int .i64 0) ∧ w = w' := by
  go_enter Tryz.func186, Tryz.ntmps186
  go_wp2
  go_ret
  exact ⟨rfl, rfl⟩

/-- What is asked of the tables. -/
def TabF (w : World) : Prop := w.cell? ⟨14, 696, none⟩ = some (.int .u64 9223372036854775808) ∧ w.cell? ⟨14, 697, none⟩ = some (.int .u64 0) ∧ w.cell? ⟨10, 1, none⟩ = some (.int .u64 10) ∧ w.cell? ⟨7, 0, none⟩ = some (.bool true) ∧ Lib.TabIs Tryz.prog w "internal/strconv.uint64pow10" .u64 Lib.pow10Tab
theorem TabF.hi {w : World} (h : TabF w) : w.cell? ⟨14, 696, none⟩ = some (.int .u64 9223372036854775808) := h.1
theorem TabF.lo {w : World} (h : TabF w) : w.cell? ⟨14, 697, none⟩ = some (.int .u64 0) := h.2.1
theorem TabF.one {w : World} (h : TabF w) : w.cell? ⟨10, 1, none⟩ = some (.int .u64 10) := h.2.2.1
theorem TabF.opt {w : World} (h : TabF w) : w.cell? ⟨7, 0, none⟩ = some (.bool true) := h.2.2.2.1
theorem TabF.pow {w : World} (h : TabF w) : Lib.TabIs Tryz.prog w "internal/strconv.uint64pow10" .u64 Lib.pow10Tab := h.2.2.2.2
theorem TabF.lt {w : World} (h : TabF w) : 14 < w.heap.size ∧ 10 < w.heap.size ∧ 7 < w.heap.size :=
  ⟨World.block_lt_of_cell? w _ h.hi, World.block_lt_of_cell? w _ h.one, World.block_lt_of_cell? w _ h.opt⟩
theorem TabF.below {w w' : World} (h : TabF w) (hb : Below w.heap.size w w') : TabF w' := by
  obtain ⟨l1, l2, l3⟩ := h.lt
  refine ⟨?_, ?_, ?_, ?_, Joins.tab_stays (g := 10) (by kernel_rfl) h.pow hb (Nat.le_refl _)⟩
  · rw [hb.cell (by exact l1)]; exact h.hi
  · rw [hb.cell (by exact l1)]; exact h.lo
  · rw [hb.cell (by exact l2)]; exact h.one
  · rw [hb.cell (by exact l3)]; exact h.opt

set_option maxRecDepth 100000 in
set_option maxHeartbeats 400000 in
theorem prescale_new (w : World) (h : TabF w) :
    Calls Tryz.prog 187 #[.pointer (some ⟨w.heap.size, 0, none⟩), .int .i64 (-61), .int .i64 0, .int .i64 0] (w.alloc (.cells #[.int .u64 0, .int .u64 0, .int .i64 0] 226)) fun e w' => e = .returned (.tuple #[]) ∧ w' = w.alloc (.cells #[.int .u64 9223372036854775808, .int .u64 0, .int .i64 58] 226) := by
  obtain ⟨l1, l2, l3⟩ := h.lt
  have h0 := h.hi
  have h1 := h.lo
  clear h
  go_enter Tryz.func187, Tryz.ntmps187
  go_wp2
  go_end0
  exact ⟨rfl, rfl⟩

theorem unmin_c (w : World) : Calls Tryz.prog 189 #[.int .u64 10] w fun e w' => e = .returned (.int .u64 38) ∧ w = w' := by
  go_enter Tryz.func189, Tryz.ntmps189
  go_wp2
  go_ret
  exact ⟨rfl, rfl⟩

theorem round_c (w : World) : Calls Tryz.prog 191 #[.int .u64 28] w fun e w' => e = .returned (.int .u64 7) ∧ w = w' := by
  have hb : bits BinOp.and IntKind.u64 7 1 = 1 := by decide +kernel
  go_enter Tryz.func191, Tryz.ntmps191
  go_wp2
  go_ret
  exact ⟨rfl, rfl⟩

theorem mul_hi (w : World) : Calls Tryz.prog 103 #[.int .u64 16140901064495857664, .int .u64 9223372036854775808] w fun e w' => e = .returned (.tuple #[.int .u64 8070450532247928832, .int .u64 0]) ∧ w' = w := by
  have h := Tryz.bits_Mul64 16140901064495857664 9223372036854775808 (by decide) (by decide) w
  rw [show (16140901064495857664 * 9223372036854775808 / 18446744073709551616 : Nat) = 8070450532247928832 by decide +kernel, show (16140901064495857664 * 9223372036854775808 % 18446744073709551616 : Nat) = 0 by decide +kernel] at h
  exact h
theorem mul_lo (w : World) : Calls Tryz.prog 103 #[.int .u64 16140901064495857664, .int .u64 0] w fun e w' => e = .returned (.tuple #[.int .u64 0, .int .u64 0]) ∧ w' = w := by
  have h := Tryz.bits_Mul64 16140901064495857664 0 (by decide) (by decide) w
  rw [show (16140901064495857664 * 0 / 18446744073709551616 : Nat) = 0 by decide +kernel, show (16140901064495857664 * 0 % 18446744073709551616 : Nat) = 0 by decide +kernel] at h
  exact h
theorem bool2u_c (w : World) : Calls Tryz.prog 162 #[.bool false] w fun e w' => e = .returned (.int .u64 0) ∧ w' = w := by
  go_enter Tryz.func162, Tryz.ntmps162
  go_wp2
  go_ret
  exact ⟨rfl, rfl⟩

set_option maxRecDepth 100000 in
set_option maxHeartbeats 400000 in
theorem uscale_c (b : Nat) (w : World) (hc0 : w.cell? ⟨b, 0, none⟩ = some (.int .u64 9223372036854775808)) (hc1 : w.cell? ⟨b, 1, none⟩ = some (.int .u64 0)) (hc2 : w.cell? ⟨b, 2, none⟩ = some (.int .i64 58)) :
    Calls Tryz.prog 188 #[.int .u64 16140901064495857664, .pointer (some ⟨b, 0, none⟩)] w fun e w' => e = .returned (.int .u64 28) ∧ ∃ n, w' = w.drewN n := by
  have h1 : bits BinOp.and IntKind.i64 58 63 = 58 := by decide +kernel
  have h2 : bits BinOp.or IntKind.u64 28 0 = 28 := by decide +kernel
  go_enter Tryz.func188, Tryz.ntmps188
  go_wp2_with (first | (go_at_call 103; (with_reducible refine (mul_hi _).mono ?_); rintro e w1 ⟨rfl, rfl⟩) | (go_at_call 103; (with_reducible refine (mul_lo _).mono ?_); rintro e w1 ⟨rfl, rfl⟩) | (go_at_call 162; go_must (refine (bool2u_c _).mono ?_; rintro e w1 ⟨rfl, rfl⟩)))
  go_quiet ((go_at_call 162; exact Calls.quiet_of_same (bool2u_c _)))
  go_wp2
  go_ret
  exact ⟨rfl, _, rfl⟩
theorem uscale_new (w : World) (T : TypeId) : Calls Tryz.prog 188 #[.int .u64 16140901064495857664, .pointer (some ⟨w.heap.size, 0, none⟩)] (w.alloc (.cells #[.int .u64 9223372036854775808, .int .u64 0, .int .i64 58] T)) fun e w' => e = .returned (.int .u64 28) ∧ ∃ n, w' = (w.alloc (.cells #[.int .u64 9223372036854775808, .int .u64 0, .int .i64 58] T)).drewN n :=
  uscale_c w.heap.size _ (by simp only [World.cell?, heap_alloc_new]; rfl) (by simp only [World.cell?, heap_alloc_new]; rfl) (by simp only [World.cell?, heap_alloc_new]; rfl)

set_option maxRecDepth 100000 in
set_option maxHeartbeats 1000000 in
theorem fixedWidth_f (w : World) (h : TabF w) :
    Calls Tryz.prog 202 #[.int .u64 16140901064495857664, .int .i64 (-61), .int .i64 1, .int .i64 0, .int .u8 102] w fun e w' => e = .returned (.tuple #[.int .u64 7, .int .i64 0]) ∧ Below w.heap.size w w' := by
  obtain ⟨l1, l2, l3⟩ := h.lt
  have h6 := h.one
  have HT := Lib.hid h
  clear h
  go_enter Tryz.func202, Tryz.ntmps202
  go_wp2_with (first | (go_at_call 174; go_must (refine (log10_s _ (by decide) _).mono ?_; rintro e w1 ⟨rfl, rfl⟩)) | (go_at_call 186; go_must (refine (log2_0 _).mono ?_; rintro e w1 ⟨rfl, rfl⟩)) | (go_at_call 187; go_must (refine (prescale_new _ HT.out).mono ?_; rintro e w1 ⟨rfl, rfl⟩)) | (go_at_call 188; go_must (refine (uscale_new _ _).mono ?_; rintro e w1 ⟨rfl, nq, rfl⟩)) | (go_at_call 189; go_must (refine (unmin_c _).mono ?_; rintro e w1 ⟨rfl, rfl⟩)))
  go_rounds 1
  go_wp2_with (go_at_call 191; go_must (refine (round_c _).mono ?_; rintro e w1 ⟨rfl, rfl⟩))
  go_ret2
  exact ⟨rfl, ((Below.refl _ _).alloc (Nat.le_refl _) _).trans ⟨rfl, rfl, rfl, Nat.le_refl _, fun _ _ => rfl⟩⟩

theorem base10_c (b : Nat) (w : World) (hc : ∀ j, j < 24 → w.cell? ⟨b, j, none⟩ = some (.int .u8 0)) (hf : ∀ j, w.frozen? ⟨b, j, none⟩ = false) :
    Calls Tryz.prog 143 #[.slice (some ⟨b, 0, none⟩) 1 24, .int .u64 7] w fun e w' => e = .returned (.tuple #[]) ∧ w'.cell? ⟨b, 0, none⟩ = some (.int .u8 55) ∧ Below b w w' := by
  have hH : Go.Sort.Holds (fun (b : UInt8) => Value.int .u8 (b.toNat : Int)) w b 0 #[0] := by
    intro j hj
    have hj6 : j < 1 := hj
    refine ⟨?_, hf _⟩
    rw [Nat.zero_add, hc j (by omega)]
    have : ∀ k : Fin 1, (#[0] : Array UInt8)[k.val]! = 0 := by decide
    rw [this ⟨j, hj6⟩]
    rfl
  refine (Tryz.internal_strconv_formatBase10 b 0 24 7 #[0] w hH (by decide) (by decide) (by decide)).mono ?_
  rintro e w1 ⟨he, n, v', dk, rfl, hinv⟩
  have hs : dk.size = 1 := hinv.size
  have hinv : Lib.FmtInv 1 7 0 v' dk := hinv
  have k0 : dk[0]! = 55 := by rw [hinv.done 0 (by omega) (by omega)]; rfl
  have c0 := Go.Sort.cell?_putRow (fun (b : UInt8) => Value.int .u8 (b.toNat : Int)) w b 0 #[0] dk hH hs 0 (by omega)
  rw [k0] at c0
  refine ⟨he, c0, rfl, rfl, rfl, by simp, fun i hi => ?_⟩
  show (Go.Sort.mapBlock w b _).heap[i]? = _
  unfold Go.Sort.mapBlock
  simp only [Array.getElem?_modify]
  rw [if_neg (by omega)]

set_option maxRecDepth 100000 in
set_option maxHeartbeats 1000000 in
theorem setDigits_c (b : Nat) (w : World) (hc : ∀ j, j < 24 → w.cell? ⟨b, j, none⟩ = some (.int .u8 0)) (hf : ∀ j, w.frozen? ⟨b, j, none⟩ = false) :
    Calls Tryz.prog 201 #[.slice (some ⟨b, 0, none⟩) 24 24, .int .u64 7, .int .i64 0, .int .i64 1] w fun e w' => e = .returned (.tuple #[.int .i64 1, .int .i64 1]) ∧ w'.cell? ⟨b, 0, none⟩ = some (.int .u8 55) ∧ Below b w w' := by
  have HB := Lib.hid (base10_c b w hc hf)
  clear hc hf
  go_enter Tryz.func201, Tryz.ntmps201
  go_wp2_with (go_at_call 143; go_must (refine (HB.out).mono ?_; rintro e w1 ⟨rfl, c0, hb⟩))
  go_rounds 1
  go_ret2
  exact ⟨rfl, c0, hb⟩
end Go.Proofs.YtkemdhaalcploaaGreatDoor.sev
