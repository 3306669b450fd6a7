/- What awake asks of strconv.FormatFloat: the number 0.1, scaled (package internal/strconv, uscale.go). -/
import Derived.Test.YthckhhifpmhlbaaGreatDoorShelf
import Derived.Test.YthckhhifpmhlbaaGreatDoorKit
import Derived.Handy
import Derived.Outline
import Derived.Laws.FloatArith
import Derived.Laws.Externs
import Derived.WalkSpells
import Derived.Deep.RegionWith
namespace Go.Proofs.YthckhhifpmhlbaaGreatDoor.awk
set_option linter.unusedVariables false
open Go.ChangeShapes Go.WideShapes Go.ChangeAt Go.RowKit

theorem log10_m4 (w : World) : Calls Tryz.prog 86 #[.int .i64 (-4)] w fun e w' => e = .returned (.int .i64 (-2)) ∧ w = w' := by
  go_enter Tryz.func86, Tryz.ntmps86
  go_wp2
  go_ret
  exact ⟨rfl, rfl⟩
theorem log10_4 (w : World) : Calls Tryz.prog 86 #[.int .i64 4] w fun e w' => e = .returned (.int .i64 1) ∧ w = w' := by
  go_enter Tryz.func86, Tryz.ntmps86
  go_wp2
  go_ret
  exact ⟨rfl, rfl⟩
theorem log2_7 (w : World) : Calls Tryz.prog 152 #[.int .i64 7] w fun e w' => e = .returned (.int .i64 23) ∧ w = w' := by
  go_enter Tryz.func152, Tryz.ntmps152
  go_wp2
  go_ret
  exact ⟨rfl, rfl⟩

set_option maxRecDepth 100000 in
set_option maxHeartbeats 400000 in
theorem prescale_c (b : Nat) (w : World) (h0 : w.cell? ⟨16, 710, none⟩ = some (.int .u64 10995116277760000000)) (h1 : w.cell? ⟨16, 711, none⟩ = some (.int .u64 0))
    (x0 : Value) (hc0 : w.cell? ⟨b, 0, none⟩ = some x0) (x1 : Value) (hc1 : w.cell? ⟨b, 1, none⟩ = some x1) (x2 : Value) (hc2 : w.cell? ⟨b, 2, none⟩ = some x2) (hf0 : w.frozen? ⟨b, 0, none⟩ = false) (hf1 : w.frozen? ⟨b, 1, none⟩ = false) (hf2 : w.frozen? ⟨b, 2, none⟩ = false) (hb : 16 ≠ b) :
    Calls Tryz.prog 151 #[.pointer (some ⟨b, 0, none⟩), .int .i64 (-67), .int .i64 7, .int .i64 23] w fun e w' => e = .returned (.tuple #[]) ∧ w' = ((w.setCell ⟨b, 0, none⟩ (.int .u64 10995116277760000000)).setCell ⟨b, 1, none⟩ (.int .u64 0)).setCell ⟨b, 2, none⟩ (.int .i64 41) := by
  go_enter Tryz.func151, Tryz.ntmps151
  go_wp2
  go_end0
  exact ⟨rfl, rfl⟩

theorem unmin_c (w : World) : Calls Tryz.prog 158 #[.int .u64 1000000] w fun e w' => e = .returned (.int .u64 3999998) ∧ w = w' := by
  go_enter Tryz.func158, Tryz.ntmps158
  go_wp2
  go_ret
  exact ⟨rfl, rfl⟩

theorem round_c (w : World) : Calls Tryz.prog 157 #[.int .u64 400001] w fun e w' => e = .returned (.int .u64 100000) ∧ w = w' := by
  have hb : bits BinOp.and IntKind.u64 100000 1 = 0 := by decide +kernel
  go_enter Tryz.func157, Tryz.ntmps157
  go_wp2
  go_ret
  exact ⟨rfl, rfl⟩

theorem mul_c (w : World) : Calls Tryz.prog 178 #[.int .u64 14757395258967642112, .int .u64 10995116277760000000] w fun e w' => e = .returned (.tuple #[.int .u64 8796093022208000488, .int .u64 5188146770730811392]) ∧ w' = w := by
  have h := Tryz.bits_Mul64 14757395258967642112 10995116277760000000 (by decide) (by decide) w
  rw [show (14757395258967642112 * 10995116277760000000 / 18446744073709551616 : Nat) = 8796093022208000488 by decide +kernel, show (14757395258967642112 * 10995116277760000000 % 18446744073709551616 : Nat) = 5188146770730811392 by decide +kernel] at h
  exact h

set_option maxRecDepth 100000 in
set_option maxHeartbeats 400000 in
theorem uscale_c (b : Nat) (w : World) (hc0 : w.cell? ⟨b, 0, none⟩ = some (.int .u64 10995116277760000000)) (hc2 : w.cell? ⟨b, 2, none⟩ = some (.int .i64 41)) :
    Calls Tryz.prog 153 #[.int .u64 14757395258967642112, .pointer (some ⟨b, 0, none⟩)] w fun e w' => e = .returned (.int .u64 4000001) ∧ w = w' := by
  have h1 : bits BinOp.and IntKind.i64 41 63 = 41 := by decide +kernel
  have h2 : bits BinOp.or IntKind.u64 4000000 1 = 4000001 := by decide +kernel
  go_enter Tryz.func153, Tryz.ntmps153
  go_wp2_with (go_at_call 178; go_must (refine (mul_c _).mono ?_; rintro e w1 ⟨rfl, rfl⟩))
  go_ret
  exact ⟨rfl, rfl⟩

theorem bool2w_c (w : World) : Calls Tryz.prog 179 #[.bool true] w fun e w' => e = .returned (.int .u64 1) ∧ w = w' := by
  go_enter Tryz.func179, Tryz.ntmps179
  go_wp2
  go_ret
  exact ⟨rfl, rfl⟩

set_option maxRecDepth 100000 in
theorem div_c (w : World) : Calls Tryz.prog 159 #[.int .u64 4000001, .int .u64 10] w fun e w' => e = .returned (.int .u64 400001) ∧ Below w.heap.size w w' := by
  have h1 : bits BinOp.and IntKind.u64 4000001 1 = 1 := by decide +kernel
  have h2 : bits BinOp.or IntKind.u64 400000 1 = 400001 := by decide +kernel
  have h3 : bits BinOp.or IntKind.u64 400001 1 = 400001 := by decide +kernel
  go_enter Tryz.func159, Tryz.ntmps159
  go_wp2_with fail
  go_region_with (go_at_call 179; refine (bool2w_c _).mono ?_; rintro e w1 ⟨rfl, rfl⟩)
  all_goals
    go_wp2_with fail
    go_ret
    exact ⟨rfl, by first | exact (Below.refl _ _).drew | exact Below.refl _ _ | exact (Below.refl _ _).drewN _⟩
end Go.Proofs.YthckhhifpmhlbaaGreatDoor.awk
