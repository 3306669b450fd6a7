/- Reading a conversion that has no star and no point; taking an argument. -/
import Derived.Test.YtkemdhaalcploaaGreatDoorSplO
import Derived.Shelf.Strings.SlTrimAscii
namespace Go.Proofs.YtkemdhaalcploaaGreatDoor.spl
set_option linter.unusedVariables false set_option linter.unusedSimpArgs false
open Go.ChangeShapes Go.WideShapes Go.ChangeAt Go.RowKit Go.Proofs.YtkemdhaalcploaaGreatDoor.base

set_option maxHeartbeats 2000000 in
set_option maxRecDepth 100000 in
theorem readWidth_c (w : World) (b q : Nat) (behind aft : ByteArray) (n : Int) (h0 : 0 ≤ n) (hn : n ≤ 200) (hc0 : w.cell? ⟨b, 0, none⟩ = some (.string behind)) (hfb : w.frozen? ⟨b, 0, none⟩ = false) (hq1 : w.cell? ⟨q, 1, none⟩ = some (.int .i64 0)) (hfq : w.frozen? ⟨q, 1, none⟩ = false) (hqb : q ≠ b)
    (hC : ∀ W : World, Calls Tryz.prog 17 #[.string behind, .string ⟨#[42]⟩] W fun e w' => e = .returned (.tuple #[.string behind, .bool false]) ∧ w' = W)
    (hN : ∀ W : World, Calls Tryz.prog 61 #[.string behind, .int .i64 200] W fun e w' => e = .returned (.tuple #[.int .i64 n, .string aft]) ∧ ∃ k, w' = W.drewN k) :
    Calls Tryz.prog 39 #[.pointer (some ⟨b, 0, none⟩), .pointer (some ⟨q, 0, none⟩)] w fun e w' => e = .returned (.bool true) ∧ ∃ k, w' = ((w.drewN k).setCell ⟨q, 1, none⟩ (.int .i64 n)).setCell ⟨b, 0, none⟩ (.string aft) := by
  have HC := Lib.hid hC
  have HN := Lib.hid hN
  have ht : decide (n ≤ 200) = true := decide_eq_true hn
  clear hC hN
  go_enter Tryz.func39, Tryz.ntmps39
  go_wp2_with (first | (go_at_call 17; go_must (refine (HC.out _).mono ?_; rintro e w1 ⟨rfl, rfl⟩)) | (go_at_call 61; go_must (refine (HN.out _).mono ?_; rintro e w1 ⟨rfl, nk, rfl⟩)))
  go_ret
  exact ⟨rfl, nk, rfl⟩

set_option maxHeartbeats 2000000 in
set_option maxRecDepth 100000 in
theorem readPrec_c (w : World) (b q : Nat) (aft : ByteArray) (hc0 : w.cell? ⟨b, 0, none⟩ = some (.string aft))
    (hC : ∀ W : World, Calls Tryz.prog 17 #[.string aft, .string ⟨#[46]⟩] W fun e w' => e = .returned (.tuple #[.string aft, .bool false]) ∧ w' = W) :
    Calls Tryz.prog 40 #[.pointer (some ⟨b, 0, none⟩), .pointer (some ⟨q, 0, none⟩)] w fun e w' => e = .returned (.bool true) ∧ w' = w := by
  have HC := Lib.hid hC
  clear hC
  go_enter Tryz.func40, Tryz.ntmps40
  go_wp2_with (go_at_call 17; go_must (refine (HC.out _).mono ?_; rintro e w1 ⟨rfl, rfl⟩))
  go_ret
  exact ⟨rfl, rfl⟩

set_option maxHeartbeats 2000000 in
set_option maxRecDepth 100000 in
theorem take_c (w : World) (b g o n : Nat) (v : Value) (hc1 : w.cell? ⟨b, 1, none⟩ = some (.slice (some ⟨g, o, none⟩) (n + 2) (n + 2))) (hfb : w.frozen? ⟨b, 1, none⟩ = false) (hv : w.cell? ⟨g, o, none⟩ = some v) (hn : n ≤ 100) :
    Calls Tryz.prog 27 #[.pointer (some ⟨b, 0, none⟩)] w fun e w' => e = .returned (.tuple #[v, .bool true]) ∧ w' = w.setCell ⟨b, 1, none⟩ (.slice (some ⟨g, o + 1, none⟩) (n + 1) (n + 1)) := by
  go_enter Tryz.func27, Tryz.ntmps27
  go_wp2
  go_ret2
  exact ⟨rfl, rfl⟩
set_option maxHeartbeats 2000000 in
set_option maxRecDepth 100000 in
theorem take_last (w : World) (b g o : Nat) (v : Value) (hc1 : w.cell? ⟨b, 1, none⟩ = some (.slice (some ⟨g, o, none⟩) 1 1)) (hfb : w.frozen? ⟨b, 1, none⟩ = false) (hv : w.cell? ⟨g, o, none⟩ = some v) :
    Calls Tryz.prog 27 #[.pointer (some ⟨b, 0, none⟩)] w fun e w' => e = .returned (.tuple #[v, .bool true]) ∧ w' = w.setCell ⟨b, 1, none⟩ (.slice (some ⟨g, o, none⟩) 0 0) := by
  go_enter Tryz.func27, Tryz.ntmps27
  go_wp2
  go_ret2
  exact ⟨rfl, rfl⟩

set_option maxHeartbeats 2000000 in
set_option maxRecDepth 100000 in
theorem ln_A (w : World) : Calls Tryz.prog 61 #[.string ⟨#[51, 100, 124, 37, 45, 51, 115, 124, 37, 99]⟩, .int .i64 200] w fun e w' => e = .returned (.tuple #[.int .i64 3, .string ⟨#[100, 124, 37, 45, 51, 115, 124, 37, 99]⟩]) ∧ ∃ k, w' = w.drewN k := by
  have e0 : ((⟨#[51, 100, 124, 37, 45, 51, 115, 124, 37, 99]⟩ : ByteArray)[0].toNat : Int) = 51 := rfl
  have e1 : ((⟨#[51, 100, 124, 37, 45, 51, 115, 124, 37, 99]⟩ : ByteArray)[1].toNat : Int) = 100 := rfl
  have ex : (⟨#[51, 100, 124, 37, 45, 51, 115, 124, 37, 99]⟩ : ByteArray).extract 1 10 = ⟨#[100, 124, 37, 45, 51, 115, 124, 37, 99]⟩ := by decide +kernel
  go_enter Tryz.func61, Tryz.ntmps61
  go_wp2
  refine wp_loop_rounds 2 ?_
  rw [rounds_succ]
  go_wp2
  rw [rounds_succ]
  go_wp2
  go_quiet (fail)
  go_wp2
  go_ret2
  exact ⟨rfl, _, rfl⟩

set_option maxHeartbeats 2000000 in
set_option maxRecDepth 100000 in
theorem ln_B (w : World) : Calls Tryz.prog 61 #[.string ⟨#[51, 115, 124, 37, 99]⟩, .int .i64 200] w fun e w' => e = .returned (.tuple #[.int .i64 3, .string ⟨#[115, 124, 37, 99]⟩]) ∧ ∃ k, w' = w.drewN k := by
  have e0 : ((⟨#[51, 115, 124, 37, 99]⟩ : ByteArray)[0].toNat : Int) = 51 := rfl
  have e1 : ((⟨#[51, 115, 124, 37, 99]⟩ : ByteArray)[1].toNat : Int) = 115 := rfl
  have ex : (⟨#[51, 115, 124, 37, 99]⟩ : ByteArray).extract 1 5 = ⟨#[115, 124, 37, 99]⟩ := by decide +kernel
  go_enter Tryz.func61, Tryz.ntmps61
  go_wp2
  refine wp_loop_rounds 2 ?_
  rw [rounds_succ]
  go_wp2
  rw [rounds_succ]
  go_wp2
  go_quiet (fail)
  go_wp2
  go_ret2
  exact ⟨rfl, _, rfl⟩

set_option maxHeartbeats 2000000 in
set_option maxRecDepth 100000 in
theorem ln_C (w : World) : Calls Tryz.prog 61 #[.string ⟨#[99]⟩, .int .i64 200] w fun e w' => e = .returned (.tuple #[.int .i64 0, .string ⟨#[99]⟩]) ∧ ∃ k, w' = w.drewN k := by
  have e0 : ((⟨#[99]⟩ : ByteArray)[0].toNat : Int) = 99 := rfl
  have ex : (⟨#[99]⟩ : ByteArray).extract 0 1 = ⟨#[99]⟩ := by decide +kernel
  go_enter Tryz.func61, Tryz.ntmps61
  go_wp2
  refine wp_loop_rounds 1 ?_
  rw [rounds_succ]
  go_wp2
  go_quiet (fail)
  go_wp2
  go_ret2
  exact ⟨rfl, _, rfl⟩

end Go.Proofs.YtkemdhaalcploaaGreatDoor.spl
