/- dec.Format of 0.1 by g with 6. -/
import Derived.Test.YthckhhifpmhlbaaGreatDoorAwk9
namespace Go.Proofs.YthckhhifpmhlbaaGreatDoor.awk
set_option linter.unusedVariables false set_option linter.unusedSimpArgs false
open Go.ChangeShapes Go.WideShapes Go.ChangeAt Go.RowKit Go.Proofs.YthckhhifpmhlbaaGreatDoor.scan

theorem nan_c (w : World) : Calls Tryz.prog 18 #[.float .f64 4591870180066957722] w fun e w' => e = .returned (.bool false) ∧ w = w' := by
  have h : (FloatKind.f64.format.order 4591870180066957722 4591870180066957722 != some .eq) = false := by decide +kernel
  go_enter Tryz.func18, Tryz.ntmps18
  go_wp2
  go_ret
  exact ⟨rfl, rfl⟩
theorem inf1_c (w : World) : Calls Tryz.prog 19 #[.float .f64 4591870180066957722, .int .i64 1] w fun e w' => e = .returned (.bool false) ∧ w = w' := by
  have h : (FloatKind.f64.format.order 4591870180066957722 9218868437227405311 == some .gt) = false := by decide +kernel
  go_enter Tryz.func19, Tryz.ntmps19
  go_wp2_with fail
  go_ret
  exact ⟨rfl, rfl⟩
theorem inf2_c (w : World) : Calls Tryz.prog 19 #[.float .f64 4591870180066957722, .int .i64 (-1)] w fun e w' => e = .returned (.bool false) ∧ w = w' := by
  have h : (FloatKind.f64.format.order 13815242216921733530 9218868437227405311 == some .gt) = false := by decide +kernel
  have hn : ∀ W : World, (Op.unary .neg (.float .f64 4591870180066957722)).run Tryz.prog W = .ok (.float .f64 13815242216921733530) W := fun _ => by kernel_rfl
  go_enter Tryz.func19, Tryz.ntmps19
  go_wp2_with fail
  go_ret
  exact ⟨rfl, rfl⟩

theorem format_c (w : World) (hT : TabF w) (m : Int) (hm : w.cell? ⟨6, 0, none⟩ = some (.int .i64 m)) :
    Calls Tryz.prog 9 #[.float .f64 4591870180066957722, .int .u8 103, .int .i64 6, .bool false] w fun e w' => e = .returned (.string ⟨#[48, 46, 49]⟩) ∧ Below w.heap.size w w' := by
  have m1 : max (6 : Int) 0 = 6 := by decide
  have m2 : min (6 : Int) 60 = 6 := by decide
  have H := Lib.hid (shorter_c w hT m hm)
  clear hT hm
  go_enter Tryz.func9, Tryz.ntmps9
  go_wp2_with (first | (go_at_call 18; go_must (refine (nan_c _).mono ?_; rintro e w1 ⟨rfl, rfl⟩)) | (go_at_call 19; (with_reducible refine (inf1_c _).mono ?_); rintro e w1 ⟨rfl, rfl⟩) | (go_at_call 19; (with_reducible refine (inf2_c _).mono ?_); rintro e w1 ⟨rfl, rfl⟩) | (go_at_call 23; go_must (refine (H.out).mono ?_; rintro e w1 ⟨rfl, hb1⟩)))
  go_ret
  exact ⟨rfl, hb1⟩
end Go.Proofs.YthckhhifpmhlbaaGreatDoor.awk
