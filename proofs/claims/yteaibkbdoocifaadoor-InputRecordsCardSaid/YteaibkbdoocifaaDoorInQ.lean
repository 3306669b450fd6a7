/- Two equal pairs are equal. -/
import Derived.Test.YteaibkbdoocifaaDoorInK
import Derived.Laws.StructEq
namespace Go.Proofs.YteaibkbdoocifaaDoor.lexs
set_option linter.unusedVariables false set_option linter.unusedSimpArgs false
open Go.ChangeShapes Go.WideShapes Go.ChangeAt Go.RowKit Go.Proofs.YteaibkbdoocifaaDoor.base Go.Proofs.YteaibkbdoocifaaDoor.wrd Go.Proofs.YteaibkbdoocifaaDoor.inps

theorem pair_eqIn (d : Nat) (h0 : ∀ (x : Int) (W : World), (Op.equalIn d 3 (.int .i64 x) (.int .i64 x)).run Tryd.prog W = .ok true W) (a b : Int) (W : World) : (Op.equalIn (d + 1) 25 (.agg #[.int .i64 a, .int .i64 b]) (.agg #[.int .i64 a, .int .i64 b])).run Tryd.prog W = .ok true W := by
  have p0 : ∀ W : World, (Go.part 3 #[.int .i64 a, .int .i64 b] 0).run Tryd.prog W = .ok (.int .i64 a) W := fun W => by kernel_rfl
  have p1 : ∀ W : World, (Go.part 3 #[.int .i64 a, .int .i64 b] 1).run Tryd.prog W = .ok (.int .i64 b) W := fun W => by kernel_rfl
  have hz : ∀ W : World, (sizeOf 3).run Tryd.prog W = .ok 1 W := fun W => by kernel_rfl
  simp only [Op.equalIn, Sem.run_bind, run_underlying Tryd.underlying25, Result.andThen_ok, hz]
  rw [Std.Legacy.Range.forIn_eq_forIn_range']
  simp only [show List.range' ([:2] : Std.Legacy.Range).start ([:2] : Std.Legacy.Range).size ([:2] : Std.Legacy.Range).step = [0, 1] from rfl, List.forIn_cons, List.forIn_nil, Sem.run_bind, Nat.zero_mul, Nat.one_mul, p0, p1, h0, Result.andThen_ok, Bool.not_true, Bool.false_eq_true, if_false, Sem.run_pure]
theorem pair_eq (a b : Int) (W : World) : (Op.equalIn 10000 25 (.agg #[.int .i64 a, .int .i64 b]) (.agg #[.int .i64 a, .int .i64 b])).run Tryd.prog W = .ok true W := by
  have h0 : ∀ (x : Int) (W : World), (Op.equalIn 9999 3 (.int .i64 x) (.int .i64 x)).run Tryd.prog W = .ok true W := by
    intro x W
    have := run_equalIn_int (P := Tryd.prog) W 9998 3 .i64 .i64 x x Tryd.underlying3
    rw [beq_self_eq_true] at this
    exact this
  exact pair_eqIn 9999 h0 a b W
theorem pair_guard : Tryd.prog.eqGuardType Tryd.prog.depth 25 = false := by kernel_rfl
end Go.Proofs.YteaibkbdoocifaaDoor.lexs
