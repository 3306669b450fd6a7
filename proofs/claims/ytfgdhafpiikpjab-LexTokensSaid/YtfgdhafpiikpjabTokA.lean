/- Contracts of the document's letter, digit, number. -/
import Derived.Test.YtfgdhafpiikpjabTokP
namespace Go.Proofs.Ytfgdhafpiikpjab.lexs
set_option linter.unusedVariables false set_option linter.unusedSimpArgs false
open Go.ChangeShapes Go.WideShapes Go.ChangeAt Go.RowKit Go.Proofs.Ytfgdhafpiikpjab.base

theorem rdigit_all (c : UInt8) (n : Int) (hn : n = (c.toNat : Int)) (w : World) :
    Calls Try.prog 20 #[.int .u8 n] w fun e w' => e = .returned (.bool (isD c)) ∧ w' = w := by
  have HD := Lib.hid (isD_int c)
  rw [← hn] at HD
  clear hn
  go_enter Try.func20, Try.ntmps20
  go_wp2
  all_goals
    go_ret
    exact ⟨ret_bool (by rw [HD.out, Bool.eq_iff_iff]; simp; omega), rfl⟩
theorem rletter_all (c : UInt8) (n : Int) (hn : n = (c.toNat : Int)) (w : World) :
    Calls Try.prog 19 #[.int .u8 n] w fun e w' => e = .returned (.bool (isL c)) ∧ w' = w := by
  have HD := Lib.hid (isL_int c)
  rw [← hn] at HD
  clear hn
  go_enter Try.func19, Try.ntmps19
  go_wp2
  all_goals
    go_ret
    exact ⟨ret_bool (by rw [HD.out, Bool.eq_iff_iff]; simp; omega), rfl⟩
end Go.Proofs.Ytfgdhafpiikpjab.lexs
