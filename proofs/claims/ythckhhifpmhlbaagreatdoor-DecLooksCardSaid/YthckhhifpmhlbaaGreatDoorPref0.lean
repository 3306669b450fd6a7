/- The document's blank and digit, for the walk of its Prefix. -/
import Derived.Test.YthckhhifpmhlbaaGreatDoorLookB
import Derived.Test.YthckhhifpmhlbaaGreatDoorVal2
namespace Go.Proofs.YthckhhifpmhlbaaGreatDoor.scan
set_option linter.unusedVariables false set_option linter.unusedSimpArgs false
open Go.ChangeShapes Go.WideShapes Go.ChangeAt Go.RowKit

theorem blankD_all (c : UInt8) (w : World) : Calls Tryz.prog 13 #[.int .u8 (c.toNat : Int)] w fun e w' => e = .returned (.bool (isB c)) ∧ w' = w := by
  have HB := Lib.hid (isB_int c)
  obtain ⟨n, hn⟩ : ∃ n : Nat, n = c.toNat := ⟨_, rfl⟩
  rw [← hn] at HB ⊢
  clear hn
  by_cases h1 : n = 32
  · subst h1
    go_enter Tryz.func13, Tryz.ntmps13
    go_wp2
    go_ret
    exact ⟨by rw [HB.out]; rfl, rfl⟩
  · have e1 : ((n : Int) == 32) = false := by rw [beq_eq_false_iff_ne]; omega
    by_cases h2 : n = 9
    · subst h2
      go_enter Tryz.func13, Tryz.ntmps13
      go_wp2
      go_ret
      exact ⟨by rw [HB.out]; rfl, rfl⟩
    · have e2 : ((n : Int) == 9) = false := by rw [beq_eq_false_iff_ne]; omega
      have HN : Hid (isB c = decide ((n : Int) = 10)) := Lib.hid (by rw [HB.out]; exact decide_eq_decide.2 (by omega))
      clear HB
      go_enter Tryz.func13, Tryz.ntmps13
      go_wp2
      go_ret
      exact ⟨by rw [HN.out]; by_cases h : (n : Int) = 10 <;> simp [h], rfl⟩

theorem digitD_all (c : UInt8) (w : World) : Calls Tryz.prog 28 #[.int .u8 (c.toNat : Int)] w fun e w' => e = .returned (.bool (isD c)) ∧ w' = w := by
  have HB := Lib.hid (isD_int c)
  obtain ⟨n, hn⟩ : ∃ n : Nat, n = c.toNat := ⟨_, rfl⟩
  rw [← hn] at HB ⊢
  clear hn
  by_cases h1 : (48 : Int) ≤ n
  · have HN : Hid (isD c = decide ((n : Int) ≤ 57)) := Lib.hid (by rw [HB.out]; exact decide_eq_decide.2 (by omega))
    clear HB
    go_enter Tryz.func28, Tryz.ntmps28
    go_wp2
    go_ret
    exact ⟨by rw [HN.out]; rfl, rfl⟩
  · have HN : Hid (isD c = false) := Lib.hid (by rw [HB.out]; exact decide_eq_false (by omega))
    clear HB
    go_enter Tryz.func28, Tryz.ntmps28
    go_wp2
    go_ret
    exact ⟨by rw [HN.out]; rfl, rfl⟩
end Go.Proofs.YthckhhifpmhlbaaGreatDoor.scan
