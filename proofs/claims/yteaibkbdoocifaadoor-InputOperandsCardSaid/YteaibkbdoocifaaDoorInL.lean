/- The law InputOperands. -/
import Derived.Test.YteaibkbdoocifaaDoorInJ
import Derived.Test.YteaibkbdoocifaaDoorInK
namespace Go.Proofs.YteaibkbdoocifaaDoor.lexs
set_option linter.unusedVariables false set_option linter.unusedSimpArgs false
open Go.ChangeShapes Go.WideShapes Go.ChangeAt Go.RowKit Go.Proofs.YteaibkbdoocifaaDoor.base Go.Proofs.YteaibkbdoocifaaDoor.wrd Go.Proofs.YteaibkbdoocifaaDoor.inps

set_option maxHeartbeats 2000000 in
theorem operands_all (s : ByteArray) (w : World) (hM : Mx w) : Calls Tryd.prog 5 #[.string s] w fun e w' => e = .returned (.bool true) ∧ Frm No w w' := by
  have HA := Lib.hid (awake_all w hM)
  by_cases hs : 1000 < s.size
  · have hs' : (1000 : Int) < (s.size : Int) := by omega
    clear hM
    go_enter Tryd.func5, Tryd.ntmps5
    go_wp2_with (go_at_call 6; go_must (refine HA.out.mono ?_; rintro e w1 ⟨rfl, hf1⟩; have HF1 := Lib.hid hf1; clear hf1))
    go_ret
    exact ⟨rfl, HF1.out⟩
  · have hs' : ¬ (1000 : Int) < (s.size : Int) := by omega
    have HO := Lib.hid (fun W h => operand_all' s W (by omega) h)
    have HD := Lib.hid (fun W => doperand_all s W (by omega))
    have HM := Lib.hid hM
    clear hM
    obtain ⟨x, y, b, hr⟩ : ∃ x y : ByteArray, ∃ b : Bool, opV (opd s) = .tuple #[.string x, .string y, .bool b] := by
      cases opd s with
      | none => exact ⟨_, _, _, rfl⟩
      | some p => exact ⟨_, _, _, rfl⟩
    rw [hr] at HO HD
    clear hr
    have hx : (x.toList == x.toList) = true := by simp
    have hy : (y.toList == y.toList) = true := by simp
    have hb : (b == b) = true := by simp
    go_enter Tryd.func5, Tryd.ntmps5
    go_wp2_with (first | (go_at_call 6; go_must (refine HA.out.mono ?_; rintro e w1 ⟨rfl, hf1⟩; have HF1 := Lib.hid hf1; clear hf1)) | (go_at_call 12; go_must (refine (HO.out _ (HM.out.frm HF1.out)).mono ?_; rintro e w2 ⟨rfl, hf2⟩; have HF2 := Lib.hid (HF1.out.trans hf2); clear hf2)) | (go_at_call 13; go_must (refine (HD.out _).mono ?_; rintro e w3 ⟨rfl, hf3⟩; have HF3 := Lib.hid (HF2.out.trans hf3); clear hf3)))
    go_ret
    exact ⟨ret_bool (by simp), HF3.out⟩

end Go.Proofs.YteaibkbdoocifaaDoor.lexs
