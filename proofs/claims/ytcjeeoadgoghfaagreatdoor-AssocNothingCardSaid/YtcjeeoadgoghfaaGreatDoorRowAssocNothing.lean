/- The statement of AssocNothing: for every input the law returns true, and its arguments read behind the call as before; package-level tables hold what the text lays. -/
import Derived.Test.YtcjeeoadgoghfaaGreatDoorRowAssocNothingA
import Derived.Test.YtcjeeoadgoghfaaGreatDoorCards
import Derived.Test.YtcjeeoadgoghfaaGreatDoorTie
import Derived.WalkKit
import Derived.ProofKit
import Derived.OpenShut
import Derived.ShutString
import Derived.Lay
import Derived.Below
import Derived.Carry
import Derived.SevenTiedAt
import Derived.Deep.DeepHandedRow
import Derived.Stop.Joined

namespace Go.Proofs.YtcjeeoadgoghfaaGreatDoor.rowAssocNothing
open Go.ChangeShapes Go.WideShapes Go.ChangeAt Go.RowKit
open Go.ChangeMaps (open_string shut_string)
set_option linter.unusedVariables false set_option linter.unusedSimpArgs false

theorem c_in : (Rows.assocNothingRow.inPlace == Tryz.pinned.checked.prog.inPlace 8) = true := by kernel_rfl
theorem c_un : (Rows.assocNothingRow.unfollowed == Tryz.pinned.checked.prog.unfollowed 8) = true := by kernel_rfl
theorem c_re : (Rows.assocNothingRow.recurses == Tryz.pinned.checked.prog.recurses 8) = true := by kernel_rfl
theorem c_na : (Rows.assocNothingRow.named == Tryz.pinned.checked.prog.varsNamed 8) = true := by kernel_rfl
theorem c_pk : (Rows.assocNothingRow.plainKeys == Tryz.pinned.checked.prog.plainKeys) = true := by kernel_rfl
theorem c_sh : Tryz.pinned.checked.prog.stopsHeard = true := by kernel_rfl
theorem c_me : Tryz.pinned.checked.prog.mayEnter = true := by kernel_rfl
theorem c_li : (Rows.assocNothingRow.lifted == Tryz.pinned.checked.prog.liftsFinal) = true := by kernel_rfl
theorem c_lo : laidOutB Tryz.pinned.checked.prog = true := by kernel_rfl
theorem c_ma : mapsRowed Tryz.pinned.checked.prog = true := by kernel_rfl
theorem closed : joinedFacts Tryz.pinned.checked.prog 8 Tryz.f8 (OpenSpec.ofChange Rows.assocNothingSpec).bare Rows.assocNothingRow = true := by
  unfold joinedFacts
  rw [c_in, c_un, c_re, c_na, c_pk, c_sh, c_me, c_li, c_lo, c_ma]
  kernel_rfl
theorem named : Tryz.pinned.checked.prog.funcNamed Rows.assocNothingRow.func = some 8 := by kernel_rfl
theorem inst : Tryz.f8.isInstance Tryz.pinned.checked.prog Rows.assocNothingRow.origin Rows.assocNothingRow.targs := of_decide_eq_true (by kernel_rfl)
theorem wrap : Tryz.f8.isWrapper Tryz.pinned.checked.prog Rows.assocNothingRow.wrapper Rows.assocNothingRow.mainSum := by unfold Func.isWrapper; first | (rw [if_pos (by decide +kernel)]; kernel_rfl) | (rw [if_neg (by decide +kernel)]; exact ⟨rfl, rfl⟩)

theorem said : Rows.AssocNothingSaid :=
  OpenClaim.holds_of_cond 8 Tryz.f8 rfl rfl rfl rfl rfl rfl rfl ⟨rfl, rfl, rfl, rfl, rfl⟩ rfl rfl rfl rfl rfl named Tryz.func8 closed
    inst wrap
    (fun os started H enc _ F => by rw [OpenClaim.pre_eq_preRow]; exact lifted os started H enc F)

theorem plain (f : FuncId) (fn : Func) (hf : Tryz.pinned.checked.prog.funcNamed "tedder/tedderlaw09.AssocNothing" = some f) (hfn : Tryz.pinned.checked.prog.funcs[f]? = some fn) :
    true = Tryz.pinned.checked.prog.looks [] ∧ ∀ (j : Nat) t, fn.params[j]? = some t → Tryz.pinned.checked.prog.wantsStandIn t = false := by
  obtain rfl : f = 8 := Option.some.inj ((show Tryz.prog.funcNamed "tedder/tedderlaw09.AssocNothing" = some 8 by kernel_rfl).symm.trans hf) |>.symm
  obtain rfl : fn = Tryz.f8 := (Option.some.inj (Tryz.func8.symm.trans hfn)).symm
  refine ⟨by kernel_rfl, fun j t ht => ?_⟩
  rw [Tryz.params8] at ht
  have hm := Array.mem_of_getElem? ht
  have ht2 : t = 9 ∨ t = 30 := by simpa using hm
  rcases ht2 with rfl | rfl
  · exact (show Tryz.prog.wantsStandIn 9 = false by kernel_rfl)
  · exact (show Tryz.prog.wantsStandIn 30 = false by kernel_rfl)

theorem card : Rows.AssocNothingCardSaid :=
  Claim7.holds_tied_plain_at .later [] _ _ _ _ said (fun _ h => by cases h) (by kernel_rfl) (fun _ h => by cases h) assocNothing_row_tie rfl ⟨rfl, rfl⟩ (by kernel_rfl) rfl plain (by kernel_rfl)
end Go.Proofs.YtcjeeoadgoghfaaGreatDoor.rowAssocNothing
