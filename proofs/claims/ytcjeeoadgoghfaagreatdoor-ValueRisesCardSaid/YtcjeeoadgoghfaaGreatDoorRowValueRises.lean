/- The statement of ValueRises: for every input the law returns true, and its arguments read behind the call as before; package-level tables hold what the text lays. -/
import Derived.Test.YtcjeeoadgoghfaaGreatDoorRowValueRisesA
import Derived.Test.YtcjeeoadgoghfaaGreatDoorCards
import Derived.Test.YtcjeeoadgoghfaaGreatDoorTie
import Derived.WalkKit
import Derived.ProofKit
import Derived.OpenShut
import Derived.ShutString
import Derived.Lay
import Derived.Below
import Derived.Carry
import Derived.SevenTiedAt
import Derived.Deep.DeepHandedRow
import Derived.Stop.Joined

namespace Go.Proofs.YtcjeeoadgoghfaaGreatDoor.rowValueRises
open Go.ChangeShapes Go.WideShapes Go.ChangeAt Go.RowKit
open Go.ChangeMaps (open_string shut_string)
set_option linter.unusedVariables false set_option linter.unusedSimpArgs false

theorem c_in : (Rows.valueRisesRow.inPlace == Tryz.pinned.checked.prog.inPlace 6) = true := by kernel_rfl
theorem c_un : (Rows.valueRisesRow.unfollowed == Tryz.pinned.checked.prog.unfollowed 6) = true := by kernel_rfl
theorem c_re : (Rows.valueRisesRow.recurses == Tryz.pinned.checked.prog.recurses 6) = true := by kernel_rfl
theorem c_na : (Rows.valueRisesRow.named == Tryz.pinned.checked.prog.varsNamed 6) = true := by kernel_rfl
theorem c_pk : (Rows.valueRisesRow.plainKeys == Tryz.pinned.checked.prog.plainKeys) = true := by kernel_rfl
theorem c_sh : Tryz.pinned.checked.prog.stopsHeard = true := by kernel_rfl
theorem c_me : Tryz.pinned.checked.prog.mayEnter = true := by kernel_rfl
theorem c_li : (Rows.valueRisesRow.lifted == Tryz.pinned.checked.prog.liftsFinal) = true := by kernel_rfl
theorem c_lo : laidOutB Tryz.pinned.checked.prog = true := by kernel_rfl
theorem c_ma : mapsRowed Tryz.pinned.checked.prog = true := by kernel_rfl
theorem closed : joinedFacts Tryz.pinned.checked.prog 6 Tryz.f6 (OpenSpec.ofChange Rows.valueRisesSpec).bare Rows.valueRisesRow = true := by
  unfold joinedFacts
  rw [c_in, c_un, c_re, c_na, c_pk, c_sh, c_me, c_li, c_lo, c_ma]
  kernel_rfl
theorem named : Tryz.pinned.checked.prog.funcNamed Rows.valueRisesRow.func = some 6 := by kernel_rfl
theorem inst : Tryz.f6.isInstance Tryz.pinned.checked.prog Rows.valueRisesRow.origin Rows.valueRisesRow.targs := of_decide_eq_true (by kernel_rfl)
theorem wrap : Tryz.f6.isWrapper Tryz.pinned.checked.prog Rows.valueRisesRow.wrapper Rows.valueRisesRow.mainSum := by unfold Func.isWrapper; first | (rw [if_pos (by decide +kernel)]; kernel_rfl) | (rw [if_neg (by decide +kernel)]; exact ⟨rfl, rfl⟩)

theorem said : Rows.ValueRisesSaid :=
  OpenClaim.holds_of_cond 6 Tryz.f6 rfl rfl rfl rfl rfl rfl rfl ⟨rfl, rfl, rfl, rfl, rfl⟩ rfl rfl rfl rfl rfl named Tryz.func6 closed
    inst wrap
    (fun os started H enc _ F => by rw [OpenClaim.pre_eq_preRow]; exact lifted os started H enc F)

theorem plain (f : FuncId) (fn : Func) (hf : Tryz.pinned.checked.prog.funcNamed "tedder/tedderlaw08.ValueRises" = some f) (hfn : Tryz.pinned.checked.prog.funcs[f]? = some fn) :
    true = Tryz.pinned.checked.prog.looks [] ∧ ∀ (j : Nat) t, fn.params[j]? = some t → Tryz.pinned.checked.prog.wantsStandIn t = false := by
  obtain rfl : f = 6 := Option.some.inj ((show Tryz.prog.funcNamed "tedder/tedderlaw08.ValueRises" = some 6 by kernel_rfl).symm.trans hf) |>.symm
  obtain rfl : fn = Tryz.f6 := (Option.some.inj (Tryz.func6.symm.trans hfn)).symm
  refine ⟨by kernel_rfl, fun j t ht => ?_⟩
  rw [Tryz.params6] at ht
  have hm := Array.mem_of_getElem? ht
  obtain rfl : t = 49 := by simpa using hm
  exact (show Tryz.prog.wantsStandIn 49 = false by kernel_rfl)

theorem card : Rows.ValueRisesCardSaid :=
  Claim7.holds_tied_plain_at .later [] _ _ _ _ said (fun _ h => by cases h) (by kernel_rfl) (fun _ h => by cases h) valueRises_row_tie rfl ⟨rfl, rfl⟩ (by kernel_rfl) rfl plain (by kernel_rfl)
end Go.Proofs.YtcjeeoadgoghfaaGreatDoor.rowValueRises
