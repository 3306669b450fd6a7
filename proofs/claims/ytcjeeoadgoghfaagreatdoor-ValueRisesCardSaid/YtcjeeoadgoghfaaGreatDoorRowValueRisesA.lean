/- The row of ValueRises: the law met by every call that the row speaks of. -/
import Derived.Test.YtcjeeoadgoghfaaGreatDoorGVaS
import Derived.Test.YtcjeeoadgoghfaaGreatDoorCards
import Derived.Test.YtcjeeoadgoghfaaGreatDoorTie
import Derived.WalkKit
import Derived.ProofKit
import Derived.OpenShut
import Derived.ShutString
import Derived.Lay
import Derived.Below
import Derived.Carry
import Derived.SevenTiedAt
import Derived.Deep.DeepHandedRow
import Derived.Stop.Joined

namespace Go.Proofs.YtcjeeoadgoghfaaGreatDoor.rowValueRises
open Go.ChangeShapes Go.WideShapes Go.ChangeAt Go.RowKit
open Go.ChangeMaps (open_string shut_string)
set_option linter.unusedVariables false set_option linter.unusedSimpArgs false

theorem laidOut : laidOutB Tryz.prog = true := by kernel_rfl
theorem own : ownKnob Tryz.prog.godebug = none := by kernel_rfl

set_option maxRecDepth 100000 in
theorem contract (H : Type) (enc : TypeId × Value → H) (W : World) (base : Nat) (args : Array Value) (ds gs : List (DataW H)) (before : List MemPlace)
    (hval : ∀ (j : Nat) t v, Tryz.f6.params[j]? = some t → args[j]? = some v → Value.okWide Tryz.prog W .any base t v)
    (hW : DataW.Whole enc Tryz.prog Tryz.f6.params.toList Rows.valueRisesSpec.vars false W args.toList ds gs before) (hL : laidMetH Tryz.prog Rows.valueRisesRow.laid W) (hSh : W.ShapedOpen Tryz.prog) :
    Calls Tryz.prog 6 args W fun e W' => ∃ v, e = .returned v ∧ Rows.valueRisesSpec.post enc Tryz.prog Tryz.f6 false true false false W args v W' := by
  have hW' := hW
  obtain ⟨p, q, hA0, hV, rfl, hfz, hnd⟩ := hW
  have hA : DataW.TrodAll enc Tryz.prog W 0 (fun _ => true) true Tryz.f6.params.toList args.toList ds p := hA0
  rw [Tryz.params6] at hA hval
  obtain ⟨v0, vs0, d0, ds0, p0, q0, hargs, rfl, rfl, h0, r0⟩ := trodAll_cons hA
  obtain ⟨rfl, rfl, rfl⟩ := trodAll_nil r0
  obtain rfl : args = #[v0] := by cases args; simp_all
  obtain ⟨K0, B0, S0, K1, B1, S1, K2, B2, S2, rfl⟩ := vaa.arr_arg (hval 0 49 v0 rfl rfl) h0
  obtain ⟨rfl, rfl⟩ := trodVars_none hV
  clear hA0
  simp only [List.append_nil] at hW'
  obtain ⟨fuel0, hfu0⟩ := h0
  have hlt0 : ∀ x ∈ p0, x.block < W.heap.size := fun x hx => hW'.lt x (by simp [hx])
  have hf0 : DataW.Trod enc Tryz.prog W 0 (fun _ => true) true 49 (.agg (vaa.arrV K0 B0 S0 K1 B1 S1 K2 B2 S2)) d0 p0 := ⟨fuel0, hfu0⟩
  refine (vaa.rises_law K0 B0 S0 K1 B1 S1 K2 B2 S2 W (laidValueRises.tbs hL)).mono fun e W' ⟨he, bel⟩ => ?_
  subst he
  exact ⟨_, rfl, _, _, _, [], _, [], hW', trodAll_mk1 (shut_bool Tryz.underlying4 _), (trodAll_cons_mk (Below.trod laidOut (by kernel_rfl) (of_decide_eq_true (by kernel_rfl)) hf0 bel hlt0) trodAll_mk0), rfl, bel.frame _, fun h => by cases h⟩

theorem laid_met (os : Os) : laidMet Tryz.prog Rows.valueRisesRow.laid ((World.laidAll Tryz.prog os Rows.valueRisesRow.laid).forCall (fun _ _ => 0) ⟨#[], #[.agg #[.string ByteArray.empty, .float .f64 0, .string ByteArray.empty, .string ByteArray.empty, .float .f64 0, .string ByteArray.empty, .string ByteArray.empty, .float .f64 0, .string ByteArray.empty]], []⟩).memory :=
  laidMet_laidAll _ (by kernel_rfl) (by kernel_rfl)
theorem reads (os : Os) {H : Type} (enc : TypeId × Value → H) : ∃ places, DataW.whole enc Tryz.prog ((World.laidAll Tryz.prog os Rows.valueRisesRow.laid).forCall (fun _ _ => 0) ⟨#[], #[.agg #[.string ByteArray.empty, .float .f64 0, .string ByteArray.empty, .string ByteArray.empty, .float .f64 0, .string ByteArray.empty, .string ByteArray.empty, .float .f64 0, .string ByteArray.empty]], []⟩).memory Tryz.f6.params.toList Rows.valueRisesSpec.vars false (#[.agg #[.string ByteArray.empty, .float .f64 0, .string ByteArray.empty, .string ByteArray.empty, .float .f64 0, .string ByteArray.empty, .string ByteArray.empty, .float .f64 0, .string ByteArray.empty]] : Array Value).toList 8 = some ([.agg [.agg [.lit (.string []), .lit (.float .f64 0), .lit (.string [])], .agg [.lit (.string []), .lit (.float .f64 0), .lit (.string [])], .agg [.lit (.string []), .lit (.float .f64 0), .lit (.string [])]]], [], places) :=
  ⟨[], by kernel_rfl⟩

theorem shaped (os : Os) : ((World.laidAll Tryz.prog os Rows.valueRisesRow.laid).forCall (fun _ _ => 0) ⟨#[], #[.agg #[.string ByteArray.empty, .float .f64 0, .string ByteArray.empty, .string ByteArray.empty, .float .f64 0, .string ByteArray.empty, .string ByteArray.empty, .float .f64 0, .string ByteArray.empty]], []⟩).Shaped Tryz.prog :=
  World.shaped_of_ZipB (by kernel_rfl) (by kernel_rfl)
theorem okw (os : Os) : Input.okWideB Tryz.prog ((World.laidAll Tryz.prog os Rows.valueRisesRow.laid).forCall (fun _ _ => 0) ⟨#[], #[.agg #[.string ByteArray.empty, .float .f64 0, .string ByteArray.empty, .string ByteArray.empty, .float .f64 0, .string ByteArray.empty, .string ByteArray.empty, .float .f64 0, .string ByteArray.empty]], []⟩) 6 ⟨#[], #[.agg #[.string ByteArray.empty, .float .f64 0, .string ByteArray.empty, .string ByteArray.empty, .float .f64 0, .string ByteArray.empty, .string ByteArray.empty, .float .f64 0, .string ByteArray.empty]], []⟩ = true := by kernel_rfl

set_option maxRecDepth 100000 in
theorem lifted (os : Os) (started : os.Started) (H : Type) (enc : TypeId × Value → H) (F : Stop.Interp) :
    ReturnsInHanded {} Tryz.checked os 6 .any ((OpenSpec.ofChange Rows.valueRisesSpec).preRow enc Tryz.prog Tryz.f6 Rows.valueRisesRow.domain false Rows.valueRisesRow.laid) (((OpenSpec.ofChange Rows.valueRisesSpec).at F).post enc Tryz.prog Tryz.f6 false true false false) := by
  obtain ⟨places, hx⟩ := reads os enc
  refine returnsInHanded_of_row (C := Tryz.checked) (s := OpenSpec.ofChange Rows.valueRisesSpec) own started (by kernel_rfl) Tryz.func6
    ⟨World.laidAll Tryz.prog os Rows.valueRisesRow.laid, fun _ _ => 0, ⟨#[], #[.agg #[.string ByteArray.empty, .float .f64 0, .string ByteArray.empty, .string ByteArray.empty, .float .f64 0, .string ByteArray.empty, .string ByteArray.empty, .float .f64 0, .string ByteArray.empty]], []⟩, World.laidAll_os _ _ _, shaped os, (Input.okWide_of_okWideB (base := 0) (okw os)).1, (Input.okWide_of_okWideB (okw os)).2,
      OpenSpec.preRow_of_cond 8 hx (by kernel_rfl) (fun k hk => by cases hk) (by kernel_rfl) (laid_met os), by
        simp only [Assume.holds]
        exact ⟨by simp, by simp, fun _ => Modest.zero, by simp, by simp⟩⟩ ?_
  intro W base args ds gs before hval hW _ _ _ hL hSh _
  exact contract H enc W base args ds gs before hval hW hL hSh
end Go.Proofs.YtcjeeoadgoghfaaGreatDoor.rowValueRises
