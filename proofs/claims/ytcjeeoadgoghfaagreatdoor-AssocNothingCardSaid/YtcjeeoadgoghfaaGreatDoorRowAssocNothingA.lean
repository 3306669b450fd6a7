/- The row of AssocNothing: the law met by every call that the row speaks of. -/
import Derived.Test.YtcjeeoadgoghfaaGreatDoorGLaidAssocNothing
import Derived.Test.YtcjeeoadgoghfaaGreatDoorGVaR
import Derived.Test.YtcjeeoadgoghfaaGreatDoorCards
import Derived.Test.YtcjeeoadgoghfaaGreatDoorTie
import Derived.WalkKit
import Derived.ProofKit
import Derived.OpenShut
import Derived.ShutString
import Derived.Lay
import Derived.Below
import Derived.Carry
import Derived.SevenTiedAt
import Derived.Deep.DeepHandedRow
import Derived.Stop.Joined

namespace Go.Proofs.YtcjeeoadgoghfaaGreatDoor.rowAssocNothing
open Go.ChangeShapes Go.WideShapes Go.ChangeAt Go.RowKit
open Go.ChangeMaps (open_string shut_string)
set_option linter.unusedVariables false set_option linter.unusedSimpArgs false

theorem laidOut : laidOutB Tryz.prog = true := by kernel_rfl
theorem own : ownKnob Tryz.prog.godebug = none := by kernel_rfl

set_option maxRecDepth 100000 in
theorem contract (H : Type) (enc : TypeId × Value → H) (W : World) (base : Nat) (args : Array Value) (ds gs : List (DataW H)) (before : List MemPlace)
    (hval : ∀ (j : Nat) t v, Tryz.f8.params[j]? = some t → args[j]? = some v → Value.okWide Tryz.prog W .any base t v)
    (hW : DataW.Whole enc Tryz.prog Tryz.f8.params.toList Rows.assocNothingSpec.vars false W args.toList ds gs before) (hL : laidMetH Tryz.prog Rows.assocNothingRow.laid W) (hSh : W.ShapedOpen Tryz.prog)
    (hsz : (DataW.weightsEach Tryz.prog (Tryz.f8.params.toList ++ []) (ds ++ gs)).all (· ≤ reachBytes) = true) :
    Calls Tryz.prog 8 args W fun e W' => ∃ v, e = .returned v ∧ Rows.assocNothingSpec.post enc Tryz.prog Tryz.f8 false true false false W args v W' := by
  have hW' := hW
  obtain ⟨p, q, hA0, hV, rfl, hfz, hnd⟩ := hW
  have hA : DataW.TrodAll enc Tryz.prog W 0 (fun _ => true) true Tryz.f8.params.toList args.toList ds p := hA0
  rw [Tryz.params8] at hA hval hsz
  obtain ⟨v0, vs0, d0, ds0, p0, q0, hargs, rfl, rfl, h0, r0⟩ := trodAll_cons hA
  obtain ⟨v1, vs1, d1, ds1, p1, q1, rfl, rfl, rfl, h1, r1⟩ := trodAll_cons r0
  obtain ⟨rfl, rfl, rfl⟩ := trodAll_nil r1
  obtain rfl : args = #[v0, v1] := by cases args; simp_all
  obtain ⟨s0, rfl, rfl, rfl, ws0⟩ := open_string Tryz.underlying9 (hval 0 9 v0 rfl rfl) h0
  obtain ⟨K1, B1, S1, rfl⟩ := vaa.val_arg (hval 1 30 v1 rfl rfl) h1
  have hs0 : s0.size ≤ 140737488355328 := by
    have hle := List.all_eq_true.1 hsz s0.data.toList.length (by simp [DataW.weightsEach, DataW.weights])
    have hle : s0.data.toList.length ≤ reachBytes := of_decide_eq_true hle
    rw [Array.length_toList] at hle
    have hr : reachBytes = 140737488351232 := rfl
    have hs : s0.data.size = s0.size := rfl
    omega
  obtain ⟨rfl, rfl⟩ := trodVars_none hV
  clear hA0
  simp only [List.append_nil] at hW'
  obtain ⟨fuel1, hfu1⟩ := h1
  have hlt1 : ∀ x ∈ p1, x.block < W.heap.size := fun x hx => hW'.lt x (by simp [hx])
  have hf1 : DataW.Trod enc Tryz.prog W 0 (fun _ => true) true 30 (vaa.valV K1 B1 S1) d1 p1 := ⟨fuel1, hfu1⟩
  refine (ass.nothing_law s0 K1 B1 S1 W (laidAssocNothing.tbs hL) hs0).mono fun e W' ⟨he, bel⟩ => ?_
  subst he
  exact ⟨_, rfl, _, _, _, [], _, [], hW', trodAll_mk1 (shut_bool Tryz.underlying4 _), (trodAll_cons_mk (shut_string Tryz.underlying9 ws0) (trodAll_cons_mk (Below.trod laidOut (by kernel_rfl) (of_decide_eq_true (by kernel_rfl)) hf1 bel hlt1) trodAll_mk0)), rfl, bel.frame _, fun h => by cases h⟩

theorem laid_met (os : Os) : laidMet Tryz.prog Rows.assocNothingRow.laid ((World.laidAll Tryz.prog os Rows.assocNothingRow.laid).forCall (fun _ _ => 0) ⟨#[], #[.string ByteArray.empty, .agg #[.string ByteArray.empty, .float .f64 0, .string ByteArray.empty]], []⟩).memory :=
  laidMet_laidAll _ (by kernel_rfl) (by kernel_rfl)
theorem reads (os : Os) {H : Type} (enc : TypeId × Value → H) : ∃ places, DataW.whole enc Tryz.prog ((World.laidAll Tryz.prog os Rows.assocNothingRow.laid).forCall (fun _ _ => 0) ⟨#[], #[.string ByteArray.empty, .agg #[.string ByteArray.empty, .float .f64 0, .string ByteArray.empty]], []⟩).memory Tryz.f8.params.toList Rows.assocNothingSpec.vars false (#[.string ByteArray.empty, .agg #[.string ByteArray.empty, .float .f64 0, .string ByteArray.empty]] : Array Value).toList 8 = some ([.lit (.string []), .agg [.lit (.string []), .lit (.float .f64 0), .lit (.string [])]], [], places) :=
  ⟨[], by kernel_rfl⟩

theorem shaped (os : Os) : ((World.laidAll Tryz.prog os Rows.assocNothingRow.laid).forCall (fun _ _ => 0) ⟨#[], #[.string ByteArray.empty, .agg #[.string ByteArray.empty, .float .f64 0, .string ByteArray.empty]], []⟩).Shaped Tryz.prog :=
  World.shaped_of_ZipB (by kernel_rfl) (by kernel_rfl)
theorem okw (os : Os) : Input.okWideB Tryz.prog ((World.laidAll Tryz.prog os Rows.assocNothingRow.laid).forCall (fun _ _ => 0) ⟨#[], #[.string ByteArray.empty, .agg #[.string ByteArray.empty, .float .f64 0, .string ByteArray.empty]], []⟩) 8 ⟨#[], #[.string ByteArray.empty, .agg #[.string ByteArray.empty, .float .f64 0, .string ByteArray.empty]], []⟩ = true := by kernel_rfl

set_option maxRecDepth 100000 in
theorem lifted (os : Os) (started : os.Started) (H : Type) (enc : TypeId × Value → H) (F : Stop.Interp) :
    ReturnsInHanded {} Tryz.checked os 8 .any ((OpenSpec.ofChange Rows.assocNothingSpec).preRow enc Tryz.prog Tryz.f8 Rows.assocNothingRow.domain false Rows.assocNothingRow.laid) (((OpenSpec.ofChange Rows.assocNothingSpec).at F).post enc Tryz.prog Tryz.f8 false true false false) := by
  obtain ⟨places, hx⟩ := reads os enc
  refine returnsInHanded_of_row (C := Tryz.checked) (s := OpenSpec.ofChange Rows.assocNothingSpec) own started (by kernel_rfl) Tryz.func8
    ⟨World.laidAll Tryz.prog os Rows.assocNothingRow.laid, fun _ _ => 0, ⟨#[], #[.string ByteArray.empty, .agg #[.string ByteArray.empty, .float .f64 0, .string ByteArray.empty]], []⟩, World.laidAll_os _ _ _, shaped os, (Input.okWide_of_okWideB (base := 0) (okw os)).1, (Input.okWide_of_okWideB (okw os)).2,
      OpenSpec.preRow_of_cond 8 hx (by kernel_rfl) (fun k hk => by cases hk) (by kernel_rfl) (laid_met os), by
        simp only [Assume.holds]
        exact ⟨by simp, by simp, fun _ => Modest.zero, by simp, by simp⟩⟩ ?_
  intro W base args ds gs before hval hW _ _ hsz hL hSh _
  exact contract H enc W base args ds gs before hval hW hL hSh hsz
end Go.Proofs.YtcjeeoadgoghfaaGreatDoor.rowAssocNothing
