/- The statement of FieldBack: for every input the law returns true, and its arguments read behind the call as before. -/
import Derived.Test.YthkdbklphdpkcaaGreatFldV
import Derived.Test.YthkdbklphdpkcaaGreatRows
import Derived.WalkKit
import Derived.ProofKit
import Derived.OpenShut
import Derived.SliceStrings
import Derived.ShutString
import Derived.Lay
import Derived.Below
import Derived.Carry
import Derived.SevenTiedAt
import Derived.Deep.DeepHandedRow
import Derived.Stop.Joined
namespace Go.Proofs.YthkdbklphdpkcaaGreat.rowFieldBack
open Go.ChangeShapes Go.WideShapes Go.ChangeAt Go.RowKit
open Go.ChangeMaps (open_string shut_string)
set_option linter.unusedVariables false set_option linter.unusedSimpArgs false

theorem own : ownKnob Tryz.prog.godebug = none := by kernel_rfl

theorem laidOut : laidOutB Tryz.prog = true := by kernel_rfl

theorem spot_none {w : World} {a : Addr} {v : Value} (h : w.cell? (a.add 0) = some v) : a.spot = none := by
  have e : a.add 0 = a := rfl
  rw [e] at h
  unfold World.cell? at h
  split at h
  · split at h
    · cases h
    · rename_i hs
      simpa using hs
  · cases h

theorem weight_mem {H : Type} (P : Program) (e : TypeId) (bs : List UInt8) : ∀ (l : List (DataW H)), DataW.lit (.string bs) ∈ l → bs.length ∈ DataW.weightsAll P e l
  | [], h => by cases h
  | d :: r, h => by
    rcases List.mem_cons.1 h with rfl | h
    · simp [DataW.weightsAll, DataW.weights]
    · have := weight_mem P e bs r h
      simp [DataW.weightsAll, this]

set_option maxRecDepth 100000 in
theorem contract (H : Type) (enc : TypeId × Value → H) (W : World) (base : Nat) (args : Array Value) (ds gs : List (DataW H)) (before : List MemPlace)
    (hval : ∀ (j : Nat) t v, Tryz.f5.params[j]? = some t → args[j]? = some v → Value.okWide Tryz.prog W .any base t v)
    (hW : DataW.Whole enc Tryz.prog Tryz.f5.params.toList Rows.fieldBackSpec.vars false W args.toList ds gs before)
    (hsz : (DataW.weightsEach Tryz.prog (Tryz.f5.params.toList ++ []) (ds ++ gs)).all (· ≤ reachBytes) = true) :
    Calls Tryz.prog 5 args W fun e W' => ∃ v, e = .returned v ∧ Rows.fieldBackSpec.post enc Tryz.prog Tryz.f5 false true false false W args v W' := by
  have hW' := hW
  obtain ⟨p, q, hA0, hV, rfl, hfz, hnd⟩ := hW
  have hA : DataW.TrodAll enc Tryz.prog W 0 (fun _ => true) true Tryz.f5.params.toList args.toList ds p := hA0
  rw [Tryz.params5] at hA hval hsz
  obtain ⟨v0, vs0, d0, ds0, p0, q0, hargs, rfl, rfl, h0, r0⟩ := trodAll_cons hA
  obtain ⟨v1, vs1, d1, ds1, p1, q1, rfl, rfl, rfl, h1, r1⟩ := trodAll_cons r0
  obtain ⟨rfl, rfl, rfl⟩ := trodAll_nil r1
  obtain rfl : args = #[v0, v1] := by cases args; simp_all
  obtain ⟨rfl, rfl⟩ := trodVars_none hV
  obtain ⟨a1, rfl, rfl, rfl, w1⟩ := open_int Tryz.underlying5 (hval 1 5 v1 rfl rfl) h1
  have hx : 0 ≤ a1 ∧ a1 ≤ 255 := by simpa [Lit.wf, IntKind.min, IntKind.max, IntKind.signed, IntKind.bits] using w1
  obtain ⟨a0, len0, cap0, rfl⟩ := okWide_slice Tryz.underlying23 (hval 0 23 v0 rfl rfl)
  have h0' := h0
  obtain ⟨fuel, hfu⟩ := h0
  have hb : ((UInt8.ofNat a1.toNat).toNat : Int) = a1 := by
    rw [UInt8.toNat_ofNat']
    omega
  have hread : ∃ L : List ByteArray, flds.RdS W (.slice a0 len0 cap0) L ∧ ∀ x ∈ L, x.size ≤ 140737488355328 := by
    rcases open_strings (w := W) Tryz.underlying23 Tryz.underlying9 (by kernel_rfl) hfu with ⟨hcs, _⟩ | ⟨a, len, cap, ss, hcs, _, hl, hm, hsl, hd, hcell, _⟩
    · have hcs : [Value.slice a0 len0 cap0] = [.slice none 0 0] := hcs
      injection hcs with hcs
      rw [hcs]
      exact ⟨[], ⟨none, 0, rfl, .inl rfl⟩, fun x hx => by cases hx⟩
    · have hcs : [Value.slice a0 len0 cap0] = [.slice (some a) len cap] := hcs
      injection hcs with hcs
      rw [hcs]
      have hd0 : d0 = .slice (strs (ss.take len)) (strs (ss.drop len)) := by injection hd
      have hls : (ss.take len).length = len := by rw [List.length_take, hsl]; simp; omega
      refine ⟨ss.take len, ⟨some a, cap, by rw [hls], ?_⟩, ?_⟩
      · by_cases he : ss.take len = []
        · exact .inl he
        · right
          have hpos : 0 < (ss.take len).length := List.length_pos_iff.2 he
          have hsp : a.spot = none := spot_none (hcell 0 (by rw [List.length_take] at hpos; omega))
          obtain ⟨ab, ao, asp⟩ := a
          have hsp : asp = none := hsp
          subst hsp
          refine ⟨ab, ao, rfl, fun k x hk => ?_⟩
          have hkl : k < len := by
            have := (List.getElem?_eq_some_iff.1 hk).1
            rw [hls] at this
            exact this
          rw [List.getElem?_take, if_pos hkl] at hk
          have hks := (List.getElem?_eq_some_iff.1 hk).1
          have hc := hcell k hks
          rw [List.getD_eq_getElem?_getD, hk] at hc
          rw [Addr.add_lit] at hc
          exact hc
      · intro x hx
        subst hd0
        have hm := weight_mem (H := H) Tryz.prog 9 x.data.toList (strs (ss.take len)) (List.mem_map.2 ⟨x, hx, rfl⟩)
        have hm : x.size ∈ DataW.weightsAll Tryz.prog 9 (strs (H := H) (ss.take len)) := by simpa using hm
        have hle := List.all_eq_true.1 hsz x.data.toList.length (by simp [DataW.weightsEach, DataW.weights, Tryz.underlying23, hm])
        have hle : x.data.toList.length ≤ reachBytes := of_decide_eq_true hle
        rw [Array.length_toList] at hle
        have hr : reachBytes = 140737488351232 := rfl
        have hs : x.data.size = x.size := rfl
        omega
  obtain ⟨L, hrd, hLz⟩ := hread
  clear hA0
  simp only [List.append_nil] at hW'
  have hlt : ∀ x ∈ p0, x.block < W.heap.size := fun x hx => hW'.lt x (by simp [hx])
  have hcall := flds.back_all _ L (UInt8.ofNat a1.toNat) W hrd hLz
  rw [hb] at hcall
  refine hcall.mono fun e W' ⟨he, bel⟩ => ?_
  subst he
  exact ⟨_, rfl, _, _, _, [], _, [], hW', trodAll_mk1 (shut_bool Tryz.underlying4 _), (trodAll_cons_mk (Below.trod laidOut (by kernel_rfl) (of_decide_eq_true (by kernel_rfl)) ⟨fuel, hfu⟩ bel hlt) (trodAll_cons_mk (shut_int Tryz.underlying5 w1) trodAll_mk0)), rfl, bel.frame _, fun h => by cases h⟩

theorem laid_met (os : Os) : laidMet Tryz.prog Rows.fieldBackRow.laid ((World.laidAll Tryz.prog os Rows.fieldBackRow.laid).forCall (fun _ _ => 0) ⟨#[], #[.slice none 0 0, .int .u8 0], []⟩).memory :=
  laidMet_laidAll _ (by kernel_rfl) (by kernel_rfl)
theorem reads (os : Os) {H : Type} (enc : TypeId × Value → H) : ∃ places, DataW.whole enc Tryz.prog ((World.laidAll Tryz.prog os Rows.fieldBackRow.laid).forCall (fun _ _ => 0) ⟨#[], #[.slice none 0 0, .int .u8 0], []⟩).memory Tryz.f5.params.toList Rows.fieldBackSpec.vars false (#[.slice none 0 0, .int .u8 0] : Array Value).toList 8 = some ([.nil, .lit (.int .u8 0)], [], places) :=
  ⟨[], by kernel_rfl⟩

theorem shaped (os : Os) : ((World.laidAll Tryz.prog os Rows.fieldBackRow.laid).forCall (fun _ _ => 0) ⟨#[], #[.slice none 0 0, .int .u8 0], []⟩).Shaped Tryz.prog :=
  World.shaped_of_ZipB (by kernel_rfl) (by kernel_rfl)
theorem okw (os : Os) : Input.okWideB Tryz.prog ((World.laidAll Tryz.prog os Rows.fieldBackRow.laid).forCall (fun _ _ => 0) ⟨#[], #[.slice none 0 0, .int .u8 0], []⟩) 5 ⟨#[], #[.slice none 0 0, .int .u8 0], []⟩ = true := by kernel_rfl

set_option maxRecDepth 100000 in
theorem lifted (os : Os) (started : os.Started) (H : Type) (enc : TypeId × Value → H) (F : Stop.Interp) :
    ReturnsInHanded {} Tryz.checked os 5 .any ((OpenSpec.ofChange Rows.fieldBackSpec).preRow enc Tryz.prog Tryz.f5 Rows.fieldBackRow.domain false Rows.fieldBackRow.laid) (((OpenSpec.ofChange Rows.fieldBackSpec).at F).post enc Tryz.prog Tryz.f5 false true false false) := by
  obtain ⟨places, hx⟩ := reads os enc
  refine returnsInHanded_of_row (C := Tryz.checked) (s := OpenSpec.ofChange Rows.fieldBackSpec) own started (by kernel_rfl) Tryz.func5
    ⟨World.laidAll Tryz.prog os Rows.fieldBackRow.laid, fun _ _ => 0, ⟨#[], #[.slice none 0 0, .int .u8 0], []⟩, World.laidAll_os _ _ _, shaped os, (Input.okWide_of_okWideB (base := 0) (okw os)).1, (Input.okWide_of_okWideB (okw os)).2,
      OpenSpec.preRow_of_cond 8 hx (by kernel_rfl) (fun k hk => by cases hk) (by kernel_rfl) (laid_met os), by
        simp only [Assume.holds]
        exact ⟨by simp, by simp, fun _ => Modest.zero, by simp, by simp⟩⟩ ?_
  intro W base args ds gs before hval hW _ _ hsz _ _ _
  exact contract H enc W base args ds gs before hval hW hsz

theorem said : Rows.FieldBackSaid :=
  OpenClaim.holds_of_cond 5 Tryz.f5 rfl rfl rfl rfl rfl rfl rfl ⟨rfl, rfl, rfl, rfl, rfl⟩ rfl rfl rfl rfl rfl (by kernel_rfl) Tryz.func5 (by kernel_rfl)
    (of_decide_eq_true (by kernel_rfl)) (by unfold Func.isWrapper; first | (rw [if_pos (by decide +kernel)]; kernel_rfl) | (rw [if_neg (by decide +kernel)]; exact ⟨rfl, rfl⟩))
    (fun os started H enc _ F => by rw [OpenClaim.pre_eq_preRow]; exact lifted os started H enc F)
end Go.Proofs.YthkdbklphdpkcaaGreat.rowFieldBack
