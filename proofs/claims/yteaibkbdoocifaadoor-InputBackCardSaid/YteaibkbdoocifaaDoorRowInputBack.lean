/- The statement of InputBack: for every input the law returns true, and its arguments read behind the call as before; package-level tables hold what the text lays. -/
import Derived.Test.YteaibkbdoocifaaDoorInN
import Derived.Test.YteaibkbdoocifaaDoorCards
import Derived.Test.YteaibkbdoocifaaDoorTie
import Derived.WalkKit
import Derived.ProofKit
import Derived.OpenShut
import Derived.SliceStrings
import Derived.ShutString
import Derived.Lay
import Derived.Below
import Derived.Carry
import Derived.SevenTiedAt
import Derived.Deep.DeepHandedRow
import Derived.Stop.Joined
namespace Go.Proofs.YteaibkbdoocifaaDoor.rowInputBack
open Go.ChangeShapes Go.WideShapes Go.ChangeAt Go.RowKit
open Go.ChangeMaps (open_string shut_string)
set_option linter.unusedVariables false set_option linter.unusedSimpArgs false

theorem own : ownKnob Tryd.prog.godebug = none := by kernel_rfl

theorem laidOut : laidOutB Tryd.prog = true := by kernel_rfl

theorem spot_none {w : World} {a : Addr} {v : Value} (h : w.cell? (a.add 0) = some v) : a.spot = none := by
  have e : a.add 0 = a := rfl
  rw [e] at h
  unfold World.cell? at h
  split at h
  · split at h
    · cases h
    · rename_i hs
      simpa using hs
  · cases h

theorem weight_mem {H : Type} (P : Program) (e : TypeId) (bs : List UInt8) : ∀ (l : List (DataW H)), DataW.lit (.string bs) ∈ l → bs.length ∈ DataW.weightsAll P e l
  | [], h => by cases h
  | d :: r, h => by
    rcases List.mem_cons.1 h with rfl | h
    · simp [DataW.weightsAll, DataW.weights]
    · have := weight_mem P e bs r h
      simp [DataW.weightsAll, this]

set_option maxRecDepth 100000 in
theorem contract (H : Type) (enc : TypeId × Value → H) (W : World) (base : Nat) (args : Array Value) (ds gs : List (DataW H)) (before : List MemPlace)
    (hval : ∀ (j : Nat) t v, Tryd.f4.params[j]? = some t → args[j]? = some v → Value.okWide Tryd.prog W .any base t v)
    (hW : DataW.Whole enc Tryd.prog Tryd.f4.params.toList Rows.inputBackSpec.vars false W args.toList ds gs before)
    (hL : laidMetH Tryd.prog Rows.inputBackRow.laid W) (hSh : W.ShapedOpen Tryd.prog) (hsz : (DataW.weightsEach Tryd.prog (Tryd.f4.params.toList ++ []) (ds ++ gs)).all (· ≤ reachBytes) = true) :
    Calls Tryd.prog 4 args W fun e W' => ∃ v, e = .returned v ∧ Rows.inputBackSpec.post enc Tryd.prog Tryd.f4 false true false false W args v W' := by
  have hW' := hW
  obtain ⟨p, q, hA0, hV, rfl, hfz, hnd⟩ := hW
  have hA : DataW.TrodAll enc Tryd.prog W 0 (fun _ => true) true Tryd.f4.params.toList args.toList ds p := hA0
  rw [Tryd.params4] at hA hval hsz
  obtain ⟨v0, vs0, d0, ds0, p0, q0, hargs, rfl, rfl, h0, r0⟩ := trodAll_cons hA
  obtain ⟨v1, vs1, d1, ds1, p1, q1, rfl, rfl, rfl, h1, r1⟩ := trodAll_cons r0
  obtain ⟨rfl, rfl, rfl⟩ := trodAll_nil r1
  obtain rfl : args = #[v0, v1] := by cases args; simp_all
  obtain ⟨rfl, rfl⟩ := trodVars_none hV
  obtain ⟨a1, rfl, rfl, rfl, w1⟩ := open_int Tryd.underlying5 (hval 1 5 v1 rfl rfl) h1
  have hx : 0 ≤ a1 ∧ a1 ≤ 255 := by simpa [Lit.wf, IntKind.min, IntKind.max, IntKind.signed, IntKind.bits] using w1
  obtain ⟨a0, len0, cap0, rfl⟩ := okWide_slice Tryd.underlying27 (hval 0 27 v0 rfl rfl)
  have h0' := h0
  obtain ⟨fuel, hfu⟩ := h0
  have hb : ((UInt8.ofNat a1.toNat).toNat : Int) = a1 := by
    rw [UInt8.toNat_ofNat']
    omega
  have hread : ∃ L : List ByteArray, Go.Proofs.YteaibkbdoocifaaDoor.inps.RdS W (.slice a0 len0 cap0) L ∧ ∀ x ∈ L, x.size ≤ 140737488351232 := by
    rcases open_strings (w := W) Tryd.underlying27 Tryd.underlying9 (by kernel_rfl) hfu with ⟨hcs, _⟩ | ⟨a, len, cap, ss, hcs, _, hl, hm, hsl, hd, hcell, _⟩
    · have hcs : [Value.slice a0 len0 cap0] = [.slice none 0 0] := hcs
      injection hcs with hcs
      rw [hcs]
      exact ⟨[], ⟨none, 0, rfl, .inl rfl⟩, fun x hx => by cases hx⟩
    · have hcs : [Value.slice a0 len0 cap0] = [.slice (some a) len cap] := hcs
      injection hcs with hcs
      rw [hcs]
      have hd0 : d0 = .slice (strs (ss.take len)) (strs (ss.drop len)) := by injection hd
      have hls : (ss.take len).length = len := by rw [List.length_take, hsl]; simp; omega
      refine ⟨ss.take len, ⟨some a, cap, by rw [hls], ?_⟩, ?_⟩
      · by_cases he : ss.take len = []
        · exact .inl he
        · right
          have hpos : 0 < (ss.take len).length := List.length_pos_iff.2 he
          have hsp : a.spot = none := spot_none (hcell 0 (by rw [List.length_take] at hpos; omega))
          obtain ⟨ab, ao, asp⟩ := a
          have hsp : asp = none := hsp
          subst hsp
          refine ⟨ab, ao, rfl, fun k x hk => ?_⟩
          have hkl : k < len := by
            have := (List.getElem?_eq_some_iff.1 hk).1
            rw [hls] at this
            exact this
          rw [List.getElem?_take, if_pos hkl] at hk
          have hks := (List.getElem?_eq_some_iff.1 hk).1
          have hc := hcell k hks
          rw [List.getD_eq_getElem?_getD, hk] at hc
          rw [Addr.add_lit] at hc
          exact hc
      · intro x hx
        subst hd0
        have hm := weight_mem (H := H) Tryd.prog 9 x.data.toList (strs (ss.take len)) (List.mem_map.2 ⟨x, hx, rfl⟩)
        have hm : x.size ∈ DataW.weightsAll Tryd.prog 9 (strs (H := H) (ss.take len)) := by simpa using hm
        have hle := List.all_eq_true.1 hsz x.data.toList.length (by simp [DataW.weightsEach, DataW.weights, Tryd.underlying27, hm])
        have hle : x.data.toList.length ≤ reachBytes := of_decide_eq_true hle
        rw [Array.length_toList] at hle
        have hr : reachBytes = 140737488351232 := rfl
        have hs : x.data.size = x.size := rfl
        omega
  obtain ⟨L, hrd, hLz⟩ := hread
  clear hA0
  simp only [List.append_nil] at hW'
  have hlt : ∀ x ∈ p0, x.block < W.heap.size := fun x hx => hW'.lt x (by simp [hx])
  have hcall := lexs.inputBack_all _ L (UInt8.ofNat a1.toNat) W hrd hLz ((Tryd.laysM145).s1_3 W hSh)
  rw [hb] at hcall
  refine hcall.mono fun e W' ⟨he, hf⟩ => ?_
  have bel := Go.Proofs.YteaibkbdoocifaaDoor.base.Frm.below hf (Nat.le_refl _) (fun _ _ h => h)
  subst he
  exact ⟨_, rfl, _, _, _, [], _, [], hW', trodAll_mk1 (shut_bool Tryd.underlying4 _), (trodAll_cons_mk (Below.trod laidOut (by kernel_rfl) (of_decide_eq_true (by kernel_rfl)) ⟨fuel, hfu⟩ bel hlt) (trodAll_cons_mk (shut_int Tryd.underlying5 w1) trodAll_mk0)), rfl, bel.frame _, fun h => by cases h⟩

theorem laid_met (os : Os) : laidMet Tryd.prog Rows.inputBackRow.laid ((World.laidAll Tryd.prog os Rows.inputBackRow.laid).forCall (fun _ _ => 0) ⟨#[], #[.slice none 0 0, .int .u8 0], []⟩).memory :=
  laidMet_laidAll _ (by kernel_rfl) (by kernel_rfl)
theorem reads (os : Os) {H : Type} (enc : TypeId × Value → H) : ∃ places, DataW.whole enc Tryd.prog ((World.laidAll Tryd.prog os Rows.inputBackRow.laid).forCall (fun _ _ => 0) ⟨#[], #[.slice none 0 0, .int .u8 0], []⟩).memory Tryd.f4.params.toList Rows.inputBackSpec.vars false (#[.slice none 0 0, .int .u8 0] : Array Value).toList 8 = some ([.nil, .lit (.int .u8 0)], [], places) :=
  ⟨[], by kernel_rfl⟩

theorem shaped (os : Os) : ((World.laidAll Tryd.prog os Rows.inputBackRow.laid).forCall (fun _ _ => 0) ⟨#[], #[.slice none 0 0, .int .u8 0], []⟩).Shaped Tryd.prog :=
  World.shaped_of_ZipB (by kernel_rfl) (by kernel_rfl)
theorem okw (os : Os) : Input.okWideB Tryd.prog ((World.laidAll Tryd.prog os Rows.inputBackRow.laid).forCall (fun _ _ => 0) ⟨#[], #[.slice none 0 0, .int .u8 0], []⟩) 4 ⟨#[], #[.slice none 0 0, .int .u8 0], []⟩ = true := by kernel_rfl

set_option maxRecDepth 100000 in
theorem lifted (os : Os) (started : os.Started) (H : Type) (enc : TypeId × Value → H) (F : Stop.Interp) :
    ReturnsInHanded {} Tryd.checked os 4 .any ((OpenSpec.ofChange Rows.inputBackSpec).preRow enc Tryd.prog Tryd.f4 Rows.inputBackRow.domain false Rows.inputBackRow.laid) (((OpenSpec.ofChange Rows.inputBackSpec).at F).post enc Tryd.prog Tryd.f4 false true false false) := by
  obtain ⟨places, hx⟩ := reads os enc
  refine returnsInHanded_of_row (C := Tryd.checked) (s := OpenSpec.ofChange Rows.inputBackSpec) own started (by kernel_rfl) Tryd.func4
    ⟨World.laidAll Tryd.prog os Rows.inputBackRow.laid, fun _ _ => 0, ⟨#[], #[.slice none 0 0, .int .u8 0], []⟩, World.laidAll_os _ _ _, shaped os, (Input.okWide_of_okWideB (base := 0) (okw os)).1, (Input.okWide_of_okWideB (okw os)).2,
      OpenSpec.preRow_of_cond 8 hx (by kernel_rfl) (fun k hk => by cases hk) (by kernel_rfl) (laid_met os), by
        simp only [Assume.holds]
        exact ⟨by simp, by simp, fun _ => Modest.zero, by simp, by simp⟩⟩ ?_
  intro W base args ds gs before hval hW _ _ hsz hL hSh _
  exact contract H enc W base args ds gs before hval hW hL hSh hsz

theorem said : Rows.InputBackSaid :=
  OpenClaim.holds_of_cond 4 Tryd.f4 rfl rfl rfl rfl rfl rfl rfl ⟨rfl, rfl, rfl, rfl, rfl⟩ rfl rfl rfl rfl rfl (by kernel_rfl) Tryd.func4 (by kernel_rfl)
    (of_decide_eq_true (by kernel_rfl)) (by unfold Func.isWrapper; first | (rw [if_pos (by decide +kernel)]; kernel_rfl) | (rw [if_neg (by decide +kernel)]; exact ⟨rfl, rfl⟩))
    (fun os started H enc _ F => by rw [OpenClaim.pre_eq_preRow]; exact lifted os started H enc F)

theorem plain (f : FuncId) (fn : Func) (hf : Tryd.pinned.checked.prog.funcNamed "tedder/tedderlaw15.InputBack" = some f) (hfn : Tryd.pinned.checked.prog.funcs[f]? = some fn) :
    false = Tryd.pinned.checked.prog.looks [] ∧ ∀ (j : Nat) t, fn.params[j]? = some t → Tryd.pinned.checked.prog.wantsStandIn t = false := by
  obtain rfl : f = 4 := Option.some.inj ((show Tryd.prog.funcNamed "tedder/tedderlaw15.InputBack" = some 4 by kernel_rfl).symm.trans hf) |>.symm
  obtain rfl : fn = Tryd.f4 := (Option.some.inj (Tryd.func4.symm.trans hfn)).symm
  refine ⟨by kernel_rfl, fun j t ht => ?_⟩
  rw [Tryd.params4] at ht
  have hm := Array.mem_of_getElem? ht
  have h : t = 27 ∨ t = 5 := by
    simp at hm
    omega
  rcases h with rfl | rfl
  · exact (show Tryd.prog.wantsStandIn 27 = false by kernel_rfl)
  · exact (show Tryd.prog.wantsStandIn 5 = false by kernel_rfl)

theorem card : Rows.InputBackCardSaid :=
  Claim7.holds_tied_plain_at .later [] _ _ _ _ said (fun _ h => by cases h) (by kernel_rfl) (fun _ h => by cases h) inputBack_row_tie rfl ⟨rfl, rfl⟩ (by kernel_rfl) rfl plain (by kernel_rfl)
end Go.Proofs.YteaibkbdoocifaaDoor.rowInputBack
