/- What awake asks of dec.Prefix: the numeral 12.5e1. -/
import Derived.Test.YtcjeeoadgoghfaaGreatDoorAwk
import Derived.Test.YtcjeeoadgoghfaaGreatDoorGPower
import Derived.Deep.RegionWith

namespace Go.Proofs.YtcjeeoadgoghfaaGreatDoor.awk
set_option linter.unusedVariables false
open Go.ChangeShapes Go.WideShapes Go.ChangeAt Go.RowKit Go.Proofs.YtcjeeoadgoghfaaGreatDoor.scan

/-- A struct of four fields in a block of the call's own. -/
def Box4 (w : World) (b : Nat) (T : TypeId) (x y z u : Value) : Prop := w.heap[b]? = some (.cells #[x, y, z, u] T (0, 0))
theorem Box4.c1 {w : World} {b : Nat} {T : TypeId} {x y z u : Value} (h : Box4 w b T x y z u) : w.cell? ⟨b, 1, none⟩ = some y := by simp [World.cell?, show w.heap[b]? = _ from h]
theorem Box4.c0 {w : World} {b : Nat} {T : TypeId} {x y z u : Value} (h : Box4 w b T x y z u) : w.cell? ⟨b, 0, none⟩ = some x := by simp [World.cell?, show w.heap[b]? = _ from h]
theorem Box4.c3 {w : World} {b : Nat} {T : TypeId} {x y z u : Value} (h : Box4 w b T x y z u) : w.cell? ⟨b, 3, none⟩ = some u := by simp [World.cell?, show w.heap[b]? = _ from h]
theorem Box4.new (w : World) (T : TypeId) (x y z u : Value) : Box4 (w.alloc (.cells #[x, y, z, u] T)) w.heap.size T x y z u := heap_alloc_new w _
theorem Box4.below {w w' : World} {b B : Nat} {T : TypeId} {x y z u : Value} (h : Box4 w b T x y z u) (hb : Below B w w') (hlt : b < B) : Box4 w' b T x y z u := by
  unfold Box4
  rw [hb.block b hlt]
  exact h

theorem below_q (B : Nat) (w : World) (n : Nat) : Below B w (w.drewN n) := ⟨rfl, rfl, rfl, Nat.le_refl _, fun _ _ => rfl⟩

theorem trim_c (w : World) : Calls Tryz.prog 118 #[.string ⟨#[49, 50, 53]⟩, .string ⟨#[48]⟩] w fun e w' => e = .returned (.string ⟨#[49, 50, 53]⟩) ∧ w' = w := by
  have h := Tryz.strings_TrimLeft_one ⟨#[49, 50, 53]⟩ 48 (by decide) w
  rw [show (Lib.trimLeftB (⟨#[49, 50, 53]⟩ : ByteArray).data.toList 48).toArray = #[49, 50, 53] by decide +kernel] at h
  exact h
theorem pow_c (w : World) : Calls Tryz.prog 115 #[.string ⟨#[49]⟩] w fun e w' => e = .returned (.int .i64 1) ∧ Below w.heap.size w w' := by
  have h := powerOf_all ⟨#[49]⟩ w (by decide)
  rw [show pwZ (⟨#[49]⟩ : ByteArray).data.toList = 1 by decide +kernel] at h
  exact h
theorem itoa_c (w : World) : Calls Tryz.prog 119 #[.int .i64 2] w fun e w' => e = .returned (.string ⟨#[50]⟩) ∧ w' = w := by
  have h := Tryz.strconv_Itoa_small 2 (by decide) w
  rw [show (Lib.decDigits 2).toArray = #[50] by rw [Lib.decDigits_one (by decide)]; rfl] at h
  exact h

set_option maxRecDepth 100000 in
set_option maxHeartbeats 3000000 in
theorem plain_c (w : World) :
    Calls Tryz.prog 85 #[.agg #[.bool false, .string ⟨#[49, 50]⟩, .string ⟨#[53]⟩, .string ⟨#[49]⟩]] w fun e w' => e = .returned (.string ⟨#[49, 46, 50, 53, 101, 50]⟩) ∧ Below w.heap.size w w' := by
  have j0 : (⟨#[49, 50]⟩ : ByteArray) ++ ⟨#[53]⟩ = ⟨#[49, 50, 53]⟩ := rfl
  have j1 : (⟨#[49, 50, 53]⟩ : ByteArray).extract 0 1 = ⟨#[49]⟩ := rfl
  have j2 : (⟨#[49, 50, 53]⟩ : ByteArray).extract 1 3 = ⟨#[50, 53]⟩ := rfl
  have j3 : (⟨#[49]⟩ : ByteArray) ++ ⟨#[46]⟩ = ⟨#[49, 46]⟩ := rfl
  have j4 : (⟨#[49, 46]⟩ : ByteArray) ++ ⟨#[50, 53]⟩ = ⟨#[49, 46, 50, 53]⟩ := rfl
  have j5 : (⟨#[49, 46, 50, 53]⟩ : ByteArray) ++ ⟨#[101]⟩ = ⟨#[49, 46, 50, 53, 101]⟩ := rfl
  have j6 : (⟨#[49, 46, 50, 53, 101]⟩ : ByteArray) ++ ⟨#[50]⟩ = ⟨#[49, 46, 50, 53, 101, 50]⟩ := rfl
  go_enter Tryz.func85, Tryz.ntmps85
  go_wp2_with (go_at_call 118; go_must (refine (trim_c _).mono ?_; rintro e w1 ⟨rfl, rfl⟩))
  have HB := Lib.hid (Box4.new w 78 (.bool false) (.string ⟨#[49, 50]⟩) (.string ⟨#[53]⟩) (.string ⟨#[49]⟩))
  have HLT := Lib.hid (show w.heap.size < (w.alloc (.cells #[.bool false, .string ⟨#[49, 50]⟩, .string ⟨#[53]⟩, .string ⟨#[49]⟩] 78)).heap.size by simp)
  go_region_with (go_at_call 115; go_must (refine (pow_c _).mono ?_; rintro e w2 ⟨rfl, hb2⟩; have M := Lib.hid (Box4.below (b := w.heap.size) (T := 78) (x := .bool false) (y := .string ⟨#[49, 50]⟩) (z := .string ⟨#[53]⟩) (u := .string ⟨#[49]⟩) (by exact HB.out) hb2 (by exact HLT.out)); have k1 := M.out.c1; have k3 := M.out.c3))
  all_goals
    go_wp2_with fail
    go_region_with (go_at_call 119; go_must (refine (itoa_c _).mono ?_; rintro e w3 ⟨rfl, rfl⟩))
  all_goals
    go_wp2_with fail
    go_ret
    refine ⟨?_, ?_⟩
    · rfl
    · have h0 : Below w.heap.size w (w.alloc (.cells #[.bool false, .string ⟨#[49, 50]⟩, .string ⟨#[53]⟩, .string ⟨#[49]⟩] 78)).drew := ((Below.refl _ _).alloc (Nat.le_refl _) _).drew
      have h1 : Below w.heap.size w w2 := h0.trans (hb2.mono (by have := HLT.out; exact Nat.le_of_lt this))
      first | exact h1 | exact h1.drew | exact h1.trans (below_q _ _ _)
end Go.Proofs.YtcjeeoadgoghfaaGreatDoor.awk
