/- Spell of a format that has no conversion. -/
import Derived.Test.YtkemdhaalcploaaGreatDoorSplO
import Derived.Deep.LoopGhost
namespace Go.Proofs.YtkemdhaalcploaaGreatDoor.spl
set_option linter.unusedVariables false set_option linter.unusedSimpArgs false
open Go.ChangeShapes Go.WideShapes Go.ChangeAt Go.RowKit Go.Proofs.YtkemdhaalcploaaGreatDoor.base

set_option maxHeartbeats 2000000 in
set_option maxRecDepth 100000 in
/-- A step where something stands ahead of the next %, and that is too long. -/
theorem step_plain_no (w : World) (B b : Nat) (rest : ByteArray) (args : Value) (conv : ByteArray) (l : List UInt8) (most : Int) (h : WR B b rest args conv l most w) (hr : rest.size ≤ 1000000) (hM : MaxL w) (P Q : List UInt8) (y : Bool) (hP : Lib.cut rest.data.toList [37] = (P, Q, y)) (hP0 : P.isEmpty = false) (hPl : P.length ≤ rest.size) (hB : B ≤ w.heap.size) (hl : l.length ≤ 1000000000) (h0 : 0 ≤ most) (h2 : most ≤ 9223372036854775807) (hn : most < ((l.length + P.length : Nat) : Int)) :
    Calls Tryz.prog 11 #[.pointer (some ⟨b, 0, none⟩)] w fun e w' => e = .returned (.bool false) ∧ Below B w w' := by
  have HC := Lib.hid (cutp rest w hr hM P Q y hP)
  have c0 := h.c0
  have hsz := list_size P
  have hne : (⟨P.toArray⟩ : ByteArray).toList.isEmpty = false := by rw [Lib.toList_data, list_data]; exact hP0
  have HW := Lib.hid (fun (W : World) (g : Nat) (hw : WR B b (rest.extract P.length rest.size) args conv l most W) (hc : W.cell? ⟨g, 0, none⟩ = some (.string ⟨P.toArray⟩)) => write1_no W B b _ args conv l most hw g ⟨P.toArray⟩ hc (by omega) h2 (by rw [hsz]; omega))
  have HS := Lib.hid (fun n => show WR B b (rest.extract P.length rest.size) args conv l most ((w.drewN n).setCell ⟨b, 0, none⟩ (.string (rest.extract P.length rest.size))) from (h.frm ((Frm.refl No w).drewN n)).rest)
  have hf := h.f 0
  have hBb : B ≤ b := h.1
  have HKW := Lib.hid (fun (n : Nat) (T : TypeId) (C : Array Value) => show Kb B b w (((w.drewN n).setCell ⟨b, 0, none⟩ (.string (rest.extract P.length rest.size))).alloc (.cells C T)) from Kb.at ((((Frm.refl (At b) w).drewN n).setCell ⟨b, 0, none⟩ _ (fun _ => rfl)).alloc _) hB hBb)
  have hlt := Lib.hid (show ((P.length : Nat) : Int) ≤ (rest.size : Int) by omega)
  clear h hr hM hP hl h0 h2 hn
  go_enter Tryz.func11, Tryz.ntmps11
  go_wp2_with (first | (go_at_call 15; go_must (refine (HC.out).mono ?_; rintro e w1 ⟨rfl, nq, rfl⟩)) | (go_at_call 16; go_must (refine (HW.out _ _ ((HS.out _).frm ((Frm.refl No _).alloc _)) (new_cell _ _ _ _ _ _)).mono ?_; rintro e w2 ⟨rfl, hk2⟩; have HK := Lib.hid ((HKW.out _ _ _).bel.trans (hk2.below (Nat.le_trans hB (HKW.out _ _ _).bel.size) (fun _ _ => id))))))
  go_ret
  exact ⟨rfl, HK.out⟩

theorem cutpp (s : ByteArray) (R : List UInt8) (hR : s.data.toList = 37 :: 37 :: R) (w : World) :
    Calls Tryz.prog 17 #[.string s, .string ⟨#[37, 37]⟩] w fun e w' => e = .returned (.tuple #[.string ⟨R.toArray⟩, .bool true]) ∧ w' = w := by
  have h := Tryz.strings_CutPrefix s ⟨#[37, 37]⟩ w
  rw [show (⟨#[37, 37]⟩ : ByteArray).data.toList = [37, 37] from rfl, hR, show Lib.hasPrefix (37 :: 37 :: R) [37, 37] = true by simp [Lib.hasPrefix, List.isPrefixOf], show Lib.trimPrefix (37 :: 37 :: R) [37, 37] = R by simp [Lib.trimPrefix, Lib.hasPrefix, List.isPrefixOf]] at h
  exact h

set_option maxHeartbeats 2000000 in
set_option maxRecDepth 100000 in
/-- A step where %% stands. -/
theorem step_pct (w : World) (B b : Nat) (rest : ByteArray) (args : Value) (conv : ByteArray) (l : List UInt8) (most : Int) (h : WR B b rest args conv l most w) (hr : rest.size ≤ 1000000) (hM : MaxL w) (R Q : List UInt8) (y : Bool) (hP : Lib.cut rest.data.toList [37] = ([], Q, y)) (hR : rest.data.toList = 37 :: 37 :: R) (hB : B ≤ w.heap.size) (hl : l.length ≤ 1000000000) (h0 : 0 ≤ most) (h2 : most ≤ 9223372036854775807) (hn : ((l.length + 1 : Nat) : Int) ≤ most) :
    Calls Tryz.prog 11 #[.pointer (some ⟨b, 0, none⟩)] w fun e w' => e = .returned (.bool true) ∧ WR B b ⟨R.toArray⟩ args conv (l ++ [37]) most w' ∧ Kb B b w w' := by
  have HC := Lib.hid (cutp rest w hr hM [] Q y hP)
  have HD := Lib.hid (fun W => cutpp rest R hR W)
  have c0 := h.c0
  have HW := Lib.hid (fun (W : World) (hk : Kb B b w W) (g : Nat) (hw : WR B b ⟨R.toArray⟩ args conv l most W) (hc : W.cell? ⟨g, 0, none⟩ = some (.string ⟨#[37]⟩)) => write1_yes W B b _ args conv l most hw g ⟨#[37]⟩ hc [37] rfl (Nat.le_trans hB hk.bel.size) (by simp; omega) (by omega) h2 (by simp; omega))
  have HS := Lib.hid (fun n => show WR B b ⟨R.toArray⟩ args conv l most ((w.drewN n).setCell ⟨b, 0, none⟩ (.string ⟨R.toArray⟩)) from (h.frm ((Frm.refl No w).drewN n)).rest)
  have hf := h.f 0
  have hBb : B ≤ b := h.1
  have HKW := Lib.hid (fun (n : Nat) (T : TypeId) (C : Array Value) => show Kb B b w (((w.drewN n).setCell ⟨b, 0, none⟩ (.string ⟨R.toArray⟩)).alloc (.cells C T)) from Kb.at ((((Frm.refl (At b) w).drewN n).setCell ⟨b, 0, none⟩ _ (fun _ => rfl)).alloc _) hB hBb)
  clear h hr hM hP hl h0 h2 hn hR
  go_enter Tryz.func11, Tryz.ntmps11
  go_wp2_with (first | (go_at_call 15; go_must (refine (HC.out).mono ?_; rintro e w1 ⟨rfl, nq, rfl⟩)) | (go_at_call 17; go_must (refine (HD.out _).mono ?_; rintro e w1 ⟨rfl, rfl⟩)) | (go_at_call 16; go_must (refine (HW.out _ (HKW.out _ _ _) _ ((HS.out _).frm ((Frm.refl No _).alloc _)) (new_cell _ _ _ _ _ _)).mono ?_; rintro e w2 ⟨rfl, hw2, hk2⟩; have HK := Lib.hid ((HKW.out _ _ _).trans hk2); have HW2 := Lib.hid hw2)))
  go_ret
  exact ⟨rfl, HW2.out, HK.out⟩

set_option maxHeartbeats 2000000 in
set_option maxRecDepth 100000 in
/-- A step where %% stands, and there is no room. -/
theorem step_pct_no (w : World) (B b : Nat) (rest : ByteArray) (args : Value) (conv : ByteArray) (l : List UInt8) (most : Int) (h : WR B b rest args conv l most w) (hr : rest.size ≤ 1000000) (hM : MaxL w) (R Q : List UInt8) (y : Bool) (hP : Lib.cut rest.data.toList [37] = ([], Q, y)) (hR : rest.data.toList = 37 :: 37 :: R) (hB : B ≤ w.heap.size) (hl : l.length ≤ 1000000000) (h0 : 0 ≤ most) (h2 : most ≤ 9223372036854775807) (hn : most < ((l.length + 1 : Nat) : Int)) :
    Calls Tryz.prog 11 #[.pointer (some ⟨b, 0, none⟩)] w fun e w' => e = .returned (.bool false) ∧ Below B w w' := by
  have HC := Lib.hid (cutp rest w hr hM [] Q y hP)
  have HD := Lib.hid (fun W => cutpp rest R hR W)
  have c0 := h.c0
  have HW := Lib.hid (fun (W : World) (g : Nat) (hw : WR B b ⟨R.toArray⟩ args conv l most W) (hc : W.cell? ⟨g, 0, none⟩ = some (.string ⟨#[37]⟩)) => write1_no W B b _ args conv l most hw g ⟨#[37]⟩ hc (by omega) h2 (by rw [show (⟨#[37]⟩ : ByteArray).size = 1 from rfl]; omega))
  have HS := Lib.hid (fun n => show WR B b ⟨R.toArray⟩ args conv l most ((w.drewN n).setCell ⟨b, 0, none⟩ (.string ⟨R.toArray⟩)) from (h.frm ((Frm.refl No w).drewN n)).rest)
  have hf := h.f 0
  have hBb : B ≤ b := h.1
  have HKW := Lib.hid (fun (n : Nat) (T : TypeId) (C : Array Value) => show Kb B b w (((w.drewN n).setCell ⟨b, 0, none⟩ (.string ⟨R.toArray⟩)).alloc (.cells C T)) from Kb.at ((((Frm.refl (At b) w).drewN n).setCell ⟨b, 0, none⟩ _ (fun _ => rfl)).alloc _) hB hBb)
  clear h hr hM hP hl h0 h2 hn hR
  go_enter Tryz.func11, Tryz.ntmps11
  go_wp2_with (first | (go_at_call 15; go_must (refine (HC.out).mono ?_; rintro e w1 ⟨rfl, nq, rfl⟩)) | (go_at_call 17; go_must (refine (HD.out _).mono ?_; rintro e w1 ⟨rfl, rfl⟩)) | (go_at_call 16; go_must (refine (HW.out _ _ ((HS.out _).frm ((Frm.refl No _).alloc _)) (new_cell _ _ _ _ _ _)).mono ?_; rintro e w2 ⟨rfl, hk2⟩; have HK := Lib.hid ((HKW.out _ _ _).bel.trans (hk2.below (Nat.le_trans hB (HKW.out _ _ _).bel.size) (fun _ _ => id))))))
  go_ret
  exact ⟨rfl, HK.out⟩
end Go.Proofs.YtkemdhaalcploaaGreatDoor.spl
