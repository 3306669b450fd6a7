/- New, awake (tedderlaw10); the law FieldBlanks. -/
import Derived.Test.YthkdbklphdpkcaaGreatFldT
namespace Go.Proofs.YthkdbklphdpkcaaGreat.flds
set_option linter.unusedVariables false set_option linter.unusedSimpArgs false
open Go.ChangeShapes Go.WideShapes Go.ChangeAt Go.RowKit Go.Proofs.YthkdbklphdpkcaaGreat.base Go.Proofs.YthkdbklphdpkcaaGreat.fldp

theorem new_box (w : World) (line : ByteArray) (v : Value) : Box (w.alloc (.cells #[.string line, v] 56)) w.heap.size 56 #[.string line, v] := heap_alloc_new w _

theorem new_of (line sep : ByteArray) (lines : Bool) (L : List ByteArray) (w : World) (hs : line.size ≤ 140737488355328)
    (hp : ∀ w1, Calls Tryz.prog 20 #[.string line, .string sep, .bool lines] w1 fun e w' => ∃ v, e = .returned (.tuple #[v, .bool true]) ∧ OwnS w' w1.heap.size v L ∧ Below w1.heap.size w1 w') :
    Calls Tryz.prog 11 #[.string line, .string sep, .bool lines] w fun e w' => ∃ R v, e = .returned (.tuple #[.pointer (some ⟨R, 0, none⟩), .bool true]) ∧ RecV w' w.heap.size R v line L ∧ Below w.heap.size w w' := by
  have HC := Lib.hid (clone_c line w hs)
  have HP := Lib.hid hp
  clear hs hp
  go_enter Tryz.func11, Tryz.ntmps11
  go_wp2_with (first | (go_at_call 21; go_must (refine HC.out.mono ?_; rintro e w1 ⟨rfl, hb1⟩; have hz1 := hb1.size)) | (go_at_call 20; go_must (refine (HP.out _).mono ?_; rintro e w2 ⟨v, rfl, hown, hb2⟩; obtain ⟨a, c, rfl⟩ := hown.form; have HOWN := Lib.hid hown; have HZ := Lib.hid (show w.heap.size ≤ w2.heap.size from Nat.le_trans hz1 hb2.size); have HB := Lib.hid (hb1.trans (hb2.mono hz1)); clear hown hb1 hb2)))
  go_ret2
  exact ⟨w2.heap.size, _, rfl, ⟨new_box w2 _ _, (OwnS.mono HOWN.out hz1).frm (S := No) ((Frm.refl _ _).alloc _) (fun _ _ h => h), HZ.out⟩, HB.out.alloc HZ.out _⟩

theorem abc : Lib.goFieldsP pB ⟨#[97, 32, 98, 32, 99]⟩ = [⟨#[97]⟩, ⟨#[98]⟩, ⟨#[99]⟩] := by decide +kernel

theorem axc : setL [⟨#[97]⟩, ⟨#[98]⟩, ⟨#[99]⟩] 2 ⟨#[120]⟩ = [⟨#[97]⟩, ⟨#[120]⟩, ⟨#[99]⟩] := by decide +kernel
theorem axcJ : joinL [⟨#[97]⟩, ⟨#[120]⟩, ⟨#[99]⟩] ⟨#[45]⟩ = ⟨#[97, 45, 120, 45, 99]⟩ := by decide +kernel
theorem got : getR ⟨#[97, 32, 98, 32, 99]⟩ [⟨#[97]⟩, ⟨#[98]⟩, ⟨#[99]⟩] 2 = (⟨#[98]⟩, true) := by decide +kernel

theorem After.below {w w' : World} {B R : Nat} {v : Value} {line line' : ByteArray} {L L' : List ByteArray} (h : After w w' B R v line' L') (hr : RecV w B R v line L) (hB : B ≤ w.heap.size) : Below B w w' := by
  obtain ⟨v', _, hf, _⟩ := h
  exact hf.below hB (fun k hk e => by have := (hr.lt k e).1; omega)

set_option maxHeartbeats 1000000 in
set_option maxRecDepth 20000 in
theorem awake_all (w : World) : Calls Tryz.prog 7 #[] w fun e w' => e = .returned (.bool true) ∧ Below w.heap.size w w' := by
  have HN := Lib.hid (fun w => new_of ⟨#[97, 32, 98, 32, 99]⟩ ⟨#[32]⟩ false _ w (by decide) (fun w1 => parted_blank ⟨#[97, 32, 98, 32, 99]⟩ false w1 (by decide)))
  rw [abc] at HN
  go_enter Tryz.func7, Tryz.ntmps7
  go_wp2_with (first
    | (go_at_call 11; go_must (refine (HN.out _).mono ?_; rintro e w1 ⟨R, v, rfl, hr1, hb1⟩; have HR1 := Lib.hid hr1; have HB1 := Lib.hid hb1; have HG := Lib.hid (get_all w1 _ R v _ _ hr1 2 (by omega) (by omega) (by decide)); rw [got] at HG; have HF := Lib.hid (nf_all w1 _ R v _ _ hr1); have HS := Lib.hid (set_all w1 _ R v _ _ hr1 2 (by omega) (by omega) ⟨#[120]⟩ ⟨#[45]⟩ (by decide) (by decide) (fun _ => by rw [show (2 : Int).toNat = 2 from rfl, axc, axcJ]; decide)); rw [show maySet 2 [(⟨#[97]⟩ : ByteArray), ⟨#[98]⟩, ⟨#[99]⟩].length = true from rfl, show (2 : Int).toNat = 2 from rfl, axc, axcJ] at HS; clear hr1 hb1))
    | (go_at_call 18; go_must (refine HG.out.mono ?_; rintro e w2 ⟨rfl, rfl⟩))
    | (go_at_call 12; go_must (refine HF.out.mono ?_; rintro e w2 ⟨rfl, rfl⟩))
    | (go_at_call 14; go_must (refine HS.out.mono ?_; rintro e w3 ⟨rfl, hs3⟩; have hs3' : After _ w3 _ R v ⟨#[97, 45, 120, 45, 99]⟩ [⟨#[97]⟩, ⟨#[120]⟩, ⟨#[99]⟩] := hs3; have HB3 := Lib.hid (hs3'.below HR1.out (HB1.out.size)); obtain ⟨v3, hr3, _, _⟩ := hs3'; have HL := Lib.hid (line_all w3 _ R v3 _ _ hr3); clear hs3 hr3))
    | (go_at_call 13; go_must (refine HL.out.mono ?_; rintro e w4 ⟨rfl, rfl⟩)))
  go_ret
  exact ⟨rfl, HB1.out.trans HB3.out⟩

end Go.Proofs.YthkdbklphdpkcaaGreat.flds
