/- What awake's three conversions make: pieces. -/
import Derived.Test.YtkemdhaalcploaaGreatDoorSplD
import Derived.Test.YtkemdhaalcploaaGreatDoorSplE
import Derived.Test.YtkemdhaalcploaaGreatDoorSplV
namespace Go.Proofs.YtkemdhaalcploaaGreatDoor.spl
set_option linter.unusedVariables false set_option linter.unusedSimpArgs false
open Go.ChangeShapes Go.WideShapes Go.ChangeAt Go.RowKit Go.Proofs.YtkemdhaalcploaaGreatDoor.base

theorem piece_end (w w4 : World) (p : Nat) (hp : w.heap.size ≤ p) (h : Below w.heap.size w w4) {T : TypeId} {x y z : Value} (hb : Box w4 p T #[x, y, z]) (a b c : Value) :
    Box (((w4.setCell ⟨p, 0, none⟩ a).setCell ⟨p, 1, none⟩ b).setCell ⟨p, 2, none⟩ c) p T #[a, b, c] ∧ Below w.heap.size w (((w4.setCell ⟨p, 0, none⟩ a).setCell ⟨p, 1, none⟩ b).setCell ⟨p, 2, none⟩ c) :=
  ⟨((hb.set 0 a).set 1 b).set 2 c, ((h.setCell (p := ⟨p, 0, none⟩) hp a).setCell (p := ⟨p, 1, none⟩) hp b).setCell (p := ⟨p, 2, none⟩) hp c⟩
theorem has_c (fl : ByteArray) (n p c : Int) (x : UInt8) (y : Bool) (hy : decide (0 ≤ Lib.indexByte fl.data.toList x) = y) (w : World) :
    Calls Tryz.prog 48 #[.agg (cvC fl n p c), .string ⟨#[x]⟩] w fun e w' => e = .returned (.bool y) ∧ Below w.heap.size w w' := by
  have HC := Lib.hid (fun W => Tryz.strings_Contains_one fl x W)
  rw [hy] at HC
  clear hy
  go_enter Tryz.func48, Tryz.ntmps48
  go_wp2_with (go_at_call 74; go_must (refine (HC.out _).mono ?_; rintro e w1 ⟨rfl, rfl⟩))
  go_ret
  exact ⟨rfl, (Below.refl _ _).alloc (Nat.le_refl _) _⟩

set_option maxHeartbeats 1000000 in
theorem sign_c (n p c : Int) (w : World) :
    Calls Tryz.prog 66 #[.agg (cvC ⟨#[48]⟩ n p c), .bool false] w fun e w' => e = .returned (.string ⟨#[]⟩) ∧ Below w.heap.size w w' := by
  have H1 := Lib.hid (fun w => has_c ⟨#[48]⟩ n p c 43 false (by decide +kernel) w)
  have H2 := Lib.hid (fun w => has_c ⟨#[48]⟩ n p c 32 false (by decide +kernel) w)
  have HB := Lib.hid (Box.new w 74 (cvC ⟨#[48]⟩ n p c))
  have HW := Lib.hid ((Below.refl w.heap.size w).alloc (Nat.le_refl _) (.cells (cvC ⟨#[48]⟩ n p c) 74))
  go_enter Tryz.func66, Tryz.ntmps66
  go_wp2_with (first | (go_at_call 48; (with_reducible refine (H1.out _).mono ?_); rintro e w1 ⟨rfl, hb1⟩; have HB1 := Lib.hid (Box.bel HB.out hb1 (by simp)); have HW1 := Lib.hid (HW.out.trans (hb1.mono (by simp))); have e10 := HB1.out.cell 0; have e11 := HB1.out.cell 1; have e12 := HB1.out.cell 2; have e13 := HB1.out.cell 3; clear hb1) | (go_at_call 48; (with_reducible refine (H2.out _).mono ?_); rintro e w2 ⟨rfl, hb2⟩; have HW2 := Lib.hid (HW1.out.trans (hb2.mono HW1.out.size))))
  go_ret
  exact ⟨rfl, HW2.out⟩

set_option maxHeartbeats 1000000 in
theorem atLeast_c (fl : ByteArray) (n c : Int) (w : World) :
    Calls Tryz.prog 68 #[.agg (cvC fl n (-1) c), .string ⟨#[55]⟩] w fun e w' => e = .returned (.string ⟨#[55]⟩) ∧ Below w.heap.size w w' := by
  have m1 : max (-2 : Int) 0 = 0 := by decide
  go_enter Tryz.func68, Tryz.ntmps68
  go_wp2_with (go_at_call 49; go_must (refine (Tryz.strings_Repeat_zero ⟨#[48]⟩ _).mono ?_; rintro e w1 ⟨rfl, rfl⟩))
  go_ret
  exact ⟨rfl, (Below.refl _ _).alloc (Nat.le_refl _) _⟩

set_option maxRecDepth 100000 in
set_option maxHeartbeats 2000000 in
theorem signed_7 (w : World) (hT : sev.TabF w) :
    Calls Tryz.prog 42 #[.agg (cvC ⟨#[48]⟩ 3 (-1) 100), .float .f64 4619567317775286272] w fun e w' => e = .returned (.agg #[.string ⟨#[]⟩, .string ⟨#[55]⟩, .bool true]) ∧ Below w.heap.size w w' := by
  have h1 : (FloatKind.f64.format.order 4619567317775286272 0 == some .lt) = false := by decide +kernel
  have HW := Lib.hid (((Below.refl w.heap.size w).alloc (Nat.le_refl _) (.cells (cvC ⟨#[48]⟩ 3 (-1) 100) 74)).alloc (by simp) (.cells #[.string ⟨#[]⟩, .string ⟨#[]⟩, .bool false] 80))
  have HB := Lib.hid ((Box.new w 74 (cvC ⟨#[48]⟩ 3 (-1) 100)).alloc (.cells #[.string ⟨#[]⟩, .string ⟨#[]⟩, .bool false] 80))
  have HP := Lib.hid (show Box ((w.alloc (.cells (cvC ⟨#[48]⟩ 3 (-1) 100) 74)).alloc (.cells #[.string ⟨#[]⟩, .string ⟨#[]⟩, .bool false] 80)) (w.heap.size + 1) 80 #[.string ⟨#[]⟩, .string ⟨#[]⟩, .bool false] by
    have := Box.new (w.alloc (.cells (cvC ⟨#[48]⟩ 3 (-1) 100) 74)) 80 #[.string ⟨#[]⟩, .string ⟨#[]⟩, .bool false]
    simpa using this)
  have HF := Lib.hid (format_7 _ (hT.below HW.out))
  have HS := Lib.hid (fun w => sign_c 3 (-1) 100 w)
  have HA := Lib.hid (fun w => atLeast_c ⟨#[48]⟩ 3 100 w)
  clear hT
  go_enter Tryz.func42, Tryz.ntmps42
  go_wp2_with (first | (go_at_call 63; go_must (refine (trunc_7 _).mono ?_; rintro e w1 ⟨rfl, rfl⟩)) | (go_at_call 65; go_must (refine (Abs_all 4619567317775286272 4619567317775286272 (by decide) (by decide) _).mono ?_; rintro e w1 ⟨rfl, rfl⟩)) | (go_at_call 64; go_must (refine (HF.out).mono ?_; rintro e w1 ⟨rfl, hb1⟩; have HB1 := Lib.hid (Box.bel HB.out hb1 (by simp; omega)); have HP1 := Lib.hid (Box.bel HP.out hb1 (by simp)); have HW1 := Lib.hid (HW.out.trans (hb1.mono (by simp; omega))); have hl1 : w.heap.size + 2 ≤ w1.heap.size := (by have := hb1.size; simp at this; omega); have e10 := HB1.out.cell 0; have e11 := HB1.out.cell 1; have e12 := HB1.out.cell 2; have e13 := HB1.out.cell 3; clear hb1)) | (go_at_call 66; go_must (refine (HS.out _).mono ?_; rintro e w2 ⟨rfl, hb2⟩; have HB2 := Lib.hid (Box.bel HB1.out hb2 (by omega)); have HP2 := Lib.hid (Box.bel HP1.out hb2 (by omega)); have HW2 := Lib.hid (HW1.out.trans (hb2.mono HW1.out.size)); have hl2 : w.heap.size + 2 ≤ w2.heap.size := Nat.le_trans hl1 hb2.size; have e20 := HB2.out.cell 0; have e21 := HB2.out.cell 1; have e22 := HB2.out.cell 2; have e23 := HB2.out.cell 3; clear hb2)) | (go_at_call 67; go_must (refine (finite_c _ (by decide) o7 n7 _).mono ?_; rintro e w3 ⟨rfl, rfl⟩)))
  have e2p := HP2.out.f 0
  have hlt2 : w.heap.size < w2.heap.size := by omega
  have hlt3 : w.heap.size + 1 < w2.heap.size := by omega
  go_region_with (go_at_call 68; go_must (refine (HA.out _).mono ?_; rintro e w4 ⟨rfl, hb4⟩; have HW4 := Lib.hid (show Below w.heap.size w w4 from HW2.out.trans (have k := hb4.mono (show w.heap.size ≤ _ by simp; omega); ⟨k.1, k.2, k.3, k.4, k.5⟩)); have HB4 := Lib.hid (show Box w4 w.heap.size _ _ from (hb4.block _ (by simpa using hlt2)).trans HB2.out); have HP4 := Lib.hid (show Box w4 (w.heap.size + 1) _ _ from (hb4.block _ (by simpa using hlt3)).trans HP2.out); have e40 := HB4.out.cell 0; have e41 := HB4.out.cell 1; have e42 := HB4.out.cell 2; have e43 := HB4.out.cell 3; have p40 := HP4.out.cell 0; have p41 := HP4.out.cell 1; have p42 := HP4.out.cell 2; have pf0 := HP4.out.f 0; have pf1 := HP4.out.f 1; have pf2 := HP4.out.f 2))
  all_goals (go_wp2_with fail)
  all_goals
    have HE := piece_end w w4 (w.heap.size + 1) (by omega) HW4.out HP4.out (.string ⟨#[]⟩) (.string ⟨#[55]⟩) (.bool true)
    clear p40 p41 p42 pf0 pf1 pf2
    generalize ((w4.setCell ⟨w.heap.size + 1, 0, none⟩ (.string ⟨#[]⟩)).setCell ⟨w.heap.size + 1, 1, none⟩ (.string ⟨#[55]⟩)).setCell ⟨w.heap.size + 1, 2, none⟩ (.bool true) = X at *
    have g0 := HE.1.cell 0
    have g1 := HE.1.cell 1
    have g2 := HE.1.cell 2
    exact bodyPost_ret (v := .agg #[.string ⟨#[]⟩, .string ⟨#[55]⟩, .bool true]) (by simp [results, Tryz.results42, go_sem, g0, g1, g2]) rfl ⟨rfl, HE.2⟩
end Go.Proofs.YtkemdhaalcploaaGreatDoor.spl
