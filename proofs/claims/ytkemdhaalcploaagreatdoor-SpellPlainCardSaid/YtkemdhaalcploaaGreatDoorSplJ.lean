/- fill, of awake's three conversions. -/
import Derived.Test.YtkemdhaalcploaaGreatDoorSplI
namespace Go.Proofs.YtkemdhaalcploaaGreatDoor.spl
set_option linter.unusedVariables false set_option linter.unusedSimpArgs false
open Go.ChangeShapes Go.WideShapes Go.ChangeAt Go.RowKit Go.Proofs.YtkemdhaalcploaaGreatDoor.base

set_option maxRecDepth 100000 in
set_option maxHeartbeats 4000000 in
theorem fill_d (w : World) (B b : Nat) (rest : ByteArray) (args : Value) (conv : ByteArray) (l : List UInt8) (most : Int) (h : WR B b rest args conv l most w) (hB : B ≤ w.heap.size) (h1 : 0 ≤ most) (h2 : most ≤ 1000000000) (hn : ((l.length + 3 : Nat) : Int) ≤ most) :
    Calls Tryz.prog 29 #[.pointer (some ⟨b, 0, none⟩), .agg (cvC ⟨#[48]⟩ 3 (-1) 100), .agg #[.string ⟨#[]⟩, .string ⟨#[55]⟩, .bool true]] w fun e w' => e = .returned (.bool true) ∧ WR B b rest args conv (l ++ [48, 48, 55]) most w' ∧ Kb B b w w' := by
  have hblt := h.lt
  have m1 : max (2 : Int) 0 = 2 := by decide
  have HW := Lib.hid (((Below.refl w.heap.size w).alloc (Nat.le_refl _) (.cells (cvC ⟨#[48]⟩ 3 (-1) 100) 74)).alloc (by simp) (.cells #[.string ⟨#[]⟩, .string ⟨#[55]⟩, .bool true] 80))
  have HBX := Lib.hid ((Box.new w 74 (cvC ⟨#[48]⟩ 3 (-1) 100)).alloc (.cells #[.string ⟨#[]⟩, .string ⟨#[55]⟩, .bool true] 80))
  have HPX := Lib.hid (show Box ((w.alloc (.cells (cvC ⟨#[48]⟩ 3 (-1) 100) 74)).alloc (.cells #[.string ⟨#[]⟩, .string ⟨#[55]⟩, .bool true] 80)) (w.heap.size + 1) 80 #[.string ⟨#[]⟩, .string ⟨#[55]⟩, .bool true] by
    have := Box.new (w.alloc (.cells (cvC ⟨#[48]⟩ 3 (-1) 100) 74)) 80 #[.string ⟨#[]⟩, .string ⟨#[55]⟩, .bool true]
    simpa using this)
  have HWR := Lib.hid h
  have HN := Lib.hid hn
  have H1 := Lib.hid h1
  have H2 := Lib.hid h2
  have HD := Lib.hid (fun w => has_c ⟨#[48]⟩ 3 (-1) 100 45 false (by decide +kernel) w)
  have HZ := Lib.hid (fun w => has_c ⟨#[48]⟩ 3 (-1) 100 48 true (by decide +kernel) w)
  have HR := Lib.hid (fun W => Tryz.strings_Repeat ⟨#[48]⟩ 2 W (by decide) (by decide))
  rw [show (⟨(Lib.repeatL (⟨#[48]⟩ : ByteArray).data.toList 2).toArray⟩ : ByteArray) = ⟨#[48, 48]⟩ by decide +kernel] at HR
  have HWT := Lib.hid (fun (W : World) (hw : Below w.heap.size w W) (g : Nat) (hg : Box W g 9 #[.string ⟨#[]⟩, .string ⟨#[48, 48]⟩, .string ⟨#[55]⟩]) (hgl : w.heap.size ≤ g) => write3_yes W B b rest args conv l most (h.frm (Frm.ofBelow hw (Nat.le_refl _))) g _ _ _ hg (by omega) (Nat.le_trans hB hw.size) h1 h2 (by simp [ByteArray.size] at *; omega))
  clear h hn h1 h2
  go_enter Tryz.func29, Tryz.ntmps29
  go_wp2_with (first | (go_at_call 48; (with_reducible refine (HD.out _).mono ?_); rintro e w1 ⟨rfl, hb1⟩; have HW1 := Lib.hid (HW.out.trans (hb1.mono (by simp; omega))); have hl1 : w.heap.size + 2 ≤ w1.heap.size := (by have := hb1.size; simp at this; omega); have HB1 := Lib.hid (Box.bel HBX.out hb1 (by simp; omega)); have HP1 := Lib.hid (Box.bel HPX.out hb1 (by simp)); have e10 := HB1.out.cell 0; have e11 := HB1.out.cell 1; have e12 := HB1.out.cell 2; have e13 := HB1.out.cell 3; have p10 := HP1.out.cell 0; have p11 := HP1.out.cell 1; have p12 := HP1.out.cell 2; clear hb1) | (go_at_call 48; (with_reducible refine (HZ.out _).mono ?_); rintro e w2 ⟨rfl, hb2⟩; have HW2 := Lib.hid (HW1.out.trans (hb2.mono HW1.out.size)); have hl2 : w.heap.size + 2 ≤ w2.heap.size := Nat.le_trans hl1 hb2.size; have HP2 := Lib.hid (Box.bel HP1.out hb2 (by omega)); have p20 := HP2.out.cell 0; have p21 := HP2.out.cell 1; have p22 := HP2.out.cell 2; clear hb2))
  have hlt := Lib.hid (show w.heap.size < w2.heap.size ∧ w.heap.size + 1 < w2.heap.size from ⟨by omega, by omega⟩)
  go_region_with (first | (go_at_call 49; go_must (refine (HR.out _).mono ?_; rintro e w4 ⟨rfl, hb4⟩; have HW4 := Lib.hid (show Below w.heap.size w w4 from HW2.out.trans (have k := hb4.mono (show w.heap.size ≤ _ from Nat.le_of_lt hlt.out.1); ⟨k.1, k.2, k.3, k.4, k.5⟩)); have HP4 := Lib.hid (show Box w4 (w.heap.size + 1) _ _ from (hb4.block _ hlt.out.2).trans HP2.out); have p40 := HP4.out.cell 0; have p41 := HP4.out.cell 1; have hl4 := HW4.out.size)) | (go_at_call 16; go_must (refine (HWT.out _ (by exact HW4.out.alloc HW4.out.size (.cells #[.string ⟨#[]⟩, .string ⟨#[48, 48]⟩, .string ⟨#[55]⟩] 9)) w4.heap.size (by exact Box.new w4 9 #[.string ⟨#[]⟩, .string ⟨#[48, 48]⟩, .string ⟨#[55]⟩]) HW4.out.size).mono ?_; rintro e w5 ⟨rfl, hw5, hk5⟩; have HK5 := Lib.hid ((Kb.of (Frm.ofBelow (HW4.out.alloc HW4.out.size (.cells #[.string ⟨#[]⟩, .string ⟨#[48, 48]⟩, .string ⟨#[55]⟩] 9)) (Nat.le_refl _)) hB).trans hk5); have HW5 := Lib.hid hw5)))
  all_goals (go_wp2_with fail)
  all_goals (go_ret; exact ⟨rfl, by simpa using HW5.out, HK5.out⟩)

set_option maxRecDepth 100000 in
set_option maxHeartbeats 4000000 in
theorem fill_s (w : World) (B b : Nat) (rest : ByteArray) (args : Value) (conv : ByteArray) (l : List UInt8) (most : Int) (h : WR B b rest args conv l most w) (hB : B ≤ w.heap.size) (h1 : 0 ≤ most) (h2 : most ≤ 1000000000) (hn : ((l.length + 3 : Nat) : Int) ≤ most) :
    Calls Tryz.prog 29 #[.pointer (some ⟨b, 0, none⟩), .agg (cvC ⟨#[45]⟩ 3 (-1) 115), .agg #[.string ⟨#[]⟩, .string ⟨#[97]⟩, .bool false]] w fun e w' => e = .returned (.bool true) ∧ WR B b rest args conv (l ++ [97, 32, 32]) most w' ∧ Kb B b w w' := by
  have hblt := h.lt
  have m1 : max (2 : Int) 0 = 2 := by decide
  have HW := Lib.hid (((Below.refl w.heap.size w).alloc (Nat.le_refl _) (.cells (cvC ⟨#[45]⟩ 3 (-1) 115) 74)).alloc (by simp) (.cells #[.string ⟨#[]⟩, .string ⟨#[97]⟩, .bool false] 80))
  have HBX := Lib.hid ((Box.new w 74 (cvC ⟨#[45]⟩ 3 (-1) 115)).alloc (.cells #[.string ⟨#[]⟩, .string ⟨#[97]⟩, .bool false] 80))
  have HPX := Lib.hid (show Box ((w.alloc (.cells (cvC ⟨#[45]⟩ 3 (-1) 115) 74)).alloc (.cells #[.string ⟨#[]⟩, .string ⟨#[97]⟩, .bool false] 80)) (w.heap.size + 1) 80 #[.string ⟨#[]⟩, .string ⟨#[97]⟩, .bool false] by
    have := Box.new (w.alloc (.cells (cvC ⟨#[45]⟩ 3 (-1) 115) 74)) 80 #[.string ⟨#[]⟩, .string ⟨#[97]⟩, .bool false]
    simpa using this)
  have HWR := Lib.hid h
  have HN := Lib.hid hn
  have H1 := Lib.hid h1
  have H2 := Lib.hid h2
  have HD := Lib.hid (fun w => has_c ⟨#[45]⟩ 3 (-1) 115 45 true (by decide +kernel) w)
  have HZ := Lib.hid (fun w => has_c ⟨#[45]⟩ 3 (-1) 115 48 false (by decide +kernel) w)
  have HR := Lib.hid (fun W => Tryz.strings_Repeat ⟨#[32]⟩ 2 W (by decide) (by decide))
  rw [show (⟨(Lib.repeatL (⟨#[32]⟩ : ByteArray).data.toList 2).toArray⟩ : ByteArray) = ⟨#[32, 32]⟩ by decide +kernel] at HR
  have HWT := Lib.hid (fun (W : World) (hw : Below w.heap.size w W) (g : Nat) (hg : Box W g 9 #[.string ⟨#[]⟩, .string ⟨#[97]⟩, .string ⟨#[32, 32]⟩]) (hgl : w.heap.size ≤ g) => write3_yes W B b rest args conv l most (h.frm (Frm.ofBelow hw (Nat.le_refl _))) g _ _ _ hg (by omega) (Nat.le_trans hB hw.size) h1 h2 (by simp [ByteArray.size] at *; omega))
  clear h hn h1 h2
  go_enter Tryz.func29, Tryz.ntmps29
  go_wp2_with (first | (go_at_call 48; (with_reducible refine (HD.out _).mono ?_); rintro e w1 ⟨rfl, hb1⟩; have HW1 := Lib.hid (HW.out.trans (hb1.mono (by simp; omega))); have hl1 : w.heap.size + 2 ≤ w1.heap.size := (by have := hb1.size; simp at this; omega); have HB1 := Lib.hid (Box.bel HBX.out hb1 (by simp; omega)); have HP1 := Lib.hid (Box.bel HPX.out hb1 (by simp)); have e10 := HB1.out.cell 0; have e11 := HB1.out.cell 1; have e12 := HB1.out.cell 2; have e13 := HB1.out.cell 3; have p10 := HP1.out.cell 0; have p11 := HP1.out.cell 1; have p12 := HP1.out.cell 2; clear hb1) | (go_at_call 48; (with_reducible refine (HZ.out _).mono ?_); rintro e w2 ⟨rfl, hb2⟩; have HW2 := Lib.hid (HW1.out.trans (hb2.mono HW1.out.size)); have hl2 : w.heap.size + 2 ≤ w2.heap.size := Nat.le_trans hl1 hb2.size; have HP2 := Lib.hid (Box.bel HP1.out hb2 (by omega)); have p20 := HP2.out.cell 0; have p21 := HP2.out.cell 1; have p22 := HP2.out.cell 2; clear hb2))
  have hlt := Lib.hid (show w.heap.size < w1.heap.size ∧ w.heap.size + 1 < w1.heap.size from ⟨by omega, by omega⟩)
  go_region_with (first | (go_at_call 49; go_must (refine (HR.out _).mono ?_; rintro e w4 ⟨rfl, hb4⟩; have HW4 := Lib.hid (show Below w.heap.size w w4 from HW1.out.trans (have k := hb4.mono (show w.heap.size ≤ _ from Nat.le_of_lt hlt.out.1); ⟨k.1, k.2, k.3, k.4, k.5⟩)); have HP4 := Lib.hid (show Box w4 (w.heap.size + 1) _ _ from (hb4.block _ hlt.out.2).trans HP1.out); have p40 := HP4.out.cell 0; have p41 := HP4.out.cell 1; have hl4 := HW4.out.size)) | (go_at_call 16; go_must (refine (HWT.out _ (by exact HW4.out.alloc HW4.out.size (.cells #[.string ⟨#[]⟩, .string ⟨#[97]⟩, .string ⟨#[32, 32]⟩] 9)) w4.heap.size (by exact Box.new w4 9 #[.string ⟨#[]⟩, .string ⟨#[97]⟩, .string ⟨#[32, 32]⟩]) HW4.out.size).mono ?_; rintro e w5 ⟨rfl, hw5, hk5⟩; have HK5 := Lib.hid ((Kb.of (Frm.ofBelow (HW4.out.alloc HW4.out.size (.cells #[.string ⟨#[]⟩, .string ⟨#[97]⟩, .string ⟨#[32, 32]⟩] 9)) (Nat.le_refl _)) hB).trans hk5); have HW5 := Lib.hid hw5)))
  all_goals (go_wp2_with fail)
  all_goals (go_ret; exact ⟨rfl, by simpa using HW5.out, HK5.out⟩)

set_option maxRecDepth 100000 in
set_option maxHeartbeats 4000000 in
theorem fill_c (w : World) (B b : Nat) (rest : ByteArray) (args : Value) (conv : ByteArray) (l : List UInt8) (most : Int) (h : WR B b rest args conv l most w) (hB : B ≤ w.heap.size) (h1 : 0 ≤ most) (h2 : most ≤ 1000000000) (hn : ((l.length + 3 : Nat) : Int) ≤ most) :
    Calls Tryz.prog 29 #[.pointer (some ⟨b, 0, none⟩), .agg (cvC ⟨#[]⟩ 0 (-1) 99), .agg #[.string ⟨#[]⟩, .string ⟨#[65]⟩, .bool false]] w fun e w' => e = .returned (.bool true) ∧ WR B b rest args conv (l ++ [65]) most w' ∧ Kb B b w w' := by
  have hblt := h.lt
  have m1 : max (-1 : Int) 0 = 0 := by decide
  have HW := Lib.hid (((Below.refl w.heap.size w).alloc (Nat.le_refl _) (.cells (cvC ⟨#[]⟩ 0 (-1) 99) 74)).alloc (by simp) (.cells #[.string ⟨#[]⟩, .string ⟨#[65]⟩, .bool false] 80))
  have HBX := Lib.hid ((Box.new w 74 (cvC ⟨#[]⟩ 0 (-1) 99)).alloc (.cells #[.string ⟨#[]⟩, .string ⟨#[65]⟩, .bool false] 80))
  have HPX := Lib.hid (show Box ((w.alloc (.cells (cvC ⟨#[]⟩ 0 (-1) 99) 74)).alloc (.cells #[.string ⟨#[]⟩, .string ⟨#[65]⟩, .bool false] 80)) (w.heap.size + 1) 80 #[.string ⟨#[]⟩, .string ⟨#[65]⟩, .bool false] by
    have := Box.new (w.alloc (.cells (cvC ⟨#[]⟩ 0 (-1) 99) 74)) 80 #[.string ⟨#[]⟩, .string ⟨#[65]⟩, .bool false]
    simpa using this)
  have HWR := Lib.hid h
  have HN := Lib.hid hn
  have H1 := Lib.hid h1
  have H2 := Lib.hid h2
  have HD := Lib.hid (fun w => has_c ⟨#[]⟩ 0 (-1) 99 45 false (by decide +kernel) w)
  have HZ := Lib.hid (fun w => has_c ⟨#[]⟩ 0 (-1) 99 48 false (by decide +kernel) w)
  have HR := Lib.hid (fun W => Tryz.strings_Repeat ⟨#[32]⟩ 0 W (by decide) (by decide))
  rw [show (⟨(Lib.repeatL (⟨#[32]⟩ : ByteArray).data.toList 0).toArray⟩ : ByteArray) = ⟨#[]⟩ by decide +kernel] at HR
  have HWT := Lib.hid (fun (W : World) (hw : Below w.heap.size w W) (g : Nat) (hg : Box W g 9 #[.string ⟨#[]⟩, .string ⟨#[]⟩, .string ⟨#[65]⟩]) (hgl : w.heap.size ≤ g) => write3_yes W B b rest args conv l most (h.frm (Frm.ofBelow hw (Nat.le_refl _))) g _ _ _ hg (by omega) (Nat.le_trans hB hw.size) h1 h2 (by simp [ByteArray.size] at *; omega))
  clear h hn h1 h2
  go_enter Tryz.func29, Tryz.ntmps29
  go_wp2_with (first | (go_at_call 48; (with_reducible refine (HD.out _).mono ?_); rintro e w1 ⟨rfl, hb1⟩; have HW1 := Lib.hid (HW.out.trans (hb1.mono (by simp; omega))); have hl1 : w.heap.size + 2 ≤ w1.heap.size := (by have := hb1.size; simp at this; omega); have HB1 := Lib.hid (Box.bel HBX.out hb1 (by simp; omega)); have HP1 := Lib.hid (Box.bel HPX.out hb1 (by simp)); have e10 := HB1.out.cell 0; have e11 := HB1.out.cell 1; have e12 := HB1.out.cell 2; have e13 := HB1.out.cell 3; have p10 := HP1.out.cell 0; have p11 := HP1.out.cell 1; have p12 := HP1.out.cell 2; clear hb1) | (go_at_call 48; (with_reducible refine (HZ.out _).mono ?_); rintro e w2 ⟨rfl, hb2⟩; have HW2 := Lib.hid (HW1.out.trans (hb2.mono HW1.out.size)); have hl2 : w.heap.size + 2 ≤ w2.heap.size := Nat.le_trans hl1 hb2.size; have HP2 := Lib.hid (Box.bel HP1.out hb2 (by omega)); have p20 := HP2.out.cell 0; have p21 := HP2.out.cell 1; have p22 := HP2.out.cell 2; clear hb2))
  have hlt := Lib.hid (show w.heap.size < w2.heap.size ∧ w.heap.size + 1 < w2.heap.size from ⟨by omega, by omega⟩)
  go_region_with (first | (go_at_call 49; go_must (refine (HR.out _).mono ?_; rintro e w4 ⟨rfl, hb4⟩; have HW4 := Lib.hid (show Below w.heap.size w w4 from HW2.out.trans (have k := hb4.mono (show w.heap.size ≤ _ from Nat.le_of_lt hlt.out.1); ⟨k.1, k.2, k.3, k.4, k.5⟩)); have HP4 := Lib.hid (show Box w4 (w.heap.size + 1) _ _ from (hb4.block _ hlt.out.2).trans HP2.out); have p40 := HP4.out.cell 0; have p41 := HP4.out.cell 1; have hl4 := HW4.out.size)) | (go_at_call 16; go_must (refine (HWT.out _ (by exact HW4.out.alloc HW4.out.size (.cells #[.string ⟨#[]⟩, .string ⟨#[]⟩, .string ⟨#[65]⟩] 9)) w4.heap.size (by exact Box.new w4 9 #[.string ⟨#[]⟩, .string ⟨#[]⟩, .string ⟨#[65]⟩]) HW4.out.size).mono ?_; rintro e w5 ⟨rfl, hw5, hk5⟩; have HK5 := Lib.hid ((Kb.of (Frm.ofBelow (HW4.out.alloc HW4.out.size (.cells #[.string ⟨#[]⟩, .string ⟨#[]⟩, .string ⟨#[65]⟩] 9)) (Nat.le_refl _)) hB).trans hk5); have HW5 := Lib.hid hw5)))
  all_goals (go_wp2_with fail)
  all_goals (go_ret; exact ⟨rfl, by simpa using HW5.out, HK5.out⟩)

end Go.Proofs.YtkemdhaalcploaaGreatDoor.spl
