/- piece, of awake's three conversions. -/
import Derived.Test.YtkemdhaalcploaaGreatDoorSplG
namespace Go.Proofs.YtkemdhaalcploaaGreatDoor.spl
set_option linter.unusedVariables false set_option linter.unusedSimpArgs false
open Go.ChangeShapes Go.WideShapes Go.ChangeAt Go.RowKit Go.Proofs.YtkemdhaalcploaaGreatDoor.base

set_option maxRecDepth 100000 in
set_option maxHeartbeats 2000000 in
theorem first_65 (w : World) :
    Calls Tryz.prog 45 #[numV 4634274385308418048] w fun e w' => e = .returned (.string ⟨#[65]⟩) ∧ Below w.heap.size w w' := by
  have hcv : ∀ W : World, (convert 28 3 (.float .f64 4634274385308418048)).run Tryz.prog W = .ok (.int .i64 65) W := fun _ => by kernel_rfl
  have HS := Lib.hid (fun W : World => str_lit (P := Tryz.prog) W #[.int .u8 65] [65] rfl 1 rfl 40 9 5 Tryz.underlying40 Tryz.underlying5 Tryz.underlying9)
  go_enter Tryz.func45, Tryz.ntmps45
  go_wp2_with (first | (go_at_call 71; go_must (refine (plain_num 4634274385308418048 _).mono ?_; rintro e w1 ⟨rfl, hb1⟩; have HB1 := Lib.hid hb1; have hs := HS.out (w1.alloc (.cells #[.string ⟨#[110, 117, 109]⟩, .float .f64 4634274385308418048, .string ⟨#[]⟩] 36)); rw [World.size_alloc] at hs; clear hb1)) | (refine wpList_store_row rfl 36 (.tmp 3) (.tmp 5) rfl w1.heap.size _ rfl rfl 36 _ (new_val _ _) info_val rfl (by simp [Value.oneCell']) ?_; rw [setRow_alloc]) | (go_at_call 67; go_must (refine (finite_c _ (by decide) o65 n65 _).mono ?_; rintro e w3 ⟨rfl, rfl⟩)) | (go_at_call 63; go_must (refine (trunc_65 _).mono ?_; rintro e w3 ⟨rfl, rfl⟩)) | (go_at_call 72; go_must (refine (Mod_65 _).mono ?_; rintro e w3 ⟨rfl, rfl⟩)))
  go_ret
  exact ⟨rfl, ((HB1.out.alloc HB1.out.size _).alloc (by have := HB1.out.size; simp; omega) _)⟩

set_option maxRecDepth 100000 in
set_option maxHeartbeats 2000000 in
theorem piece_d (conv : ByteArray) (w : World) (hT : sev.TabF w) :
    Calls Tryz.prog 28 #[.agg (cvC ⟨#[48]⟩ 3 (-1) 100), numV 4619567317775286272, .string conv] w fun e w' => e = .returned (.tuple #[.agg #[.string ⟨#[]⟩, .string ⟨#[55]⟩, .bool true], .bool true]) ∧ Below w.heap.size w w' := by
  have HW := Lib.hid (((Below.refl w.heap.size w).alloc (Nat.le_refl _) (.cells (cvC ⟨#[48]⟩ 3 (-1) 100) 74)).alloc (by simp) (.cells #[.string ⟨#[]⟩, .string ⟨#[]⟩, .bool false] 80))
  have HB := Lib.hid ((Box.new w 74 (cvC ⟨#[48]⟩ 3 (-1) 100)).alloc (.cells #[.string ⟨#[]⟩, .string ⟨#[]⟩, .bool false] 80))
  have HP := Lib.hid (show Box ((w.alloc (.cells (cvC ⟨#[48]⟩ 3 (-1) 100) 74)).alloc (.cells #[.string ⟨#[]⟩, .string ⟨#[]⟩, .bool false] 80)) (w.heap.size + 1) 80 #[.string ⟨#[]⟩, .string ⟨#[]⟩, .bool false] by
    have := Box.new (w.alloc (.cells (cvC ⟨#[48]⟩ 3 (-1) 100) 74)) 80 #[.string ⟨#[]⟩, .string ⟨#[]⟩, .bool false]
    simpa using this)
  have HS := Lib.hid (fun (W : World) (h : sev.TabF W) => signed_7 W h)
  have HT := Lib.hid (hT.below HW.out)
  clear hT
  have hl1 : w.heap.size < ((w.alloc (.cells (cvC ⟨#[48]⟩ 3 (-1) 100) 74)).alloc (.cells #[.string ⟨#[]⟩, .string ⟨#[]⟩, .bool false] 80)).heap.size := by simp; omega
  have hl2 : w.heap.size + 1 < ((w.alloc (.cells (cvC ⟨#[48]⟩ 3 (-1) 100) 74)).alloc (.cells #[.string ⟨#[]⟩, .string ⟨#[]⟩, .bool false] 80)).heap.size := by simp
  have HL := Lib.hid (And.intro hl1 hl2)
  clear hl1 hl2
  go_enter Tryz.func28, Tryz.ntmps28
  go_wp2
  go_region_with (first | (go_at_call 43; go_must (refine (number_num _ _).mono ?_; rintro e w3 ⟨rfl, rfl⟩)) | (go_at_call 42; go_must (refine (HS.out _ (by exact HT.out)).mono ?_; rintro e w4 ⟨rfl, hb4⟩; have HW4 := Lib.hid (show Below w.heap.size w w4 from HW.out.trans (have k := hb4.mono (show w.heap.size ≤ _ from Nat.le_of_lt HL.out.1); ⟨k.1, k.2, k.3, k.4, k.5⟩)); have HP4 := Lib.hid (show Box w4 (w.heap.size + 1) _ _ from (hb4.block _ HL.out.2).trans HP.out); have p40 := HP4.out.cell 0; have p41 := HP4.out.cell 1; have p42 := HP4.out.cell 2; have pf0 := HP4.out.f 0; have pf1 := HP4.out.f 1; have pf2 := HP4.out.f 2)))
  all_goals (go_wp2_with fail)
  all_goals
    have HE := piece_end w w4 (w.heap.size + 1) (by omega) HW4.out HP4.out (.string ⟨#[]⟩) (.string ⟨#[55]⟩) (.bool true)
    clear p40 p41 p42 pf0 pf1 pf2
    generalize ((w4.setCell ⟨w.heap.size + 1, 0, none⟩ (.string ⟨#[]⟩)).setCell ⟨w.heap.size + 1, 1, none⟩ (.string ⟨#[55]⟩)).setCell ⟨w.heap.size + 1, 2, none⟩ (.bool true) = X at *
    have g0 := HE.1.cell 0
    have g1 := HE.1.cell 1
    have g2 := HE.1.cell 2
    exact bodyPost_ret (v := .tuple #[.agg #[.string ⟨#[]⟩, .string ⟨#[55]⟩, .bool true], .bool true]) (by simp [results, Tryz.results28, go_sem, g0, g1, g2]) rfl ⟨rfl, HE.2⟩

set_option maxRecDepth 100000 in
set_option maxHeartbeats 2000000 in
theorem piece_s (conv : ByteArray) (w : World) :
    Calls Tryz.prog 28 #[.agg (cvC ⟨#[45]⟩ 3 (-1) 115), strV ⟨#[97]⟩, .string conv] w fun e w' => e = .returned (.tuple #[.agg #[.string ⟨#[]⟩, .string ⟨#[97]⟩, .bool false], .bool true]) ∧ Below w.heap.size w w' := by
  have HW := Lib.hid (((Below.refl w.heap.size w).alloc (Nat.le_refl _) (.cells (cvC ⟨#[45]⟩ 3 (-1) 115) 74)).alloc (by simp) (.cells #[.string ⟨#[]⟩, .string ⟨#[]⟩, .bool false] 80))
  have HB := Lib.hid ((Box.new w 74 (cvC ⟨#[45]⟩ 3 (-1) 115)).alloc (.cells #[.string ⟨#[]⟩, .string ⟨#[]⟩, .bool false] 80))
  have HP := Lib.hid (show Box ((w.alloc (.cells (cvC ⟨#[45]⟩ 3 (-1) 115) 74)).alloc (.cells #[.string ⟨#[]⟩, .string ⟨#[]⟩, .bool false] 80)) (w.heap.size + 1) 80 #[.string ⟨#[]⟩, .string ⟨#[]⟩, .bool false] by
    have := Box.new (w.alloc (.cells (cvC ⟨#[45]⟩ 3 (-1) 115) 74)) 80 #[.string ⟨#[]⟩, .string ⟨#[]⟩, .bool false]
    simpa using this)
  go_enter Tryz.func28, Tryz.ntmps28
  go_wp2_with (go_at_call 46; go_must (refine (text_str ⟨#[97]⟩ conv _).mono ?_; rintro e w3 ⟨rfl, rfl⟩))
  have HE := (show Box ((w.alloc (.cells (cvC ⟨#[45]⟩ 3 (-1) 115) 74)).alloc (.cells #[.string ⟨#[]⟩, .string ⟨#[97]⟩, .bool false] 80)) (w.heap.size + 1) 80 #[.string ⟨#[]⟩, .string ⟨#[97]⟩, .bool false] by
    have := Box.new (w.alloc (.cells (cvC ⟨#[45]⟩ 3 (-1) 115) 74)) 80 #[.string ⟨#[]⟩, .string ⟨#[97]⟩, .bool false]
    simpa using this)
  have HE2 := ((Below.refl w.heap.size w).alloc (Nat.le_refl _) (.cells (cvC ⟨#[45]⟩ 3 (-1) 115) 74)).alloc (by simp) (.cells #[.string ⟨#[]⟩, .string ⟨#[97]⟩, .bool false] 80)
  generalize (w.alloc (.cells (cvC ⟨#[45]⟩ 3 (-1) 115) 74)).alloc (.cells #[.string ⟨#[]⟩, .string ⟨#[97]⟩, .bool false] 80) = X at HE HE2 ⊢
  have g0 := HE.cell 0
  have g1 := HE.cell 1
  have g2 := HE.cell 2
  exact bodyPost_ret (v := .tuple #[.agg #[.string ⟨#[]⟩, .string ⟨#[97]⟩, .bool false], .bool true]) (by simp [results, Tryz.results28, go_sem, g0, g1, g2]) rfl ⟨rfl, HE2⟩

set_option maxRecDepth 100000 in
set_option maxHeartbeats 2000000 in
theorem piece_c (conv : ByteArray) (w : World) :
    Calls Tryz.prog 28 #[.agg (cvC ⟨#[]⟩ 0 (-1) 99), numV 4634274385308418048, .string conv] w fun e w' => e = .returned (.tuple #[.agg #[.string ⟨#[]⟩, .string ⟨#[65]⟩, .bool false], .bool true]) ∧ Below w.heap.size w w' := by
  have HW := Lib.hid (((Below.refl w.heap.size w).alloc (Nat.le_refl _) (.cells (cvC ⟨#[]⟩ 0 (-1) 99) 74)).alloc (by simp) (.cells #[.string ⟨#[]⟩, .string ⟨#[]⟩, .bool false] 80))
  have HB := Lib.hid ((Box.new w 74 (cvC ⟨#[]⟩ 0 (-1) 99)).alloc (.cells #[.string ⟨#[]⟩, .string ⟨#[]⟩, .bool false] 80))
  have HP := Lib.hid (show Box ((w.alloc (.cells (cvC ⟨#[]⟩ 0 (-1) 99) 74)).alloc (.cells #[.string ⟨#[]⟩, .string ⟨#[]⟩, .bool false] 80)) (w.heap.size + 1) 80 #[.string ⟨#[]⟩, .string ⟨#[]⟩, .bool false] by
    have := Box.new (w.alloc (.cells (cvC ⟨#[]⟩ 0 (-1) 99) 74)) 80 #[.string ⟨#[]⟩, .string ⟨#[]⟩, .bool false]
    simpa using this)
  have HF := Lib.hid (fun w => first_65 w)
  have HL := Lib.hid (show w.heap.size + 1 < ((w.alloc (.cells (cvC ⟨#[]⟩ 0 (-1) 99) 74)).alloc (.cells #[.string ⟨#[]⟩, .string ⟨#[]⟩, .bool false] 80)).heap.size by simp)
  go_enter Tryz.func28, Tryz.ntmps28
  go_wp2_with (go_at_call 45; go_must (refine (HF.out _).mono ?_; rintro e w4 ⟨rfl, hb4⟩; have HW4 := Lib.hid (show Below w.heap.size w w4 from HW.out.trans (hb4.mono (by simp; omega))); have HP4 := Lib.hid (show Box w4 (w.heap.size + 1) _ _ from Box.bel HP.out hb4 HL.out); have p40 := HP4.out.cell 0; have p41 := HP4.out.cell 1; have p42 := HP4.out.cell 2; have pf0 := HP4.out.f 0; have pf1 := HP4.out.f 1; have pf2 := HP4.out.f 2))
  all_goals
    have HE := piece_end w w4 (w.heap.size + 1) (by omega) HW4.out HP4.out (.string ⟨#[]⟩) (.string ⟨#[65]⟩) (.bool false)
    clear p40 p41 p42 pf0 pf1 pf2
    generalize ((w4.setCell ⟨w.heap.size + 1, 0, none⟩ (.string ⟨#[]⟩)).setCell ⟨w.heap.size + 1, 1, none⟩ (.string ⟨#[65]⟩)).setCell ⟨w.heap.size + 1, 2, none⟩ (.bool false) = X at *
    have g0 := HE.1.cell 0
    have g1 := HE.1.cell 1
    have g2 := HE.1.cell 2
    exact bodyPost_ret (v := .tuple #[.agg #[.string ⟨#[]⟩, .string ⟨#[65]⟩, .bool false], .bool true]) (by simp [results, Tryz.results28, go_sem, g0, g1, g2]) rfl ⟨rfl, HE.2⟩

end Go.Proofs.YtkemdhaalcploaaGreatDoor.spl
