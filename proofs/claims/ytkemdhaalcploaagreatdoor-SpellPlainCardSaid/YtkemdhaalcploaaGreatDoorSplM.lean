/- convert, of awake's second and third conversions. -/
import Derived.Test.YtkemdhaalcploaaGreatDoorSplK
namespace Go.Proofs.YtkemdhaalcploaaGreatDoor.spl
set_option linter.unusedVariables false set_option linter.unusedSimpArgs false
open Go.ChangeShapes Go.WideShapes Go.ChangeAt Go.RowKit Go.Proofs.YtkemdhaalcploaaGreatDoor.base

set_option maxRecDepth 100000 in
set_option maxHeartbeats 4000000 in
theorem convert_s (w : World) (B b g : Nat) (conv : ByteArray) (l : List UInt8) (most : Int) (h : WR B b ⟨#[45, 51, 115, 124, 37, 99]⟩ (.slice (some ⟨g, 1, none⟩) 2 2) conv l most w) (hv : w.cell? ⟨g, 1, none⟩ = some (strV ⟨#[97]⟩)) (hgb : g ≠ b) (hB : B ≤ w.heap.size) (h1 : 0 ≤ most) (h2 : most ≤ 1000000000) (hn : ((l.length + 3 : Nat) : Int) ≤ most) :
    Calls Tryz.prog 18 #[.pointer (some ⟨b, 0, none⟩)] w fun e w' => e = .returned (.bool true) ∧ WR B b ⟨#[124, 37, 99]⟩ (.slice (some ⟨g, 2, none⟩) 1 1) conv (l ++ [97, 32, 32]) most w' ∧ Kb B b w w' := by
  obtain ⟨p, u, hbx, hre⟩ := h.open
  have hBb : B ≤ b := h.1
  have hblt := hbx.lt
  have hglt : g < w.heap.size := World.block_lt_of_cell? w _ hv
  have HRC := Lib.hid (readConv_c w b ⟨#[45, 51, 115, 124, 37, 99]⟩ ⟨#[51, 115, 124, 37, 99]⟩ ⟨#[115, 124, 37, 99]⟩ ⟨#[124, 37, 99]⟩ ⟨#[45]⟩ (.slice (some ⟨g, 1, none⟩) 2 2) conv p u most hbx 3 (by decide) (by decide) 115 13 (by decide +kernel) (by decide) (by decide) (by decide +kernel) (fun W => cutno _ 42 (by decide +kernel) W) (fun W => ln_B W) (fun W => cutno _ 46 (by decide +kernel) W) (by decide) rfl (fun W => ib_letters 115 13 (by decide +kernel) W) (by decide +kernel))
  have HRE := Lib.hid hre
  have HV := Lib.hid hv
  have H1 := Lib.hid h1
  have H2 := Lib.hid h2
  have HN := Lib.hid hn
  clear hre hv h hbx h1 h2 hn
  go_enter Tryz.func18, Tryz.ntmps18
  go_wp2_with (first | (go_at_call 26; go_must (refine (HRC.out).mono ?_; rintro e w1 ⟨rfl, hb1, hf1⟩; have HB1 := Lib.hid hb1; have HF1 := Lib.hid hf1; have hl1 : w.heap.size ≤ w1.heap.size := hf1.size; have hv1 : w1.cell? ⟨g, 1, none⟩ = some (strV ⟨#[97]⟩) := (World.cell?_of_block (hf1.block g hglt hgb)).trans HV.out; have b1 := hb1.cell 1; have bf1 := hb1.f 1; have hb1l : b < w1.heap.size := hb1.lt; have hgl : g < w1.heap.size := Nat.lt_of_lt_of_le hglt hl1; clear hb1 hf1)) | (go_at_call 27; go_must (refine (take_c _ b g 1 0 (strV ⟨#[97]⟩) (by exact (HB1.out.alloc _).cell 1) (by exact (HB1.out.alloc _).f 1) (by exact (World.cell?_alloc_lt _ _ _ hgl).trans hv1) (by decide)).mono ?_; rintro e w2 ⟨rfl, rfl⟩)))
  have HXB := (HB1.out.set 1 (.slice (some ⟨g, 2, none⟩) 1 1)).alloc (.cells (cvC ⟨#[45]⟩ 3 (-1) 115) 74)
  have HXQ := box_new_set w1 ⟨b, 1, none⟩ (.slice (some ⟨g, 2, none⟩) 1 1) (cvC ⟨#[45]⟩ 3 (-1) 115) 74
  replace HXQ : Box ((w1.setCell ⟨b, 1, none⟩ (.slice (some ⟨g, 2, none⟩) 1 1)).alloc (.cells (cvC ⟨#[45]⟩ 3 (-1) 115) 74)) w1.heap.size 74 (cvC ⟨#[45]⟩ 3 (-1) 115) := HXQ
  have HXF := (HF1.out.setCell ⟨b, 1, none⟩ (.slice (some ⟨g, 2, none⟩) 1 1) (fun _ => rfl)).alloc (.cells (cvC ⟨#[45]⟩ 3 (-1) 115) 74)
  have hqx : w1.heap.size < ((w1.setCell ⟨b, 1, none⟩ (.slice (some ⟨g, 2, none⟩) 1 1)).alloc (.cells (cvC ⟨#[45]⟩ 3 (-1) 115) 74)).heap.size := HXQ.lt
  clear b1 bf1 hv1
  generalize (w1.setCell ⟨b, 1, none⟩ (.slice (some ⟨g, 2, none⟩) 1 1)).alloc (.cells (cvC ⟨#[45]⟩ 3 (-1) 115) 74) = X at HXB HXQ HXF hqx ⊢
  have hbx : b < X.heap.size := by omega
  have e0 := HXQ.cell 0
  have e1 := HXQ.cell 1
  have e2 := HXQ.cell 2
  have e3 := HXQ.cell 3
  have x2 : X.cell? ⟨b, 2, none⟩ = some (.string conv) := HXB.cell 2
  have HL := Lib.hid (And.intro hqx hbx)
  have HLA := Lib.hid (show w1.heap.size < (X.alloc (.cells #[.string ⟨#[]⟩, .string ⟨#[]⟩, .bool false] 80)).heap.size ∧ b < (X.alloc (.cells #[.string ⟨#[]⟩, .string ⟨#[]⟩, .bool false] 80)).heap.size ∧ X.heap.size < (X.alloc (.cells #[.string ⟨#[]⟩, .string ⟨#[]⟩, .bool false] 80)).heap.size from by simp; omega)
  skip
  have hwX : w.heap.size ≤ X.heap.size := HXF.size
  clear hb1l hgl
  have x2d : X.drew.cell? ⟨b, 2, none⟩ = some (.string conv) := HXB.cell 2
  go_region_with (go_at_call 28; go_must (refine (piece_s conv _).mono ?_; rintro e w4 ⟨rfl, hb4⟩; have hF4 : Frm (At b) w w4 := (by first | exact HXF.trans (have k := (Frm.ofBelow hb4 (Nat.le_refl _)).mono (S' := At b) (fun _ _ e => e.elim); ⟨k.1, k.2, k.3, k.4, k.5⟩) | exact (HXF.alloc (.cells #[.string ⟨#[]⟩, .string ⟨#[]⟩, .bool false] 80)).trans (have k := (Frm.ofBelow hb4 (Nat.le_refl _)).mono (S' := At b) (fun _ _ e => e.elim); ⟨k.1, k.2, k.3, k.4, k.5⟩)); have HQ4 := Lib.hid (show Box w4 w1.heap.size 74 (cvC ⟨#[45]⟩ 3 (-1) 115) from by first | exact (hb4.block _ HL.out.1).trans HXQ | exact (hb4.block _ HLA.out.1).trans (HXQ.alloc (.cells #[.string ⟨#[]⟩, .string ⟨#[]⟩, .bool false] 80))); have hB4 : Box w4 b 44 (spC ⟨#[124, 37, 99]⟩ (.slice (some ⟨g, 2, none⟩) 1 1) conv p u most) := (by first | exact (hb4.block _ HL.out.2).trans HXB | exact (hb4.block _ HLA.out.2.1).trans (HXB.alloc (.cells #[.string ⟨#[]⟩, .string ⟨#[]⟩, .bool false] 80))); have HWY := Lib.hid (HRE.out (w4.alloc (.cells #[.string ⟨#[]⟩, .string ⟨#[97]⟩, .bool false] 80)) _ _ (hF4.alloc _) (hB4.alloc _)); have HKY := Lib.hid (Kb.at (hF4.alloc (.cells #[.string ⟨#[]⟩, .string ⟨#[97]⟩, .bool false] 80)) hB hBb); have x4 : w4.cell? ⟨b, 2, none⟩ = some (.string conv) := hB4.cell 2; have bl4 := hB4.lt; have q0 := HQ4.out.cell 0; have q1 := HQ4.out.cell 1; have q2 := HQ4.out.cell 2; have q3 := HQ4.out.cell 3; have hql := HQ4.out.lt; (try (have HP4 := Lib.hid (show Box w4 X.heap.size 80 #[.string ⟨#[]⟩, .string ⟨#[]⟩, .bool false] from (hb4.block _ HLA.out.2.2).trans (Box.new X 80 #[.string ⟨#[]⟩, .string ⟨#[]⟩, .bool false])); have p40 := HP4.out.cell 0; have p41 := HP4.out.cell 1; have p42 := HP4.out.cell 2; have pf0 := HP4.out.f 0; have pf1 := HP4.out.f 1; have pf2 := HP4.out.f 2)); have HF4 := Lib.hid hF4; have HB4 := Lib.hid hB4; clear hb4 hF4 hB4))
  all_goals (first
    | (have HPA := HP4.out
       have hneb : X.heap.size ≠ b := by omega
       have HFA := ((HF4.out.setCell ⟨X.heap.size, 0, none⟩ (.string ⟨#[]⟩) (fun h => by have h2 : X.heap.size < w.heap.size := h; omega)).setCell ⟨X.heap.size, 1, none⟩ (.string ⟨#[97]⟩) (fun h => by have h2 : X.heap.size < w.heap.size := h; omega)).setCell ⟨X.heap.size, 2, none⟩ (.bool false) (fun h => by have h2 : X.heap.size < w.heap.size := h; omega)
       have HBA := ((HB4.out.set_ne (o := 0) (.string ⟨#[]⟩) hneb).set_ne (o := 1) (.string ⟨#[97]⟩) hneb).set_ne (o := 2) (.bool false) hneb
       have HWYA := Lib.hid (HRE.out _ _ _ HFA HBA)
       have HKYA := Lib.hid (Kb.at HFA hB hBb)
       clear HFA HBA HPA
       go_wp2_with (go_at_call 29; go_must (refine (fill_s _ B b _ _ conv l most HWYA.out (Nat.le_trans hB HKYA.out.bel.size) H1.out H2.out HN.out).mono ?_; rintro e w5 ⟨rfl, hw5, hk5⟩; have HW5 := Lib.hid hw5; have HK5 := Lib.hid (HKYA.out.trans hk5); clear hw5 hk5))
       go_ret
       exact ⟨rfl, HW5.out, HK5.out⟩)
    | (go_wp2_with (go_at_call 29; go_must (refine (fill_s _ B b _ _ conv l most HWY.out (Nat.le_trans hB HKY.out.bel.size) H1.out H2.out HN.out).mono ?_; rintro e w5 ⟨rfl, hw5, hk5⟩; have HW5 := Lib.hid hw5; have HK5 := Lib.hid (HKY.out.trans hk5); clear hw5 hk5))
       go_ret
       exact ⟨rfl, HW5.out, HK5.out⟩))

set_option maxRecDepth 100000 in
set_option maxHeartbeats 4000000 in
theorem convert_c (w : World) (B b g : Nat) (conv : ByteArray) (l : List UInt8) (most : Int) (h : WR B b ⟨#[99]⟩ (.slice (some ⟨g, 2, none⟩) 1 1) conv l most w) (hv : w.cell? ⟨g, 2, none⟩ = some (numV 4634274385308418048)) (hgb : g ≠ b) (hB : B ≤ w.heap.size) (h1 : 0 ≤ most) (h2 : most ≤ 1000000000) (hn : ((l.length + 3 : Nat) : Int) ≤ most) :
    Calls Tryz.prog 18 #[.pointer (some ⟨b, 0, none⟩)] w fun e w' => e = .returned (.bool true) ∧ WR B b ⟨#[]⟩ (.slice (some ⟨g, 2, none⟩) 0 0) conv (l ++ [65]) most w' ∧ Kb B b w w' := by
  obtain ⟨p, u, hbx, hre⟩ := h.open
  have hBb : B ≤ b := h.1
  have hblt := hbx.lt
  have hglt : g < w.heap.size := World.block_lt_of_cell? w _ hv
  have HRC := Lib.hid (readConv_c w b ⟨#[99]⟩ ⟨#[99]⟩ ⟨#[99]⟩ ⟨#[]⟩ ⟨#[]⟩ (.slice (some ⟨g, 2, none⟩) 1 1) conv p u most hbx 0 (by decide) (by decide) 99 12 (by decide +kernel) (by decide) (by decide) (by decide +kernel) (fun W => cutno _ 42 (by decide +kernel) W) (fun W => ln_C W) (fun W => cutno _ 46 (by decide +kernel) W) (by decide) rfl (fun W => ib_letters 99 12 (by decide +kernel) W) (by decide +kernel))
  have HRE := Lib.hid hre
  have HV := Lib.hid hv
  have H1 := Lib.hid h1
  have H2 := Lib.hid h2
  have HN := Lib.hid hn
  clear hre hv h hbx h1 h2 hn
  go_enter Tryz.func18, Tryz.ntmps18
  go_wp2_with (first | (go_at_call 26; go_must (refine (HRC.out).mono ?_; rintro e w1 ⟨rfl, hb1, hf1⟩; have HB1 := Lib.hid hb1; have HF1 := Lib.hid hf1; have hl1 : w.heap.size ≤ w1.heap.size := hf1.size; have hv1 : w1.cell? ⟨g, 2, none⟩ = some (numV 4634274385308418048) := (World.cell?_of_block (hf1.block g hglt hgb)).trans HV.out; have b1 := hb1.cell 1; have bf1 := hb1.f 1; have hb1l : b < w1.heap.size := hb1.lt; have hgl : g < w1.heap.size := Nat.lt_of_lt_of_le hglt hl1; clear hb1 hf1)) | (go_at_call 27; go_must (refine (take_last _ b g 2 (numV 4634274385308418048) (by exact (HB1.out.alloc _).cell 1) (by exact (HB1.out.alloc _).f 1) (by exact (World.cell?_alloc_lt _ _ _ hgl).trans hv1)).mono ?_; rintro e w2 ⟨rfl, rfl⟩)))
  have HXB := (HB1.out.set 1 (.slice (some ⟨g, 2, none⟩) 0 0)).alloc (.cells (cvC ⟨#[]⟩ 0 (-1) 99) 74)
  have HXQ := box_new_set w1 ⟨b, 1, none⟩ (.slice (some ⟨g, 2, none⟩) 0 0) (cvC ⟨#[]⟩ 0 (-1) 99) 74
  replace HXQ : Box ((w1.setCell ⟨b, 1, none⟩ (.slice (some ⟨g, 2, none⟩) 0 0)).alloc (.cells (cvC ⟨#[]⟩ 0 (-1) 99) 74)) w1.heap.size 74 (cvC ⟨#[]⟩ 0 (-1) 99) := HXQ
  have HXF := (HF1.out.setCell ⟨b, 1, none⟩ (.slice (some ⟨g, 2, none⟩) 0 0) (fun _ => rfl)).alloc (.cells (cvC ⟨#[]⟩ 0 (-1) 99) 74)
  have hqx : w1.heap.size < ((w1.setCell ⟨b, 1, none⟩ (.slice (some ⟨g, 2, none⟩) 0 0)).alloc (.cells (cvC ⟨#[]⟩ 0 (-1) 99) 74)).heap.size := HXQ.lt
  clear b1 bf1 hv1
  generalize (w1.setCell ⟨b, 1, none⟩ (.slice (some ⟨g, 2, none⟩) 0 0)).alloc (.cells (cvC ⟨#[]⟩ 0 (-1) 99) 74) = X at HXB HXQ HXF hqx ⊢
  have hbx : b < X.heap.size := by omega
  have e0 := HXQ.cell 0
  have e1 := HXQ.cell 1
  have e2 := HXQ.cell 2
  have e3 := HXQ.cell 3
  have x2 : X.cell? ⟨b, 2, none⟩ = some (.string conv) := HXB.cell 2
  have HL := Lib.hid (And.intro hqx hbx)
  have HLA := Lib.hid (show w1.heap.size < (X.alloc (.cells #[.string ⟨#[]⟩, .string ⟨#[]⟩, .bool false] 80)).heap.size ∧ b < (X.alloc (.cells #[.string ⟨#[]⟩, .string ⟨#[]⟩, .bool false] 80)).heap.size ∧ X.heap.size < (X.alloc (.cells #[.string ⟨#[]⟩, .string ⟨#[]⟩, .bool false] 80)).heap.size from by simp; omega)
  skip
  have hwX : w.heap.size ≤ X.heap.size := HXF.size
  clear hb1l hgl
  have x2d : X.drew.cell? ⟨b, 2, none⟩ = some (.string conv) := HXB.cell 2
  go_region_with (go_at_call 28; go_must (refine (piece_c conv _).mono ?_; rintro e w4 ⟨rfl, hb4⟩; have hF4 : Frm (At b) w w4 := (by first | exact HXF.trans (have k := (Frm.ofBelow hb4 (Nat.le_refl _)).mono (S' := At b) (fun _ _ e => e.elim); ⟨k.1, k.2, k.3, k.4, k.5⟩) | exact (HXF.alloc (.cells #[.string ⟨#[]⟩, .string ⟨#[]⟩, .bool false] 80)).trans (have k := (Frm.ofBelow hb4 (Nat.le_refl _)).mono (S' := At b) (fun _ _ e => e.elim); ⟨k.1, k.2, k.3, k.4, k.5⟩)); have HQ4 := Lib.hid (show Box w4 w1.heap.size 74 (cvC ⟨#[]⟩ 0 (-1) 99) from by first | exact (hb4.block _ HL.out.1).trans HXQ | exact (hb4.block _ HLA.out.1).trans (HXQ.alloc (.cells #[.string ⟨#[]⟩, .string ⟨#[]⟩, .bool false] 80))); have hB4 : Box w4 b 44 (spC ⟨#[]⟩ (.slice (some ⟨g, 2, none⟩) 0 0) conv p u most) := (by first | exact (hb4.block _ HL.out.2).trans HXB | exact (hb4.block _ HLA.out.2.1).trans (HXB.alloc (.cells #[.string ⟨#[]⟩, .string ⟨#[]⟩, .bool false] 80))); have HWY := Lib.hid (HRE.out (w4.alloc (.cells #[.string ⟨#[]⟩, .string ⟨#[65]⟩, .bool false] 80)) _ _ (hF4.alloc _) (hB4.alloc _)); have HKY := Lib.hid (Kb.at (hF4.alloc (.cells #[.string ⟨#[]⟩, .string ⟨#[65]⟩, .bool false] 80)) hB hBb); have x4 : w4.cell? ⟨b, 2, none⟩ = some (.string conv) := hB4.cell 2; have bl4 := hB4.lt; have q0 := HQ4.out.cell 0; have q1 := HQ4.out.cell 1; have q2 := HQ4.out.cell 2; have q3 := HQ4.out.cell 3; have hql := HQ4.out.lt; (try (have HP4 := Lib.hid (show Box w4 X.heap.size 80 #[.string ⟨#[]⟩, .string ⟨#[]⟩, .bool false] from (hb4.block _ HLA.out.2.2).trans (Box.new X 80 #[.string ⟨#[]⟩, .string ⟨#[]⟩, .bool false])); have p40 := HP4.out.cell 0; have p41 := HP4.out.cell 1; have p42 := HP4.out.cell 2; have pf0 := HP4.out.f 0; have pf1 := HP4.out.f 1; have pf2 := HP4.out.f 2)); have HF4 := Lib.hid hF4; have HB4 := Lib.hid hB4; clear hb4 hF4 hB4))
  all_goals (first
    | (have HPA := HP4.out
       have hneb : X.heap.size ≠ b := by omega
       have HFA := ((HF4.out.setCell ⟨X.heap.size, 0, none⟩ (.string ⟨#[]⟩) (fun h => by have h2 : X.heap.size < w.heap.size := h; omega)).setCell ⟨X.heap.size, 1, none⟩ (.string ⟨#[65]⟩) (fun h => by have h2 : X.heap.size < w.heap.size := h; omega)).setCell ⟨X.heap.size, 2, none⟩ (.bool false) (fun h => by have h2 : X.heap.size < w.heap.size := h; omega)
       have HBA := ((HB4.out.set_ne (o := 0) (.string ⟨#[]⟩) hneb).set_ne (o := 1) (.string ⟨#[65]⟩) hneb).set_ne (o := 2) (.bool false) hneb
       have HWYA := Lib.hid (HRE.out _ _ _ HFA HBA)
       have HKYA := Lib.hid (Kb.at HFA hB hBb)
       clear HFA HBA HPA
       go_wp2_with (go_at_call 29; go_must (refine (fill_c _ B b _ _ conv l most HWYA.out (Nat.le_trans hB HKYA.out.bel.size) H1.out H2.out HN.out).mono ?_; rintro e w5 ⟨rfl, hw5, hk5⟩; have HW5 := Lib.hid hw5; have HK5 := Lib.hid (HKYA.out.trans hk5); clear hw5 hk5))
       go_ret
       exact ⟨rfl, HW5.out, HK5.out⟩)
    | (go_wp2_with (go_at_call 29; go_must (refine (fill_c _ B b _ _ conv l most HWY.out (Nat.le_trans hB HKY.out.bel.size) H1.out H2.out HN.out).mono ?_; rintro e w5 ⟨rfl, hw5, hk5⟩; have HW5 := Lib.hid hw5; have HK5 := Lib.hid (HKY.out.trans hk5); clear hw5 hk5))
       go_ret
       exact ⟨rfl, HW5.out, HK5.out⟩))

end Go.Proofs.YtkemdhaalcploaaGreatDoor.spl
