/- convert, of awake's three conversions. -/
import Derived.Test.YtkemdhaalcploaaGreatDoorSplJ
namespace Go.Proofs.YtkemdhaalcploaaGreatDoor.spl
set_option linter.unusedVariables false set_option linter.unusedSimpArgs false
open Go.ChangeShapes Go.WideShapes Go.ChangeAt Go.RowKit Go.Proofs.YtkemdhaalcploaaGreatDoor.base

theorem WR.open {B b : Nat} {rest : ByteArray} {args : Value} {conv : ByteArray} {l : List UInt8} {most : Int} {w : World} (h : WR B b rest args conv l most w) :
    ∃ p v, Box w b 44 (spC rest args conv p v most) ∧ ∀ (w' : World) (r2 : ByteArray) (a2 : Value), Frm (At b) w w' → Box w' b 44 (spC r2 a2 conv p v most) → WR B b r2 a2 conv l most w' := by
  obtain ⟨h0, p, v, h1, h2, h3, h4⟩ := h
  refine ⟨p, v, h2, fun w' r2 a2 hf hb => ⟨h0, p, v, h1, hb, ⟨h3.1, h3.2.elim Or.inl (fun ⟨g, cap, cur, hv, hg, hh, r⟩ => Or.inr ⟨g, cap, cur, hv, hg, ?_, r⟩)⟩, h4⟩⟩
  exact (hf.block g (Array.getElem?_eq_some_iff.1 hh).1 (by rintro rfl; exact h4 (by rw [hv]; rfl))).trans hh

theorem cutno (s : ByteArray) (x : UInt8) (h : Lib.hasPrefix s.data.toList [x] = false) (W : World) :
    Calls Tryz.prog 17 #[.string s, .string ⟨#[x]⟩] W fun e w' => e = .returned (.tuple #[.string s, .bool false]) ∧ w' = W := by
  have k := Tryz.strings_CutPrefix s ⟨#[x]⟩ W
  rw [show (⟨#[x]⟩ : ByteArray).data.toList = [x] from rfl, h, show Lib.trimPrefix s.data.toList [x] = s.data.toList by unfold Lib.trimPrefix; rw [h]; rfl, str_eta] at k
  exact k
theorem ib_letters (c : UInt8) (i : Nat) (h : Lib.indexByte [100, 105, 111, 120, 88, 117, 101, 69, 102, 70, 103, 71, 99, 115] c = (i : Int)) (W : World) :
    Calls Tryz.prog 41 #[.string ⟨#[100, 105, 111, 120, 88, 117, 101, 69, 102, 70, 103, 71, 99, 115]⟩, .int .u8 (c.toNat : Int)] W fun e w' => e = .returned (.int .i64 (i : Nat)) ∧ w' = W := by
  have k := Tryz.strings_IndexByte ⟨#[100, 105, 111, 120, 88, 117, 101, 69, 102, 70, 103, 71, 99, 115]⟩ (c.toNat : Int) W
  rw [show ((c.toNat : Int)).toNat.toUInt8 = c by simp, show (⟨#[100, 105, 111, 120, 88, 117, 101, 69, 102, 70, 103, 71, 99, 115]⟩ : ByteArray).data.toList = [100, 105, 111, 120, 88, 117, 101, 69, 102, 70, 103, 71, 99, 115] from rfl, h] at k
  exact k

set_option maxRecDepth 100000 in
set_option maxHeartbeats 4000000 in
theorem convert_d (w : World) (B b g : Nat) (conv : ByteArray) (l : List UInt8) (most : Int) (h : WR B b ⟨#[48, 51, 100, 124, 37, 45, 51, 115, 124, 37, 99]⟩ (.slice (some ⟨g, 0, none⟩) 3 3) conv l most w) (hv : w.cell? ⟨g, 0, none⟩ = some (numV 4619567317775286272)) (hgb : g ≠ b) (hB : B ≤ w.heap.size) (h1 : 0 ≤ most) (h2 : most ≤ 1000000000) (hn : ((l.length + 3 : Nat) : Int) ≤ most) (hT : ∀ X, Below B w X → sev.TabF X) :
    Calls Tryz.prog 18 #[.pointer (some ⟨b, 0, none⟩)] w fun e w' => e = .returned (.bool true) ∧ WR B b ⟨#[124, 37, 45, 51, 115, 124, 37, 99]⟩ (.slice (some ⟨g, 1, none⟩) 2 2) conv (l ++ [48, 48, 55]) most w' ∧ Kb B b w w' := by
  obtain ⟨p, u, hbx, hre⟩ := h.open
  have hBb : B ≤ b := h.1
  have hblt := hbx.lt
  have hglt : g < w.heap.size := World.block_lt_of_cell? w _ hv
  have HRC := Lib.hid (readConv_c w b ⟨#[48, 51, 100, 124, 37, 45, 51, 115, 124, 37, 99]⟩ ⟨#[51, 100, 124, 37, 45, 51, 115, 124, 37, 99]⟩ ⟨#[100, 124, 37, 45, 51, 115, 124, 37, 99]⟩ ⟨#[124, 37, 45, 51, 115, 124, 37, 99]⟩ ⟨#[48]⟩ (.slice (some ⟨g, 0, none⟩) 3 3) conv p u most hbx 3 (by decide) (by decide) 100 0 (by decide +kernel) (by decide) (by decide) (by decide +kernel) (fun W => cutno _ 42 (by decide +kernel) W) (fun W => ln_A W) (fun W => cutno _ 46 (by decide +kernel) W) (by decide) rfl (fun W => ib_letters 100 0 (by decide +kernel) W) (by decide +kernel))
  have HRE := Lib.hid hre
  have HV := Lib.hid hv
  have H1 := Lib.hid h1
  have H2 := Lib.hid h2
  have HN := Lib.hid hn
  clear hre hv h hbx h1 h2 hn
  go_enter Tryz.func18, Tryz.ntmps18
  go_wp2_with (first | (go_at_call 26; go_must (refine (HRC.out).mono ?_; rintro e w1 ⟨rfl, hb1, hf1⟩; have HB1 := Lib.hid hb1; have HF1 := Lib.hid hf1; have hl1 : w.heap.size ≤ w1.heap.size := hf1.size; have hv1 : w1.cell? ⟨g, 0, none⟩ = some (numV 4619567317775286272) := (World.cell?_of_block (hf1.block g hglt hgb)).trans HV.out; have b1 := hb1.cell 1; have bf1 := hb1.f 1; have hb1l : b < w1.heap.size := hb1.lt; have hgl : g < w1.heap.size := Nat.lt_of_lt_of_le hglt hl1; clear hb1 hf1)) | (go_at_call 27; go_must (refine (take_c _ b g 0 1 (numV 4619567317775286272) (by exact (HB1.out.alloc _).cell 1) (by exact (HB1.out.alloc _).f 1) (by exact (World.cell?_alloc_lt _ _ _ hgl).trans hv1) (by decide)).mono ?_; rintro e w2 ⟨rfl, rfl⟩)))
  have HXB := (HB1.out.set 1 (.slice (some ⟨g, 1, none⟩) 2 2)).alloc (.cells (cvC ⟨#[48]⟩ 3 (-1) 100) 74)
  have HXQ := box_new_set w1 ⟨b, 1, none⟩ (.slice (some ⟨g, 1, none⟩) 2 2) (cvC ⟨#[48]⟩ 3 (-1) 100) 74
  replace HXQ : Box ((w1.setCell ⟨b, 1, none⟩ (.slice (some ⟨g, 1, none⟩) 2 2)).alloc (.cells (cvC ⟨#[48]⟩ 3 (-1) 100) 74)) w1.heap.size 74 (cvC ⟨#[48]⟩ 3 (-1) 100) := HXQ
  have HXF := (HF1.out.setCell ⟨b, 1, none⟩ (.slice (some ⟨g, 1, none⟩) 2 2) (fun _ => rfl)).alloc (.cells (cvC ⟨#[48]⟩ 3 (-1) 100) 74)
  have hqx : w1.heap.size < ((w1.setCell ⟨b, 1, none⟩ (.slice (some ⟨g, 1, none⟩) 2 2)).alloc (.cells (cvC ⟨#[48]⟩ 3 (-1) 100) 74)).heap.size := HXQ.lt
  clear b1 bf1 hv1
  generalize (w1.setCell ⟨b, 1, none⟩ (.slice (some ⟨g, 1, none⟩) 2 2)).alloc (.cells (cvC ⟨#[48]⟩ 3 (-1) 100) 74) = X at HXB HXQ HXF hqx ⊢
  have hbx : b < X.heap.size := by omega
  have e0 := HXQ.cell 0
  have e1 := HXQ.cell 1
  have e2 := HXQ.cell 2
  have e3 := HXQ.cell 3
  have x2 : X.cell? ⟨b, 2, none⟩ = some (.string conv) := HXB.cell 2
  have HL := Lib.hid (And.intro hqx hbx)
  have HLA := Lib.hid (show w1.heap.size < (X.alloc (.cells #[.string ⟨#[]⟩, .string ⟨#[]⟩, .bool false] 80)).heap.size ∧ b < (X.alloc (.cells #[.string ⟨#[]⟩, .string ⟨#[]⟩, .bool false] 80)).heap.size ∧ X.heap.size < (X.alloc (.cells #[.string ⟨#[]⟩, .string ⟨#[]⟩, .bool false] 80)).heap.size from by simp; omega)
  have HTX := Lib.hid (hT X (HXF.below hB (fun k hk e => by have e2 : k = b := e; omega)))
  have HTXA := Lib.hid (hT (X.alloc (.cells #[.string ⟨#[]⟩, .string ⟨#[]⟩, .bool false] 80)) ((HXF.alloc _).below hB (fun k hk e => by have e2 : k = b := e; omega)))
  have hwX : w.heap.size ≤ X.heap.size := HXF.size
  clear hb1l hgl
  have x2d : X.drew.cell? ⟨b, 2, none⟩ = some (.string conv) := HXB.cell 2
  go_region_with (go_at_call 28; go_must (refine (piece_d conv _ (by first | exact HTX.out | exact HTXA.out)).mono ?_; rintro e w4 ⟨rfl, hb4⟩; have hF4 : Frm (At b) w w4 := (by first | exact HXF.trans (have k := (Frm.ofBelow hb4 (Nat.le_refl _)).mono (S' := At b) (fun _ _ e => e.elim); ⟨k.1, k.2, k.3, k.4, k.5⟩) | exact (HXF.alloc (.cells #[.string ⟨#[]⟩, .string ⟨#[]⟩, .bool false] 80)).trans (have k := (Frm.ofBelow hb4 (Nat.le_refl _)).mono (S' := At b) (fun _ _ e => e.elim); ⟨k.1, k.2, k.3, k.4, k.5⟩)); have HQ4 := Lib.hid (show Box w4 w1.heap.size 74 (cvC ⟨#[48]⟩ 3 (-1) 100) from by first | exact (hb4.block _ HL.out.1).trans HXQ | exact (hb4.block _ HLA.out.1).trans (HXQ.alloc (.cells #[.string ⟨#[]⟩, .string ⟨#[]⟩, .bool false] 80))); have hB4 : Box w4 b 44 (spC ⟨#[124, 37, 45, 51, 115, 124, 37, 99]⟩ (.slice (some ⟨g, 1, none⟩) 2 2) conv p u most) := (by first | exact (hb4.block _ HL.out.2).trans HXB | exact (hb4.block _ HLA.out.2.1).trans (HXB.alloc (.cells #[.string ⟨#[]⟩, .string ⟨#[]⟩, .bool false] 80))); have HWY := Lib.hid (HRE.out (w4.alloc (.cells #[.string ⟨#[]⟩, .string ⟨#[55]⟩, .bool true] 80)) _ _ (hF4.alloc _) (hB4.alloc _)); have HKY := Lib.hid (Kb.at (hF4.alloc (.cells #[.string ⟨#[]⟩, .string ⟨#[55]⟩, .bool true] 80)) hB hBb); have x4 : w4.cell? ⟨b, 2, none⟩ = some (.string conv) := hB4.cell 2; have bl4 := hB4.lt; have q0 := HQ4.out.cell 0; have q1 := HQ4.out.cell 1; have q2 := HQ4.out.cell 2; have q3 := HQ4.out.cell 3; have hql := HQ4.out.lt; (try (have HP4 := Lib.hid (show Box w4 X.heap.size 80 #[.string ⟨#[]⟩, .string ⟨#[]⟩, .bool false] from (hb4.block _ HLA.out.2.2).trans (Box.new X 80 #[.string ⟨#[]⟩, .string ⟨#[]⟩, .bool false])); have p40 := HP4.out.cell 0; have p41 := HP4.out.cell 1; have p42 := HP4.out.cell 2; have pf0 := HP4.out.f 0; have pf1 := HP4.out.f 1; have pf2 := HP4.out.f 2)); have HF4 := Lib.hid hF4; have HB4 := Lib.hid hB4; clear hb4 hF4 hB4))
  all_goals (first
    | (have HPA := HP4.out
       have hneb : X.heap.size ≠ b := by omega
       have HFA := ((HF4.out.setCell ⟨X.heap.size, 0, none⟩ (.string ⟨#[]⟩) (fun h => by have h2 : X.heap.size < w.heap.size := h; omega)).setCell ⟨X.heap.size, 1, none⟩ (.string ⟨#[55]⟩) (fun h => by have h2 : X.heap.size < w.heap.size := h; omega)).setCell ⟨X.heap.size, 2, none⟩ (.bool true) (fun h => by have h2 : X.heap.size < w.heap.size := h; omega)
       have HBA := ((HB4.out.set_ne (o := 0) (.string ⟨#[]⟩) hneb).set_ne (o := 1) (.string ⟨#[55]⟩) hneb).set_ne (o := 2) (.bool true) hneb
       have HWYA := Lib.hid (HRE.out _ _ _ HFA HBA)
       have HKYA := Lib.hid (Kb.at HFA hB hBb)
       clear HFA HBA HPA
       go_wp2_with (go_at_call 29; go_must (refine (fill_d _ B b _ _ conv l most HWYA.out (Nat.le_trans hB HKYA.out.bel.size) H1.out H2.out HN.out).mono ?_; rintro e w5 ⟨rfl, hw5, hk5⟩; have HW5 := Lib.hid hw5; have HK5 := Lib.hid (HKYA.out.trans hk5); clear hw5 hk5))
       go_ret
       exact ⟨rfl, HW5.out, HK5.out⟩)
    | (go_wp2_with (go_at_call 29; go_must (refine (fill_d _ B b _ _ conv l most HWY.out (Nat.le_trans hB HKY.out.bel.size) H1.out H2.out HN.out).mono ?_; rintro e w5 ⟨rfl, hw5, hk5⟩; have HW5 := Lib.hid hw5; have HK5 := Lib.hid (HKY.out.trans hk5); clear hw5 hk5))
       go_ret
       exact ⟨rfl, HW5.out, HK5.out⟩))

end Go.Proofs.YtkemdhaalcploaaGreatDoor.spl
