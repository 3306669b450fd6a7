/- readConversion, where no star and no point stand. -/
import Derived.Test.YtkemdhaalcploaaGreatDoorSplC
namespace Go.Proofs.YtkemdhaalcploaaGreatDoor.spl
set_option linter.unusedVariables false set_option linter.unusedSimpArgs false
open Go.ChangeShapes Go.WideShapes Go.ChangeAt Go.RowKit Go.Proofs.YtkemdhaalcploaaGreatDoor.base

theorem Box.bel {w w' : World} {b B : Nat} {T : TypeId} {C : Array Value} (h : Box w b T C) (hb : Below B w w') (hlt : b < B) : Box w' b T C := (hb.block b hlt).trans h
abbrev spC (rest : ByteArray) (args : Value) (conv : ByteArray) (p v : Value) (most : Int) : Array Value := #[.string rest, args, .string conv, p, v, .int .i64 most]
abbrev cvC (fl : ByteArray) (n p c : Int) : Array Value := #[.string fl, .int .i64 n, .int .i64 p, .int .u8 c]

theorem box_new_set (W : World) (a : Addr) (v : Value) (C : Array Value) (T : TypeId) : Box ((W.setCell a v).alloc (.cells C T)).drew W.heap.size T C := by
  have h := Box.new (W.setCell a v) T C
  have hs : (W.setCell a v).heap.size = W.heap.size := by simp
  rw [hs] at h
  exact h
theorem trim_c (s behind : ByteArray) (h : Lib.trimLeftS s.data.toList [45, 43, 32, 48, 35] = behind.data.toList) (w : World) :
    Calls Tryz.prog 38 #[.string s, .string ⟨#[45, 43, 32, 48, 35]⟩] w fun e w' => e = .returned (.string behind) ∧ Below w.heap.size w w' := by
  have k := Any.strings_TrimLeft_laid Tryz.lays161 (by kernel_rfl) s ⟨#[45, 43, 32, 48, 35]⟩ w (by decide) (fun j b hj => by
    have : b ∈ ([45, 43, 32, 48, 35] : List UInt8) := List.mem_of_getElem? hj
    simp at this
    rcases this with rfl | rfl | rfl | rfl | rfl <;> decide)
  rw [show (⟨#[45, 43, 32, 48, 35]⟩ : ByteArray).data.toList = [45, 43, 32, 48, 35] from rfl, h] at k
  exact k

set_option maxHeartbeats 4000000 in
set_option maxRecDepth 100000 in
theorem readConv_c (w : World) (b : Nat) (rest behind aft tl fl : ByteArray) (args : Value) (conv : ByteArray) (p v : Value) (most : Int) (hb : Box w b 44 (spC rest args conv p v most))
    (n : Int) (h0 : 0 ≤ n) (hn : n ≤ 200) (c : UInt8) (i : Nat)
    (hT : Lib.trimLeftS rest.data.toList [45, 43, 32, 48, 35] = behind.data.toList)
    (hsz : behind.size ≤ rest.size) (hrs : rest.size ≤ 1000) (hfl : rest.extract 0 (rest.size - behind.size) = fl)
    (hC : ∀ W : World, Calls Tryz.prog 17 #[.string behind, .string ⟨#[42]⟩] W fun e w' => e = .returned (.tuple #[.string behind, .bool false]) ∧ w' = W)
    (hN : ∀ W : World, Calls Tryz.prog 61 #[.string behind, .int .i64 200] W fun e w' => e = .returned (.tuple #[.int .i64 n, .string aft]) ∧ ∃ k, w' = W.drewN k)
    (hP : ∀ W : World, Calls Tryz.prog 17 #[.string aft, .string ⟨#[46]⟩] W fun e w' => e = .returned (.tuple #[.string aft, .bool false]) ∧ w' = W)
    (ha : 0 < aft.size) (hc : aft[0] = c) (hI : ∀ W : World, Calls Tryz.prog 41 #[.string ⟨#[100, 105, 111, 120, 88, 117, 101, 69, 102, 70, 103, 71, 99, 115]⟩, .int .u8 (c.toNat : Int)] W fun e w' => e = .returned (.int .i64 (i : Nat)) ∧ w' = W)
    (htl : aft.extract 1 aft.size = tl) :
    Calls Tryz.prog 26 #[.pointer (some ⟨b, 0, none⟩)] w fun e w' => e = .returned (.tuple #[.agg (cvC fl n (-1) (c.toNat : Int)), .bool true]) ∧ Box w' b 44 (spC tl args conv p v most) ∧ Frm (At b) w w' := by
  have HT := Lib.hid (fun W => trim_c rest behind hT W)
  have hblt := hb.lt
  have mixed : Tryz.prog.follows .mixedOrders = true := by kernel_rfl
  have HB1 := Lib.hid (hb.alloc (.cells (cvC ⟨#[]⟩ 0 0 0) 74))
  have hlt1 := Lib.hid (show b < (w.alloc (.cells (cvC ⟨#[]⟩ 0 0 0) 74)).heap.size by simp; omega)
  have HP1 := Lib.hid (Box.new w 74 (cvC ⟨#[]⟩ 0 0 0))
  have HF1 := Lib.hid ((Frm.refl (At b) w).alloc (.cells (cvC ⟨#[]⟩ 0 0 0) 74))
  have hc0 : w.cell? ⟨b, 0, none⟩ = some (.string rest) := hb.cell 0
  have hf0 := hb.f 0
  have HSZ := Lib.hid hsz
  have HC := Lib.hid hC
  have HN := Lib.hid hN
  have HPR := Lib.hid hP
  have HI := Lib.hid hI
  have HTL := Lib.hid htl
  have HFL := Lib.hid hfl
  clear hT hC hN hP hI htl hfl hb hsz
  go_enter Tryz.func26, Tryz.ntmps26
  go_wp2_with (go_at_call 38; go_must (refine (HT.out _).mono ?_; rintro e w2 ⟨rfl, hbl⟩; have HB2 := Lib.hid (Box.bel HB1.out hbl hlt1.out); have HP2 := Lib.hid (Box.bel HP1.out hbl (by simp)); have HF2 := Lib.hid (HF1.out.trans ((Frm.ofBelow hbl (Nat.le_refl _)).mono (fun _ _ e => e.elim))); have hs2 := hbl.size; clear hbl))
  have hc2 : w2.cell? ⟨b, 0, none⟩ = some (.string rest) := HB2.out.cell 0
  have hwr : IntKind.i64.wrap ((rest.size : Int) - (behind.size : Int)) = (rest.size : Int) - (behind.size : Int) := wrap_in _ (by have := HSZ.out; omega) (by omega)
  have hnn : (0 : Int) ≤ (rest.size : Int) - (behind.size : Int) := by have := HSZ.out; omega
  have hle : (rest.size : Int) - (behind.size : Int) ≤ (rest.size : Int) := by omega
  have htn : ((rest.size : Int) - (behind.size : Int)).toNat = rest.size - behind.size := by omega
  have hsz := HSZ.out
  have hf2 : w2.frozen? ⟨b, 0, none⟩ = false := HB2.out.f 0
  have hb2 : b < w2.heap.size := HB2.out.lt
  have hc2d : w2.drew.cell? ⟨b, 0, none⟩ = some (.string rest) := HB2.out.cell 0
  go_region_o
  have HB0 := (((HB2.out.set 0 (.string behind)).alloc (.cells (cvC (rest.extract 0 (rest.size - behind.size)) 0 (-1) 0) 74)).drew)
  have HQ0 := box_new_set w2 ⟨b, 0, none⟩ (.string behind) (cvC (rest.extract 0 (rest.size - behind.size)) 0 (-1) 0) 74
  have HP0 := (((HP2.out.set_ne (o := 0) (.string behind) (show b ≠ w.heap.size by omega)).alloc (.cells (cvC (rest.extract 0 (rest.size - behind.size)) 0 (-1) 0) 74)).drew)
  have HF0 := ((HF2.out.setCell ⟨b, 0, none⟩ (.string behind) (fun _ => rfl)).alloc (.cells (cvC (rest.extract 0 (rest.size - behind.size)) 0 (-1) 0) 74)).drew
  have hqw : w.heap.size < w2.heap.size := by have := hs2; simp at this; omega
  rw [HFL.out] at HB0 HQ0 HP0 HF0
  have HB0 := Lib.hid HB0
  have HQ0 := Lib.hid HQ0
  have HP0 := Lib.hid HP0
  have HF0 := Lib.hid HF0
  have hqw := Lib.hid hqw
  all_goals (go_wp2_with fail)
  rw [HFL.out]
  replace HB0 := HB0.out
  replace HQ0 := HQ0.out
  replace HP0 := HP0.out
  replace HF0 := HF0.out
  replace hqw := hqw.out
  obtain ⟨q, hq⟩ : ∃ q, w2.heap.size = q := ⟨_, rfl⟩
  rw [hq] at HQ0 hqw ⊢
  have hqb : q ≠ b := by omega
  have hq1 : w.heap.size ≠ q := by omega
  have hq2 : w.heap.size ≠ b := by omega
  clear hq hs2 hb2
  generalize ((w2.setCell ⟨b, 0, none⟩ (.string behind)).alloc (.cells (cvC fl 0 (-1) 0) 74)).drew = X0 at *
  have HRW := Lib.hid (readWidth_c X0 b q behind aft n h0 hn (HB0.cell 0) (HB0.f 0) (HQ0.cell 1) (HQ0.f 1) hqb HC.out HN.out)
  have HX := Lib.hid (fun (k : Nat) (w3 : World) (h : w3 = ((X0.drewN k).setCell ⟨q, 1, none⟩ (.int .i64 n)).setCell ⟨b, 0, none⟩ (.string aft)) => show Box w3 b 44 (spC aft args conv p v most) ∧ Box w3 q 74 (cvC fl n (-1) 0) ∧ Box w3 w.heap.size 74 (cvC ⟨#[]⟩ 0 0 0) ∧ Frm (At b) w w3 from by
    subst h
    exact ⟨(((show Box (X0.drewN k) _ _ _ from HB0).set_ne _ hqb).set 0 _), (((show Box (X0.drewN k) _ _ _ from HQ0).set 1 _).set_ne _ (Ne.symm hqb)), (((show Box (X0.drewN k) _ _ _ from HP0).set_ne _ (Ne.symm hq1)).set_ne _ (Ne.symm hq2)), ((HF0.drewN k).setCell _ _ (fun h => by simp at h; omega)).setCell _ _ (fun _ => rfl)⟩)
  have HPR2 := Lib.hid (fun (W : World) (hcw : W.cell? ⟨b, 0, none⟩ = some (.string aft)) => readPrec_c W b q aft hcw HPR.out)
  have he : aft.toList.isEmpty = false := by
    rw [Lib.toList_data]
    cases h : aft.data.toList with
    | nil => have := Lib.size_eq aft; rw [h, List.length_nil] at this; omega
    | cons _ _ => rfl
  clear HB0 HQ0 HP0 HF0 hn h0
  go_wp2_with (first | (go_at_call 39; go_must (refine (HRW.out).mono ?_; rintro e w3 ⟨rfl, k, hw3⟩; have HX3 := Lib.hid (HX.out k w3 hw3); have hb3 := HX3.out.1.cell 0; have hb3f := HX3.out.1.f 0; have hq30 := HX3.out.2.1.cell 0; have hq31 := HX3.out.2.1.cell 1; have hq32 := HX3.out.2.1.cell 2; have hq33 := HX3.out.2.1.cell 3; have hq3f := HX3.out.2.1.f 3; have hp30 := HX3.out.2.2.1.cell 0; have hp3f0 := HX3.out.2.2.1.f 0; have hp31 := HX3.out.2.2.1.cell 1; have hp3f1 := HX3.out.2.2.1.f 1; have hp32 := HX3.out.2.2.1.cell 2; have hp3f2 := HX3.out.2.2.1.f 2; have hp33 := HX3.out.2.2.1.cell 3; have hp3f3 := HX3.out.2.2.1.f 3; clear hw3)) | (go_at_call 40; go_must (refine (HPR2.out _ hb3).mono ?_; rintro e w4 ⟨rfl, rfl⟩)) | (go_at_call 41; go_must (refine (HI.out _).mono ?_; rintro e w4 ⟨rfl, rfl⟩)))
  rw [HTL.out]
  have hb4 : Box ((((((w4.setCell ⟨q, 3, none⟩ (.int .u8 (c.toNat : Int))).setCell ⟨b, 0, none⟩ (.string tl)).setCell ⟨w.heap.size, 0, none⟩ (.string fl)).setCell ⟨w.heap.size, 1, none⟩ (.int .i64 n)).setCell ⟨w.heap.size, 2, none⟩ (.int .i64 (-1))).setCell ⟨w.heap.size, 3, none⟩ (.int .u8 (c.toNat : Int))) b 44 (spC tl args conv p v most) :=
    ((((((HX3.out.1.set_ne _ hqb).set 0 (.string tl)).set_ne _ hq2).set_ne _ hq2).set_ne _ hq2).set_ne _ hq2)
  have hp4 : Box ((((((w4.setCell ⟨q, 3, none⟩ (.int .u8 (c.toNat : Int))).setCell ⟨b, 0, none⟩ (.string tl)).setCell ⟨w.heap.size, 0, none⟩ (.string fl)).setCell ⟨w.heap.size, 1, none⟩ (.int .i64 n)).setCell ⟨w.heap.size, 2, none⟩ (.int .i64 (-1))).setCell ⟨w.heap.size, 3, none⟩ (.int .u8 (c.toNat : Int))) w.heap.size 74 (cvC fl n (-1) (c.toNat : Int)) :=
    ((((((HX3.out.2.2.1.set_ne _ (Ne.symm hq1)).set_ne _ (Ne.symm hq2)).set 0 (.string fl)).set 1 (.int .i64 n)).set 2 (.int .i64 (-1))).set 3 (.int .u8 (c.toNat : Int)))
  have hF4 : Frm (At b) w ((((((w4.setCell ⟨q, 3, none⟩ (.int .u8 (c.toNat : Int))).setCell ⟨b, 0, none⟩ (.string tl)).setCell ⟨w.heap.size, 0, none⟩ (.string fl)).setCell ⟨w.heap.size, 1, none⟩ (.int .i64 n)).setCell ⟨w.heap.size, 2, none⟩ (.int .i64 (-1))).setCell ⟨w.heap.size, 3, none⟩ (.int .u8 (c.toNat : Int))) :=
    (((((HX3.out.2.2.2.setCell ⟨q, 3, none⟩ _ (fun h => by have h2 : q < w.heap.size := h; omega)).setCell ⟨b, 0, none⟩ _ (fun _ => rfl)).setCell ⟨w.heap.size, 0, none⟩ _ (fun h => absurd h (Nat.lt_irrefl _))).setCell ⟨w.heap.size, 1, none⟩ _ (fun h => absurd h (Nat.lt_irrefl _))).setCell ⟨w.heap.size, 2, none⟩ _ (fun h => absurd h (Nat.lt_irrefl _))).setCell ⟨w.heap.size, 3, none⟩ _ (fun h => absurd h (Nat.lt_irrefl _))
  have H4 := Lib.hid (And.intro hb4 hF4)
  have e0 := hp4.cell 0
  have e1 := hp4.cell 1
  have e2 := hp4.cell 2
  have e3 := hp4.cell 3
  clear hb4 hF4 hp4 hb3 hb3f hq30 hq31 hq32 hq33 hq3f hp30 hp31 hp32 hp33 hp3f0 hp3f1 hp3f2 hp3f3
  generalize ((((((w4.setCell ⟨q, 3, none⟩ (.int .u8 (c.toNat : Int))).setCell ⟨b, 0, none⟩ (.string tl)).setCell ⟨w.heap.size, 0, none⟩ (.string fl)).setCell ⟨w.heap.size, 1, none⟩ (.int .i64 n)).setCell ⟨w.heap.size, 2, none⟩ (.int .i64 (-1))).setCell ⟨w.heap.size, 3, none⟩ (.int .u8 (c.toNat : Int))) = X4 at *
  exact bodyPost_ret (v := .tuple #[.agg (cvC fl n (-1) (c.toNat : Int)), .bool true]) (by simp [results, Tryz.results26, go_sem, e0, e1, e2, e3]) rfl ⟨rfl, H4.out⟩
end Go.Proofs.YtkemdhaalcploaaGreatDoor.spl
