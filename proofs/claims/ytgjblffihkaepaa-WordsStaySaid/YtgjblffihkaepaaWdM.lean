/- The law WordsMatch. A job as it is read: its five cells. -/
import Derived.Test.YtgjblffihkaepaaWdK
import Derived.Deep.RegionHeld3
import Derived.OpenShut

namespace Go.Proofs.Ytgjblffihkaepaa.wrd
set_option linter.unusedVariables false set_option linter.unusedSimpArgs false
open Go.ChangeShapes Go.WideShapes Go.ChangeAt Go.RowKit Go.Proofs.Ytgjblffihkaepaa.base Go.Proofs.Ytgjblffihkaepaa.spec Go.Proofs.Ytgjblffihkaepaa.nfa Go.Proofs.Ytgjblffihkaepaa.set Go.Proofs.Ytgjblffihkaepaa.parts Go.Proofs.Ytgjblffihkaepaa.items Go.Proofs.Ytgjblffihkaepaa.part

theorem info_job : (Try.prog.info? 30).map (·.size) = some 5 := by kernel_rfl
/-- What is held of the job and of the tree while their parts are read. -/
def Held (j b : Nat) (E R S : ByteArray) (all : Bool) (most : Int) (D : T) (a : Option Addr) (cap : Nat) (w' : World) : Prop :=
  w'.cell? ⟨j, 1, none⟩ = some (.string R) ∧ w'.cell? ⟨j, 2, none⟩ = some (.string S) ∧ w'.cell? ⟨j, 3, none⟩ = some (.bool all) ∧ w'.cell? ⟨j, 4, none⟩ = some (.int .i64 most) ∧
  w'.cell? ⟨b, 0, none⟩ = some (.string D.op) ∧ w'.cell? ⟨b, 1, none⟩ = some (.string D.set) ∧ w'.cell? ⟨b, 2, none⟩ = some (.slice a D.kids.len cap) ∧ w'.cell? ⟨b, 3, none⟩ = some (.int .i64 D.lo) ∧ w'.cell? ⟨b, 4, none⟩ = some (.int .i64 D.hi)
theorem held_of {j b : Nat} {E R S : ByteArray} {all : Bool} {most : Int} {D : T} {a : Option Addr} {cap : Nat} {w' : World} (h1 : Box w' j 30 (jC E R S all most)) (h2 : Box w' b 33 (eC D a cap)) : Held j b E R S all most D a cap w' :=
  ⟨h1.cell 1, h1.cell 2, h1.cell 3, h1.cell 4, h2.cell 0, h2.cell 1, h2.cell 2, h2.cell 3, h2.cell 4⟩

theorem Kn.big {D : T} (h : Kn D) : part.nd D ≤ 1000000 := Nat.le_trans h.nd (by omega)

section
variable (w : World) (E R S : ByteArray) (all : Bool) (most : Int)
set_option maxHeartbeats 2000000 in
theorem match_no (h : ¬ Fit E R S) : Calls Try.prog 6 #[.agg (jC E R S all most)] w fun e w' => e = .returned (.bool true) ∧ Frm No w w' := by
  have HJ0 := Lib.hid (Box.new w 30 (jC E R S all most))
  have HF0 := Lib.hid ((Frm.refl No w).alloc (.cells (jC E R S all most) 30))
  have HN := Lib.hid (fun W => fit_no W E R S all most h)
  clear h
  go_enter Try.func6, Try.ntmps6
  go_wp2_with (first | (go_at_call 7; go_must (refine (awake_all _).mono ?_; rintro en w1 ⟨rfl, hf1⟩; have HJ1 := Lib.hid (HJ0.out.frm hf1 id))) | (refine wpList_load_row rfl 30 (.tmp 1) rfl w.heap.size rfl 30 (jC E R S all most) (0, 0) _ HJ1.out Try.underlying30 rfl info_job ?_) | (go_at_call 11; go_must (refine (HN.out _).mono ?_; rintro en w2 ⟨rfl, hf2⟩)))
  go_ret
  exact ⟨rfl, (HF0.out.trans hf1).trans hf2⟩
set_option maxRecDepth 20000 in
set_option maxHeartbeats 8000000 in
theorem match_yes (h : Fit E R S) : Calls Try.prog 6 #[.agg (jC E R S all most)] w fun e w' => e = .returned (.bool true) ∧ Frm No w w' := by
  obtain ⟨D, hD, hkn⟩ := kn_fit h
  have hsz : S.size ≤ 60 := h.2.2.1
  have HJ0 := Lib.hid (Box.new w 30 (jC E R S all most))
  have HF0 := Lib.hid ((Frm.refl No w).alloc (.cells (jC E R S all most) 30))
  have HY := Lib.hid (fun W => fit_yes W E R S all most h)
  have HP := Lib.hid (fun W => parse_kn W E (by have := h.1; omega) D hD)
  have HNW := Lib.hid (fun (W : World) (a : Option Addr) (cap : Nat) (hk : TK W D.kids a) => new_kn W D hkn a cap hk)
  have HM := Lib.hid (fun (W : World) (pa : Addr) (hm : MP W (.pointer (some pa)) (some (relT D))) => match_c W (some pa) _ S hm (by omega))
  have HDM := Lib.hid (fun (W : World) (a : Option Addr) (cap : Nat) (hk : TK W D.kids a) => dmatch_c W D a cap S hkn.big hkn.ok hkn.sz hk (by omega))
  clear h hD hkn
  cases ho : fdR (some (relT D)) S.data.toList 0 with
  | none =>
    rw [ho, show MatV none = .tuple #[.int .i64 0, .int .i64 (-1)] from rfl] at HM HDM
    clear ho
    go_enter Try.func6, Try.ntmps6
    go_upto_region 6 with (first | (go_at_call 7; go_must (refine (awake_all _).mono ?_; rintro en w1 ⟨rfl, hf1⟩; have HJ1 := Lib.hid (HJ0.out.frm hf1 id))) | (refine wpList_load_row rfl 30 (.tmp 1) rfl w.heap.size rfl 30 (jC E R S all most) (0, 0) _ HJ1.out Try.underlying30 rfl info_job ?_) | (go_at_call 11; go_must (refine (HY.out _).mono ?_; rintro en w2 ⟨rfl, hf2⟩; have HJ2 := Lib.hid (HJ1.out.frm hf2 id); have j2 := HJ2.out.cell 0)) | (go_at_call 12; go_must (refine (HP.out _).mono ?_; rintro en w3 ⟨a, cap, rfl, hk, hf3⟩; have HK := Lib.hid (hk.move ((Frm.refl No w3).alloc (.cells (eC D a cap) 33))); have HB3 := Lib.hid (Box.new w3 33 (eC D a cap)); have HJ3 := Lib.hid ((HJ2.out.frm hf3 id).alloc (.cells (eC D a cap) 33)); have HF3 := Lib.hid ((((HF0.out.trans hf1).trans hf2).trans hf3).alloc (.cells (eC D a cap) 33)); clear hk)))
    have hS3 : Held w.heap.size w3.heap.size E R S all most D a cap (w3.alloc (.cells (eC D a cap) 33)).drew := held_of HJ3.out HB3.out
    unfold Held at hS3
    have HKD := Lib.hid (HK.out.move ((Frm.refl No (w3.alloc (.cells (eC D a cap) 33))).drew))
    go_region_held3 (fun w' => w'.cell? ⟨w.heap.size, 1, none⟩ = some (.string R) ∧ w'.cell? ⟨w.heap.size, 2, none⟩ = some (.string S) ∧ w'.cell? ⟨w.heap.size, 3, none⟩ = some (.bool all) ∧ w'.cell? ⟨w.heap.size, 4, none⟩ = some (.int .i64 most) ∧ w'.cell? ⟨w3.heap.size, 0, none⟩ = some (.string D.op) ∧ w'.cell? ⟨w3.heap.size, 1, none⟩ = some (.string D.set) ∧ w'.cell? ⟨w3.heap.size, 2, none⟩ = some (.slice a D.kids.len cap) ∧ w'.cell? ⟨w3.heap.size, 3, none⟩ = some (.int .i64 D.lo) ∧ w'.cell? ⟨w3.heap.size, 4, none⟩ = some (.int .i64 D.hi)) (first | assumption | go_keep) (first | (go_at_call 14; refine (HNW.out _ a cap HKD.out).mono ?_; rintro en w4 ⟨pa, rfl, hmp, hf4⟩; have hS4 : Held w.heap.size w3.heap.size E R S all most D a cap w4 := held_of (HJ3.out.drew.frm hf4 id) (HB3.out.drew.frm hf4 id); unfold Held at hS4; have HF4 := Lib.hid (HF3.out.drew.trans hf4); have HK4 := Lib.hid (HKD.out.move hf4); have HMP := Lib.hid hmp; have HJ4 := Lib.hid (HJ3.out.drew.frm hf4 id); have HB4 := Lib.hid (HB3.out.drew.frm hf4 id); clear hmp) | (go_at_call 16; refine (HM.out _ pa HMP.out).mono ?_; rintro en w5 ⟨rfl, hf5⟩; have hS5 : Held w.heap.size w3.heap.size E R S all most D a cap w5 := held_of (HJ4.out.frm hf5 id) (HB4.out.frm hf5 id); unfold Held at hS5; have HB5 := Lib.hid (HB4.out.frm hf5 id); have HK5 := Lib.hid (HK4.out.move hf5); have HF5 := Lib.hid (HF4.out.trans hf5)))
    obtain ⟨_, j2', _⟩ := hS5
    go_wp2_with (first | (refine wpList_load_row rfl 33 (.tmp 3) rfl w3.heap.size rfl 33 (eC D a cap) (0, 0) _ HB5.out Try.underlying33 rfl doc3.info_er ?_) | (go_at_call 17; go_must (refine (HDM.out _ a cap HK5.out).mono ?_; rintro en w6 ⟨rfl, hf6⟩)))
    go_ret
    exact ⟨by simp, HF5.out.trans hf6⟩
  | some x =>
    obtain ⟨i, e⟩ := x
    rw [ho, show MatV (some (i, e)) = .tuple #[.int .i64 ((i : Int) + 1), .int .i64 ((e : Int) - (i : Int))] from rfl] at HM HDM
    clear ho
    go_enter Try.func6, Try.ntmps6
    go_upto_region 6 with (first | (go_at_call 7; go_must (refine (awake_all _).mono ?_; rintro en w1 ⟨rfl, hf1⟩; have HJ1 := Lib.hid (HJ0.out.frm hf1 id))) | (refine wpList_load_row rfl 30 (.tmp 1) rfl w.heap.size rfl 30 (jC E R S all most) (0, 0) _ HJ1.out Try.underlying30 rfl info_job ?_) | (go_at_call 11; go_must (refine (HY.out _).mono ?_; rintro en w2 ⟨rfl, hf2⟩; have HJ2 := Lib.hid (HJ1.out.frm hf2 id); have j2 := HJ2.out.cell 0)) | (go_at_call 12; go_must (refine (HP.out _).mono ?_; rintro en w3 ⟨a, cap, rfl, hk, hf3⟩; have HK := Lib.hid (hk.move ((Frm.refl No w3).alloc (.cells (eC D a cap) 33))); have HB3 := Lib.hid (Box.new w3 33 (eC D a cap)); have HJ3 := Lib.hid ((HJ2.out.frm hf3 id).alloc (.cells (eC D a cap) 33)); have HF3 := Lib.hid ((((HF0.out.trans hf1).trans hf2).trans hf3).alloc (.cells (eC D a cap) 33)); clear hk)))
    have hS3 : Held w.heap.size w3.heap.size E R S all most D a cap (w3.alloc (.cells (eC D a cap) 33)).drew := held_of HJ3.out HB3.out
    unfold Held at hS3
    have HKD := Lib.hid (HK.out.move ((Frm.refl No (w3.alloc (.cells (eC D a cap) 33))).drew))
    go_region_held3 (fun w' => w'.cell? ⟨w.heap.size, 1, none⟩ = some (.string R) ∧ w'.cell? ⟨w.heap.size, 2, none⟩ = some (.string S) ∧ w'.cell? ⟨w.heap.size, 3, none⟩ = some (.bool all) ∧ w'.cell? ⟨w.heap.size, 4, none⟩ = some (.int .i64 most) ∧ w'.cell? ⟨w3.heap.size, 0, none⟩ = some (.string D.op) ∧ w'.cell? ⟨w3.heap.size, 1, none⟩ = some (.string D.set) ∧ w'.cell? ⟨w3.heap.size, 2, none⟩ = some (.slice a D.kids.len cap) ∧ w'.cell? ⟨w3.heap.size, 3, none⟩ = some (.int .i64 D.lo) ∧ w'.cell? ⟨w3.heap.size, 4, none⟩ = some (.int .i64 D.hi)) (first | assumption | go_keep) (first | (go_at_call 14; refine (HNW.out _ a cap HKD.out).mono ?_; rintro en w4 ⟨pa, rfl, hmp, hf4⟩; have hS4 : Held w.heap.size w3.heap.size E R S all most D a cap w4 := held_of (HJ3.out.drew.frm hf4 id) (HB3.out.drew.frm hf4 id); unfold Held at hS4; have HF4 := Lib.hid (HF3.out.drew.trans hf4); have HK4 := Lib.hid (HKD.out.move hf4); have HMP := Lib.hid hmp; have HJ4 := Lib.hid (HJ3.out.drew.frm hf4 id); have HB4 := Lib.hid (HB3.out.drew.frm hf4 id); clear hmp) | (go_at_call 16; refine (HM.out _ pa HMP.out).mono ?_; rintro en w5 ⟨rfl, hf5⟩; have hS5 : Held w.heap.size w3.heap.size E R S all most D a cap w5 := held_of (HJ4.out.frm hf5 id) (HB4.out.frm hf5 id); unfold Held at hS5; have HB5 := Lib.hid (HB4.out.frm hf5 id); have HK5 := Lib.hid (HK4.out.move hf5); have HF5 := Lib.hid (HF4.out.trans hf5)))
    obtain ⟨_, j2', _⟩ := hS5
    go_wp2_with (first | (refine wpList_load_row rfl 33 (.tmp 3) rfl w3.heap.size rfl 33 (eC D a cap) (0, 0) _ HB5.out Try.underlying33 rfl doc3.info_er ?_) | (go_at_call 17; go_must (refine (HDM.out _ a cap HK5.out).mono ?_; rintro en w6 ⟨rfl, hf6⟩)))
    go_ret
    exact ⟨by simp, HF5.out.trans hf6⟩
theorem match_law : Calls Try.prog 6 #[.agg (jC E R S all most)] w fun e w' => e = .returned (.bool true) ∧ Frm No w w' := by
  by_cases h : Fit E R S
  · exact match_yes w E R S all most h
  · exact match_no w E R S all most h
end
end Go.Proofs.Ytgjblffihkaepaa.wrd

namespace Go.Proofs.Ytgjblffihkaepaa.wrd
set_option linter.unusedVariables false set_option linter.unusedSimpArgs false
open Go.ChangeShapes Go.WideShapes Go.ChangeAt Go.RowKit Go.Proofs.Ytgjblffihkaepaa.base

theorem cells_job : Try.prog.cellsOf 30 = 5 := by kernel_rfl
theorem cells_s : Try.prog.cellsOf 9 = 1 := by kernel_rfl
theorem cells_b : Try.prog.cellsOf 4 = 1 := by kernel_rfl
theorem cells_i : Try.prog.cellsOf 3 = 1 := by kernel_rfl
theorem five' {l : List Value} (h : l.length = 5) : ∃ v0 v1 v2 v3 v4, l = [v0, v1, v2, v3, v4] := by
  match l, h with
  | [v0, v1, v2, v3, v4], _ => exact ⟨v0, v1, v2, v3, v4, rfl⟩
theorem job_open {H : Type} {enc : TypeId × Value → H} {w : World} {base : Nat} {sp : Nat → Bool} {held : Bool} {n : Nat} {cs : List Value} {x : DataW H × List MemPlace} (h : DataW.trod enc Try.prog w base sp held n 30 cs = some x) :
    ∃ (E R S : ByteArray) (all : Bool) (most : Int), cs = (jC E R S all most).toList ∧ -9223372036854775808 ≤ most ∧ most ≤ 9223372036854775807 := by
  obtain ⟨xs, m, rfl, _, hl, hxs, hf⟩ := DataW.trod_struct Try.underlying30 h
  rw [cells_job] at hl
  obtain ⟨v0, v1, v2, v3, v4, rfl⟩ := five' hl
  have hx5 : xs.length = 5 := hxs
  have g0 : DataW.trod enc Try.prog w base sp held m 9 ((([v0, v1, v2, v3, v4] : List Value).drop 0).take (Try.prog.cellsOf 9)) = xs[0]? := by have h := hf 0 _ rfl; exact h
  have g1 : DataW.trod enc Try.prog w base sp held m 9 ((([v0, v1, v2, v3, v4] : List Value).drop 1).take (Try.prog.cellsOf 9)) = xs[1]? := by have h := hf 1 _ rfl; exact h
  have g2 : DataW.trod enc Try.prog w base sp held m 9 ((([v0, v1, v2, v3, v4] : List Value).drop 2).take (Try.prog.cellsOf 9)) = xs[2]? := by have h := hf 2 _ rfl; exact h
  have g3 : DataW.trod enc Try.prog w base sp held m 4 ((([v0, v1, v2, v3, v4] : List Value).drop 3).take (Try.prog.cellsOf 4)) = xs[3]? := by have h := hf 3 _ rfl; exact h
  have g4 : DataW.trod enc Try.prog w base sp held m 3 ((([v0, v1, v2, v3, v4] : List Value).drop 4).take (Try.prog.cellsOf 3)) = xs[4]? := by have h := hf 4 _ rfl; exact h
  rw [cells_s] at g0 g1 g2
  rw [cells_b] at g3
  rw [cells_i] at g4
  simp only [List.drop_zero, List.drop_succ_cons, List.take_succ_cons, List.take_zero] at g0 g1 g2 g3 g4
  rw [List.getElem?_eq_getElem (by omega)] at g0 g1 g2 g3 g4
  obtain ⟨s0, e0, _, _⟩ := DataW.trod_string Try.underlying9 g0
  obtain ⟨s1, e1, _, _⟩ := DataW.trod_string Try.underlying9 g1
  obtain ⟨s2, e2, _, _⟩ := DataW.trod_string Try.underlying9 g2
  obtain ⟨b3, e3, _⟩ := DataW.trod_bool Try.underlying4 g3
  obtain ⟨i4, e4, _, hw⟩ := DataW.trod_int Try.underlying3 g4
  cases e0; cases e1; cases e2; cases e3; cases e4
  have hb : -9223372036854775808 ≤ i4 ∧ i4 ≤ 9223372036854775807 := by
    simpa [Lit.wf, IntKind.min, IntKind.max, IntKind.signed, IntKind.bits] using hw
  exact ⟨s0, s1, s2, b3, i4, rfl, hb.1, hb.2⟩
end Go.Proofs.Ytgjblffihkaepaa.wrd
