/- Contracts of the program's finder of separators, of each byte, of byExpression and parted; of New, that finds none, too; of a record that is none. Contracts of the program's next separator, newFinder, each byte, byExpression, parted; of New, that finds none, too; of a record that is none. Contracts of each byte, byExpression, parted; of New, that finds none, too; of a record that is none. -/
import Derived.Test.YtbfekknhmjndaaaGreatFrF
import Derived.Deep.AppendLies
import Derived.Deep.DrawnRows
import Derived.Deep.RegionHeld3
import Derived.Deep.OwnRows
import Derived.Deep.LoopGhost

namespace Go.Proofs.YtbfekknhmjndaaaGreat.flds
set_option linter.unusedVariables false set_option linter.unusedSimpArgs false
open Go.ChangeShapes Go.WideShapes Go.ChangeAt Go.RowKit Go.Proofs.YtbfekknhmjndaaaGreat.base Go.Proofs.YtbfekknhmjndaaaGreat.spec Go.Proofs.YtbfekknhmjndaaaGreat.nfa Go.Proofs.YtbfekknhmjndaaaGreat.set Go.Proofs.YtbfekknhmjndaaaGreat.parts Go.Proofs.YtbfekknhmjndaaaGreat.items Go.Proofs.YtbfekknhmjndaaaGreat.part Go.Proofs.YtbfekknhmjndaaaGreat.fldp

/-- The finder's cells. -/
abbrev fC (s : ByteArray) (m : Value) (i e a b : Int) : Array Value := #[.string s, m, .int .i64 i, .int .i64 e, .int .i64 a, .int .i64 b]

theorem end_all (w : World) (F : Nat) (s : ByteArray) (m : Value) (i e a b : Int) (h : Box w F 74 (fC s m i e a b)) :
    Calls Tryz.prog 54 #[.pointer (some ⟨F, 0, none⟩)] w fun en w' => en = .returned (.agg #[.int .i64 (s.size : Int), .int .i64 (s.size : Int)]) ∧ Frm No w w' := by
  have c0 : w.cell? ⟨F, 0, none⟩ = some (.string s) := h.cell 0
  have hF := h.lt
  clear h
  go_enter Tryz.func54, Tryz.ntmps54
  go_wp2
  go_region
  all_goals
    go_wp2
    have hB := Box.new w.drew 72 #[.int .i64 (s.size : Int), .int .i64 (s.size : Int)]
    have g0 := hB.cell 0
    have g1 := hB.cell 1
    exact bodyPost_ret (v := .agg #[.int .i64 (s.size : Int), .int .i64 (s.size : Int)]) (by simp [results, Tryz.results54, go_sem, g0, g1]) rfl ⟨rfl, (Frm.refl No w).drew.alloc _⟩
attribute [local go_sem ↓] Go.wp_at_zero Go.wp_at_succ
/-- The result's box is written. -/
theorem span_end {w w1 : World} {x y : Int} (hX : Box w1 w.heap.size 72 #[.int .i64 x, .int .i64 y]) (hf : Frm No w w1) (a b : Int) :
    Box ((w1.setCell ⟨w.heap.size, 0, none⟩ (.int .i64 a)).setCell ⟨w.heap.size, 1, none⟩ (.int .i64 b)) w.heap.size 72 #[.int .i64 a, .int .i64 b] ∧ Frm No w ((w1.setCell ⟨w.heap.size, 0, none⟩ (.int .i64 a)).setCell ⟨w.heap.size, 1, none⟩ (.int .i64 b)) :=
  ⟨(hX.set 0 _).set 1 _, (hf.setCell _ _ (fun h => absurd h (Nat.lt_irrefl _))).setCell _ _ (fun h => absurd h (Nat.lt_irrefl _))⟩
/-- Where the next separator from p on is, and what comes of it. -/
def NX (f : Fnd) (s : ByteArray) (p i e : Nat) : Prop :=
  (i = s.size ∧ e = s.size ∧ ∀ st, rst f s st p = [s.extract st s.size]) ∨ (i < e ∧ p ≤ i ∧ e ≤ s.size ∧ ∀ st, rst f s st p = s.extract st i :: rst f s e e)

set_option maxHeartbeats 2000000 in
theorem nextMatch_all (w : World) (F B : Nat) (s : ByteArray) (p : Addr) (R : Rel) (i e : Int) (pl : Nat) (hB : B ≤ F) (hm : MPB w B (.pointer (some p)) R) (h : Box w F 74 (fC s (.pointer (some p)) i e s.size s.size)) (hz : s.size ≤ 1000) (hp : pl ≤ s.size) :
    Calls Tryz.prog 55 #[.pointer (some ⟨F, 0, none⟩), .int .i64 (pl : Int)] w fun en w' => ∃ i' e' : Nat, en = .returned (.agg #[.int .i64 (i' : Int), .int .i64 (e' : Int)]) ∧ NX (fdR R s.data.toList) s pl i' e' ∧ Frm No w w' := by
  have HM := Lib.hid hm
  have HB0 := Lib.hid h
  have hF := h.lt
  have HFT := Lib.hid (fdR_fits R s)
  have HFD := Lib.hid (fun (W : World) (q : Nat) (hf : Frm No w W) => find_c W B (.pointer (some p)) R s q (HM.out.frm hf (fun _ _ => id)) (by omega))
  have HEN := Lib.hid (fun (W : World) (hf : Frm No w W) => end_all W F s (.pointer (some p)) i e s.size s.size (HB0.out.frm hf id))
  clear hm h
  go_enter Tryz.func55, Tryz.ntmps55
  go_wp2
  go_loopw [1] (fun pv wr => ∃ q : Nat, pv = .int .i64 (q : Int) ∧ q ≤ s.size + 1 ∧ pl ≤ q ∧ (∀ st, rst (fdR R s.data.toList) s st pl = rst (fdR R s.data.toList) s st q) ∧ Frm No w wr ∧ Box wr w.heap.size 72 #[.int .i64 0, .int .i64 0]) (fun pv _ => s.size + 2 - (intOf pv).toNat)
  case atStart => exact ⟨pl, rfl, by omega, Nat.le_refl _, fun _ => rfl, (Frm.refl No w).alloc _, Box.new _ _ _⟩
  case round =>
    obtain ⟨q, rfl, hq, hpq, hst, hf, hbx⟩ := hrel
    have HST := Lib.hid hst
    have HF := Lib.hid hf
    have HBX := Lib.hid hbx
    have hwz := hf.size
    have HBF := HB0.out.frm hf id
    have c0 : wr.cell? ⟨F, 0, none⟩ = some (.string s) := HBF.cell 0
    have c1 : wr.cell? ⟨F, 1, none⟩ = some (.pointer (some p)) := HBF.cell 1
    clear hst hf hbx HBF
    cases hfd : fdR R s.data.toList q with
    | none =>
      have HNX := Lib.hid (show NX (fdR R s.data.toList) s pl s.size s.size from .inl ⟨rfl, rfl, fun st => by rw [HST.out, rst_none hfd]⟩)
      have HQ := Lib.hid (fun (W : World) (hf : Frm No w W) => HFD.out W q hf)
      rw [hfd] at HQ
      clear hfd
      go_wp2
      go_region_held3 (fun W => W.cell? ⟨F, 0, none⟩ = some (.string s) ∧ W.cell? ⟨F, 1, none⟩ = some (.pointer (some p))) (first | assumption | exact ⟨c0, c1⟩ | exact ⟨d0, d1⟩ | (go_keep; done)) (first | (go_at_call 72; refine (HQ.out _ (HF.out.drew)).mono ?_; rintro en w1 ⟨rfl, hf1⟩; have HF1 := Lib.hid (HF.out.drew.trans hf1); have HX1 := Lib.hid (HBX.out.drew.frm hf1 id); have x0 := HX1.out.cell 0; have x1 := HX1.out.cell 1; have y0 := HX1.out.f 0; have y1 := HX1.out.f 1; have d0 : w1.cell? ⟨F, 0, none⟩ = some (.string s) := (HB0.out.frm HF1.out id).cell 0; have d1 : w1.cell? ⟨F, 1, none⟩ = some (.pointer (some p)) := (HB0.out.frm HF1.out id).cell 1; clear hf1))
      go_wp2_with (go_at_call 54; go_must (refine (HEN.out _ HF1.out).mono ?_; rintro en w2 ⟨rfl, hf2⟩; have HF2 := Lib.hid (HF1.out.trans hf2); have HX2 := Lib.hid (HX1.out.frm hf2 id); have xx0 := HX2.out.cell 0; have xx1 := HX2.out.cell 1; have yy0 := HX2.out.f 0; have yy1 := HX2.out.f 1; clear hf2))
      obtain ⟨hBE, hFE⟩ := span_end HX2.out HF2.out (s.size : Int) (s.size : Int)
      clear x0 x1 y0 y1 xx0 xx1 yy0 yy1
      generalize (w2.setCell ⟨w.heap.size, 0, none⟩ (.int .i64 (s.size : Int))).setCell ⟨w.heap.size, 1, none⟩ (.int .i64 (s.size : Int)) = X at *
      have q0 := hBE.cell 0
      have q1 := hBE.cell 1
      exact bodyPost_ret (v := .agg #[.int .i64 (s.size : Int), .int .i64 (s.size : Int)]) (by simp [results, Tryz.results55, go_sem, q0, q1]) rfl ⟨s.size, s.size, rfl, HNX.out, hFE⟩
    | some x =>
      obtain ⟨i', e'⟩ := x
      obtain ⟨g1, g2, g3⟩ := HFT.out q i' e' hfd
      have HQ := Lib.hid (fun (W : World) (hf : Frm No w W) => HFD.out W q hf)
      rw [hfd] at HQ
      have hq0 : (0 : Int) ≤ (i' : Int) := by omega
      by_cases hne : i' < e'
      · have HNX := Lib.hid (show NX (fdR R s.data.toList) s pl i' e' from .inr ⟨hne, by omega, g3, fun st => by rw [HST.out, rst_cut HFT.out hfd hne]⟩)
        have hgt : (0 : Int) < (e' : Int) - (i' : Int) := by omega
        clear hfd
        go_wp2
        go_region_held3 (fun W => W.cell? ⟨F, 0, none⟩ = some (.string s) ∧ W.cell? ⟨F, 1, none⟩ = some (.pointer (some p))) (first | assumption | exact ⟨c0, c1⟩ | exact ⟨d0, d1⟩ | (go_keep; done)) (first | (go_at_call 72; refine (HQ.out _ (HF.out.drew)).mono ?_; rintro en w1 ⟨rfl, hf1⟩; have HF1 := Lib.hid (HF.out.drew.trans hf1); have HX1 := Lib.hid (HBX.out.drew.frm hf1 id); have x0 := HX1.out.cell 0; have x1 := HX1.out.cell 1; have y0 := HX1.out.f 0; have y1 := HX1.out.f 1; have d0 : w1.cell? ⟨F, 0, none⟩ = some (.string s) := (HB0.out.frm HF1.out id).cell 0; have d1 : w1.cell? ⟨F, 1, none⟩ = some (.pointer (some p)) := (HB0.out.frm HF1.out id).cell 1; clear hf1))
        go_wp2
        have hge : (i' : Int) + ((e' : Int) - (i' : Int)) = (e' : Int) := by omega
        rw [hge]
        obtain ⟨hBE, hFE⟩ := span_end HX1.out HF1.out (i' : Int) (e' : Int)
        clear x0 x1 y0 y1
        generalize (w1.setCell ⟨w.heap.size, 0, none⟩ (.int .i64 (i' : Int))).setCell ⟨w.heap.size, 1, none⟩ (.int .i64 (e' : Int)) = X at *
        have q0 := hBE.cell 0
        have q1 := hBE.cell 1
        exact bodyPost_ret (v := .agg #[.int .i64 (i' : Int), .int .i64 (e' : Int)]) (by simp [results, Tryz.results55, go_sem, q0, q1]) rfl ⟨i', e', rfl, HNX.out, hFE⟩
      · have HSK := Lib.hid (show ∀ st, rst (fdR R s.data.toList) s st pl = rst (fdR R s.data.toList) s st (i' + 1) from fun st => by rw [HST.out, rst_skip HFT.out hfd (by omega)])
        have hle : (e' : Int) - (i' : Int) ≤ 0 := by omega
        clear hfd
        go_wp2
        go_region_held3 (fun W => W.cell? ⟨F, 0, none⟩ = some (.string s) ∧ W.cell? ⟨F, 1, none⟩ = some (.pointer (some p))) (first | assumption | exact ⟨c0, c1⟩ | exact ⟨d0, d1⟩ | (go_keep; done)) (first | (go_at_call 72; refine (HQ.out _ (HF.out.drew)).mono ?_; rintro en w1 ⟨rfl, hf1⟩; have HF1 := Lib.hid (HF.out.drew.trans hf1); have HX1 := Lib.hid (HBX.out.drew.frm hf1 id); have x0 := HX1.out.cell 0; have x1 := HX1.out.cell 1; have y0 := HX1.out.f 0; have y1 := HX1.out.f 1; have d0 : w1.cell? ⟨F, 0, none⟩ = some (.string s) := (HB0.out.frm HF1.out id).cell 0; have d1 : w1.cell? ⟨F, 1, none⟩ = some (.pointer (some p)) := (HB0.out.frm HF1.out id).cell 1; clear hf1))
        go_wp2
        go_roundw
        case rel => exact ⟨i' + 1, by go_num, by omega, by omega, HSK.out, HF1.out, HX1.out⟩
        case measure => simp [intOf]; omega
end Go.Proofs.YtbfekknhmjndaaaGreat.flds

namespace Go.Proofs.YtbfekknhmjndaaaGreat.flds
set_option linter.unusedVariables false set_option linter.unusedSimpArgs false
open Go.ChangeShapes Go.WideShapes Go.ChangeAt Go.RowKit Go.Proofs.YtbfekknhmjndaaaGreat.base Go.Proofs.YtbfekknhmjndaaaGreat.spec Go.Proofs.YtbfekknhmjndaaaGreat.nfa Go.Proofs.YtbfekknhmjndaaaGreat.set Go.Proofs.YtbfekknhmjndaaaGreat.parts Go.Proofs.YtbfekknhmjndaaaGreat.items Go.Proofs.YtbfekknhmjndaaaGreat.part Go.Proofs.YtbfekknhmjndaaaGreat.fldp
attribute [local go_sem ↓] Go.wp_at_zero Go.wp_at_succ

set_option maxHeartbeats 2000000 in
theorem next_all (w : World) (F B : Nat) (s : ByteArray) (p : Addr) (R : Rel) (m1 m2 : Int) (pl : Nat) (hB : B ≤ F) (hm : MPB w B (.pointer (some p)) R) (h : Box w F 74 (fC s (.pointer (some p)) m1 m2 s.size s.size)) (hz : s.size ≤ 1000) (hp : pl ≤ s.size) (hlt : m1 < (pl : Int)) :
    Calls Tryz.prog 37 #[.pointer (some ⟨F, 0, none⟩), .int .i64 (pl : Int)] w fun en w' => ∃ i' e' : Nat, en = .returned (.agg #[.int .i64 (i' : Int), .int .i64 (e' : Int)]) ∧ NX (fdR R s.data.toList) s pl i' e' ∧ Frm (At F) w w' ∧ Box w' F 74 (fC s (.pointer (some p)) i' e' s.size s.size) := by
  have HB0 := Lib.hid h
  have hF := h.lt
  have HNM := Lib.hid (fun (W : World) (hf : Frm No w W) => nextMatch_all W F B s p R m1 m2 pl hB (hm.frm hf (fun _ _ => id)) (h.frm hf id) hz hp)
  have c2 : w.cell? ⟨F, 2, none⟩ = some (.int .i64 m1) := h.cell 2
  have HFR := Lib.hid ((Frm.refl No w).alloc (.cells #[.int .i64 0, .int .i64 0] 72))
  have HXR := Lib.hid (Box.new w 72 #[.int .i64 0, .int .i64 0])
  have hpz : (pl : Int) ≤ (s.size : Int) := by omega
  clear hm h
  go_enter Tryz.func37, Tryz.ntmps37
  go_upto_region 3 with (go_at_call 55; go_must (refine (HNM.out _ HFR.out).mono ?_; rintro en w1 ⟨i', e', rfl, hnx, hf1⟩; have HNX := Lib.hid hnx; have HF1 := Lib.hid (HFR.out.trans hf1); have HB1 := Lib.hid (HB0.out.frm HF1.out id); have HX1 := Lib.hid (HXR.out.frm hf1 id); have d2 := HB1.out.cell 2; have d3 := HB1.out.cell 3; have f2 := HB1.out.f 2; have f3 := HB1.out.f 3; clear hnx hf1))
  have hle1 : i' ≤ s.size := by
    rcases HNX.out with ⟨h1, h2, _⟩ | ⟨h1, h2, h3, _⟩ <;> omega
  have hne : F ≠ w.heap.size := by omega
  have HB2 := Lib.hid (show Box ((w1.setCell ⟨F, 2, none⟩ (.int .i64 (i' : Int))).setCell ⟨F, 3, none⟩ (.int .i64 (e' : Int))) F 74 (fC s (.pointer (some p)) i' e' s.size s.size) from (HB1.out.set 2 _).set 3 _)
  have HX2 := Lib.hid (show Box ((w1.setCell ⟨F, 2, none⟩ (.int .i64 (i' : Int))).setCell ⟨F, 3, none⟩ (.int .i64 (e' : Int))) w.heap.size 72 #[.int .i64 0, .int .i64 0] from (HX1.out.set_ne _ hne).set_ne _ hne)
  have HF2 := Lib.hid (show Frm (At F) w ((w1.setCell ⟨F, 2, none⟩ (.int .i64 (i' : Int))).setCell ⟨F, 3, none⟩ (.int .i64 (e' : Int))) from ((HF1.out.mono (S' := At F) (fun _ _ h => h.elim)).setCell ⟨F, 2, none⟩ _ (fun _ => rfl)).setCell ⟨F, 3, none⟩ _ (fun _ => rfl))
  generalize (w1.setCell ⟨F, 2, none⟩ (.int .i64 (i' : Int))).setCell ⟨F, 3, none⟩ (.int .i64 (e' : Int)) = X1 at HB2 HX2 HF2 ⊢
  have hleI : (i' : Int) ≤ (s.size : Int) := by omega
  have b2 := HB2.out.cell 2
  have b3 := HB2.out.cell 3
  have b4 := HB2.out.cell 4
  have x0 := HX2.out.cell 0
  have x1 := HX2.out.cell 1
  have y0 := HX2.out.f 0
  have y1 := HX2.out.f 1
  clear d2 d3 f2 f3 hle1
  go_wp2
  go_quiet (fail)
  go_wp2
  have hfd : Frm No X1 (X1.drewN nq) := (Frm.refl No X1).drewN nq
  have HB3 := HB2.out.frm hfd id
  have HX3 := HX2.out.frm hfd id
  have HF3 : Frm (At F) w (X1.drewN nq) := HF2.out.then hfd (fun _ _ h => h.elim)
  generalize X1.drewN nq = X2 at *
  have hBE : Box ((X2.setCell ⟨w.heap.size, 0, none⟩ (.int .i64 (i' : Int))).setCell ⟨w.heap.size, 1, none⟩ (.int .i64 (e' : Int))) w.heap.size 72 #[.int .i64 (i' : Int), .int .i64 (e' : Int)] := (HX3.set 0 _).set 1 _
  have hBF : Box ((X2.setCell ⟨w.heap.size, 0, none⟩ (.int .i64 (i' : Int))).setCell ⟨w.heap.size, 1, none⟩ (.int .i64 (e' : Int))) F 74 (fC s (.pointer (some p)) i' e' s.size s.size) := (HB3.set_ne _ (Ne.symm hne)).set_ne _ (Ne.symm hne)
  have hFE : Frm (At F) w ((X2.setCell ⟨w.heap.size, 0, none⟩ (.int .i64 (i' : Int))).setCell ⟨w.heap.size, 1, none⟩ (.int .i64 (e' : Int))) := (HF3.setCell _ _ (fun h => absurd h (Nat.lt_irrefl _))).setCell _ _ (fun h => absurd h (Nat.lt_irrefl _))
  clear x0 x1 y0 y1 b2 b3 b4
  generalize (X2.setCell ⟨w.heap.size, 0, none⟩ (.int .i64 (i' : Int))).setCell ⟨w.heap.size, 1, none⟩ (.int .i64 (e' : Int)) = X at *
  have q0 := hBE.cell 0
  have q1 := hBE.cell 1
  exact bodyPost_ret (v := .agg #[.int .i64 (i' : Int), .int .i64 (e' : Int)]) (by simp [results, Tryz.results37, go_sem, q0, q1]) rfl ⟨i', e', rfl, HNX.out, hFE, hBF⟩

/-- A new finder. -/
theorem newFinder_all (w : World) (s : ByteArray) (p : Addr) :
    Calls Tryz.prog 36 #[.string s, .pointer (some p), .bool false] w fun en w' => en = .returned (.agg (fC s (.pointer (some p)) (-1) (-1) s.size s.size)) ∧ Frm No w w' := by
  go_enter Tryz.func36, Tryz.ntmps36
  go_upto_region 4 with (fail)
  have HF0 := Lib.hid ((((Frm.refl No w).alloc (.cells #[.string ⟨#[]⟩, .pointer none, .int .i64 0, .int .i64 0, .int .i64 0, .int .i64 0] 74)).alloc (.cells #[.int .i64 (-1), .int .i64 (-1)] 72)).alloc (.cells (fC s (.pointer (some p)) (-1) (-1) (-1) (-1)) 74))
  have HR0 := Lib.hid (((Box.new w 74 #[.string ⟨#[]⟩, .pointer none, .int .i64 0, .int .i64 0, .int .i64 0, .int .i64 0]).alloc (.cells #[.int .i64 (-1), .int .i64 (-1)] 72)).alloc (.cells (fC s (.pointer (some p)) (-1) (-1) (-1) (-1)) 74))
  have hbn := Box.new ((w.alloc (.cells #[.string ⟨#[]⟩, .pointer none, .int .i64 0, .int .i64 0, .int .i64 0, .int .i64 0] 74)).alloc (.cells #[.int .i64 (-1), .int .i64 (-1)] 72)) 74 (fC s (.pointer (some p)) (-1) (-1) (-1) (-1))
  rw [World.size_alloc, World.size_alloc] at hbn
  have HB0 := Lib.hid hbn
  clear hbn
  generalize ((w.alloc (.cells #[.string ⟨#[]⟩, .pointer none, .int .i64 0, .int .i64 0, .int .i64 0, .int .i64 0] 74)).alloc (.cells #[.int .i64 (-1), .int .i64 (-1)] 72)).alloc (.cells (fC s (.pointer (some p)) (-1) (-1) (-1) (-1)) 74) = W3 at HF0 HR0 HB0 ⊢
  have hne : w.heap.size + 1 + 1 ≠ w.heap.size := by omega
  obtain ⟨F, hF⟩ : ∃ F, w.heap.size + 1 + 1 = F := ⟨_, rfl⟩
  rw [hF] at HB0 hne ⊢
  have hFw : ¬ F < w.heap.size := by omega
  have HEN := Lib.hid (end_all W3 F s (.pointer (some p)) (-1) (-1) (-1) (-1) HB0.out)
  clear hF
  go_upto_region 5 with (go_at_call 54; go_must (refine HEN.out.mono ?_; rintro en w1 ⟨rfl, hf1⟩; have HF1 := Lib.hid (HF0.out.trans hf1); have HB1 := Lib.hid (HB0.out.frm hf1 id); have HR1 := Lib.hid (HR0.out.frm hf1 id); have d4 := HB1.out.cell 4; have d5 := HB1.out.cell 5; have f4 := HB1.out.f 4; have f5 := HB1.out.f 5; clear hf1))
  have HB2 := Lib.hid (show Box ((w1.setCell ⟨F, 4, none⟩ (.int .i64 (s.size : Int))).setCell ⟨F, 5, none⟩ (.int .i64 (s.size : Int))) F 74 (fC s (.pointer (some p)) (-1) (-1) s.size s.size) from (HB1.out.set 4 _).set 5 _)
  have HR2 := Lib.hid ((HR1.out.set_ne (o := 4) (.int .i64 (s.size : Int)) hne).set_ne (o := 5) (.int .i64 (s.size : Int)) hne)
  have HF2 := Lib.hid ((HF1.out.setCell ⟨F, 4, none⟩ (.int .i64 (s.size : Int)) (fun h => absurd h hFw)).setCell ⟨F, 5, none⟩ (.int .i64 (s.size : Int)) (fun h => absurd h hFw))
  clear d4 d5 f4 f5
  generalize (w1.setCell ⟨F, 4, none⟩ (.int .i64 (s.size : Int))).setCell ⟨F, 5, none⟩ (.int .i64 (s.size : Int)) = X1 at HB2 HR2 HF2 ⊢
  have g0 := HB2.out.cell 0
  have g1 := HB2.out.cell 1
  have g2 := HB2.out.cell 2
  have g3 := HB2.out.cell 3
  have g4 := HB2.out.cell 4
  have g5 := HB2.out.cell 5
  have r0 := HR2.out.cell 0
  have z0 := HR2.out.f 0
  have r1 := HR2.out.cell 1
  have z1 := HR2.out.f 1
  have r2 := HR2.out.cell 2
  have z2 := HR2.out.f 2
  have r3 := HR2.out.cell 3
  have z3 := HR2.out.f 3
  have r4 := HR2.out.cell 4
  have z4 := HR2.out.f 4
  have r5 := HR2.out.cell 5
  have z5 := HR2.out.f 5
  go_wp2
  have hFE : Frm No w ((((((X1.setCell ⟨w.heap.size, 0, none⟩ (.string s)).setCell ⟨w.heap.size, 1, none⟩ (.pointer (some p))).setCell ⟨w.heap.size, 2, none⟩ (.int .i64 (-1))).setCell ⟨w.heap.size, 3, none⟩ (.int .i64 (-1))).setCell ⟨w.heap.size, 4, none⟩ (.int .i64 (s.size : Int))).setCell ⟨w.heap.size, 5, none⟩ (.int .i64 (s.size : Int))) := ((((((HF2.out.setCell ⟨w.heap.size, 0, none⟩ (.string s) (fun h => absurd h (Nat.lt_irrefl _))).setCell ⟨w.heap.size, 1, none⟩ (.pointer (some p)) (fun h => absurd h (Nat.lt_irrefl _))).setCell ⟨w.heap.size, 2, none⟩ (.int .i64 (-1)) (fun h => absurd h (Nat.lt_irrefl _))).setCell ⟨w.heap.size, 3, none⟩ (.int .i64 (-1)) (fun h => absurd h (Nat.lt_irrefl _))).setCell ⟨w.heap.size, 4, none⟩ (.int .i64 (s.size : Int)) (fun h => absurd h (Nat.lt_irrefl _))).setCell ⟨w.heap.size, 5, none⟩ (.int .i64 (s.size : Int)) (fun h => absurd h (Nat.lt_irrefl _)))
  have hBE : Box ((((((X1.setCell ⟨w.heap.size, 0, none⟩ (.string s)).setCell ⟨w.heap.size, 1, none⟩ (.pointer (some p))).setCell ⟨w.heap.size, 2, none⟩ (.int .i64 (-1))).setCell ⟨w.heap.size, 3, none⟩ (.int .i64 (-1))).setCell ⟨w.heap.size, 4, none⟩ (.int .i64 (s.size : Int))).setCell ⟨w.heap.size, 5, none⟩ (.int .i64 (s.size : Int))) w.heap.size 74 (fC s (.pointer (some p)) (-1) (-1) s.size s.size) := ((((((HR2.out.set 0 (.string s)).set 1 (.pointer (some p))).set 2 (.int .i64 (-1))).set 3 (.int .i64 (-1))).set 4 (.int .i64 (s.size : Int))).set 5 (.int .i64 (s.size : Int)))
  clear r0 z0 r1 z1 r2 z2 r3 z3 r4 z4 r5 z5 g0 g1 g2 g3 g4 g5
  generalize ((((((X1.setCell ⟨w.heap.size, 0, none⟩ (.string s)).setCell ⟨w.heap.size, 1, none⟩ (.pointer (some p))).setCell ⟨w.heap.size, 2, none⟩ (.int .i64 (-1))).setCell ⟨w.heap.size, 3, none⟩ (.int .i64 (-1))).setCell ⟨w.heap.size, 4, none⟩ (.int .i64 (s.size : Int))).setCell ⟨w.heap.size, 5, none⟩ (.int .i64 (s.size : Int))) = X at *
  have q0 := hBE.cell 0
  have q1 := hBE.cell 1
  have q2 := hBE.cell 2
  have q3 := hBE.cell 3
  have q4 := hBE.cell 4
  have q5 := hBE.cell 5
  exact bodyPost_ret (v := .agg (fC s (.pointer (some p)) (-1) (-1) s.size s.size)) (by simp [results, Tryz.results36, go_sem, q0, q1, q2, q3, q4, q5]) rfl ⟨rfl, hFE⟩
end Go.Proofs.YtbfekknhmjndaaaGreat.flds

namespace Go.Proofs.YtbfekknhmjndaaaGreat.flds
set_option linter.unusedVariables false set_option linter.unusedSimpArgs false
open Go.ChangeShapes Go.WideShapes Go.ChangeAt Go.RowKit Go.Proofs.YtbfekknhmjndaaaGreat.base Go.Proofs.YtbfekknhmjndaaaGreat.spec Go.Proofs.YtbfekknhmjndaaaGreat.nfa Go.Proofs.YtbfekknhmjndaaaGreat.set Go.Proofs.YtbfekknhmjndaaaGreat.parts Go.Proofs.YtbfekknhmjndaaaGreat.items Go.Proofs.YtbfekknhmjndaaaGreat.part Go.Proofs.YtbfekknhmjndaaaGreat.fldp

theorem fill_next (s : ByteArray) (k : Nat) (h : k < s.size) :
    ((bytesL s).take k ++ List.replicate (s.size - k) (⟨#[]⟩ : ByteArray)).set k (s.extract k (k + 1)) = (bytesL s).take (k + 1) ++ List.replicate (s.size - (k + 1)) ⟨#[]⟩ := by
  rw [bytesL_take s k h]
  obtain ⟨m, hm⟩ : ∃ m, s.size - k = m + 1 := ⟨s.size - k - 1, by omega⟩
  rw [hm, List.replicate_succ, show s.size - (k + 1) = m by omega]
  have hl : ((bytesL s).take k).length = k := by rw [List.length_take, bytesL_len]; omega
  rw [List.set_append_right _ _ (by omega), hl, Nat.sub_self, List.set_cons_zero, List.append_assoc]
  rfl

set_option maxHeartbeats 2000000 in
theorem bytesOf_all (s : ByteArray) (w : World) (hs : s.size ≤ 1000000) :
    Calls Tryz.prog 25 #[.string s] w fun e w' => ∃ v, e = .returned v ∧ OwnS w' w.heap.size v (bytesL s) ∧ Frm No w w' := by
  have hmk := run_make_row' (P := Tryz.prog) 27 9 (.string ⟨#[]⟩) 16 Tryz.underlying27 info_str rfl .i64 .i64 s.size (by omega) (by omega)
  have HMD := Lib.hid (show OwnS (w.alloc (.cells (madeCells #[.string ⟨#[]⟩] s.size) 9)) w.heap.size (.slice (some ⟨w.heap.size, 0, none⟩) s.size s.size) ((bytesL s).take 0 ++ List.replicate (s.size - 0) ⟨#[]⟩) from by
    have h1 := World.ownsRow_lit (base := w.heap.size) (e := 9) (size := 1) w (madeCells #[.string ⟨#[]⟩] s.size) s.size (Nat.le_refl _) (by unfold maxLen; omega) (by
      have := congrArg List.length (toList_madeCells_one (.string ⟨#[]⟩) s.size)
      simpa using this)
    rw [toList_madeCells_one] at h1
    unfold OwnS
    simp only [List.take_zero, List.nil_append, Nat.sub_zero, List.length_replicate, List.map_replicate]
    exact h1)
  have HF0 := Lib.hid ((Frm.refl No w).alloc (.cells (madeCells #[.string ⟨#[]⟩] s.size) 9))
  go_enter Tryz.func25, Tryz.ntmps25
  go_wp2
  go_loopw [4, 10] (fun _ iv wr => ∃ k : Nat, k ≤ s.size ∧ iv = .int .i64 k ∧ OwnS wr w.heap.size (.slice (some ⟨w.heap.size, 0, none⟩) s.size s.size) ((bytesL s).take k ++ List.replicate (s.size - k) ⟨#[]⟩) ∧ Frm No w wr) (fun _ iv _ => s.size - (intOf iv).toNat)
  case atStart => exact ⟨0, Nat.zero_le _, rfl, HMD.out, HF0.out⟩
  case round =>
    obtain ⟨k, hk, rfl, hown, hf⟩ := hrel
    have hlen : ((bytesL s).take k ++ List.replicate (s.size - k) (⟨#[]⟩ : ByteArray)).length = s.size := by rw [List.length_append, List.length_take, List.length_replicate, bytesL_len]; omega
    have HOWN := Lib.hid hown
    have HF := Lib.hid hf
    have HLN := Lib.hid hlen
    clear hown hf hlen
    by_cases hlt : k < s.size
    · have hk0 : (0 : Int) ≤ (k : Int) := by omega
      have hk1 : (k : Int) < (s.size : Int) := by omega
      have HOW := Lib.hid (show wr.ownsRow w.heap.size 9 1 (.slice (some ⟨w.heap.size, 0, none⟩) s.size s.size) s.size (((bytesL s).take k ++ List.replicate (s.size - k) (⟨#[]⟩ : ByteArray)).map Value.string) by have := HOWN.out; unfold OwnS at this; rw [HLN.out] at this; exact this)
      obtain ⟨x, hx⟩ : ∃ x, wr.cell? ⟨w.heap.size, k, none⟩ = some (.string x) := by
        have := World.ownsRow.cells HOW.out (g := w.heap.size) rfl k (.string (((bytesL s).take k ++ List.replicate (s.size - k) (⟨#[]⟩ : ByteArray))[k]'(by rw [HLN.out]; exact hlt))) (by rw [List.getElem?_map, List.getElem?_eq_getElem (by rw [HLN.out]; exact hlt)]; rfl)
        rw [Addr.add_lit, Nat.zero_add] at this
        exact ⟨_, this⟩
      have hfz := World.ownsRow.frozenAt HOW.out k
      have HN := Lib.hid (show OwnS (wr.setCell ⟨w.heap.size, k, none⟩ (.string (s.extract k (k + 1)))) w.heap.size (.slice (some ⟨w.heap.size, 0, none⟩) s.size s.size) ((bytesL s).take (k + 1) ++ List.replicate (s.size - (k + 1)) ⟨#[]⟩) from by
        have h1 := (World.ownsRow.stored HOW.out k (.string (s.extract k (k + 1)))).1
        rw [← fill_next s k hlt]
        unfold OwnS
        rw [List.length_set, List.map_set, HLN.out]
        exact h1)
      have HFN := Lib.hid (HF.out.setCell ⟨w.heap.size, k, none⟩ (.string (s.extract k (k + 1))) (fun h => absurd h (Nat.lt_irrefl _)))
      go_wp2
      go_roundw
      case rel => exact ⟨k + 1, by omega, by go_num, HN.out, HFN.out⟩
      case measure => simp [intOf]; omega
    · obtain rfl : k = s.size := by omega
      have HR := Lib.hid (show OwnS wr w.heap.size (.slice (some ⟨w.heap.size, 0, none⟩) s.size s.size) (bytesL s) by
        have := HOWN.out
        rw [Nat.sub_self, List.replicate_zero, List.append_nil, List.take_of_length_le (by rw [bytesL_len]; exact Nat.le_refl _)] at this
        exact this)
      go_wp2
      go_ret
      exact ⟨_, rfl, HR.out, HF.out⟩

/-- Two blocks whose cells are of two types. -/
theorem apart_of {w : World} {B F : Nat} {v : Value} {L : List ByteArray} {C : Array Value} {t : TypeId} (h : OwnS w B v L) (hb : Box w F t C) (ht : t ≠ 9) : v.ownBlock ≠ some F := by
  intro e
  obtain ⟨cur, hc⟩ := h.ty e
  have hb : w.heap[F]? = _ := hb
  rw [hb] at hc
  injection hc with hc
  injection hc with _ h2
  exact ht h2

/-- The fields of a text by an expression. -/
noncomputable def exprF (s sep : ByteArray) : List ByteArray := if s.size = 0 then [] else rst (fdR (relT (parse sep.data.toList).1) s.data.toList) s 0 0
/-- What byExpression and parted answer. -/
def PartP (w : World) (o : Option (List ByteArray)) (e : Ending) (w' : World) : Prop := match o with
  | none => e = .returned (.tuple #[.slice none 0 0, .bool false]) ∧ Frm No w w'
  | some L => ∃ v, e = .returned (.tuple #[v, .bool true]) ∧ OwnS w' w.heap.size v L ∧ Frm No w w'

set_option maxHeartbeats 4000000 in
set_option maxRecDepth 20000 in
theorem byExpression_all (w : World) (s sep : ByteArray) (hm : Mx w) (hs : s.size ≤ 1000) (hz : sep.size ≤ 200) :
    Calls Tryz.prog 24 #[.string s, .string sep, .bool false] w (PartP w (if (parse sep.data.toList).2 = 0 then some (exprF s sep) else none)) := by
  have HP := Lib.hid (parse_p w sep hm (by omega))
  obtain ⟨i0, hi, hz0, hz1, hz2⟩ := info_parts info_str
  by_cases hk : (parse sep.data.toList).2 = 0
  · rw [if_pos hk]
    have HKN := Lib.hid (kn_of hz hk)
    have HP2 := Lib.hid (HP.out.mono (R' := fun en w' => ∃ a cap, en = .returned (.tuple #[.agg (eC (parse sep.data.toList).1 a cap), .int .i64 0]) ∧ TK w' (parse sep.data.toList).1.kids a ∧ Frm No w w') (fun en w' h => by
      obtain ⟨a, cap, h1, h2, h3⟩ := h
      rw [hk] at h1
      exact ⟨a, cap, h1, h2, h3⟩))
    have HE := Lib.hid (show exprF s sep = if s.size = 0 then [] else rst (fdR (relT (parse sep.data.toList).1) s.data.toList) s 0 0 from rfl)
    generalize exprF s sep = EF at *
    generalize (parse sep.data.toList).1 = D at *
    have HNEW := Lib.hid (fun (W : World) (a : Option Addr) (cap : Nat) (hk : TK W D.kids a) => new_kn W D HKN.out a cap hk)
    clear HP hk hm
    by_cases h0 : s.size = 0
    · obtain rfl : s = ⟨#[]⟩ := by
        apply ByteArray.ext
        exact Array.eq_empty_of_size_eq_zero h0
      have HE2 := Lib.hid (show EF = [] by rw [HE.out]; rfl)
      rw [HE2.out]
      clear hs
      go_enter Tryz.func24, Tryz.ntmps24
      go_wp2_with (first | (go_at_call 34; go_must (refine HP2.out.mono ?_; rintro en w1 ⟨a, cap, rfl, hk, hf1⟩; have HK := Lib.hid (hk.move ((Frm.refl No w1).alloc (.cells (eC D a cap) 47))); have HF1 := Lib.hid (hf1.alloc (.cells (eC D a cap) 47)); clear hk hf1)) | (go_at_call 35; go_must (refine (HNEW.out _ a cap HK.out).mono ?_; rintro en w2 ⟨pa, rfl, hmp, hf2⟩)))
      go_ret2
      exact ⟨_, rfl, OwnS.nil _ _, HF1.out.trans hf2⟩
    · have hne : (s.toList == []) = false := by
        rw [beq_eq_false_iff_ne]
        intro e
        rw [Lib.toList_data] at e
        exact h0 (by have := congrArg List.length e; simpa using this)
      have HE2 := Lib.hid (show EF = rst (fdR (relT D) s.data.toList) s 0 0 by rw [HE.out, if_neg h0])
      have HLEN := Lib.hid (show (rst (fdR (relT D) s.data.toList) s 0 0).length ≤ s.size + 3 from by have := rest_len (fdR (relT D) s.data.toList) s (s.size + 2 - 0) 0 0; unfold rst; omega)
      rw [HE2.out]
      have HNF := Lib.hid (fun (W : World) (p : Addr) => newFinder_all W s p)
      clear h0
      go_enter Tryz.func24, Tryz.ntmps24
      go_wp2_with (first | (go_at_call 34; go_must (refine HP2.out.mono ?_; rintro en w1 ⟨a, cap, rfl, hk, hf1⟩; have HK := Lib.hid (hk.move ((Frm.refl No w1).alloc (.cells (eC D a cap) 47))); have HF1 := Lib.hid (hf1.alloc (.cells (eC D a cap) 47)); clear hk hf1)) | (go_at_call 35; go_must (refine (HNEW.out _ a cap HK.out).mono ?_; rintro en w2 ⟨pa, rfl, hmp, hf2⟩; have HMP := Lib.hid hmp; have HF2 := Lib.hid (HF1.out.trans hf2); clear hmp hf2)) | (go_at_call 36; go_must (refine (HNF.out _ pa).mono ?_; rintro en w3 ⟨rfl, hf3⟩; have HF3 := Lib.hid ((HF2.out.trans hf3).alloc (.cells (fC s (.pointer (some pa)) (-1) (-1) s.size s.size) 74)); have HMP3 := Lib.hid ((HMP.out.frm hf3 (fun _ _ => id)).frm ((Frm.refl No w3).alloc (.cells (fC s (.pointer (some pa)) (-1) (-1) s.size s.size) 74)) (fun _ _ => id)); have HB3 := Lib.hid (Box.new w3 74 (fC s (.pointer (some pa)) (-1) (-1) s.size s.size)); have hz3 := hf3.size; clear hf3)))
      have HZ3 := Lib.hid hz3
      clear hz3
      go_loopw [11, 13] (fun fv pv wr => ∃ (fr n c : Nat) (a : Option Addr) (L : List ByteArray) (m1 m2 : Int), fv = .slice a n c ∧ L.length = n ∧ pv = .int .i64 (fr : Int) ∧ fr ≤ s.size ∧ L ++ rst (fdR (relT D) s.data.toList) s fr fr = rst (fdR (relT D) s.data.toList) s 0 0 ∧ OwnS wr w2.heap.size (.slice a n c) L ∧ Frm No w wr ∧ Box wr w3.heap.size 74 (fC s (.pointer (some pa)) m1 m2 s.size s.size) ∧ m1 < (fr : Int) ∧ MPB wr w2.heap.size (.pointer (some pa)) (relT D)) (fun _ pv _ => s.size + 1 - (intOf pv).toNat)
      case atStart => exact ⟨0, 0, 0, none, [], -1, -1, rfl, rfl, rfl, Nat.zero_le _, rfl, OwnS.nil _ _, HF3.out, HB3.out, by omega, HMP3.out⟩
      case round =>
        obtain ⟨fr, n, c, a1, L, m1, m2, rfl, hln, rfl, hfr, hap, hown, hf, hbx, hm1, hmp⟩ := hrel
        have HLN := Lib.hid hln
        have HAP := Lib.hid hap
        have HOWN := Lib.hid hown
        have HF := Lib.hid hf
        have HNX := Lib.hid (next_all wr w3.heap.size w2.heap.size s pa (relT D) m1 m2 fr HZ3.out hmp hbx hs hfr hm1)
        have HAPT := Lib.hid (apart_of hown hbx (by decide))
        have HMPB := Lib.hid hmp
        have hfl := hbx.lt
        have hn4 : n ≤ 1003 := by
          have h1 := congrArg List.length hap
          have h2 := HLEN.out
          rw [List.length_append] at h1
          omega
        have hwr := hf.size
        have hfr0 : (0 : Int) ≤ (fr : Int) := by omega
        clear hln hap hown hf hbx hm1 hmp
        go_upto_region 13 with (go_at_call 37; go_must (refine HNX.out.mono ?_; rintro en w4 ⟨i', e', rfl, hnx, hf4, hb4⟩; have HN4 := Lib.hid hnx; have HF4 := Lib.hid hf4; have HB4 := Lib.hid hb4; clear hnx hf4 hb4))
        have hi1 : fr ≤ i' ∧ i' ≤ s.size := by
          rcases HN4.out with ⟨h1, h2, _⟩ | ⟨h1, h2, h3, _⟩ <;> omega
        have hw5 : w.heap.size ≤ w4.heap.size := Nat.le_trans hwr HF4.out.size
        have hw6 : w2.heap.size ≤ w4.heap.size := by have h1 := HZ3.out; have h2 := HF4.out.size; omega
        have HOW4 := Lib.hid (show w4.ownsRow w2.heap.size 9 1 (.slice a1 n c) n (L.map Value.string) by
          have h1 := HOWN.out.frm HF4.out (fun k e h => by have h : k = w3.heap.size := h; subst h; exact HAPT.out e)
          unfold OwnS at h1
          rw [HLN.out] at h1
          exact h1)
        have HF5 := Lib.hid (show Frm No w w4 from HF.out.then HF4.out (fun k hk e => by have e : k = w3.heap.size := e; have h1 := HF2.out.size; have h2 := HZ3.out; omega))
        have HMP4 := Lib.hid (HMPB.out.frm HF4.out (fun k hk e => by have e : k = w3.heap.size := e; have h2 := HZ3.out; omega))
        obtain ⟨hi1, hi2⟩ := hi1
        have hi3 : (fr : Int) ≤ (i' : Int) := by omega
        have hi4 : (i' : Int) ≤ (s.size : Int) := by omega
        have hi5 : (0 : Int) ≤ (i' : Int) := by omega
        have hsp := Box.new w4 72 #[.int .i64 (i' : Int), .int .i64 (e' : Int)]
        have HSP := Lib.hid hsp
        have b0 := hsp.cell 0
        have b1 := hsp.cell 1
        have HF45 := Lib.hid ((Frm.refl No w4).alloc (.cells #[.int .i64 (i' : Int), .int .i64 (e' : Int)] 72))
        have hq5 : w4.heap.size < (w4.alloc (.cells #[.int .i64 (i' : Int), .int .i64 (e' : Int)] 72)).heap.size := by rw [World.size_alloc]; omega
        have HOW5 := Lib.hid (World.ownsRow.alloc HOW4.out (.cells #[.int .i64 (i' : Int), .int .i64 (e' : Int)] 72))
        have HOB := Lib.hid (show ∀ k, (Value.slice a1 n c).ownBlock = some k → w2.heap.size ≤ k ∧ k < w4.heap.size from fun k e => World.ownsRow.lt HOW4.out k e)
        clear hsp
        generalize w4.alloc (.cells #[.int .i64 (i' : Int), .int .i64 (e' : Int)] 72) = W5 at HSP b0 b1 HF45 hq5 HOW5 ⊢
        go_upto_region 14 with ((refine wpList_append_lies _ rfl _ _ _ rfl w2.heap.size 9 i0 (.string ⟨#[]⟩) 1 16 Tryz.underlying27 hi hz0 hz1 hz2 rfl (by decide) (.slice a1 n c) n (L.map Value.string) rfl (World.ownsRow.alloc HOW5.out _) ⟨W5.heap.size, 0, none⟩ 1 1 [.string (s.extract fr i')] rfl rfl (World.news_of_block (heap_alloc_new W5 _)) (by simp [Value.oneCell']) (by omega) (by unfold maxLen; omega) (by omega) (by simp; omega) (W5.heap.size + 1) (by simp) ?_; intro g gcap w6 hown6 hgrow hat hlt6; have HFG := Lib.hid (show Frm (fun k => (Value.slice a1 n c).ownBlock = some k) W5 w6 from ((Frm.refl _ W5).alloc _).grown hgrow (fun k h _ => h)); have HSP6 := Lib.hid (HSP.out.frm HFG.out (fun e => by have := (HOB.out _ e).2; omega)); have e0 := HSP6.out.cell 0; have e1 := HSP6.out.cell 1; have HO6 := Lib.hid hown6; clear hown6 hgrow hat))
        have HF6 := Lib.hid (show Frm No w w6 from (HF5.out.trans HF45.out).then HFG.out (fun k hk e => by have := (HOB.out k e).1; have h3 := HF2.out.size; omega))
        have HB6 := Lib.hid ((HB4.out.frm HF45.out id).frm HFG.out (fun e => HAPT.out e))
        have HMP6 := Lib.hid ((HMP4.out.frm HF45.out (fun _ _ => id)).frm HFG.out (fun k hk e => by have h1 := (HOB.out k e).1; omega))
        have HO7 := Lib.hid (show OwnS w6 w2.heap.size (.slice (some ⟨g, 0, none⟩) (n + 1) gcap) (L ++ [s.extract fr i']) from by
          have := HO6.out
          unfold OwnS
          rw [List.length_append, HLN.out, List.map_append]
          exact this)
        rcases HN4.out with ⟨h1, h2, h3⟩ | ⟨h1, h2, h3, h4⟩
        · have HL := Lib.hid (show L ++ [s.extract fr i'] = rst (fdR (relT D) s.data.toList) s 0 0 by rw [← HAP.out, h3 fr, h1])
          have ht : ((i' : Int) == (s.size : Int)) = true := by rw [h1]; simp
          clear h1 h2 h3
          go_wp2
          go_ret2
          exact ⟨_, rfl, by rw [← HL.out]; exact OwnS.mono HO7.out HF2.out.size, HF6.out⟩
        · have HL := Lib.hid (show (L ++ [s.extract fr i']) ++ rst (fdR (relT D) s.data.toList) s e' e' = rst (fdR (relT D) s.data.toList) s 0 0 by rw [← HAP.out, h4 fr, List.append_assoc]; rfl)
          have ht : ((i' : Int) == (s.size : Int)) = false := by rw [beq_eq_false_iff_ne]; omega
          clear h4
          go_wp2
          go_roundw
          case rel => exact ⟨e', n + 1, gcap, some ⟨g, 0, none⟩, L ++ [s.extract fr i'], i', e', rfl, by rw [List.length_append, HLN.out]; rfl, rfl, h3, HL.out, HO7.out, HF6.out, HB6.out, by omega, HMP6.out⟩
          case measure => simp [intOf]; omega
  · rw [if_neg hk]
    have hk' : (((parse sep.data.toList).2 : Int) == 0) = false := by rw [beq_eq_false_iff_ne]; omega
    clear hm hk
    go_enter Tryz.func24, Tryz.ntmps24
    go_wp2_with (go_at_call 34; go_must (refine HP.out.mono ?_; rintro en w1 ⟨a, cap, rfl, hk, hf1⟩))
    go_ret2
    exact ⟨rfl, hf1.alloc _⟩

theorem str_ne0 {s : ByteArray} (h : s.size ≠ 0) : (s.toList == []) = false := by
  rw [beq_eq_false_iff_ne]
  intro e
  rw [Lib.toList_data] at e
  exact h (by have := congrArg List.length e; simpa using this)

set_option maxHeartbeats 1000000 in
theorem parted_all (w : World) (s sep : ByteArray) (hm : Mx w) (hs : s.size ≤ 1000) (hz : sep.size ≤ 200) :
    Calls Tryz.prog 16 #[.string s, .string sep, .bool false] w (PartP w (spl s sep)) := by
  by_cases h1 : 1 < sep.size
  · have HB := Lib.hid (byExpression_all w s sep hm hs hz)
    have HS := Lib.hid (show spl s sep = if (parse sep.data.toList).2 = 0 then some (exprF s sep) else none by unfold spl exprF; rw [if_pos h1])
    rw [← HS.out] at HB
    have h1' : (1 : Int) < (sep.size : Int) := by omega
    cases hsp : spl s sep with
    | none =>
      rw [hsp] at HB
      clear hm h1 HS hsp
      go_enter Tryz.func16, Tryz.ntmps16
      go_wp2_with (go_at_call 24; go_must (refine HB.out.mono ?_; rintro e w1 ⟨rfl, hf1⟩))
      go_ret2
      exact ⟨rfl, hf1⟩
    | some L =>
      rw [hsp] at HB
      clear hm h1 HS hsp
      go_enter Tryz.func16, Tryz.ntmps16
      go_wp2_with (go_at_call 24; go_must (refine HB.out.mono ?_; rintro e w1 ⟨v, rfl, ho1, hf1⟩))
      go_ret2
      exact ⟨v, rfl, ho1, hf1⟩
  · by_cases h0 : sep.size = 0
    · obtain rfl : sep = ⟨#[]⟩ := by
        apply ByteArray.ext
        exact Array.eq_empty_of_size_eq_zero h0
      by_cases hs0 : s.size = 0
      · obtain rfl : s = ⟨#[]⟩ := by
          apply ByteArray.ext
          exact Array.eq_empty_of_size_eq_zero hs0
        rw [show spl ⟨#[]⟩ ⟨#[]⟩ = some [] from rfl]
        clear hm h1 hs hz h0 hs0
        go_enter Tryz.func16, Tryz.ntmps16
        go_wp2
        go_ret2
        exact ⟨_, rfl, OwnS.nil _ _, Frm.refl _ _⟩
      · rw [show spl s ⟨#[]⟩ = some (bytesL s) by unfold spl; rw [if_neg h1, if_neg hs0]; rfl]
        have hne := str_ne0 hs0
        have HB := Lib.hid (bytesOf_all s w (by omega))
        clear hm h1 hs hz h0 hs0
        go_enter Tryz.func16, Tryz.ntmps16
        go_wp2_with (go_at_call 25; go_must (refine HB.out.mono ?_; rintro e w1 ⟨v, rfl, ho1, hf1⟩))
        go_ret2
        exact ⟨v, rfl, ho1, hf1⟩
    · have hs1 : sep.size = 1 := by omega
      obtain ⟨b, rfl⟩ : ∃ b : UInt8, sep = ⟨#[b]⟩ := by
        obtain ⟨⟨l⟩⟩ := sep
        have hl : l.length = 1 := hs1
        obtain ⟨b, rfl⟩ := List.length_eq_one_iff.1 hl
        exact ⟨b, rfl⟩
      by_cases hb : b = 32
      · subst hb
        refine (parted_blank s false w (by omega)).mono fun e w' h => ?_
        obtain ⟨v, he, ho, hbl⟩ := h
        have hsp : spl s ⟨#[32]⟩ = some (Lib.goFieldsP pB s) := by
          unfold spl
          rw [if_neg h1]
          by_cases hs0 : s.size = 0
          · rw [if_pos hs0]
            obtain rfl : s = ⟨#[]⟩ := by
              apply ByteArray.ext
              exact Array.eq_empty_of_size_eq_zero hs0
            rfl
          · rw [if_neg hs0, dif_neg h0]
            exact if_pos rfl
        rw [hsp]
        exact ⟨v, he, ho, Frm.ofBelow hbl (Nat.le_refl _)⟩
      · refine (parted_byte s b hb w (by omega)).mono fun e w' h => ?_
        obtain ⟨v, L, he, ho, hl, _, hbl⟩ := h
        have hsp : spl s ⟨#[b]⟩ = some (unl (byteF b s)) := by
          unfold spl byteF
          rw [if_neg h1]
          by_cases hs0 : s.size = 0
          · rw [if_pos hs0, if_pos hs0]
            rfl
          · rw [if_neg hs0, if_neg hs0, dif_neg h0]
            exact if_neg hb
        rw [hsp]
        refine ⟨v, he, ?_, Frm.ofBelow hbl (Nat.le_refl _)⟩
        rw [← unl_of hl]
        exact ho

/-- What New answers. -/
def NewP (w : World) (line : ByteArray) (o : Option (List ByteArray)) (e : Ending) (w' : World) : Prop := match o with
  | none => e = .returned (.tuple #[.pointer none, .bool false]) ∧ Frm No w w'
  | some L => ∃ R v, e = .returned (.tuple #[.pointer (some ⟨R, 0, none⟩), .bool true]) ∧ RecV w' w.heap.size R v line L ∧ Frm No w w'
set_option maxHeartbeats 1000000 in
theorem new_p (w : World) (line sep : ByteArray) (hm : Mx w) (hs : line.size ≤ 1000) (hz : sep.size ≤ 200) :
    Calls Tryz.prog 5 #[.string line, .string sep, .bool false] w (NewP w line (spl line sep)) := by
  have HC := Lib.hid (clone_c line w (by omega))
  have HP := Lib.hid (fun (w1 : World) (hb : Below w.heap.size w w1) => parted_all w1 line sep (hm.frm (Frm.ofBelow hb (Nat.le_refl _)) id) hs hz)
  clear hm hs hz
  cases hsp : spl line sep with
  | none =>
    rw [hsp] at HP
    clear hsp
    go_enter Tryz.func5, Tryz.ntmps5
    go_wp2_with (first | (go_at_call 15; go_must (refine HC.out.mono ?_; rintro e w1 ⟨rfl, hb1⟩; have HB1 := Lib.hid hb1; clear hb1)) | (go_at_call 16; go_must (refine (HP.out _ HB1.out).mono ?_; rintro e w2 ⟨rfl, hf2⟩)))
    go_ret2
    exact ⟨rfl, (Frm.ofBelow HB1.out (Nat.le_refl _)).trans hf2⟩
  | some L =>
    rw [hsp] at HP
    clear hsp
    go_enter Tryz.func5, Tryz.ntmps5
    go_wp2_with (first | (go_at_call 15; go_must (refine HC.out.mono ?_; rintro e w1 ⟨rfl, hb1⟩; have HB1 := Lib.hid hb1; clear hb1)) | (go_at_call 16; go_must (refine (HP.out _ HB1.out).mono ?_; rintro e w2 ⟨v, rfl, ho2, hf2⟩; obtain ⟨a, c, rfl⟩ := ho2.form; have HO2 := Lib.hid ho2; have HF2 := Lib.hid ((Frm.ofBelow HB1.out (Nat.le_refl _)).trans hf2); clear ho2 hf2)))
    go_ret2
    exact ⟨w2.heap.size, _, rfl, ⟨new_box w2 _ _, (OwnS.mono HO2.out HB1.out.size).frm (S := No) ((Frm.refl _ _).alloc _) (fun _ _ h => h), HF2.out.size⟩, HF2.out.alloc _⟩

end Go.Proofs.YtbfekknhmjndaaaGreat.flds
