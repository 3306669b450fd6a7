/- fromLeft. product, sum. atJoined. joined. -/
import Derived.Test.YtgbibfhacjjaeaaGreatSynU

namespace Go.Proofs.YtgbibfhacjjaeaaGreat.syn
set_option maxRecDepth 20000 set_option linter.unusedVariables false set_option linter.unusedSimpArgs false
open Go.ChangeShapes Go.WideShapes Go.ChangeAt Go.RowKit Go.Proofs.YtgbibfhacjjaeaaGreat.base
open Go.Proofs.YtgbibfhacjjaeaaGreat.lexs (Tok kNl kNum kStr kEre kOp kName kFunc kWord kBuilt)

theorem leftL_stop (t : Rd) (L : List B) (k : Nat) (nd : Nd) (q : PS) (h : atOp q L = false) : leftL t L k nd q = (nd, q) := by
  cases k <;> simp [leftL, h]

/-- The kids are two nodes, in a new row. -/
theorem kids2f {F : Nat → Prop} {w2 w3 : World} {n1 n2 : Nd} {a1 a2 c1 c2 : _} (hk1 : KV w2 F (.slice a1 n1.kids.len c1) n1.kids) (hk2 : KV w2 F (.slice a2 n2.kids.len c2) n2.kids) (hz : F w2.heap.size)
    (hf : Frm No (w2.alloc (.cells #[.string ⟨n1.op.toArray⟩, .string ⟨n1.tx.toArray⟩, .slice a1 n1.kids.len c1, .string ⟨n2.op.toArray⟩, .string ⟨n2.tx.toArray⟩, .slice a2 n2.kids.len c2] tN)) w3) : KV w3 F (.slice (some ⟨w2.heap.size, 0, none⟩) 2 2) (two n1 n2) :=
  KV.k2 (hk1.move (((Frm.refl No w2).alloc _).trans hf)) (hk2.move (((Frm.refl No w2).alloc _).trans hf)) w2.heap.size hz ((Box.new w2 tN _).frm hf id) 2

/-- The local node is written. -/
theorem fl_rel {w w3 : World} {R n b g c : Nat} {a : Option Addr} {L : List B} {v0 v1 v2 : Value} {q : PS} {nd : Nd} (hb : w.heap.size < b) (hR : Box w3 b tN #[v0, v1, v2]) (hK : KV w3 (fun x => w.heap.size + 1 ≤ x ∧ x ≠ b) (.slice a nd.kids.len c) nd.kids)
    (hP : PW w3 R n q) (hF : Frm (At R) w w3) (hX : Box w3 w.heap.size tN nd0) (hO : OpsR w3 g L) {X : World} (hXe : X = ((w3.setCell ⟨b, 0, none⟩ (.string ⟨nd.op.toArray⟩)).setCell ⟨b, 1, none⟩ (.string ⟨nd.tx.toArray⟩)).setCell ⟨b, 2, none⟩ (.slice a nd.kids.len c)) :
    Box X b tN #[.string ⟨nd.op.toArray⟩, .string ⟨nd.tx.toArray⟩, .slice a nd.kids.len c] ∧ KV X (fun x => w.heap.size + 1 ≤ x ∧ x ≠ b) (.slice a nd.kids.len c) nd.kids ∧ PW X R n q ∧ Frm (At R) w X ∧ Box X w.heap.size tN nd0 ∧ OpsR X g L := by
  subst hXe
  have hM := set3m (w1 := w3) (b := b) (.string ⟨nd.op.toArray⟩) (.string ⟨nd.tx.toArray⟩) (.slice a nd.kids.len c)
  refine ⟨((hR.set 0 _).set 1 _).set 2 _, hK.frm hM (fun x hx _ e => hx.2 e), hP.other hM (fun x e _ => by cases e; exact ⟨tN, _, hR, by decide, by decide⟩), hF.then hM (fun x hx e => by have e : x = b := e; omega), hX.frm hM (fun e => by have e : w.heap.size = b := e; omega), Box.frm hO hM (fun e => ?_)⟩
  have e : g = b := e
  subst e
  exact absurd (box_type hR hO) (by decide)

set_option maxHeartbeats 4000000 in
theorem fromLeft_all (n : Nat) (f : FuncId) (t : Rd) (hc : RC f n t) (ht : ∀ s, (t s).2.r.length ≤ s.r.length) (eg : ∀ args w, (callFunc f args).run Tryz.prog w = .ok (.enter f args) w) (w : World) (R : Nat) (s : PS) (h : PW w R n s) (g : Nat) (L : List B) (hg : OpsR w g L) (hL : L.length ≤ 1000) :
    Calls Tryz.prog 255 #[.pointer (some ⟨R, 0, none⟩), bnd f R, .slice (some ⟨g, 0, none⟩) L.length L.length] w (Ans w R n (fromLeft t L s)) := by
  have HH := Lib.hid h
  have HG := Lib.hid hg
  have HT0 := Lib.hid (fun W (hw : PW W R n s) => hc W R s hw)
  have HT := Lib.hid (fun W q (hw : PW W R n q) => hc W R q hw)
  have HA := Lib.hid (fun (W : World) q (hw : PW W R n q) (hg : OpsR W g L) => at_all W R n q hw g L hg hL)
  have HN := Lib.hid (fun W q (hw : PW W R n q) => next_all W R n q hw)
  have HS := Lib.hid (fun W q (hw : PW W R n q) => skipLines_all W R n q hw)
  have HD := Lib.hid (show fromLeft t L s = leftL t L (t s).2.r.length (t s).1 (t s).2 from rfl)
  have ht0 := tok_f0
  have ht1 := tok_f1
  generalize fromLeft t L s = res at *
  generalize t s = q0 at *
  obtain ⟨⟨o, u, k⟩, s0⟩ := q0
  clear h hg hc
  go_enter Tryz.func255, Tryz.ntmps255
  go_wp2_with (go_at_fn f; go_must (refine (HT0.out _ (HH.out.move (by (repeat (first | exact Frm.refl _ _ | assumption | refine Frm.alloc ?_ _ | refine Frm.drew ?_))))).mono ?_; rintro e w1 ⟨a, c, rfl, hk1, hp1, hf1⟩; have HP1 := Lib.hid hp1; have HX1 := Lib.hid (show Box w1 w.heap.size tN nd0 from Box.at (Box.new w tN nd0) (HH.out.move (by (repeat (first | exact Frm.refl _ _ | assumption | refine Frm.alloc ?_ _ | refine Frm.drew ?_)))) hf1 (by decide)); have HF1 := Lib.hid (Frm.trans (show Frm (At R) w _ by (repeat (first | exact Frm.refl _ _ | assumption | refine Frm.alloc ?_ _ | refine Frm.drew ?_))) hf1); have HK1 := Lib.hid (hk1.mono (F' := fun x => w.heap.size + 1 ≤ x ∧ x ≠ w1.heap.size) (fun g hg hl => ⟨by simpa using hg, by omega⟩)); have HL1 := Lib.hid (Box.new w1 tN #[.string ⟨o.toArray⟩, .string ⟨u.toArray⟩, .slice a k.len c]); have HWB := Lib.hid (Box.lt HX1.out); have HG1 := Lib.hid (show OpsR w1 g L from Box.at (Box.alloc HG.out _) (HH.out.move (by (repeat (first | exact Frm.refl _ _ | assumption | refine Frm.alloc ?_ _ | refine Frm.drew ?_)))) hf1 (by decide)); clear hk1 hp1 hf1))
  go_loopg [] s0.r.length (fun gf wx => ∃ (nd : Nd) (q : PS) (a : Option Addr) (c : Nat), Box wx w1.heap.size tN #[.string ⟨nd.op.toArray⟩, .string ⟨nd.tx.toArray⟩, .slice a nd.kids.len c] ∧ KV wx (fun x => w.heap.size + 1 ≤ x ∧ x ≠ w1.heap.size) (.slice a nd.kids.len c) nd.kids ∧ PW wx R n q ∧ Frm (At R) w wx ∧ Box wx w.heap.size tN nd0 ∧ OpsR wx g L ∧ leftL t L gf nd q = res ∧ q.r.length ≤ gf)
  case atStart =>
    exact ⟨⟨o, u, k⟩, s0, a, c, HL1.out, HK1.out.move (by (repeat (first | exact Frm.refl _ _ | assumption | refine Frm.alloc ?_ _ | refine Frm.drew ?_))), HP1.out.move (by (repeat (first | exact Frm.refl _ _ | assumption | refine Frm.alloc ?_ _ | refine Frm.drew ?_))), HF1.out.alloc _, Box.alloc HX1.out _, Box.alloc HG1.out _, HD.out.symm, Nat.le_refl _⟩
  case round =>
    obtain ⟨nd, q, a2, c2, hb, hk, hp, hf, hx, ho, hl, hq⟩ := hrel
    have HR := Lib.hid hb
    have HK := Lib.hid hk
    have HP := Lib.hid hp
    have HF := Lib.hid hf
    have HX := Lib.hid hx
    have HO := Lib.hid ho
    have HL := Lib.hid hl
    have HQ := Lib.hid hq
    have HAQ := Lib.hid (HA.out wr q hp ho)
    have b0 := Box.cell hb 0
    have b1 := Box.cell hb 1
    have b2 := Box.cell hb 2
    have hbl := Box.lt hb
    obtain ⟨no, nt, nk⟩ := nd
    simp only at b0 b1 b2 HR HK
    clear hb hk hp hf hx ho hl hq HX1 HF1 HK1 HL1 HG1 HD HT0 HH HA
    cases hc : atOp q L
    · rw [hc] at HAQ
      have hls := HL.out
      rw [leftL_stop t L _ _ q hc] at hls
      subst hls
      clear hc HL HT HN HS
      go_wp2_with (go_at_call 143; go_must (refine (HAQ.out).mono ?_; rintro e w3 ⟨rfl, hf3⟩; have HP3 := Lib.hid (HP.out.move hf3); have HK3 := Lib.hid ((KV.move HK.out hf3).mono (F' := fun x => w.heap.size + 1 ≤ x) (fun x hx _ => hx.1)); have HR3 := Lib.hid (Box.frm HR.out hf3 id); have HX3 := Lib.hid (show Box w3 w.heap.size tN nd0 from Box.frm HX.out hf3 id); have HF3 := Lib.hid (HF.out.trans (hf3.mono (S' := At R) (fun _ _ e => e.elim))); have l0 := Box.cell HR3.out 0; have l1 := Box.cell HR3.out 1; have l2 := Box.cell HR3.out 2; have hll := Box.lt HR3.out; have x0 := Box.cell HX3.out 0; have x1 := Box.cell HX3.out 1; have x2 := Box.cell HX3.out 2; have y0 := Box.f HX3.out 0; have y1 := Box.f HX3.out 1; have y2 := Box.f HX3.out 2; clear hf3))
      (have hB := (set3 HX3.out HF3.out (Nat.le_refl _) (.string ⟨no.toArray⟩) (.string ⟨nt.toArray⟩) (.slice a2 nk.len c2)).1; have hM := set3m (w1 := w3) (b := w.heap.size) (.string ⟨no.toArray⟩) (.string ⟨nt.toArray⟩) (.slice a2 nk.len c2); clear x0 x1 x2 y0 y1 y2; generalize ((w3.setCell ⟨w.heap.size, 0, none⟩ (.string ⟨no.toArray⟩)).setCell ⟨w.heap.size, 1, none⟩ (.string ⟨nt.toArray⟩)).setCell ⟨w.heap.size, 2, none⟩ (.slice a2 nk.len c2) = X at *; have g0 := hB.cell 0; have g1 := hB.cell 1; have g2 := hB.cell 2; refine bodyPost_ret (v := .agg #[.string ⟨no.toArray⟩, .string ⟨nt.toArray⟩, (.slice a2 nk.len c2)]) (by simp [results, Tryz.results255, go_sem, g0, g1, g2]) rfl ?_; exact ans_end (q := (⟨no, nt, nk⟩, q)) HX3.out hM HK3.out HP3.out HF3.out)
    · rw [hc] at HAQ
      have hne : q.r ≠ [] := by
        intro e
        unfold atOp peek at hc
        rw [e] at hc
        revert hc
        simp [List.headD, lexs.kOp, tok0]
      obtain ⟨gf, rfl⟩ : ∃ m, gk = m + 1 := by
        cases gk with
        | zero => exact absurd (List.eq_nil_of_length_eq_zero (by have := HQ.out; omega)) hne
        | succ m => exact ⟨m, rfl⟩
      have hls := HL.out
      rw [show leftL t L (gf + 1) ⟨no, nt, nk⟩ q = leftL t L gf (bin (peek q).t ⟨no, nt, nk⟩ (t (lineS (peek q).t (nextS q))).1) (t (lineS (peek q).t (nextS q))).2 from by rw [leftL, if_pos hc]] at hls
      have hlen : (t (lineS (peek q).t (nextS q))).2.r.length ≤ gf := by
        have e1 := ht (lineS (peek q).t (nextS q))
        have e2 : (lineS (peek q).t (nextS q)).r.length ≤ (nextS q).r.length := by unfold lineS; split; exact (skipLines_le _).1; exact Nat.le_refl _
        have e3 : (nextS q).r.length = q.r.length - 1 := by unfold nextS; simp
        have e4 := List.length_pos_iff.2 hne
        have := HQ.out
        omega
      have HNQ := Lib.hid (fun W (hw : PW W R n q) => HN.out W q hw)
      have HSQ := Lib.hid (fun W (hw : PW W R n (nextS q)) => HS.out W _ hw)
      have HTQ := Lib.hid (fun W (hw : PW W R n (lineS (peek q).t (nextS q))) => HT.out W _ hw)
      clear hc HL HN HS HT hne
      have HLS := Lib.hid hls
      have HLEN := Lib.hid hlen
      clear hls hlen
      generalize hpk : peek q = T at *
      obtain ⟨tk, tt⟩ := T
      simp only at HTQ HLS HLEN
      clear hpk
      by_cases hline : tt = o_andand ∨ tt = o_oror
      · rw [show lineS tt (nextS q) = skipLines (nextS q) from by unfold lineS; rw [if_pos hline]] at HTQ HLS HLEN
        unfold o_andand o_oror at hline
        rcases hline with rfl | rfl
        · generalize t (skipLines (nextS q)) = q1 at *
          obtain ⟨⟨o2, u2, k2⟩, s1⟩ := q1
          simp only at HLS HLEN
          go_wp2_with (first | (go_at_call 143; go_must (refine (HAQ.out).mono ?_; rintro e w3 ⟨rfl, hf3⟩; have HP3 := Lib.hid (HP.out.move hf3); have HF3 := Lib.hid hf3; clear hf3)) | (go_at_call 107; go_must (refine (HNQ.out _ HP3.out).mono ?_; rintro e w6 ⟨rfl, hp4, hf4⟩; have HP6 := Lib.hid hp4; have HF6 := Lib.hid ((HF3.out.mono (S' := At R) (fun _ _ e => e.elim)).trans hf4); clear hp4 hf4)) | (go_at_call 151; go_must (refine (HSQ.out _ HP6.out).mono ?_; rintro e w4 ⟨rfl, hp4, hf4⟩; have HP4 := Lib.hid hp4; have HF4 := Lib.hid (HF6.out.trans hf4); have HR4 := Lib.hid (Box.at HR.out HP.out HF4.out (by decide)); have HK4 := Lib.hid (HK.out.at HP.out HF4.out); have HX4 := Lib.hid (show Box w4 w.heap.size tN nd0 from Box.at HX.out HP.out HF4.out (by decide)); have HO4 := Lib.hid (show OpsR w4 g L from Box.at HO.out HP.out HF4.out (by decide)); have l0 := Box.cell HR4.out 0; have l1 := Box.cell HR4.out 1; have l2 := Box.cell HR4.out 2; have hll := Box.lt HR4.out; clear hp4 hf4)))
          go_region_with (first | (go_at_fn f; go_must (refine (HTQ.out _ (HP4.out.move (by (repeat (first | exact Frm.refl _ _ | assumption | refine Frm.alloc ?_ _ | refine Frm.drew ?_))))).mono ?_; rintro e w2 ⟨a5, c5, rfl, hk2, hp2, hf2⟩; have HP2 := Lib.hid hp2; have hf42 := (Frm.trans (show Frm (At R) w4 _ by (repeat (first | exact Frm.refl _ _ | assumption | refine Frm.alloc ?_ _ | refine Frm.drew ?_))) hf2); have HF2 := Lib.hid hf42; have HK2 := Lib.hid (KV.at HK4.out HP4.out hf42); have HR2 := Lib.hid (Box.at HR4.out HP4.out hf42 (by decide)); have HX2 := Lib.hid (show Box w2 w.heap.size tN nd0 from Box.at HX4.out HP4.out hf42 (by decide)); have HO2 := Lib.hid (show OpsR w2 g L from Box.at HO4.out HP4.out hf42 (by decide)); have HK22 := Lib.hid (hk2.mono (F' := fun x => w.heap.size + 1 ≤ x ∧ x ≠ w1.heap.size) (fun x hx _ => by have e1 := Box.lt HR4.out; have e2 := Box.lt HX4.out; (try simp only [World.size_alloc, World.size_drew] at hx); constructor <;> omega)); have m0 := Box.cell HR2.out 0; have m1 := Box.cell HR2.out 1; have m2 := Box.cell HR2.out 2; have hll2 := Box.lt HR2.out; clear hp2 hf2 hk2 hf42)) | (go_at_call 110; go_must (refine (node_all _ _ _ _ _ _).mono ?_; rintro e w3' ⟨rfl, hf3⟩; have hf23 : Frm No w2 w3' := Frm.trans (by (repeat (first | exact Frm.refl _ _ | assumption | refine Frm.alloc ?_ _ | refine Frm.drew ?_))) hf3; have HK5 := Lib.hid (kids2f (n1 := ⟨no, nt, nk⟩) (n2 := ⟨o2, u2, k2⟩) HK2.out HK22.out (by have e1 := Box.lt HR2.out; have e2 := Box.lt HX2.out; constructor <;> omega) hf3); have HP5 := Lib.hid (HP2.out.move hf23); have HR5 := Lib.hid (Box.frm HR2.out hf23 id); have HX5 := Lib.hid (show Box w3' w.heap.size tN nd0 from Box.frm HX2.out hf23 id); have HO5 := Lib.hid (show OpsR w3' g L from Box.frm HO2.out hf23 id); have HF5 := Lib.hid (((HF.out.trans HF4.out).trans HF2.out).trans (hf23.mono (S' := At R) (fun _ _ e => e.elim))); have x0 := Box.cell HR5.out 0; have x1 := Box.cell HR5.out 1; have x2 := Box.cell HR5.out 2; have y0 := Box.f HR5.out 0; have y1 := Box.f HR5.out 1; have y2 := Box.f HR5.out 2; have hll5 := Box.lt HR5.out; clear hf3 hf23)))
          all_goals (go_wp2_with fail)
          all_goals
            go_roundg gf
            case measure => omega
            case rel =>
              obtain ⟨r1, r2, r3, r4, r5, r6⟩ := fl_rel (nd := bin [38, 38] ⟨no, nt, nk⟩ ⟨o2, u2, k2⟩) HWB.out HR5.out HK5.out HP5.out HF5.out HX5.out HO5.out rfl
              exact ⟨bin [38, 38] ⟨no, nt, nk⟩ ⟨o2, u2, k2⟩, s1, _, _, r1, r2, r3, r4, r5, r6, HLS.out, HLEN.out⟩
        · generalize t (skipLines (nextS q)) = q1 at *
          obtain ⟨⟨o2, u2, k2⟩, s1⟩ := q1
          simp only at HLS HLEN
          go_wp2_with (first | (go_at_call 143; go_must (refine (HAQ.out).mono ?_; rintro e w3 ⟨rfl, hf3⟩; have HP3 := Lib.hid (HP.out.move hf3); have HF3 := Lib.hid hf3; clear hf3)) | (go_at_call 107; go_must (refine (HNQ.out _ HP3.out).mono ?_; rintro e w6 ⟨rfl, hp4, hf4⟩; have HP6 := Lib.hid hp4; have HF6 := Lib.hid ((HF3.out.mono (S' := At R) (fun _ _ e => e.elim)).trans hf4); clear hp4 hf4)) | (go_at_call 151; go_must (refine (HSQ.out _ HP6.out).mono ?_; rintro e w4 ⟨rfl, hp4, hf4⟩; have HP4 := Lib.hid hp4; have HF4 := Lib.hid (HF6.out.trans hf4); have HR4 := Lib.hid (Box.at HR.out HP.out HF4.out (by decide)); have HK4 := Lib.hid (HK.out.at HP.out HF4.out); have HX4 := Lib.hid (show Box w4 w.heap.size tN nd0 from Box.at HX.out HP.out HF4.out (by decide)); have HO4 := Lib.hid (show OpsR w4 g L from Box.at HO.out HP.out HF4.out (by decide)); have l0 := Box.cell HR4.out 0; have l1 := Box.cell HR4.out 1; have l2 := Box.cell HR4.out 2; have hll := Box.lt HR4.out; clear hp4 hf4)))
          go_region_with (first | (go_at_fn f; go_must (refine (HTQ.out _ (HP4.out.move (by (repeat (first | exact Frm.refl _ _ | assumption | refine Frm.alloc ?_ _ | refine Frm.drew ?_))))).mono ?_; rintro e w2 ⟨a5, c5, rfl, hk2, hp2, hf2⟩; have HP2 := Lib.hid hp2; have hf42 := (Frm.trans (show Frm (At R) w4 _ by (repeat (first | exact Frm.refl _ _ | assumption | refine Frm.alloc ?_ _ | refine Frm.drew ?_))) hf2); have HF2 := Lib.hid hf42; have HK2 := Lib.hid (KV.at HK4.out HP4.out hf42); have HR2 := Lib.hid (Box.at HR4.out HP4.out hf42 (by decide)); have HX2 := Lib.hid (show Box w2 w.heap.size tN nd0 from Box.at HX4.out HP4.out hf42 (by decide)); have HO2 := Lib.hid (show OpsR w2 g L from Box.at HO4.out HP4.out hf42 (by decide)); have HK22 := Lib.hid (hk2.mono (F' := fun x => w.heap.size + 1 ≤ x ∧ x ≠ w1.heap.size) (fun x hx _ => by have e1 := Box.lt HR4.out; have e2 := Box.lt HX4.out; (try simp only [World.size_alloc, World.size_drew] at hx); constructor <;> omega)); have m0 := Box.cell HR2.out 0; have m1 := Box.cell HR2.out 1; have m2 := Box.cell HR2.out 2; have hll2 := Box.lt HR2.out; clear hp2 hf2 hk2 hf42)) | (go_at_call 110; go_must (refine (node_all _ _ _ _ _ _).mono ?_; rintro e w3' ⟨rfl, hf3⟩; have hf23 : Frm No w2 w3' := Frm.trans (by (repeat (first | exact Frm.refl _ _ | assumption | refine Frm.alloc ?_ _ | refine Frm.drew ?_))) hf3; have HK5 := Lib.hid (kids2f (n1 := ⟨no, nt, nk⟩) (n2 := ⟨o2, u2, k2⟩) HK2.out HK22.out (by have e1 := Box.lt HR2.out; have e2 := Box.lt HX2.out; constructor <;> omega) hf3); have HP5 := Lib.hid (HP2.out.move hf23); have HR5 := Lib.hid (Box.frm HR2.out hf23 id); have HX5 := Lib.hid (show Box w3' w.heap.size tN nd0 from Box.frm HX2.out hf23 id); have HO5 := Lib.hid (show OpsR w3' g L from Box.frm HO2.out hf23 id); have HF5 := Lib.hid (((HF.out.trans HF4.out).trans HF2.out).trans (hf23.mono (S' := At R) (fun _ _ e => e.elim))); have x0 := Box.cell HR5.out 0; have x1 := Box.cell HR5.out 1; have x2 := Box.cell HR5.out 2; have y0 := Box.f HR5.out 0; have y1 := Box.f HR5.out 1; have y2 := Box.f HR5.out 2; have hll5 := Box.lt HR5.out; clear hf3 hf23)))
          all_goals (go_wp2_with fail)
          all_goals
            go_roundg gf
            case measure => omega
            case rel =>
              obtain ⟨r1, r2, r3, r4, r5, r6⟩ := fl_rel (nd := bin [124, 124] ⟨no, nt, nk⟩ ⟨o2, u2, k2⟩) HWB.out HR5.out HK5.out HP5.out HF5.out HX5.out HO5.out rfl
              exact ⟨bin [124, 124] ⟨no, nt, nk⟩ ⟨o2, u2, k2⟩, s1, _, _, r1, r2, r3, r4, r5, r6, HLS.out, HLEN.out⟩
      · have h1 : (tt == [38, 38]) = false := by rw [beq_eq_false_iff_ne]; exact fun e => hline (.inl e)
        have h2 : (tt == [124, 124]) = false := by rw [beq_eq_false_iff_ne]; exact fun e => hline (.inr e)
        rw [show lineS tt (nextS q) = nextS q from by unfold lineS; rw [if_neg hline]] at HTQ HLS HLEN
        clear hline
        generalize t (nextS q) = q1 at *
        obtain ⟨⟨o2, u2, k2⟩, s1⟩ := q1
        simp only at HLS HLEN
        go_wp2_with (first | (go_at_call 143; go_must (refine (HAQ.out).mono ?_; rintro e w3 ⟨rfl, hf3⟩; have HP3 := Lib.hid (HP.out.move hf3); have HF3 := Lib.hid hf3; clear hf3)) | (go_at_call 107; go_must (refine (HNQ.out _ HP3.out).mono ?_; rintro e w4 ⟨rfl, hp4, hf4⟩; have HP4 := Lib.hid hp4; have HF4 := Lib.hid ((HF3.out.mono (S' := At R) (fun _ _ e => e.elim)).trans hf4); have HR4 := Lib.hid (Box.at HR.out HP.out HF4.out (by decide)); have HK4 := Lib.hid (HK.out.at HP.out HF4.out); have HX4 := Lib.hid (show Box w4 w.heap.size tN nd0 from Box.at HX.out HP.out HF4.out (by decide)); have HO4 := Lib.hid (show OpsR w4 g L from Box.at HO.out HP.out HF4.out (by decide)); have l0 := Box.cell HR4.out 0; have l1 := Box.cell HR4.out 1; have l2 := Box.cell HR4.out 2; have hll := Box.lt HR4.out; clear hp4 hf4)))
        go_region_with (first | (go_at_fn f; go_must (refine (HTQ.out _ (HP4.out.move (by (repeat (first | exact Frm.refl _ _ | assumption | refine Frm.alloc ?_ _ | refine Frm.drew ?_))))).mono ?_; rintro e w2 ⟨a5, c5, rfl, hk2, hp2, hf2⟩; have HP2 := Lib.hid hp2; have hf42 := (Frm.trans (show Frm (At R) w4 _ by (repeat (first | exact Frm.refl _ _ | assumption | refine Frm.alloc ?_ _ | refine Frm.drew ?_))) hf2); have HF2 := Lib.hid hf42; have HK2 := Lib.hid (KV.at HK4.out HP4.out hf42); have HR2 := Lib.hid (Box.at HR4.out HP4.out hf42 (by decide)); have HX2 := Lib.hid (show Box w2 w.heap.size tN nd0 from Box.at HX4.out HP4.out hf42 (by decide)); have HO2 := Lib.hid (show OpsR w2 g L from Box.at HO4.out HP4.out hf42 (by decide)); have HK22 := Lib.hid (hk2.mono (F' := fun x => w.heap.size + 1 ≤ x ∧ x ≠ w1.heap.size) (fun x hx _ => by have e1 := Box.lt HR4.out; have e2 := Box.lt HX4.out; (try simp only [World.size_alloc, World.size_drew] at hx); constructor <;> omega)); have m0 := Box.cell HR2.out 0; have m1 := Box.cell HR2.out 1; have m2 := Box.cell HR2.out 2; have hll2 := Box.lt HR2.out; clear hp2 hf2 hk2 hf42)) | (go_at_call 110; go_must (refine (node_all _ _ _ _ _ _).mono ?_; rintro e w3' ⟨rfl, hf3⟩; have hf23 : Frm No w2 w3' := Frm.trans (by (repeat (first | exact Frm.refl _ _ | assumption | refine Frm.alloc ?_ _ | refine Frm.drew ?_))) hf3; have HK5 := Lib.hid (kids2f (n1 := ⟨no, nt, nk⟩) (n2 := ⟨o2, u2, k2⟩) HK2.out HK22.out (by have e1 := Box.lt HR2.out; have e2 := Box.lt HX2.out; constructor <;> omega) hf3); have HP5 := Lib.hid (HP2.out.move hf23); have HR5 := Lib.hid (Box.frm HR2.out hf23 id); have HX5 := Lib.hid (show Box w3' w.heap.size tN nd0 from Box.frm HX2.out hf23 id); have HO5 := Lib.hid (show OpsR w3' g L from Box.frm HO2.out hf23 id); have HF5 := Lib.hid (((HF.out.trans HF4.out).trans HF2.out).trans (hf23.mono (S' := At R) (fun _ _ e => e.elim))); have x0 := Box.cell HR5.out 0; have x1 := Box.cell HR5.out 1; have x2 := Box.cell HR5.out 2; have y0 := Box.f HR5.out 0; have y1 := Box.f HR5.out 1; have y2 := Box.f HR5.out 2; have hll5 := Box.lt HR5.out; clear hf3 hf23)))
        all_goals (go_wp2_with fail)
        all_goals
          go_roundg gf
          case measure => omega
          case rel =>
            obtain ⟨r1, r2, r3, r4, r5, r6⟩ := fl_rel (nd := bin tt ⟨no, nt, nk⟩ ⟨o2, u2, k2⟩) HWB.out HR5.out HK5.out HP5.out HF5.out HX5.out HO5.out rfl
            exact ⟨bin tt ⟨no, nt, nk⟩ ⟨o2, u2, k2⟩, s1, _, _, r1, r2, r3, r4, r5, r6, HLS.out, HLEN.out⟩
end Go.Proofs.YtgbibfhacjjaeaaGreat.syn

namespace Go.Proofs.YtgbibfhacjjaeaaGreat.syn
set_option maxRecDepth 20000 set_option linter.unusedVariables false set_option linter.unusedSimpArgs false
open Go.ChangeShapes Go.WideShapes Go.ChangeAt Go.RowKit Go.Proofs.YtgbibfhacjjaeaaGreat.base
open Go.Proofs.YtgbibfhacjjaeaaGreat.lexs (Tok kNl kNum kStr kEre kOp kName kFunc kWord kBuilt)

set_option maxHeartbeats 1000000 in
theorem product_all (n : Nat) (I : Inn) (hI : InC n I) : RC 277 n (product I) := by
  intro w R s h
  have HH := Lib.hid h
  have HC := Lib.hid (fun W (hw : PW W R n s) (g : Nat) (hg : OpsR W g opsProduct) => fromLeft_all n 280 (signed I) (signed_all n I hI) (fun q => (signed_lt hI.lt q).1.1) (enters_of Tryz.func280 (by kernel_rfl) rfl) W R s hw g opsProduct hg (by decide))
  unfold product
  generalize fromLeft (signed I) opsProduct s = q at *
  obtain ⟨⟨o, u, k⟩, s1⟩ := q
  clear h hI
  go_enter Tryz.func277, Tryz.ntmps277
  go_wp2_with (go_at_call 255; go_must (refine (HC.out _ (HH.out.move (by (repeat (first | exact Frm.refl _ _ | assumption | refine Frm.alloc ?_ _ | refine Frm.drew ?_)))) _ (OpsR.new _ _ _ _ rfl)).mono ?_; rintro e w3 ⟨a3, c3, rfl, hk3, hp3, hf3⟩; have HX3 := Lib.hid (show Box w3 w.heap.size tN nd0 from Box.at ((Box.new w tN nd0).alloc _) (HH.out.move (by (repeat (first | exact Frm.refl _ _ | assumption | refine Frm.alloc ?_ _ | refine Frm.drew ?_)))) hf3 (by decide)); have HK3 := Lib.hid (hk3.mono (F' := fun g => w.heap.size + 1 ≤ g) (fun g hg _ => by (try simp only [World.size_alloc, World.size_drew] at hg); omega)); have HP3 := Lib.hid hp3; have HF3 := Lib.hid (Frm.trans (show Frm (At R) w _ by (repeat (first | exact Frm.refl _ _ | assumption | refine Frm.alloc ?_ _ | refine Frm.drew ?_))) hf3); have x0 := Box.cell HX3.out 0; have x1 := Box.cell HX3.out 1; have x2 := Box.cell HX3.out 2; have y0 := Box.f HX3.out 0; have y1 := Box.f HX3.out 1; have y2 := Box.f HX3.out 2; clear hp3 hf3 hk3))
  (have hB := (set3 HX3.out HF3.out (Nat.le_refl _) (.string ⟨o.toArray⟩) (.string ⟨u.toArray⟩) (.slice a3 k.len c3)).1; have hM := set3m (w1 := w3) (b := w.heap.size) (.string ⟨o.toArray⟩) (.string ⟨u.toArray⟩) (.slice a3 k.len c3); clear x0 x1 x2 y0 y1 y2; generalize ((w3.setCell ⟨w.heap.size, 0, none⟩ (.string ⟨o.toArray⟩)).setCell ⟨w.heap.size, 1, none⟩ (.string ⟨u.toArray⟩)).setCell ⟨w.heap.size, 2, none⟩ (.slice a3 k.len c3) = X at *; have g0 := hB.cell 0; have g1 := hB.cell 1; have g2 := hB.cell 2; refine bodyPost_ret (v := .agg #[.string ⟨o.toArray⟩, .string ⟨u.toArray⟩, (.slice a3 k.len c3)]) (by simp [results, Tryz.results277, go_sem, g0, g1, g2]) rfl ?_; exact ans_end (q := (⟨o, u, k⟩, s1)) HX3.out hM HK3.out HP3.out HF3.out)

set_option maxHeartbeats 1000000 in
theorem sum_all (n : Nat) (I : Inn) (hI : InC n I) : RC 273 n (sum I) := by
  intro w R s h
  have HH := Lib.hid h
  have HC := Lib.hid (fun W (hw : PW W R n s) (g : Nat) (hg : OpsR W g opsSum) => fromLeft_all n 277 (product I) (product_all n I hI) (fun q => (product_lt hI.lt q).1.1) (enters_of Tryz.func277 (by kernel_rfl) rfl) W R s hw g opsSum hg (by decide))
  unfold sum
  generalize fromLeft (product I) opsSum s = q at *
  obtain ⟨⟨o, u, k⟩, s1⟩ := q
  clear h hI
  go_enter Tryz.func273, Tryz.ntmps273
  go_wp2_with (go_at_call 255; go_must (refine (HC.out _ (HH.out.move (by (repeat (first | exact Frm.refl _ _ | assumption | refine Frm.alloc ?_ _ | refine Frm.drew ?_)))) _ (OpsR.new _ _ _ _ rfl)).mono ?_; rintro e w3 ⟨a3, c3, rfl, hk3, hp3, hf3⟩; have HX3 := Lib.hid (show Box w3 w.heap.size tN nd0 from Box.at ((Box.new w tN nd0).alloc _) (HH.out.move (by (repeat (first | exact Frm.refl _ _ | assumption | refine Frm.alloc ?_ _ | refine Frm.drew ?_)))) hf3 (by decide)); have HK3 := Lib.hid (hk3.mono (F' := fun g => w.heap.size + 1 ≤ g) (fun g hg _ => by (try simp only [World.size_alloc, World.size_drew] at hg); omega)); have HP3 := Lib.hid hp3; have HF3 := Lib.hid (Frm.trans (show Frm (At R) w _ by (repeat (first | exact Frm.refl _ _ | assumption | refine Frm.alloc ?_ _ | refine Frm.drew ?_))) hf3); have x0 := Box.cell HX3.out 0; have x1 := Box.cell HX3.out 1; have x2 := Box.cell HX3.out 2; have y0 := Box.f HX3.out 0; have y1 := Box.f HX3.out 1; have y2 := Box.f HX3.out 2; clear hp3 hf3 hk3))
  (have hB := (set3 HX3.out HF3.out (Nat.le_refl _) (.string ⟨o.toArray⟩) (.string ⟨u.toArray⟩) (.slice a3 k.len c3)).1; have hM := set3m (w1 := w3) (b := w.heap.size) (.string ⟨o.toArray⟩) (.string ⟨u.toArray⟩) (.slice a3 k.len c3); clear x0 x1 x2 y0 y1 y2; generalize ((w3.setCell ⟨w.heap.size, 0, none⟩ (.string ⟨o.toArray⟩)).setCell ⟨w.heap.size, 1, none⟩ (.string ⟨u.toArray⟩)).setCell ⟨w.heap.size, 2, none⟩ (.slice a3 k.len c3) = X at *; have g0 := hB.cell 0; have g1 := hB.cell 1; have g2 := hB.cell 2; refine bodyPost_ret (v := .agg #[.string ⟨o.toArray⟩, .string ⟨u.toArray⟩, (.slice a3 k.len c3)]) (by simp [results, Tryz.results273, go_sem, g0, g1, g2]) rfl ?_; exact ans_end (q := (⟨o, u, k⟩, s1)) HX3.out hM HK3.out HP3.out HF3.out)
end Go.Proofs.YtgbibfhacjjaeaaGreat.syn

namespace Go.Proofs.YtgbibfhacjjaeaaGreat.syn
set_option maxRecDepth 20000 set_option linter.unusedVariables false set_option linter.unusedSimpArgs false
open Go.ChangeShapes Go.WideShapes Go.ChangeAt Go.RowKit Go.Proofs.YtgbibfhacjjaeaaGreat.base
open Go.Proofs.YtgbibfhacjjaeaaGreat.lexs (Tok kNl kNum kStr kEre kOp kName kFunc kWord kBuilt)

set_option maxHeartbeats 2000000 in
theorem atJoined_all (w : World) (R n : Nat) (s : PS) (h : PW w R n s) :
    Calls Tryz.prog 274 #[.pointer (some ⟨R, 0, none⟩)] w fun e w' => e = .returned (.bool (atJoined s)) ∧ Frm No w w' := by
  have HA := Lib.hid (show Calls Tryz.prog 108 #[.pointer (some ⟨R, 0, none⟩)] w fun e w' => e = .returned (.agg #[.string ⟨(peek s).k.toArray⟩, .string ⟨(peek s).t.toArray⟩]) ∧ Frm No w w' from peek_all w R n s h)
  have HT := Lib.hid (fun (W : World) (hw : PW W R n s) (g : Nat) (hg : OpsR W g opsJoin) => at_all W R n s hw g opsJoin hg (by decide))
  have HH := Lib.hid h
  have ht0 := tok_f0
  unfold atJoined
  generalize atOp s opsJoin = y at *
  generalize (peek s).t = t at *
  generalize (peek s).k = k at *
  clear h
  by_cases hk : k = kNum ∨ k = kStr ∨ k = kEre ∨ k = kName ∨ k = kFunc ∨ k = kBuilt
  · rw [if_pos hk]
    unfold kNum kStr kEre kName kFunc kBuilt at hk
    rcases hk with rfl | rfl | rfl | rfl | rfl | rfl
    all_goals
      go_enter Tryz.func274, Tryz.ntmps274
      go_wp2_with (go_at_call 108; go_must (refine (HA.out).mono ?_; rintro e w1 ⟨rfl, hg1⟩; have HF1 := Lib.hid hg1; clear hg1))
      go_ret
      exact ⟨rfl, HF1.out⟩
  · rw [if_neg hk]
    have b1 : (k == [110, 117, 109]) = false := by rw [beq_eq_false_iff_ne]; exact fun e => hk (.inl e)
    have b2 : (k == [115, 116, 114]) = false := by rw [beq_eq_false_iff_ne]; exact fun e => hk (.inr (.inl e))
    have b3 : (k == [101, 114, 101]) = false := by rw [beq_eq_false_iff_ne]; exact fun e => hk (.inr (.inr (.inl e)))
    have b4 : (k == [110, 97, 109, 101]) = false := by rw [beq_eq_false_iff_ne]; exact fun e => hk (.inr (.inr (.inr (.inl e))))
    have b5 : (k == [102, 117, 110, 99]) = false := by rw [beq_eq_false_iff_ne]; exact fun e => hk (.inr (.inr (.inr (.inr (.inl e)))))
    have b6 : (k == [98, 117, 105, 108, 116]) = false := by rw [beq_eq_false_iff_ne]; exact fun e => hk (.inr (.inr (.inr (.inr (.inr e)))))
    clear hk
    go_enter Tryz.func274, Tryz.ntmps274
    go_wp2_with (first | (go_at_call 108; go_must (refine (HA.out).mono ?_; rintro e w1 ⟨rfl, hg1⟩; have HF1 := Lib.hid hg1; clear hg1)) | (go_at_call 143; go_must (refine (HT.out _ (HH.out.move (HF1.out.trans (by (repeat (first | exact Frm.refl _ _ | assumption | refine Frm.alloc ?_ _ | refine Frm.drew ?_))))) _ (OpsR.one _ _ _ rfl)).mono ?_; rintro e w2 ⟨rfl, hg2⟩; have HF2 := Lib.hid (show Frm No w w2 from HF1.out.trans (Frm.trans (by (repeat (first | exact Frm.refl _ _ | assumption | refine Frm.alloc ?_ _ | refine Frm.drew ?_))) hg2)); clear hg2)))
    go_ret
    exact ⟨rfl, HF2.out⟩
end Go.Proofs.YtgbibfhacjjaeaaGreat.syn

namespace Go.Proofs.YtgbibfhacjjaeaaGreat.syn
set_option maxRecDepth 20000 set_option linter.unusedVariables false set_option linter.unusedSimpArgs false
open Go.ChangeShapes Go.WideShapes Go.ChangeAt Go.RowKit Go.Proofs.YtgbibfhacjjaeaaGreat.base
open Go.Proofs.YtgbibfhacjjaeaaGreat.lexs (Tok kNl kNum kStr kEre kOp kName kFunc kWord kBuilt)

theorem joinL_stop (t : Rd) (k : Nat) (nd : Nd) (q : PS) (h : atJoined q = false) : joinL t k nd q = (nd, q) := by
  cases k <;> simp [joinL, h]
theorem ne_of_atJoined {s : PS} (h : atJoined s = true) : s.r ≠ [] := ne_of_peek (by
  intro e
  unfold atJoined atOp at h
  rw [e] at h
  revert h
  decide)
/-- The local node is written (no row of ops beside it). -/
theorem fl_rel0 {w w3 : World} {R n b c : Nat} {a : Option Addr} {v0 v1 v2 : Value} {q : PS} {nd : Nd} (hb : w.heap.size < b) (hR : Box w3 b tN #[v0, v1, v2]) (hK : KV w3 (fun x => w.heap.size + 1 ≤ x ∧ x ≠ b) (.slice a nd.kids.len c) nd.kids)
    (hP : PW w3 R n q) (hF : Frm (At R) w w3) (hX : Box w3 w.heap.size tN nd0) {X : World} (hXe : X = ((w3.setCell ⟨b, 0, none⟩ (.string ⟨nd.op.toArray⟩)).setCell ⟨b, 1, none⟩ (.string ⟨nd.tx.toArray⟩)).setCell ⟨b, 2, none⟩ (.slice a nd.kids.len c)) :
    Box X b tN #[.string ⟨nd.op.toArray⟩, .string ⟨nd.tx.toArray⟩, .slice a nd.kids.len c] ∧ KV X (fun x => w.heap.size + 1 ≤ x ∧ x ≠ b) (.slice a nd.kids.len c) nd.kids ∧ PW X R n q ∧ Frm (At R) w X ∧ Box X w.heap.size tN nd0 := by
  subst hXe
  have hM := set3m (w1 := w3) (b := b) (.string ⟨nd.op.toArray⟩) (.string ⟨nd.tx.toArray⟩) (.slice a nd.kids.len c)
  exact ⟨((hR.set 0 _).set 1 _).set 2 _, hK.frm hM (fun x hx _ e => hx.2 e), hP.other hM (fun x e _ => by cases e; exact ⟨tN, _, hR, by decide, by decide⟩), hF.then hM (fun x hx e => by have e : x = b := e; omega), hX.frm hM (fun e => by have e : w.heap.size = b := e; omega)⟩

set_option maxHeartbeats 4000000 in
theorem joined_all (n : Nat) (I : Inn) (hI : InC n I) : RC 268 n (joined I) := by
  intro w R s h
  have HH := Lib.hid h
  have HT0 := Lib.hid (fun W (hw : PW W R n s) => sum_all n I hI W R s hw)
  have HT := Lib.hid (fun W q (hw : PW W R n q) => sum_all n I hI W R q hw)
  have HA := Lib.hid (fun (W : World) q (hw : PW W R n q) => atJoined_all W R n q hw)
  have ht := fun q => (sum_lt hI.lt q).2.2
  have HD := Lib.hid (show joined I s = joinL (sum I) (sum I s).2.r.length (sum I s).1 (sum I s).2 from rfl)
  generalize joined I s = res at *
  generalize sum I = t at *
  generalize t s = q0 at *
  obtain ⟨⟨o, u, k⟩, s0⟩ := q0
  clear h hI
  go_enter Tryz.func268, Tryz.ntmps268
  go_wp2_with (go_at_call 273; go_must (refine (HT0.out _ (HH.out.move (by (repeat (first | exact Frm.refl _ _ | assumption | refine Frm.alloc ?_ _ | refine Frm.drew ?_))))).mono ?_; rintro e w1 ⟨a, c, rfl, hk1, hp1, hf1⟩; have HP1 := Lib.hid hp1; have HX1 := Lib.hid (show Box w1 w.heap.size tN nd0 from Box.at (Box.new w tN nd0) (HH.out.move (by (repeat (first | exact Frm.refl _ _ | assumption | refine Frm.alloc ?_ _ | refine Frm.drew ?_)))) hf1 (by decide)); have HF1 := Lib.hid (Frm.trans (show Frm (At R) w _ by (repeat (first | exact Frm.refl _ _ | assumption | refine Frm.alloc ?_ _ | refine Frm.drew ?_))) hf1); have HK1 := Lib.hid (hk1.mono (F' := fun x => w.heap.size + 1 ≤ x ∧ x ≠ w1.heap.size) (fun g hg hl => ⟨by simpa using hg, by omega⟩)); have HL1 := Lib.hid (Box.new w1 tN #[.string ⟨o.toArray⟩, .string ⟨u.toArray⟩, .slice a k.len c]); have HWB := Lib.hid (Box.lt HX1.out); clear hk1 hp1 hf1))
  go_loopg [] s0.r.length (fun gf wx => ∃ (nd : Nd) (q : PS) (a : Option Addr) (c : Nat), Box wx w1.heap.size tN #[.string ⟨nd.op.toArray⟩, .string ⟨nd.tx.toArray⟩, .slice a nd.kids.len c] ∧ KV wx (fun x => w.heap.size + 1 ≤ x ∧ x ≠ w1.heap.size) (.slice a nd.kids.len c) nd.kids ∧ PW wx R n q ∧ Frm (At R) w wx ∧ Box wx w.heap.size tN nd0 ∧ joinL t gf nd q = res ∧ q.r.length ≤ gf)
  case atStart =>
    exact ⟨⟨o, u, k⟩, s0, a, c, HL1.out, HK1.out.move (by (repeat (first | exact Frm.refl _ _ | assumption | refine Frm.alloc ?_ _ | refine Frm.drew ?_))), HP1.out.move (by (repeat (first | exact Frm.refl _ _ | assumption | refine Frm.alloc ?_ _ | refine Frm.drew ?_))), HF1.out.alloc _, Box.alloc HX1.out _, HD.out.symm, Nat.le_refl _⟩
  case round =>
    obtain ⟨nd, q, a2, c2, hb, hk, hp, hf, hx, hl, hq⟩ := hrel
    have HR := Lib.hid hb
    have HK := Lib.hid hk
    have HP := Lib.hid hp
    have HF := Lib.hid hf
    have HX := Lib.hid hx
    have HL := Lib.hid hl
    have HQ := Lib.hid hq
    have HAQ := Lib.hid (HA.out wr q hp)
    have b0 := Box.cell hb 0
    have b1 := Box.cell hb 1
    have b2 := Box.cell hb 2
    have hbl := Box.lt hb
    obtain ⟨no, nt, nk⟩ := nd
    simp only at b0 b1 b2 HR HK
    clear hb hk hp hf hx hl hq HX1 HF1 HK1 HL1 HD HT0 HH HA
    cases hc : atJoined q
    · rw [hc] at HAQ
      have hls := HL.out
      rw [joinL_stop t _ _ q hc] at hls
      subst hls
      clear hc HL HT
      go_wp2_with (go_at_call 274; go_must (refine (HAQ.out).mono ?_; rintro e w3 ⟨rfl, hf3⟩; have HP3 := Lib.hid (HP.out.move hf3); have HK3 := Lib.hid ((KV.move HK.out hf3).mono (F' := fun x => w.heap.size + 1 ≤ x) (fun x hx _ => hx.1)); have HR3 := Lib.hid (Box.frm HR.out hf3 id); have HX3 := Lib.hid (show Box w3 w.heap.size tN nd0 from Box.frm HX.out hf3 id); have HF3 := Lib.hid (HF.out.trans (hf3.mono (S' := At R) (fun _ _ e => e.elim))); have l0 := Box.cell HR3.out 0; have l1 := Box.cell HR3.out 1; have l2 := Box.cell HR3.out 2; have hll := Box.lt HR3.out; have x0 := Box.cell HX3.out 0; have x1 := Box.cell HX3.out 1; have x2 := Box.cell HX3.out 2; have y0 := Box.f HX3.out 0; have y1 := Box.f HX3.out 1; have y2 := Box.f HX3.out 2; clear hf3))
      (have hB := (set3 HX3.out HF3.out (Nat.le_refl _) (.string ⟨no.toArray⟩) (.string ⟨nt.toArray⟩) (.slice a2 nk.len c2)).1; have hM := set3m (w1 := w3) (b := w.heap.size) (.string ⟨no.toArray⟩) (.string ⟨nt.toArray⟩) (.slice a2 nk.len c2); clear x0 x1 x2 y0 y1 y2; generalize ((w3.setCell ⟨w.heap.size, 0, none⟩ (.string ⟨no.toArray⟩)).setCell ⟨w.heap.size, 1, none⟩ (.string ⟨nt.toArray⟩)).setCell ⟨w.heap.size, 2, none⟩ (.slice a2 nk.len c2) = X at *; have g0 := hB.cell 0; have g1 := hB.cell 1; have g2 := hB.cell 2; refine bodyPost_ret (v := .agg #[.string ⟨no.toArray⟩, .string ⟨nt.toArray⟩, (.slice a2 nk.len c2)]) (by simp [results, Tryz.results268, go_sem, g0, g1, g2]) rfl ?_; exact ans_end (q := (⟨no, nt, nk⟩, q)) HX3.out hM HK3.out HP3.out HF3.out)
    · rw [hc] at HAQ
      have hne := ne_of_atJoined hc
      obtain ⟨gf, rfl⟩ : ∃ m, gk = m + 1 := by
        cases gk with
        | zero => exact absurd (List.eq_nil_of_length_eq_zero (by have := HQ.out; omega)) hne
        | succ m => exact ⟨m, rfl⟩
      have hls := HL.out
      rw [show joinL t (gf + 1) ⟨no, nt, nk⟩ q = joinL t gf (bin w_cat ⟨no, nt, nk⟩ (t q).1) (t q).2 from by rw [joinL, if_pos hc]] at hls
      have hlen : (t q).2.r.length ≤ gf := by
        have e1 := ht q
        have := HQ.out
        omega
      have HTQ := Lib.hid (fun W (hw : PW W R n q) => HT.out W _ hw)
      clear hc HL HT hne ht
      have HLS := Lib.hid hls
      have HLEN := Lib.hid hlen
      clear hls hlen
      generalize t q = q1 at *
      obtain ⟨⟨o2, u2, k2⟩, s1⟩ := q1
      simp only at HLS HLEN
      go_wp2_with (go_at_call 274; go_must (refine (HAQ.out).mono ?_; rintro e w4 ⟨rfl, hf3⟩; have HP4 := Lib.hid (HP.out.move hf3); have HF4 := Lib.hid (hf3.mono (S' := At R) (fun _ _ e => e.elim)); have HR4 := Lib.hid (Box.at HR.out HP.out HF4.out (by decide)); have HK4 := Lib.hid (HK.out.at HP.out HF4.out); have HX4 := Lib.hid (show Box w4 w.heap.size tN nd0 from Box.at HX.out HP.out HF4.out (by decide)); have l0 := Box.cell HR4.out 0; have l1 := Box.cell HR4.out 1; have l2 := Box.cell HR4.out 2; have hll := Box.lt HR4.out; clear hf3))
      go_region_with (first | (go_at_call 273; go_must (refine (HTQ.out _ (HP4.out.move (by (repeat (first | exact Frm.refl _ _ | assumption | refine Frm.alloc ?_ _ | refine Frm.drew ?_))))).mono ?_; rintro e w2 ⟨a5, c5, rfl, hk2, hp2, hf2⟩; have HP2 := Lib.hid hp2; have hf42 := (Frm.trans (show Frm (At R) w4 _ by (repeat (first | exact Frm.refl _ _ | assumption | refine Frm.alloc ?_ _ | refine Frm.drew ?_))) hf2); have HF2 := Lib.hid hf42; have HK2 := Lib.hid (KV.at HK4.out HP4.out hf42); have HR2 := Lib.hid (Box.at HR4.out HP4.out hf42 (by decide)); have HX2 := Lib.hid (show Box w2 w.heap.size tN nd0 from Box.at HX4.out HP4.out hf42 (by decide)); have HK22 := Lib.hid (hk2.mono (F' := fun x => w.heap.size + 1 ≤ x ∧ x ≠ w1.heap.size) (fun x hx _ => by have e1 := Box.lt HR4.out; have e2 := Box.lt HX4.out; (try simp only [World.size_alloc, World.size_drew] at hx); constructor <;> omega)); have m0 := Box.cell HR2.out 0; have m1 := Box.cell HR2.out 1; have m2 := Box.cell HR2.out 2; have hll2 := Box.lt HR2.out; clear hp2 hf2 hk2 hf42)) | (go_at_call 110; go_must (refine (node_all _ _ _ _ _ _).mono ?_; rintro e w3' ⟨rfl, hf3⟩; have hf23 : Frm No w2 w3' := Frm.trans (by (repeat (first | exact Frm.refl _ _ | assumption | refine Frm.alloc ?_ _ | refine Frm.drew ?_))) hf3; have HK5 := Lib.hid (kids2f (n1 := ⟨no, nt, nk⟩) (n2 := ⟨o2, u2, k2⟩) HK2.out HK22.out (by have e1 := Box.lt HR2.out; have e2 := Box.lt HX2.out; constructor <;> omega) hf3); have HP5 := Lib.hid (HP2.out.move hf23); have HR5 := Lib.hid (Box.frm HR2.out hf23 id); have HX5 := Lib.hid (show Box w3' w.heap.size tN nd0 from Box.frm HX2.out hf23 id); have HF5 := Lib.hid (((HF.out.trans HF4.out).trans HF2.out).trans (hf23.mono (S' := At R) (fun _ _ e => e.elim))); have x0 := Box.cell HR5.out 0; have x1 := Box.cell HR5.out 1; have x2 := Box.cell HR5.out 2; have y0 := Box.f HR5.out 0; have y1 := Box.f HR5.out 1; have y2 := Box.f HR5.out 2; have hll5 := Box.lt HR5.out; clear hf3 hf23)))
      all_goals (go_wp2_with fail)
      all_goals
        go_roundg gf
        case measure => omega
        case rel =>
          obtain ⟨r1, r2, r3, r4, r5⟩ := fl_rel0 (nd := bin w_cat ⟨no, nt, nk⟩ ⟨o2, u2, k2⟩) HWB.out HR5.out HK5.out HP5.out HF5.out HX5.out rfl
          exact ⟨bin w_cat ⟨no, nt, nk⟩ ⟨o2, u2, k2⟩, s1, _, _, r1, r2, r3, r4, r5, HLS.out, HLEN.out⟩
end Go.Proofs.YtgbibfhacjjaeaaGreat.syn
