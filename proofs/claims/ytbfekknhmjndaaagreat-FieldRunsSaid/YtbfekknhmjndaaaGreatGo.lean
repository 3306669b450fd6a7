/- Contract of match's search.step. -/
import Derived.Test.YtbfekknhmjndaaaGreatStep
namespace Go.Proofs.YtbfekknhmjndaaaGreat.nfa
set_option linter.unusedVariables false set_option linter.unusedSimpArgs false
open Go.ChangeShapes Go.WideShapes Go.ChangeAt Go.RowKit Go.Proofs.YtbfekknhmjndaaaGreat.base

theorem own_slice {w : World} {B n z : Nat} {v : Value} {C : List Value} {T : TypeId} (h : w.ownsRow B T z v n C) : ∃ a c, v = .slice a n c ∧ w.ownsRow B T z (.slice a 0 c) 0 [] ∧ (0 < n → ∃ g, a = some ⟨g, 0, none⟩) := by
  rcases h.2 with ⟨hv, hn⟩ | ⟨g, c, _, hv, _⟩
  · subst hn
    exact ⟨none, 0, hv, World.ownsRow_nil _ _ _ _, fun h => absurd h (Nat.lt_irrefl _)⟩
  · subst hv
    exact ⟨_, c, rfl, own_zero h, fun _ => ⟨g, rfl⟩⟩
section
variable {w : World} {B R MB : Nat} {s : ByteArray} {p : Nat} {nv ev ov : Value} {e : E} {spr : List (Nat × Nat)}
/-- The lists change places, and the one to be filled is empty. -/
theorem SV.swap {a : Option Addr} {c : Nat} (h : SV w B R MB s p nv (.slice a spr.length c) ev ov e spr) (h0 : w.ownsRow B 163 2 (.slice a 0 c) 0 []) :
    SV ((w.setCell ⟨R, 3, none⟩ (.slice a 0 c)).setCell ⟨R, 4, none⟩ nv) B R MB s p (.slice a 0 c) nv ev ov { e with now := [] } e.now ∧ Frm (Ge B) w ((w.setCell ⟨R, 3, none⟩ (.slice a 0 c)).setCell ⟨R, 4, none⟩ nv) := by
  have hf1 : Frm (At R) w ((w.setCell ⟨R, 3, none⟩ (.slice a 0 c)).setCell ⟨R, 4, none⟩ nv) := ((Frm.refl (At R) w).setCell ⟨R, 3, none⟩ _ (fun _ => rfl)).setCell ⟨R, 4, none⟩ _ (fun _ => rfl)
  exact ⟨⟨(h.box.set 3 _).set 4 _, own_move h0 hf1 (fun g h1 h2 => own_far h0 h.box (by decide) (h2 ▸ h1)), own_move h.hn hf1 (fun g h1 h2 => own_far h.hn h.box (by decide) (h2 ▸ h1)), own_move h.he hf1 (fun g h1 h2 => own_far h.he h.box (by decide) (h2 ▸ h1)), own_move h.ho hf1 (fun g h1 h2 => own_far h.ho h.box (by decide) (h2 ▸ h1)), fun g h1 h2 => h.ns g h2 (by cases a <;> exact h1), h.eo, h.hR⟩,
    hf1.mono (fun k _ h1 => by cases h1; exact h.hR)⟩
end

section
variable (w : World) (B R MB : Nat) (s : ByteArray) (p : Nat) (sv ev : Value) (e : E) (spr : List (Nat × Nat)) (M : Nm) (f : Nat → Bool) (em : Bool) (SB cap : Nat) (fr b : Nat)

/-- At the head of a round: i threads went on. -/
def StepAt (nv : Value) (iv : Value) (wr : World) (k : Nat) : Prop := ∃ i b' e', i ≤ e.now.length ∧ iv = .int .i64 (i : Int) ∧ k = e.now.length - i ∧ SW wr B R MB s (p + 1) nv ev e' e.now ∧ Frm (Ge B) w wr ∧ SI M s.data.toList fr p e i b' e'
def StepPost (en : Ending) (w' : World) : Prop := en = .returned (.tuple #[]) ∧ ∃ b' e' sv' spr', b' ≤ p ∧ SW w' B R MB s (p + 1) sv' ev e' spr' ∧ Frm (Ge B) w w' ∧ PI M s.data.toList fr (p + 1) b' e' ∧ e'.opn = [] ∧ CovTo M s.data.toList fr (p + 1) (p + 1) e' ∧ (e'.fd = true → e'.rs ≤ p)

set_option maxRecDepth 20000 in
set_option maxHeartbeats 4000000 in
theorem step_all (h : SW w B R MB s p sv ev e spr) (hM : MachW w B MB M f em SB cap) (hB : B ≤ w.heap.size) (hP : PI M s.data.toList fr p b e) (h0 : e.opn = []) (hbp : b ≤ p) (hps : p < s.size) (hz : s.size ≤ 1000000) (hc : CovTo M s.data.toList fr p (p + 1) e) :
    Calls Tryz.prog 96 #[.pointer (some ⟨R, 0, none⟩)] w (StepPost w B R MB s p ev M fr) := by
  obtain ⟨nv, ov, h⟩ := h
  obtain ⟨sa, sc, rfl, hs0, _⟩ := own_slice h.hs
  obtain ⟨na, nc, rfl, _, hng⟩ := own_slice h.hn
  obtain ⟨r0, r1, r2, r3, r4, r5, r6, r7, r8, r9⟩ := h.cells
  have g2 := h.box.f 2
  have g3 := h.box.f 3
  have g4 := h.box.f 4
  have H := Lib.hid h
  have HM := Lib.hid hM
  have HP := Lib.hid hP
  have HC := Lib.hid hc
  have HO := Lib.hid h0
  have HS0 := Lib.hid hs0
  have hRlt := h.box.lt
  have hnl : e.now.length ≤ 1000000 := by have := hP.cnt; have := hM.n; omega
  clear h hM hP hc h0 hs0
  go_enter Tryz.func96, Tryz.ntmps96
  go_wp2
  go_quiet (fail)
  go_wp2
  obtain ⟨hA1, hA2⟩ := (H.out.no ((Frm.refl No w).drewN nq)).setAt (p + 1) ((p : Int) + 1) rfl
  obtain ⟨hB1, hB2⟩ := hA1.swap (own_move (own_move HS0.out ((Frm.refl No w).drewN nq) (fun _ _ => id)) (Frm.setCell (S := At R) (Frm.refl _ _) ⟨R, 2, none⟩ _ (fun _ => rfl)) (fun g h1 h2 => own_far H.out.hs H.out.box (by decide) (by have h3 : g = R := h2; rw [← h3]; cases sa <;> exact h1)))
  have HS1 := Lib.hid hB1
  have HF1 := Lib.hid ((((Frm.refl (Ge B) w).drewN nq).trans hA2).trans hB2)
  clear hA1 hA2 hB1 hB2
  generalize ((((w.drewN nq).setCell ⟨R, 2, none⟩ (.int .i64 ((p : Int) + 1))).setCell ⟨R, 3, none⟩ (.slice sa 0 sc)).setCell ⟨R, 4, none⟩ (.slice na e.now.length nc)) = w1 at HS1 HF1 ⊢
  go_loopg [41] (e.now.length) (fun k iv wr => StepAt w B R MB s p ev e M fr (.slice na e.now.length nc) iv wr k)
  case atStart => exact ⟨0, 0, _, Nat.zero_le _, rfl, rfl, ⟨_, ov, HS1.out⟩, HF1.out, SI.init HP.out HO.out⟩
  case round =>
    obtain ⟨i, b', e', hi, rfl, hk, hsw, hfw, hsi⟩ := hrel
    have HFW := Lib.hid hfw
    have HSI := Lib.hid hsi
    have hBr : B ≤ wr.heap.size := Nat.le_trans hB hfw.size
    have HMR := Lib.hid (HM.out.ge hfw)
    obtain ⟨nv', ov', h⟩ := hsw
    have HH := Lib.hid h
    clear hfw hsi
    by_cases hin : i < e.now.length
    · obtain ⟨g, rfl⟩ := hng (by omega)
      obtain ⟨x, hx⟩ : ∃ x, e.now[i]? = some x := ⟨_, List.getElem?_eq_getElem hin⟩
      obtain ⟨x1, x2⟩ := x
      have HX := Lib.hid hx
      have hlen := thL_len e.now
      have c0 : wr.cell? ⟨g, i * 2, none⟩ = some (.int .i64 (x1 : Int)) := (h.hs.cellAt (i * 2) (by omega)).trans (thL_get _ _ _ hx).1
      have c1 : wr.cell? ⟨g, i * 2 + 1, none⟩ = some (.int .i64 (x2 : Int)) := (h.hs.cellAt (i * 2 + 1) (by omega)).trans (thL_get _ _ _ hx).2
      have hi0 : (0 : Int) ≤ (i : Int) := by omega
      have hi1 : (i : Int) < (e.now.length : Int) := by omega
      clear hx hng
      go_wp2
      have HSa := Lib.hid (HH.out.no ((Frm.refl No wr).alloc (.cells #[.int .i64 (x1 : Int), .int .i64 (x2 : Int)] 163)))
      have HFa := Lib.hid (HFW.out.alloc (.cells #[.int .i64 (x1 : Int), .int .i64 (x2 : Int)] 163))
      have HMa := Lib.hid (HMR.out.ge ((Frm.refl _ wr).alloc (.cells #[.int .i64 (x1 : Int), .int .i64 (x2 : Int)] 163)))
      have HBa := Lib.hid (Box.new wr 163 #[.int .i64 (x1 : Int), .int .i64 (x2 : Int)])
      have hBa : B ≤ (wr.alloc (.cells #[.int .i64 (x1 : Int), .int .i64 (x2 : Int)] 163)).heap.size := by rw [World.size_alloc]; omega
      generalize wr.alloc (.cells #[.int .i64 (x1 : Int), .int .i64 (x2 : Int)] 163) = wa at HSa HFa HMa HBa hBa ⊢
      generalize wr.heap.size = TB at HBa hBr ⊢
      obtain ⟨hxf, hxb, ⟨fs, nx, hst⟩, hxA⟩ := now_at HP.out HX.out
      have t0 : wa.cell? ⟨TB, 0, none⟩ = some (.int .i64 (x1 : Int)) := HBa.out.cell 0
      have t1 : wa.cell? ⟨TB, 1, none⟩ = some (.int .i64 (x2 : Int)) := HBa.out.cell 1
      have k0 : wa.cell? ⟨R, 0, none⟩ = some (.pointer (some ⟨MB, 0, none⟩)) := HSa.out.box.cell 0
      have k7 : wa.cell? ⟨R, 7, none⟩ = some (.bool e'.fd) := HSa.out.box.cell 7
      have k8 : wa.cell? ⟨R, 8, none⟩ = some (.int .i64 (e'.rs : Int)) := HSa.out.box.cell 8
      have m0 := HMa.out.c0
      obtain ⟨_, s2, fb, s1, hfb, hfs⟩ : StW wa B SB (x1 * 4) (.take fs nx) := HMa.out.st x1 _ hst
      have s1' : wa.cell? ⟨SB, x1 * 4 + 1, none⟩ = some (.pointer (some ⟨fb, 0, none⟩)) := s1
      have s2' : wa.cell? ⟨SB, x1 * 4 + 2, none⟩ = some (.int .i64 (nx : Int)) := s2
      have hx1n : x1 < M.sts.length := (List.getElem?_eq_some_iff.1 hst).1
      have hx10 : (0 : Int) ≤ (x1 : Int) := by omega
      have hx11 : (x1 : Int) < (M.sts.length : Int) := by omega
      have hcl : (s[p].toNat : Int) < 256 := by have := s[p].toNat_lt; omega
      have hcl0 : (0 : Int) ≤ (s[p].toNat : Int) := by omega
      have hcc : wa.cell? ⟨fb, s[p].toNat, none⟩ = some (.bool (fs s[p].toNat)) := by
        have := hfs s[p].toNat (by omega)
        rw [Nat.zero_add] at this
        exact this
      have HST := Lib.hid hst
      have HXA := Lib.hid hxA
      have HGET := Lib.hid (get_list s p hps)
      clear hst hxA hfs s1 s2 c0 c1
      cases hfd : e'.fd with
      | true =>
        rw [hfd] at k7
        by_cases hgt : e'.rs < x2
        · have hgt' : (e'.rs : Int) < (x2 : Int) := by omega
          have HFD := Lib.hid hfd
          clear hfd
          go_quiet (fail)
          go_wp2
          refine bodyPost_end (v := .tuple #[]) (by simp [results, Tryz.results96, go_sem]) rfl ⟨rfl, ?_⟩
          exact ⟨b', e', _, _, HSI.out.bp, ⟨nv', ov', HSa.out.no ((Frm.refl No wa).drewN _)⟩, HFa.out.drewN _, HSI.out.pi, HSI.out.opn, HSI.out.done HC.out HP.out (Or.inr ⟨_, HX.out, HFD.out, hgt⟩), HSI.out.lt⟩
        · have hgt' : ¬ (e'.rs : Int) < (x2 : Int) := by omega
          have HFD := Lib.hid hfd
          have HCUT := Lib.hid (show e'.fd = true → x2 ≤ e'.rs from fun _ => by omega)
          clear hfd
          cases hfc : fs s[p].toNat with
          | false =>
            rw [hfc] at hcc
            have HFC := Lib.hid hfc
            clear hfc
            go_quiet (fail)
            go_wp2
            go_quiet (fail)
            go_wp2
            go_roundg (e.now.length - (i + 1))
            case measure => omega
            case rel =>
              exact ⟨i + 1, b', e', by omega, by go_num, rfl, ⟨nv', ov', HSa.out.no ((Frm.refl No wa).drewN _)⟩, HFa.out.drewN _, HSI.out.skip HX.out HST.out HGET.out HFC.out⟩
          | true =>
            rw [hfc] at hcc
            have HFC := Lib.hid hfc
            clear hfc
            go_quiet (fail)
            go_wp2
            go_quiet (fail)
            go_wp2_with (fail)
            have hAn : ∀ j, M.A s.data.toList nx (p + 1) j → M.A s.data.toList M.start x2 j := fun j hj => HXA.out j ((acc_take HST.out).2 ⟨_, HGET.out, HFC.out, hj⟩)
            have HAN := Lib.hid hAn
            clear hAn
            go_region_with ((go_at_call 111; go_must (refine (enter_all _ B R MB s (p + 1) (.slice (some ⟨g, 0, none⟩) e.now.length nc) ev e' e.now M f em SB cap fr nx x2 ⟨_, ov', HSa.out.no ((Frm.refl No wa).drewN _)⟩ (HMa.out.ge ((Frm.refl _ wa).drewN _)) hBa (HSI.out.pi.up HSI.out.opn (HSI.out.up i _ (Nat.le_refl _) HX.out)) HSI.out.opn (M.hin x1 _ HST.out nx (by simp [targets])) HAN.out hxf (by omega) (by omega) hz HCUT.out).mono ?_; rintro en w5 ⟨rfl, e5, hs5, ho5, hp5, hx5, hf5⟩)))
            all_goals
              go_wp2
              go_roundg (e.now.length - (i + 1))
              case measure => omega
              case rel =>
                exact ⟨i + 1, x2, e5, by omega, by go_num, rfl, hs5, (HFa.out.drewN _).trans hf5, HSI.out.enter HP.out hbp HX.out HST.out HCUT.out hp5 ho5 hx5⟩
      | false =>
        rw [hfd] at k7
        have HCUT := Lib.hid (show e'.fd = true → x2 ≤ e'.rs from fun h => by rw [hfd] at h; cases h)
        clear hfd
        cases hfc : fs s[p].toNat with
        | false =>
          rw [hfc] at hcc
          have HFC := Lib.hid hfc
          clear hfc
          go_quiet (fail)
          go_wp2
          go_quiet (fail)
          go_wp2
          go_roundg (e.now.length - (i + 1))
          case measure => omega
          case rel =>
            exact ⟨i + 1, b', e', by omega, by go_num, rfl, ⟨nv', ov', HSa.out.no ((Frm.refl No wa).drewN _)⟩, HFa.out.drewN _, HSI.out.skip HX.out HST.out HGET.out HFC.out⟩
        | true =>
          rw [hfc] at hcc
          have HFC := Lib.hid hfc
          clear hfc
          go_quiet (fail)
          go_wp2
          go_quiet (fail)
          go_wp2_with (fail)
          have hAn : ∀ j, M.A s.data.toList nx (p + 1) j → M.A s.data.toList M.start x2 j := fun j hj => HXA.out j ((acc_take HST.out).2 ⟨_, HGET.out, HFC.out, hj⟩)
          have HAN := Lib.hid hAn
          clear hAn
          go_region_with ((go_at_call 111; go_must (refine (enter_all _ B R MB s (p + 1) (.slice (some ⟨g, 0, none⟩) e.now.length nc) ev e' e.now M f em SB cap fr nx x2 ⟨_, ov', HSa.out.no ((Frm.refl No wa).drewN _)⟩ (HMa.out.ge ((Frm.refl _ wa).drewN _)) hBa (HSI.out.pi.up HSI.out.opn (HSI.out.up i _ (Nat.le_refl _) HX.out)) HSI.out.opn (M.hin x1 _ HST.out nx (by simp [targets])) HAN.out hxf (by omega) (by omega) hz HCUT.out).mono ?_; rintro en w5 ⟨rfl, e5, hs5, ho5, hp5, hx5, hf5⟩)))
          all_goals
            go_wp2
            go_roundg (e.now.length - (i + 1))
            case measure => omega
            case rel =>
              exact ⟨i + 1, x2, e5, by omega, by go_num, rfl, hs5, (HFa.out.drewN _).trans hf5, HSI.out.enter HP.out hbp HX.out HST.out HCUT.out hp5 ho5 hx5⟩
    · obtain rfl : i = e.now.length := by omega
      go_wp2
      refine bodyPost_end (v := .tuple #[]) (by simp [results, Tryz.results96, go_sem]) rfl ⟨rfl, ?_⟩
      exact ⟨b', e', _, _, HSI.out.bp, ⟨nv', ov', HH.out⟩, HFW.out, HSI.out.pi, HSI.out.opn, HSI.out.done HC.out HP.out (Or.inl (Nat.le_refl _)), HSI.out.lt⟩
end
end Go.Proofs.YtbfekknhmjndaaaGreat.nfa
