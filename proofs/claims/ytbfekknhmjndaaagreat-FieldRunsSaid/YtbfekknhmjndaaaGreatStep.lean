/- A step of the search, apart from memory; contract of mayBegin. Contract of match's search.begin. -/
import Derived.Test.YtbfekknhmjndaaaGreatEnter

namespace Go.Proofs.YtbfekknhmjndaaaGreat.nfa
set_option linter.unusedVariables false set_option linter.unusedSimpArgs false
open Go.ChangeShapes Go.WideShapes Go.ChangeAt Go.RowKit Go.Proofs.YtbfekknhmjndaaaGreat.base

/-- Behind k threads of e0 that took the byte at place p. -/
structure SI (M : Nm) (s : List UInt8) (fr p : Nat) (e0 : E) (k b : Nat) (e : E) : Prop where
  pi : PI M s fr (p + 1) b e
  opn : e.opn = []
  bp : b ≤ p
  up : ∀ i x, k ≤ i → e0.now[i]? = some x → b ≤ x.2
  cov : ∀ i x, i < k → e0.now[i]? = some x → ∀ j, M.A s x.1 p j → Cov M s (p + 1) e x.2 j
  keep : ∀ b j, (e0.fd = true ∧ (e0.rs < b ∨ (e0.rs = b ∧ j ≤ e0.re))) → (e.fd = true ∧ (e.rs < b ∨ (e.rs = b ∧ j ≤ e.re)))
  lt : e.fd = true → e.rs ≤ p

theorem SI.init {M : Nm} {s : List UInt8} {fr p b : Nat} {e : E} (h : PI M s fr p b e) (h0 : e.opn = []) : SI M s fr p e 0 0 { e with now := [] } :=
  ⟨h.next h0 0, h0, Nat.zero_le _, fun _ _ _ _ => Nat.zero_le _, fun i x hi => absurd hi (Nat.not_lt_zero _), fun _ _ h => h, fun hf => (by have := h.fds hf; show e.rs ≤ p; omega)⟩
theorem now_at {M : Nm} {s : List UInt8} {fr p b : Nat} {e : E} (h : PI M s fr p b e) {k : Nat} {x : Nat × Nat} (hk : e.now[k]? = some x) : fr ≤ x.2 ∧ x.2 ≤ b ∧ (∃ f nx, M.sts[x.1]? = some (.take f nx)) ∧ ∀ j, M.A s x.1 p j → M.A s M.start x.2 j :=
  h.now x (List.mem_of_getElem? hk)
theorem SI.skip {M : Nm} {s : List UInt8} {fr p b k : Nat} {e0 e : E} (h : SI M s fr p e0 k b e) {x : Nat × Nat} (hx : e0.now[k]? = some x) {f : Nat → Bool} {nx : Nat} {c : UInt8} (hst : M.sts[x.1]? = some (.take f nx)) (hc : s[p]? = some c) (hf : f c.toNat = false) : SI M s fr p e0 (k + 1) b e :=
  ⟨h.pi, h.opn, h.bp, fun i y hi hy => h.up i y (by omega) hy, fun i y hi hy j hj => (by
    by_cases hik : i < k
    · exact h.cov i y hik hy j hj
    · obtain rfl : i = k := by omega
      rw [hx] at hy
      cases hy
      obtain ⟨c', h1, h2, h3⟩ := (acc_take hst).1 hj
      rw [hc] at h1
      cases h1
      rw [hf] at h2
      cases h2), h.keep, h.lt⟩
theorem sorted_at {l : List (Nat × Nat)} (h : l.Pairwise (fun x y => x.2 ≤ y.2)) {i k : Nat} {x y : Nat × Nat} (hi : l[i]? = some x) (hk : l[k]? = some y) (hik : i ≤ k) : x.2 ≤ y.2 := by
  by_cases he : i = k
  · subst he; rw [hi] at hk; cases hk; exact Nat.le_refl _
  · obtain ⟨h1, rfl⟩ := List.getElem?_eq_some_iff.1 hi
    obtain ⟨h2, rfl⟩ := List.getElem?_eq_some_iff.1 hk
    exact List.pairwise_iff_getElem.1 h i k h1 h2 (by omega)
theorem SI.enter {M : Nm} {s : List UInt8} {fr p b k : Nat} {e0 e e' : E} (h : SI M s fr p e0 k b e) {b0 : Nat} (h0 : PI M s fr p b0 e0) (hb0 : b0 ≤ p) {x : Nat × Nat} (hx : e0.now[k]? = some x) {f : Nat → Bool} {nx : Nat} (hst : M.sts[x.1]? = some (.take f nx)) (hcut : e.fd = true → x.2 ≤ e.rs)
    (hpi : PI M s fr (p + 1) x.2 e') (hopn : e'.opn = []) (hext : Ext (p + 1) x.2 nx e e') : SI M s fr p e0 (k + 1) x.2 e' := by
  have hxb := now_at h0 hx
  have hre : e.re ≤ p + 1 := by
    cases hf : e.fd with
    | true => exact (h.pi.fds hf).2.2.2
    | false => rw [(h.pi.nofd hf).2]; omega
  refine ⟨hpi, hopn, by omega, fun i y hi hy => sorted_at h0.sorted hx hy (by omega), fun i y hi hy j hj => ?_, fun b j hk => ?_, fun hf => ?_⟩
  · by_cases hik : i < k
    · exact (h.cov i y hik hy j hj).ext hext (Or.inl (sorted_at h0.sorted hy hx (by omega))) hcut hre
    · obtain rfl : i = k := by omega
      rw [hx] at hy
      cases hy
      obtain ⟨c', h1, h2, h3⟩ := (acc_take hst).1 hj
      refine hpi.cov hopn (q := nx) ?_ h3
      rcases hext.id with h4 | h4
      · exact h4
      · rw [hopn] at h4; cases h4
  · have h5 := h.keep b j hk
    rcases hext.fd with ⟨h1, h2, h3⟩ | ⟨h1, h2, h3⟩
    · rw [h1, h2, h3]; exact h5
    · have := hcut h5.1
      refine ⟨h1, ?_⟩
      have := (h.pi.fds h5.1).2.2.2
      omega
  · rcases hext.fd with ⟨h1, h2, h3⟩ | ⟨h1, h2, h3⟩
    · rw [h1] at hf; rw [h2]; exact h.lt hf
    · omega
/-- All threads went on, or those that are left began later than what was found. -/
theorem SI.done {M : Nm} {s : List UInt8} {fr p b k : Nat} {e0 e : E} (h : SI M s fr p e0 k b e) (hc : CovTo M s fr p (p + 1) e0) {b0 : Nat} (h0 : PI M s fr p b0 e0) (hk : e0.now.length ≤ k ∨ ∃ x, e0.now[k]? = some x ∧ e.fd = true ∧ e.rs < x.2) : CovTo M s fr (p + 1) (p + 1) e := by
  intro b' j hb1 hb2 hA
  rcases hc b' j hb1 hb2 hA with hf | ⟨x, hx, hxb, hxA⟩
  · exact Or.inl (h.keep b' j hf)
  · obtain ⟨i, hi⟩ := List.getElem?_of_mem hx
    by_cases hik : i < k
    · exact (h.cov i x hik hi j hxA).mono hxb
    · rcases hk with hk | ⟨y, hy, h1, h2⟩
      · have := (List.getElem?_eq_some_iff.1 hi).1
        omega
      · have := sorted_at h0.sorted hy hi (by omega)
        exact Or.inl ⟨h1, Or.inl (by omega)⟩

section
variable {w : World} {B R MB : Nat} {s : ByteArray} {p : Nat} {nv sv ev ov : Value} {e : E} {spr : List (Nat × Nat)}
theorem SV.setAt (h : SV w B R MB s p nv sv ev ov e spr) (j : Nat) (n : Int) (hn : n = (j : Int)) : SV (w.setCell ⟨R, 2, none⟩ (.int .i64 n)) B R MB s j nv sv ev ov e spr ∧ Frm (Ge B) w (w.setCell ⟨R, 2, none⟩ (.int .i64 n)) := by
  subst hn
  have hf1 : Frm (At R) w (w.setCell ⟨R, 2, none⟩ (.int .i64 (j : Int))) := Frm.setCell (Frm.refl _ _) ⟨R, 2, none⟩ _ (fun _ => rfl)
  exact ⟨⟨h.box.set 2 _, own_move h.hn hf1 (fun g h1 h2 => own_far h.hn h.box (by decide) (h2 ▸ h1)), own_move h.hs hf1 (fun g h1 h2 => own_far h.hs h.box (by decide) (h2 ▸ h1)), own_move h.he hf1 (fun g h1 h2 => own_far h.he h.box (by decide) (h2 ▸ h1)), own_move h.ho hf1 (fun g h1 h2 => own_far h.ho h.box (by decide) (h2 ▸ h1)), h.ns, h.eo, h.hR⟩,
    hf1.mono (fun k _ h1 => by cases h1; exact h.hR)⟩
end

section
variable (w : World) (B R MB : Nat) (s : ByteArray) (p : Nat) (sv ev : Value) (e : E) (spr : List (Nat × Nat)) (M : Nm) (f : Nat → Bool) (em : Bool) (SB cap : Nat)
/-- Might a match begin at p? -/
def may (s : ByteArray) (p : Nat) (f : Nat → Bool) (em : Bool) : Bool := em || (match s.data.toList[p]? with
  | none => false
  | some c => f c.toNat)
theorem may_all (h : SW w B R MB s p sv ev e spr) (hM : MachW w B MB M f em SB cap) (hps : p ≤ s.size) (hz : s.size ≤ 1000000) :
    Calls Tryz.prog 110 #[.pointer (some ⟨R, 0, none⟩)] w fun en w' => en = .returned (.bool (may s p f em)) ∧ ∃ n, w' = w.drewN n := by
  obtain ⟨nv, ov, h⟩ := h
  obtain ⟨r0, r1, r2, r3, r4, r5, r6, r7, r8, r9⟩ := h.cells
  have m3 := hM.c3
  have HM := Lib.hid hM
  clear h hM
  cases em with
  | true =>
    go_enter Tryz.func110, Tryz.ntmps110
    go_wp2
    go_ret
    exact ⟨rfl, 0, rfl⟩
  | false =>
    by_cases hp : p < s.size
    · have HC := Lib.hid (show may s p f false = f s[p].toNat by unfold may; rw [get_list s p hp]; rfl)
      have hl : (s[p].toNat : Int) < 256 := by have := s[p].toNat_lt; omega
      have hl0 : (0 : Int) ≤ (s[p].toNat : Int) := by omega
      have hcl : w.cell? ⟨MB, 2 + s[p].toNat, none⟩ = some (.bool (f s[p].toNat)) := HM.out.c2 _ (by omega)
      go_enter Tryz.func110, Tryz.ntmps110
      go_wp2
      go_quiet (fail)
      go_wp2
      go_ret
      exact ⟨ret_bool HC.out.symm, _, rfl⟩
    · have HC := Lib.hid (show may s p f false = false by unfold may; rw [List.getElem?_eq_none (by simp; omega)]; rfl)
      go_enter Tryz.func110, Tryz.ntmps110
      go_wp2
      go_quiet (fail)
      go_wp2
      go_ret
      exact ⟨ret_bool HC.out.symm, _, rfl⟩
end
end Go.Proofs.YtbfekknhmjndaaaGreat.nfa

namespace Go.Proofs.YtbfekknhmjndaaaGreat.nfa
set_option linter.unusedVariables false set_option linter.unusedSimpArgs false
open Go.ChangeShapes Go.WideShapes Go.ChangeAt Go.RowKit Go.Proofs.YtbfekknhmjndaaaGreat.base

/-- No match begins where none might begin. -/
def LA (M : Nm) (f : Nat → Bool) (em : Bool) : Prop := ∀ s p j, M.A s M.start p j → em = true ∨ ∃ c, s[p]? = some c ∧ f c.toNat = true
theorem LA.no {M : Nm} {f : Nat → Bool} {em : Bool} (h : LA M f em) {s : ByteArray} {p : Nat} (hm : may s p f em = false) (j : Nat) : ¬ M.A s.data.toList M.start p j := fun hA => by
  unfold may at hm
  simp only [Bool.or_eq_false_iff] at hm
  rcases h _ _ _ hA with h1 | ⟨c, h1, h2⟩
  · rw [h1] at hm; cases hm.1
  · rw [h1] at hm
    have := hm.2
    simp only at this
    rw [h2] at this
    cases this

section
variable (w : World) (B R MB : Nat) (s : ByteArray) (p : Nat) (sv ev : Value) (e : E) (spr : List (Nat × Nat)) (M : Nm) (f : Nat → Bool) (em : Bool) (SB cap : Nat) (fr b : Nat)

/-- At the head of a round: no match begins in the places that were passed. -/
def BegAt (wr : World) (k : Nat) : Prop := ∃ q, p ≤ q ∧ q ≤ s.size ∧ k = s.size - q ∧ SW wr B R MB s q sv ev e spr ∧ Frm (Ge B) w wr ∧ PI M s.data.toList fr q b e ∧ CovTo M s.data.toList fr q q e ∧ (q = p ∨ e.now = [])
def BegPost (en : Ending) (w' : World) : Prop := en = .returned (.tuple #[]) ∧ ∃ q e', p ≤ q ∧ q ≤ s.size ∧ SW w' B R MB s q sv ev e' spr ∧ Frm (Ge B) w w' ∧ PI M s.data.toList fr q q e' ∧ e'.opn = [] ∧ CovTo M s.data.toList fr q (q + 1) e'

theorem cov_skip {M : Nm} {s : List UInt8} {fr q : Nat} {e : E} (hc : CovTo M s fr q q e) (hfd : e.fd = false) (hn : e.now = []) (hno : ∀ j, ¬ M.A s M.start q j) (q' : Nat) : CovTo M s fr q' (q + 1) e := fun b j h1 h2 hA => by
  exfalso
  by_cases hb : b < q
  · rcases hc b j h1 hb hA with ⟨h3, _⟩ | ⟨x, hx, _⟩
    · rw [hfd] at h3; cases h3
    · rw [hn] at hx; cases hx
  · obtain rfl : b = q := by omega
    exact hno j hA
theorem cov_more {M : Nm} {s : List UInt8} {fr q : Nat} {e : E} (hc : CovTo M s fr q q e) (hno : ∀ j, ¬ M.A s M.start q j) : CovTo M s fr q (q + 1) e := fun b j h1 h2 hA => by
  by_cases hb : b < q
  · exact hc b j h1 hb hA
  · obtain rfl : b = q := by omega
    exact absurd hA (hno j)
theorem cov_enter {M : Nm} {s : List UInt8} {fr q : Nat} {e e' : E} (hc : CovTo M s fr q q e) (hfd : e.fd = false) (hpi : PI M s fr q q e') (hopn : e'.opn = []) (hext : Ext q q M.start e e') (hre : e.re ≤ q) : CovTo M s fr q (q + 1) e' := fun b j h1 h2 hA => by
  by_cases hb : b < q
  · exact (hc b j h1 hb hA).ext hext (Or.inl (by omega)) (fun h => by rw [hfd] at h; cases h) hre
  · obtain rfl : b = q := by omega
    refine hpi.cov hopn (q := M.start) ?_ hA
    rcases hext.id with h4 | h4
    · exact h4
    · rw [hopn] at h4; cases h4
theorem pi_skip {M : Nm} {s : List UInt8} {fr q b : Nat} {e : E} (h : PI M s fr q b e) (h0 : e.opn = []) (hn : e.now = []) (b' : Nat) : PI M s fr (q + 1) b' e := by
  have := h.next h0 b'
  rw [show ({ e with now := [] } : E) = e by rw [← hn]] at this
  exact this

set_option maxRecDepth 20000 in
set_option maxHeartbeats 4000000 in
theorem begin_all (h : SW w B R MB s p sv ev e spr) (hM : MachW w B MB M f em SB cap) (hLA : LA M f em) (hB : B ≤ w.heap.size) (hP : PI M s.data.toList fr p b e) (h0 : e.opn = []) (hfd : e.fd = false) (hbp : b ≤ p) (hfp : fr ≤ p) (hps : p ≤ s.size) (hz : s.size ≤ 1000000) (hc : CovTo M s.data.toList fr p p e) :
    Calls Tryz.prog 95 #[.pointer (some ⟨R, 0, none⟩)] w (BegPost w B R MB s p sv ev spr M fr) := by
  have H := Lib.hid h
  have HM := Lib.hid hM
  have HP := Lib.hid hP
  have HLA := Lib.hid hLA
  have HC := Lib.hid hc
  have HO := Lib.hid h0
  have HFD := Lib.hid hfd
  have hre : e.re = 0 := (hP.nofd hfd).2
  clear h hM hP hLA hc h0 hfd
  go_enter Tryz.func95, Tryz.ntmps95
  go_wp2
  go_loopg [] (s.size - p) (fun k wr => BegAt w B R MB s p sv ev e spr M fr b wr k)
  case atStart => exact ⟨p, Nat.le_refl _, hps, rfl, H.out, Frm.refl _ _, HP.out, HC.out, Or.inl rfl⟩
  case round =>
    obtain ⟨q, hpq, hqs, hk, hsw, hfw, hpi, hcv, hqp⟩ := hrel
    have HSW := Lib.hid hsw
    have HFW := Lib.hid hfw
    have HPI := Lib.hid hpi
    have HCV := Lib.hid hcv
    have HQP := Lib.hid hqp
    have hBr : B ≤ wr.heap.size := Nat.le_trans hB hfw.size
    have HMR := Lib.hid (HM.out.ge hfw)
    obtain ⟨nv, ov, h⟩ := hsw
    have r0 := h.box.cell 0
    have r1 : wr.cell? ⟨R, 1, none⟩ = some (.string s) := h.box.cell 1
    have r2 : wr.cell? ⟨R, 2, none⟩ = some (.int .i64 (q : Int)) := h.box.cell 2
    have r3 : wr.cell? ⟨R, 3, none⟩ = some nv := h.box.cell 3
    have hnv : ∃ a oc, nv = .slice a e.now.length oc := by
      rcases h.hn.2 with ⟨hv, hl⟩ | ⟨g, oc, _, hv, _⟩
      · exact ⟨none, 0, by rw [hl]; exact hv⟩
      · exact ⟨_, _, hv⟩
    obtain ⟨a, oc, rfl⟩ := hnv
    clear hfw hpi hcv hqp
    by_cases hnow : e.now.length = 0
    · have hnl : e.now = [] := List.eq_nil_of_length_eq_zero hnow
      rw [hnow] at r3
      have HNL := Lib.hid hnl
      clear hnl
      by_cases hlt : q < s.size
      · have hMC := Lib.hid (fun n => may_all (wr.drewN n) B R MB s q sv ev e spr M f em SB cap ⟨_, ov, h.no ((Frm.refl No wr).drewN n)⟩ (HMR.out.ge ((Frm.refl _ wr).drewN n)) hqs hz)
        generalize hmay : may s q f em = mb at hMC
        have HMAY := Lib.hid hmay
        clear hmay
        have g2 := h.box.f 2
        have H2 := Lib.hid h
        cases mb with
        | true =>
          go_wp2
          go_quiet ((go_at_call 110; go_must (exact Calls.quiet_of (hMC.out _))))
          go_wp2_with (fail)
          have HS3 := Lib.hid (h.no ((Frm.refl No wr).drewN nq))
          have HF3 := Lib.hid (show Frm (Ge B) w (wr.drewN nq) from HFW.out.drewN nq)
          generalize wr.drewN nq = w3 at HS3 HF3 ⊢
          have HM3 := Lib.hid (HM.out.ge HF3.out)
          have hB3 : B ≤ w3.heap.size := Nat.le_trans hB HF3.out.size
          have m1 : w3.cell? ⟨MB, 1, none⟩ = some (.int .i64 (M.start : Int)) := HM3.out.c1
          have k0 : w3.cell? ⟨R, 0, none⟩ = some (.pointer (some ⟨MB, 0, none⟩)) := HS3.out.box.cell 0
          have k2 : w3.cell? ⟨R, 2, none⟩ = some (.int .i64 (q : Int)) := HS3.out.box.cell 2
          go_wp2_with (first | (go_at_call 110; go_must (refine (may_all w3 B R MB s q sv ev e spr M f em SB cap ⟨_, ov, HS3.out⟩ HM3.out hqs hz).mono ?_; rw [HMAY.out]; rintro en _ ⟨rfl, n1, rfl⟩)))
          go_region_with ((go_at_call 111; go_must (refine (enter_all _ B R MB s q sv ev e spr M f em SB cap fr M.start q ⟨_, ov, HS3.out.no ((Frm.refl No w3).drewN _)⟩ (HM3.out.ge ((Frm.refl _ w3).drewN _)) hB3 (HPI.out.up HO.out (by omega)) HO.out M.hstart (fun _ h => h) (by omega) (Nat.le_refl _) hqs hz (fun h => by rw [HFD.out] at h; cases h)).mono ?_; rintro en w5 ⟨rfl, e5, hs5, ho5, hp5, hx5, hf5⟩)))
          all_goals
            refine bodyPost_end (v := .tuple #[]) (by simp [results, Tryz.results95, go_sem]) rfl ⟨rfl, ?_⟩
            exact ⟨q, e5, hpq, hqs, hs5, (HF3.out.drewN _).trans hf5, hp5, ho5, cov_enter HCV.out HFD.out hp5 ho5 hx5 (by omega)⟩
        | false =>
          go_wp2
          go_quiet ((go_at_call 110; go_must (exact Calls.quiet_of (hMC.out _))))
          go_wp2
          go_roundg (s.size - (q + 1))
          case measure => omega
          case rel =>
            obtain ⟨h5, hf5⟩ := (H2.out.no ((Frm.refl No wr).drewN nq)).setAt (q + 1) _ rfl
            exact ⟨q + 1, by omega, by omega, rfl, ⟨_, ov, h5⟩, (HFW.out.drewN nq).trans hf5, pi_skip HPI.out HO.out HNL.out b, cov_skip HCV.out HFD.out HNL.out (HLA.out.no HMAY.out) (q + 1), Or.inr HNL.out⟩
      · go_wp2
        go_quiet (fail)
        go_wp2_with (fail)
        have HS3 := Lib.hid (h.no ((Frm.refl No wr).drewN nq))
        have HF3 := Lib.hid (show Frm (Ge B) w (wr.drewN nq) from HFW.out.drewN nq)
        generalize wr.drewN nq = w3 at HS3 HF3 ⊢
        have HM3 := Lib.hid (HM.out.ge HF3.out)
        have hB3 : B ≤ w3.heap.size := Nat.le_trans hB HF3.out.size
        generalize hmay : may s q f em = mb
        have HMAY := Lib.hid hmay
        clear hmay
        cases mb with
        | true =>
          have m1 : w3.cell? ⟨MB, 1, none⟩ = some (.int .i64 (M.start : Int)) := HM3.out.c1
          have k0 : w3.cell? ⟨R, 0, none⟩ = some (.pointer (some ⟨MB, 0, none⟩)) := HS3.out.box.cell 0
          have k2 : w3.cell? ⟨R, 2, none⟩ = some (.int .i64 (q : Int)) := HS3.out.box.cell 2
          go_wp2_with (first | (go_at_call 110; go_must (refine (may_all w3 B R MB s q sv ev e spr M f em SB cap ⟨_, ov, HS3.out⟩ HM3.out hqs hz).mono ?_; rw [HMAY.out]; rintro en _ ⟨rfl, n1, rfl⟩)))
          go_region_with ((go_at_call 111; go_must (refine (enter_all _ B R MB s q sv ev e spr M f em SB cap fr M.start q ⟨_, ov, HS3.out.no ((Frm.refl No w3).drewN _)⟩ (HM3.out.ge ((Frm.refl _ w3).drewN _)) hB3 (HPI.out.up HO.out (by omega)) HO.out M.hstart (fun _ h => h) (by omega) (Nat.le_refl _) hqs hz (fun h => by rw [HFD.out] at h; cases h)).mono ?_; rintro en w5 ⟨rfl, e5, hs5, ho5, hp5, hx5, hf5⟩)))
          all_goals
            refine bodyPost_end (v := .tuple #[]) (by simp [results, Tryz.results95, go_sem]) rfl ⟨rfl, ?_⟩
            exact ⟨q, e5, hpq, hqs, hs5, (HF3.out.drewN _).trans hf5, hp5, ho5, cov_enter HCV.out HFD.out hp5 ho5 hx5 (by omega)⟩
        | false =>
          go_wp2_with (first | (go_at_call 110; go_must (refine (may_all w3 B R MB s q sv ev e spr M f em SB cap ⟨_, ov, HS3.out⟩ HM3.out hqs hz).mono ?_; rw [HMAY.out]; rintro en _ ⟨rfl, n1, rfl⟩)))
          refine bodyPost_end (v := .tuple #[]) (by simp [results, Tryz.results95, go_sem]) rfl ⟨rfl, ?_⟩
          exact ⟨q, e, hpq, hqs, ⟨_, ov, HS3.out.no ((Frm.refl No w3).drewN n1)⟩, HF3.out.drewN n1, HPI.out.up HO.out (by omega), HO.out, cov_more HCV.out (HLA.out.no HMAY.out)⟩
    · have hn0 : ((e.now.length : Int) == 0) = false := beq_eq_false_iff_ne.2 (by omega)
      go_wp2
      go_quiet (fail)
      go_wp2_with (fail)
      have HS3 := Lib.hid (h.no ((Frm.refl No wr).drewN nq))
      have HF3 := Lib.hid (show Frm (Ge B) w (wr.drewN nq) from HFW.out.drewN nq)
      generalize wr.drewN nq = w3 at HS3 HF3 ⊢
      have HM3 := Lib.hid (HM.out.ge HF3.out)
      have hB3 : B ≤ w3.heap.size := Nat.le_trans hB HF3.out.size
      generalize hmay : may s q f em = mb
      have HMAY := Lib.hid hmay
      clear hmay
      cases mb with
      | true =>
        have m1 : w3.cell? ⟨MB, 1, none⟩ = some (.int .i64 (M.start : Int)) := HM3.out.c1
        have k0 : w3.cell? ⟨R, 0, none⟩ = some (.pointer (some ⟨MB, 0, none⟩)) := HS3.out.box.cell 0
        have k2 : w3.cell? ⟨R, 2, none⟩ = some (.int .i64 (q : Int)) := HS3.out.box.cell 2
        go_wp2_with (first | (go_at_call 110; go_must (refine (may_all w3 B R MB s q sv ev e spr M f em SB cap ⟨_, ov, HS3.out⟩ HM3.out hqs hz).mono ?_; rw [HMAY.out]; rintro en _ ⟨rfl, n1, rfl⟩)))
        go_region_with ((go_at_call 111; go_must (refine (enter_all _ B R MB s q sv ev e spr M f em SB cap fr M.start q ⟨_, ov, HS3.out.no ((Frm.refl No w3).drewN _)⟩ (HM3.out.ge ((Frm.refl _ w3).drewN _)) hB3 (HPI.out.up HO.out (by omega)) HO.out M.hstart (fun _ h => h) (by omega) (Nat.le_refl _) hqs hz (fun h => by rw [HFD.out] at h; cases h)).mono ?_; rintro en w5 ⟨rfl, e5, hs5, ho5, hp5, hx5, hf5⟩)))
        all_goals
          refine bodyPost_end (v := .tuple #[]) (by simp [results, Tryz.results95, go_sem]) rfl ⟨rfl, ?_⟩
          exact ⟨q, e5, hpq, hqs, hs5, (HF3.out.drewN _).trans hf5, hp5, ho5, cov_enter HCV.out HFD.out hp5 ho5 hx5 (by omega)⟩
      | false =>
        go_wp2_with (first | (go_at_call 110; go_must (refine (may_all w3 B R MB s q sv ev e spr M f em SB cap ⟨_, ov, HS3.out⟩ HM3.out hqs hz).mono ?_; rw [HMAY.out]; rintro en _ ⟨rfl, n1, rfl⟩)))
        refine bodyPost_end (v := .tuple #[]) (by simp [results, Tryz.results95, go_sem]) rfl ⟨rfl, ?_⟩
        exact ⟨q, e, hpq, hqs, ⟨_, ov, HS3.out.no ((Frm.refl No w3).drewN n1)⟩, HF3.out.drewN n1, HPI.out.up HO.out (by omega), HO.out, cov_more HCV.out (HLA.out.no HMAY.out)⟩
end
end Go.Proofs.YtbfekknhmjndaaaGreat.nfa
