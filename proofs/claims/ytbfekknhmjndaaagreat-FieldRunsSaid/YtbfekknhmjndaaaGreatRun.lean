/- Contract of match's search.run. Contracts of match's Find and Whole. -/
import Derived.Test.YtbfekknhmjndaaaGreatGo
import Derived.Deep.OwnRows

namespace Go.Proofs.YtbfekknhmjndaaaGreat.nfa
set_option linter.unusedVariables false set_option linter.unusedSimpArgs false
open Go.ChangeShapes Go.WideShapes Go.ChangeAt Go.RowKit Go.Proofs.YtbfekknhmjndaaaGreat.base
section
variable (w : World) (B R MB : Nat) (s : ByteArray) (p : Nat) (sv ev : Value) (e : E) (spr : List (Nat × Nat)) (M : Nm) (f : Nat → Bool) (em : Bool) (SB cap : Nat) (fr b : Nat)

def RunAt (wr : World) (k : Nat) : Prop := ∃ p b e sv spr, SW wr B R MB s p sv ev e spr ∧ Frm (Ge B) w wr ∧ PI M s.data.toList fr p b e ∧ b ≤ p ∧ e.opn = [] ∧ CovTo M s.data.toList fr p p e ∧ (e.fd = true → e.rs < p) ∧ fr ≤ p ∧ p ≤ s.size ∧ k = s.size - p
def RunPost (en : Ending) (w' : World) : Prop := en = .returned (.tuple #[]) ∧ ∃ p e sv spr, SW w' B R MB s p sv ev e spr ∧ Frm (Ge B) w w' ∧ Best M s.data.toList fr e.fd e.rs e.re ∧ (e.fd = true → e.re ≤ s.size)

theorem cov_found {M : Nm} {s : List UInt8} {fr p : Nat} {e : E} (hc : CovTo M s fr p p e) (hf : e.fd = true) (hr : e.rs < p) : CovTo M s fr p (p + 1) e := fun b j h1 h2 hA => by
  by_cases hb : b < p
  · exact hc b j h1 hb hA
  · exact Or.inl ⟨hf, Or.inl (by omega)⟩

/-- Behind begin: it is at its end, or takes a step. -/
def Mid (wr : World) (q : Nat) (e : E) (sv : Value) (spr : List (Nat × Nat)) : Prop := SW wr B R MB s q sv ev e spr ∧ Frm (Ge B) w wr ∧ PI M s.data.toList fr q q e ∧ e.opn = [] ∧ CovTo M s.data.toList fr q (q + 1) e ∧ fr ≤ q ∧ q ≤ s.size

set_option maxRecDepth 20000 in
set_option maxHeartbeats 4000000 in
theorem run_all (h : SW w B R MB s p sv ev e spr) (hM : MachW w B MB M f em SB cap) (hLA : LA M f em) (hB : B ≤ w.heap.size) (hP : PI M s.data.toList fr p b e) (h0 : e.opn = []) (hbp : b ≤ p) (hfp : fr ≤ p) (hps : p ≤ s.size) (hz : s.size ≤ 1000000) (hc : CovTo M s.data.toList fr p p e) (hfd : e.fd = true → e.rs < p) :
    Calls Tryz.prog 89 #[.pointer (some ⟨R, 0, none⟩)] w (RunPost w B R MB s ev M fr) := by
  have H := Lib.hid h
  have HM := Lib.hid hM
  have HP := Lib.hid hP
  have HLA := Lib.hid hLA
  have HC := Lib.hid hc
  have HO := Lib.hid h0
  have HFD := Lib.hid hfd
  clear h hM hP hLA hc h0 hfd
  go_enter Tryz.func89, Tryz.ntmps89
  go_wp2
  go_loopg [] (s.size - p) (fun k wr => RunAt w B R MB s ev M fr wr k)
  case atStart => exact ⟨p, b, e, sv, spr, H.out, Frm.refl _ _, HP.out, hbp, HO.out, HC.out, HFD.out, hfp, hps, rfl⟩
  case round =>
    obtain ⟨p', b', e', sv', spr', hsw, hfw, hpi, hbp', ho', hcv, hlt, hfp', hps', hk⟩ := hrel
    have HPI := Lib.hid hpi
    have HCV := Lib.hid hcv
    have HO' := Lib.hid ho'
    have HFW := Lib.hid hfw
    have hBr : B ≤ wr.heap.size := Nat.le_trans hB hfw.size
    have HMR := Lib.hid (HM.out.ge hfw)
    have HSW := Lib.hid hsw
    have HLT := Lib.hid hlt
    have k7 : wr.cell? ⟨R, 7, none⟩ = some (.bool e'.fd) := by obtain ⟨nv, ov, h⟩ := hsw; exact h.box.cell 7
    clear hsw hfw hpi ho' hcv hlt
    cases hfd : e'.fd with
    | true =>
      rw [hfd] at k7
      have HMID := Lib.hid (show Mid w B R MB s ev M fr wr p' e' sv' spr' from ⟨HSW.out, HFW.out, HPI.out.up HO'.out hbp', HO'.out, cov_found HCV.out hfd (HLT.out hfd), hfp', hps'⟩)
      have HFD2 := Lib.hid hfd
      clear hfd
      go_wp2_with (fail)
      obtain ⟨nv, ov, h⟩ := HMID.out.1
      obtain ⟨na, nc, rfl, _⟩ := own_slice h.hn
      have j1 : wr.cell? ⟨R, 1, none⟩ = some (.string s) := h.box.cell 1
      have j2 : wr.cell? ⟨R, 2, none⟩ = some (.int .i64 (p' : Int)) := h.box.cell 2
      have j3 : wr.cell? ⟨R, 3, none⟩ = some (.slice na e'.now.length nc) := h.box.cell 3
      have j7 : wr.cell? ⟨R, 7, none⟩ = some (.bool e'.fd) := h.box.cell 7
      have hBm : B ≤ wr.heap.size := Nat.le_trans hB HMID.out.2.1.size
      have HMm := Lib.hid (HM.out.ge HMID.out.2.1)
      have hqs2 : p' ≤ s.size := HMID.out.2.2.2.2.2.2
      have HH := Lib.hid h
      clear h
      by_cases hend : p' = s.size
      · have hend' : ((p' : Int) == (s.size : Int)) = true := beq_iff_eq.2 (by omega)
        go_quiet (fail)
        go_wp2
        refine bodyPost_end (v := .tuple #[]) (by simp [results, Tryz.results89, go_sem]) rfl ⟨rfl, ?_⟩
        obtain ⟨_, d2, d3, d4, d5, d6, d7⟩ := HMID.out
        exact ⟨p', e', _, _, ⟨_, ov, HH.out.no ((Frm.refl No wr).drewN _)⟩, d2.drewN _, best_end d3 d5 (by simpa using hqs2) (Or.inl (by simpa using hend)), fun h => Nat.le_trans (d3.fds h).2.2.2 hqs2⟩
      · have hend' : ((p' : Int) == (s.size : Int)) = false := beq_eq_false_iff_ne.2 (by omega)
        by_cases hstop : e'.fd = true ∧ e'.now = []
        · obtain ⟨hs1, hs2⟩ := hstop
          have HS1 := Lib.hid hs1
          have HS2 := Lib.hid hs2
          rw [hs1] at j7
          rw [hs2] at j3
          clear hs1 hs2
          go_quiet (fail)
          go_wp2
          refine bodyPost_end (v := .tuple #[]) (by simp [results, Tryz.results89, go_sem]) rfl ⟨rfl, ?_⟩
          obtain ⟨_, d2, d3, d4, d5, d6, d7⟩ := HMID.out
          exact ⟨p', e', _, _, ⟨_, ov, HH.out.no ((Frm.refl No wr).drewN _)⟩, d2.drewN _, best_end d3 d5 (by simpa using hqs2) (Or.inr ⟨HS1.out, HS2.out⟩), fun h => Nat.le_trans (d3.fds h).2.2.2 hqs2⟩
        · have hgo : (e'.fd && ((e'.now.length : Int) == 0)) = false := by
            cases hf : e'.fd with
            | false => rfl
            | true =>
              have : e'.now ≠ [] := fun h => hstop ⟨hf, h⟩
              have : e'.now.length ≠ 0 := fun h => this (List.eq_nil_of_length_eq_zero h)
              simp
              assumption
          have hst := HMID.out
          obtain ⟨d1, d2, d3, d4, d5, d6, d7⟩ := hst
          have HST := Lib.hid (fun n => step_all (wr.drewN n) B R MB s p' sv' ev e' spr' M f em SB cap fr p' ⟨_, ov, HH.out.no ((Frm.refl No wr).drewN n)⟩ (HMm.out.ge ((Frm.refl _ wr).drewN n)) hBm d3 d4 (Nat.le_refl _) (by omega) hz d5)
          have HD2 := Lib.hid d2
          clear d1 d2 d3 d4 d5 hstop
          cases hff : e'.fd with
          | false =>
            rw [HFD2.out] at hff
            cases hff
          | true =>
            rw [hff] at j7 hgo
            have hn0 : ((e'.now.length : Int) == 0) = false := by simpa using hgo
            clear hff hgo
            go_quiet (fail)
            go_wp2_with ((go_at_call 96; go_must (refine (HST.out _).mono ?_; rintro en w5 ⟨rfl, b5, e5, sv5, spr5, hb5, hsw5, hfw5, hpi5, ho5, hcv5, hlt5⟩)))
            go_roundg (s.size - (p' + 1))
            case measure => omega
            case rel => exact ⟨p' + 1, b5, e5, sv5, spr5, hsw5, (HD2.out.drewN _).trans hfw5, hpi5, by omega, ho5, hcv5, fun h => by have := hlt5 h; omega, by omega, by omega, rfl⟩
    | false =>
      rw [hfd] at k7
      have HFD2 := Lib.hid hfd
      clear hfd
      go_wp2_with ((go_at_call 95; go_must (refine (begin_all wr B R MB s p' sv' ev e' spr' M f em SB cap fr b' HSW.out HMR.out HLA.out hBr HPI.out HO'.out HFD2.out hbp' hfp' hps' hz HCV.out).mono ?_; rintro en w2 ⟨rfl, q, e2, hpq, hqs, hsw2, hfw2, hpi2, ho2, hcv2⟩)))
      have HMID := Lib.hid (show Mid w B R MB s ev M fr w2 q e2 sv' spr' from ⟨hsw2, HFW.out.trans hfw2, hpi2, ho2, hcv2, by omega, hqs⟩)
      clear hsw2 hfw2 hpi2 ho2 hcv2 k7
      obtain ⟨nv, ov, h⟩ := HMID.out.1
      obtain ⟨na, nc, rfl, _⟩ := own_slice h.hn
      have j1 : w2.cell? ⟨R, 1, none⟩ = some (.string s) := h.box.cell 1
      have j2 : w2.cell? ⟨R, 2, none⟩ = some (.int .i64 (q : Int)) := h.box.cell 2
      have j3 : w2.cell? ⟨R, 3, none⟩ = some (.slice na e2.now.length nc) := h.box.cell 3
      have j7 : w2.cell? ⟨R, 7, none⟩ = some (.bool e2.fd) := h.box.cell 7
      have hBm : B ≤ w2.heap.size := Nat.le_trans hB HMID.out.2.1.size
      have HMm := Lib.hid (HM.out.ge HMID.out.2.1)
      have hqs2 : q ≤ s.size := HMID.out.2.2.2.2.2.2
      have HH := Lib.hid h
      clear h
      by_cases hend : q = s.size
      · have hend' : ((q : Int) == (s.size : Int)) = true := beq_iff_eq.2 (by omega)
        go_quiet (fail)
        go_wp2
        refine bodyPost_end (v := .tuple #[]) (by simp [results, Tryz.results89, go_sem]) rfl ⟨rfl, ?_⟩
        obtain ⟨_, d2, d3, d4, d5, d6, d7⟩ := HMID.out
        exact ⟨q, e2, _, _, ⟨_, ov, HH.out.no ((Frm.refl No w2).drewN _)⟩, d2.drewN _, best_end d3 d5 (by simpa using hqs2) (Or.inl (by simpa using hend)), fun h => Nat.le_trans (d3.fds h).2.2.2 hqs2⟩
      · have hend' : ((q : Int) == (s.size : Int)) = false := beq_eq_false_iff_ne.2 (by omega)
        by_cases hstop : e2.fd = true ∧ e2.now = []
        · obtain ⟨hs1, hs2⟩ := hstop
          have HS1 := Lib.hid hs1
          have HS2 := Lib.hid hs2
          rw [hs1] at j7
          rw [hs2] at j3
          clear hs1 hs2
          go_quiet (fail)
          go_wp2
          refine bodyPost_end (v := .tuple #[]) (by simp [results, Tryz.results89, go_sem]) rfl ⟨rfl, ?_⟩
          obtain ⟨_, d2, d3, d4, d5, d6, d7⟩ := HMID.out
          exact ⟨q, e2, _, _, ⟨_, ov, HH.out.no ((Frm.refl No w2).drewN _)⟩, d2.drewN _, best_end d3 d5 (by simpa using hqs2) (Or.inr ⟨HS1.out, HS2.out⟩), fun h => Nat.le_trans (d3.fds h).2.2.2 hqs2⟩
        · have hgo : (e2.fd && ((e2.now.length : Int) == 0)) = false := by
            cases hf : e2.fd with
            | false => rfl
            | true =>
              have : e2.now ≠ [] := fun h => hstop ⟨hf, h⟩
              have : e2.now.length ≠ 0 := fun h => this (List.eq_nil_of_length_eq_zero h)
              simp
              assumption
          have hst := HMID.out
          obtain ⟨d1, d2, d3, d4, d5, d6, d7⟩ := hst
          have HST := Lib.hid (fun n => step_all (w2.drewN n) B R MB s q sv' ev e2 spr' M f em SB cap fr q ⟨_, ov, HH.out.no ((Frm.refl No w2).drewN n)⟩ (HMm.out.ge ((Frm.refl _ w2).drewN n)) hBm d3 d4 (Nat.le_refl _) (by omega) hz d5)
          have HD2 := Lib.hid d2
          clear d1 d2 d3 d4 d5 hstop
          cases hff : e2.fd with
          | false =>
            rw [hff] at j7
            clear hff hgo
            go_quiet (fail)
            go_wp2_with ((go_at_call 96; go_must (refine (HST.out _).mono ?_; rintro en w5 ⟨rfl, b5, e5, sv5, spr5, hb5, hsw5, hfw5, hpi5, ho5, hcv5, hlt5⟩)))
            go_roundg (s.size - (q + 1))
            case measure => omega
            case rel => exact ⟨q + 1, b5, e5, sv5, spr5, hsw5, (HD2.out.drewN _).trans hfw5, hpi5, by omega, ho5, hcv5, fun h => by have := hlt5 h; omega, by omega, by omega, rfl⟩
          | true =>
            rw [hff] at j7 hgo
            have hn0 : ((e2.now.length : Int) == 0) = false := by simpa using hgo
            clear hff hgo
            go_quiet (fail)
            go_wp2_with ((go_at_call 96; go_must (refine (HST.out _).mono ?_; rintro en w5 ⟨rfl, b5, e5, sv5, spr5, hb5, hsw5, hfw5, hpi5, ho5, hcv5, hlt5⟩)))
            go_roundg (s.size - (q + 1))
            case measure => omega
            case rel => exact ⟨q + 1, b5, e5, sv5, spr5, hsw5, (HD2.out.drewN _).trans hfw5, hpi5, by omega, ho5, hcv5, fun h => by have := hlt5 h; omega, by omega, by omega, rfl⟩
end
end Go.Proofs.YtbfekknhmjndaaaGreat.nfa

namespace Go.Proofs.YtbfekknhmjndaaaGreat.nfa
set_option linter.unusedVariables false set_option linter.unusedSimpArgs false
open Go.ChangeShapes Go.WideShapes Go.ChangeAt Go.RowKit Go.Proofs.YtbfekknhmjndaaaGreat.base

theorem pi_init (M : Nm) (s : List UInt8) (p : Nat) : PI M s p p p ⟨[], [], List.replicate M.sts.length 0, false, 0, 0⟩ := by
  have hno : ∀ q, ¬ mark ⟨[], [], List.replicate M.sts.length 0, false, 0, 0⟩ p q := fun q hq => by
    have := List.mem_of_getElem? hq
    have := List.eq_of_mem_replicate this
    omega
  refine ⟨by simp, fun v hv => by rw [List.eq_of_mem_replicate hv]; omega, (fun q hq => by cases hq), (fun q hq => by cases hq), (fun q st hq => absurd hq (hno q)), (fun q f nx hq => absurd hq (hno q)), (fun q hq => absurd hq (hno q)), (fun x hx => by cases hx), List.Pairwise.nil, (fun h => by cases h), (fun _ => ⟨rfl, rfl⟩), ?_⟩
  have := unm_le (List.replicate M.sts.length 0) p
  simp only [List.length_replicate] at this
  show 0 + unm (List.replicate M.sts.length 0) p ≤ _
  omega

theorem own_made (w : World) (B n : Nat) (h : n ≤ 1000000) (hB : B ≤ w.heap.size) : (w.alloc (.cells (madeCells #[.int .i64 0] n) 3)).ownsRow B 3 1 (.slice (some ⟨w.heap.size, 0, none⟩) n n) n ((List.replicate n 0).map iC) := by
  refine ⟨by simp, Or.inr ⟨w.heap.size, n, madeCells #[.int .i64 0] n, rfl, hB, heap_alloc_new w _, Nat.le_refl _, by unfold maxLen; omega, by simp [size_madeCells], ?_⟩⟩
  rw [toList_madeCells_one]
  simp [iC]

/-- What Find answers. -/
def FindPost (w : World) (M : Nm) (s : ByteArray) (fr : Nat) (en : Ending) (w' : World) : Prop := ∃ (fd : Bool) (rs re : Nat), en = .returned (.tuple #[.int .i64 (rs : Nat), .int .i64 ((re : Int) - (rs : Int)), .bool fd]) ∧ Best M s.data.toList fr fd rs re ∧ Frm No w w' ∧ rs ≤ re ∧ re ≤ s.size

theorem find_out (w : World) (MB : Nat) (s : ByteArray) (n : Int) (hn : n < 0 ∨ (s.size : Int) < n) (hz : s.size ≤ 1000000) :
    Calls Tryz.prog 72 #[.pointer (some ⟨MB, 0, none⟩), .string s, .int .i64 n] w fun en w' => en = .returned (.tuple #[.int .i64 0, .int .i64 0, .bool false]) ∧ w' = w := by
  by_cases h0 : n < 0
  · go_enter Tryz.func72, Tryz.ntmps72
    go_wp2
    exact bodyPost_ret (v := .tuple #[.int .i64 0, .int .i64 0, .bool false]) (by simp [results, Tryz.results72, go_sem]) rfl ⟨rfl, rfl⟩
  · have h1 : (s.size : Int) < n := by omega
    go_enter Tryz.func72, Tryz.ntmps72
    go_wp2
    exact bodyPost_ret (v := .tuple #[.int .i64 0, .int .i64 0, .bool false]) (by simp [results, Tryz.results72, go_sem]) rfl ⟨rfl, rfl⟩

set_option maxRecDepth 20000 in
set_option maxHeartbeats 2000000 in
theorem find_all (w : World) (MB : Nat) (M : Nm) (f : Nat → Bool) (em : Bool) (SB cap : Nat) (s : ByteArray) (fr : Nat) (hM : MachW w w.heap.size MB M f em SB cap) (hLA : LA M f em) (hfr : fr ≤ s.size) (hz : s.size ≤ 1000000) :
    Calls Tryz.prog 72 #[.pointer (some ⟨MB, 0, none⟩), .string s, .int .i64 (fr : Int)] w (FindPost w M s fr) := by
  have m0 := hM.c0
  have hn := hM.n
  have HM := Lib.hid hM
  have HLA := Lib.hid hLA
  have hmk := run_make_row' (P := Tryz.prog) 130 3 (.int .i64 0) 8 Tryz.underlying130 info_int rfl .i64 .i64 M.sts.length (by omega) (by omega)
  have h0 : (0 : Int) ≤ (fr : Int) := by omega
  have h1 : (fr : Int) ≤ (s.size : Int) := by omega
  clear hM hLA
  go_enter Tryz.func72, Tryz.ntmps72
  have hSW : SW ((w.alloc (.cells (madeCells #[.int .i64 0] M.sts.length) 3)).alloc (.cells #[.pointer (some ⟨MB, 0, none⟩), .string s, .int .i64 (fr : Int), .slice none 0 0, .slice none 0 0, .slice (some ⟨w.heap.size, 0, none⟩) M.sts.length M.sts.length, .slice none 0 0, .bool false, .int .i64 0, .int .i64 0] 147)) w.heap.size (w.heap.size + 1) MB s fr (.slice none 0 0) (.slice (some ⟨w.heap.size, 0, none⟩) M.sts.length M.sts.length) ⟨[], [], List.replicate M.sts.length 0, false, 0, 0⟩ [] := by
    refine ⟨.slice none 0 0, .slice none 0 0, ?_, World.ownsRow_nil _ _ _ _, World.ownsRow_nil _ _ _ _, ?_, World.ownsRow_nil _ _ _ _, (fun g h => by cases h), (fun g h => by cases h), Nat.le_succ _⟩
    · have := Box.new (w.alloc (.cells (madeCells #[.int .i64 0] M.sts.length) 3)) 147 #[.pointer (some ⟨MB, 0, none⟩), .string s, .int .i64 (fr : Int), .slice none 0 0, .slice none 0 0, .slice (some ⟨w.heap.size, 0, none⟩) M.sts.length M.sts.length, .slice none 0 0, .bool false, .int .i64 0, .int .i64 0]
      rw [World.size_alloc] at this
      exact this
    · have := own_made w w.heap.size M.sts.length hn (Nat.le_refl _)
      simp only [List.length_replicate]
      exact this.alloc _
  have HSW := Lib.hid hSW
  have hFr : Frm (Ge w.heap.size) w ((w.alloc (.cells (madeCells #[.int .i64 0] M.sts.length) 3)).alloc (.cells #[.pointer (some ⟨MB, 0, none⟩), .string s, .int .i64 (fr : Int), .slice none 0 0, .slice none 0 0, .slice (some ⟨w.heap.size, 0, none⟩) M.sts.length M.sts.length, .slice none 0 0, .bool false, .int .i64 0, .int .i64 0] 147)) := ((Frm.refl _ w).alloc _).alloc _
  have HFR := Lib.hid hFr
  clear hSW hFr
  go_wp2_with ((go_at_call 89; go_must (refine (run_all _ w.heap.size (w.heap.size + 1) MB s fr (.slice none 0 0) (.slice (some ⟨w.heap.size, 0, none⟩) M.sts.length M.sts.length) ⟨[], [], List.replicate M.sts.length 0, false, 0, 0⟩ [] M f em SB cap fr fr HSW.out (HM.out.ge HFR.out) HLA.out HFR.out.size (pi_init M s.data.toList fr) rfl (Nat.le_refl _) (Nat.le_refl _) hfr hz (fun b j h1 h2 => absurd h1 (by omega)) (fun h => by cases h)).mono ?_; rintro en w3 ⟨rfl, p3, e3, sv3, spr3, hsw3, hfw3, hbest, hre3⟩)))
  have HB3 := Lib.hid hbest
  have HF3 := Lib.hid (HFR.out.trans hfw3)
  obtain ⟨nv3, ov3, h3⟩ := hsw3
  have k7 : w3.cell? ⟨w.heap.size + 1, 7, none⟩ = some (.bool e3.fd) := h3.box.cell 7
  have k8 : w3.cell? ⟨w.heap.size + 1, 8, none⟩ = some (.int .i64 (e3.rs : Int)) := h3.box.cell 8
  have k9 : w3.cell? ⟨w.heap.size + 1, 9, none⟩ = some (.int .i64 (e3.re : Int)) := h3.box.cell 9
  have hrr : e3.rs ≤ e3.re ∧ e3.re ≤ s.size := by
    rcases HB3.out with ⟨_, h1, h2, _⟩ | ⟨h0, _, h1, h2, _⟩
    · omega
    · exact ⟨h1, hre3 h0⟩
  obtain ⟨hr1, hr2⟩ := hrr
  clear hfw3 hbest h3 hre3
  go_quiet (fail)
  go_wp2
  refine bodyPost_ret (v := .tuple #[.int .i64 (e3.rs : Int), .int .i64 ((e3.re : Int) - (e3.rs : Int)), .bool e3.fd]) (by simp [results, Tryz.results72, go_sem]) rfl ⟨e3.fd, e3.rs, e3.re, rfl, HB3.out, ?_, hr1, hr2⟩
  exact (HF3.out.drewN _).mono (fun k hk h => absurd h (by unfold Ge; omega))


end Go.Proofs.YtbfekknhmjndaaaGreat.nfa
