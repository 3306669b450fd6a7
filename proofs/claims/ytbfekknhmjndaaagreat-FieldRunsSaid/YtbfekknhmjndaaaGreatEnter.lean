/- Contract of match's search.enter. -/
import Derived.Test.YtbfekknhmjndaaaGreatVisit
import Derived.Deep.LoopGhost
namespace Go.Proofs.YtbfekknhmjndaaaGreat.nfa
set_option linter.unusedVariables false set_option linter.unusedSimpArgs false
open Go.ChangeShapes Go.WideShapes Go.ChangeAt Go.RowKit Go.Proofs.YtbfekknhmjndaaaGreat.base
attribute [local go_sem ↓] Go.wp_at_zero Go.wp_at_succ

/-- One element less. -/
theorem own_pop {w : World} {B n g cap : Nat} {C : List Value} {x : Value} {T : TypeId} (h : w.ownsRow B T 1 (.slice (some ⟨g, 0, none⟩) (n + 1) cap) (n + 1) (C ++ [x])) : w.ownsRow B T 1 (.slice (some ⟨g, 0, none⟩) n cap) n C := by
  obtain ⟨h1, h2⟩ := h
  have hl : C.length = n := by simp at h1; exact h1
  refine ⟨by omega, ?_⟩
  rcases h2 with ⟨h, _⟩ | ⟨g', cap', cur, hv, h3, h4, h5, h6, h7, h8⟩
  · cases h
  · cases hv
    refine Or.inr ⟨g, cap, cur, rfl, h3, h4, by omega, h6, h7, ?_⟩
    have := congrArg (List.take n) h8
    rw [List.take_take, List.take_append_of_le_length (by omega), List.take_of_length_le (l := C) (by omega)] at this
    rw [← this]
    congr 1
    omega
theorem own_zero {w : World} {B n g cap z : Nat} {C : List Value} {T : TypeId} (h : w.ownsRow B T z (.slice (some ⟨g, 0, none⟩) n cap) n C) : w.ownsRow B T z (.slice (some ⟨g, 0, none⟩) 0 cap) 0 [] := by
  obtain ⟨h1, h2⟩ := h
  refine ⟨by simp, ?_⟩
  rcases h2 with ⟨h, _⟩ | ⟨g', cap', cur, hv, h3, h4, h5, h6, h7, h8⟩
  · cases h
  · cases hv
    exact Or.inr ⟨g, cap, cur, rfl, h3, h4, by omega, h6, h7, by simp⟩

section
variable {w : World} {B R MB : Nat} {s : ByteArray} {p : Nat} {nv sv ev ov : Value} {e : E} {spr : List (Nat × Nat)}
/-- A state is taken off. -/
theorem SV.pop (h : SV w B R MB s p nv sv ev ov e spr) {id : Nat} {t : List Nat} (he : e.opn = id :: t) : ∃ g cap, ov = .slice (some ⟨g, 0, none⟩) (t.length + 1) cap ∧ t.length + 1 ≤ cap ∧ w.cell? ⟨g, t.length, none⟩ = some (iC id) ∧
    SV (w.setCell ⟨R, 6, none⟩ (.slice (some ⟨g, 0, none⟩) t.length cap)) B R MB s p nv sv ev (.slice (some ⟨g, 0, none⟩) t.length cap) { e with opn := t } spr ∧ Frm (Ge B) w (w.setCell ⟨R, 6, none⟩ (.slice (some ⟨g, 0, none⟩) t.length cap)) := by
  have ho := h.ho
  rw [he] at ho
  have e2 : (id :: t).reverse.map iC = t.reverse.map iC ++ [iC id] := by simp
  rw [e2] at ho
  rcases ho.2 with ⟨_, h0⟩ | ⟨g, cap, cur, hv, _, _, hcap, _⟩
  · simp at h0
  · simp only [List.length_cons] at hv ho hcap
    subst hv
    refine ⟨g, cap, rfl, hcap, ?_, ?_⟩
    · have := ho.cellAt t.length (by omega)
      rw [this, List.getElem?_append_right (by simp)]
      simp
    · exact h.setOpn (Frm.refl _ w) t (own_pop ho) (fun g' h => Or.inl h)
/-- A state is marked. -/
theorem SV.mark (h : SV w B R MB s p nv sv ev ov e spr) {id : Nat} (hid : id < e.seen.length) (v : Nat) : ∃ g cap, ev = .slice (some ⟨g, 0, none⟩) e.seen.length cap ∧ g ≠ R ∧ w.frozen? ⟨g, id, none⟩ = false ∧ (∀ x, e.seen[id]? = some x → w.cell? ⟨g, id, none⟩ = some (iC x)) ∧
    SV (w.setCell ⟨g, id, none⟩ (iC v)) B R MB s p nv sv ev ov { e with seen := e.seen.set id v } spr ∧ Frm (Ge B) w (w.setCell ⟨g, id, none⟩ (iC v)) := by
  have he := h.he
  rcases he.2 with ⟨_, h0⟩ | ⟨g, cap, cur, hv, hg, _, hcap, _⟩
  · omega
  · have hR : g ≠ R := fun hh => own_far he h.box (by decide) (by rw [hv, hh]; rfl)
    have hf1 : Frm (At g) w (w.setCell ⟨g, id, none⟩ (iC v)) := Frm.setCell (Frm.refl _ _) ⟨g, id, none⟩ _ (fun _ => rfl)
    have hev : ev.ownBlock = some g := by rw [hv]; rfl
    refine ⟨g, cap, hv, hR, ?_, fun x hx => ?_, ⟨h.box.set_ne _ hR, own_move h.hn hf1 (fun g' h1 h2 => own_apart h.hn he (by decide) h1 (h2 ▸ hev)), own_move h.hs hf1 (fun g' h1 h2 => own_apart h.hs he (by decide) h1 (h2 ▸ hev)), ?_, own_move h.ho hf1 (fun g' h1 h2 => h.eo g' h1 (h2 ▸ hev)), h.ns, h.eo, h.hR⟩, hf1.mono (fun k _ h1 => by cases h1; exact hg)⟩
    · rw [hv] at he; exact he.frozenAt id
    · rw [hv] at he
      rw [he.cellAt id (by simp; omega)]
      simp [hx]
    · have he2 := he
      rw [hv] at he2
      have := (he2.stored id (iC v)).1
      rw [hv]
      simp only [List.length_set, List.map_set]
      exact this
end

section
variable (w : World) (B R MB : Nat) (s : ByteArray) (p : Nat) (sv ev : Value) (e : E) (spr : List (Nat × Nat)) (M : Nm) (f : Nat → Bool) (em : Bool) (SB cap : Nat) (fr id b : Nat)

theorem wrap_small (n : Nat) (h : n ≤ 3000000) : IntKind.i64.wrap (n : Int) = (n : Int) := by
  rw [IntKind.wrap_i64]
  have h2 : wrap64 (n : Int) = (n : Int) := IntWalk.wrap64_in _ ⟨by omega, by omega⟩
  unfold wrap64 at h2
  omega

/-- What holds at the head of each round. -/
def EnterAt (wr : World) (k : Nat) : Prop := ∃ e', SW wr B R MB s p sv ev e' spr ∧ PI M s.data.toList fr p b e' ∧ Ext p b id e e' ∧ Frm (Ge B) w wr ∧ e'.opn.length + 2 * unm e'.seen p ≤ k ∧ e'.opn.length + 2 * unm e'.seen p ≤ 1 + 2 * M.sts.length
def EnterPost (en : Ending) (w' : World) : Prop := en = .returned (.tuple #[]) ∧ ∃ e', SW w' B R MB s p sv ev e' spr ∧ e'.opn = [] ∧ PI M s.data.toList fr p b e' ∧ Ext p b id e e' ∧ Frm (Ge B) w w'

set_option maxRecDepth 20000 in
set_option maxHeartbeats 4000000 in
theorem enter_all (h : SW w B R MB s p sv ev e spr) (hM : MachW w B MB M f em SB cap) (hB : B ≤ w.heap.size) (hP : PI M s.data.toList fr p b e) (h0 : e.opn = []) (hid : id < M.sts.length) (hA : ∀ j, M.A s.data.toList id p j → M.A s.data.toList M.start b j) (hfr : fr ≤ b) (hbp : b ≤ p) (hps : p ≤ s.size) (hz : s.size ≤ 1000000) (hcut : e.fd = true → b ≤ e.rs) :
    Calls Tryz.prog 111 #[.pointer (some ⟨R, 0, none⟩), .int .i64 (id : Int), .int .i64 (b : Int)] w (EnterPost w B R MB s p sv ev e spr M fr id b) := by
  obtain ⟨nv, ov, h⟩ := h
  obtain ⟨eg, ec, rfl⟩ : ∃ eg ec, ev = .slice (some ⟨eg, 0, none⟩) M.sts.length ec := by
    obtain ⟨g, c, hv, _⟩ := h.mark (id := id) (by rw [hP.slen]; exact hid) 0
    exact ⟨g, c, by rw [hv, hP.slen]⟩
  obtain ⟨r0, r1, r2, r3, r4, r5, r6, r7, r8, r9⟩ := h.cells
  have g6 := h.box.f 6
  have H := Lib.hid h
  have HM := Lib.hid hM
  have hn := hM.n
  have HPE := Lib.hid (hP.enter h0 hid hA)
  have hcn := hP.cnt
  have hun := unm_le e.seen p
  have hsl := hP.slen
  obtain ⟨i0, hi, hz0, hz1, hz2⟩ := info_parts info_int
  have hRlt := h.box.lt
  have hRne := own_far h.ho h.box (by decide)
  have HCUT := Lib.hid hcut
  obtain ⟨a, oc, rfl, hown0, hRne'⟩ : ∃ a oc, ov = .slice a 0 oc ∧ w.ownsRow B 3 1 (.slice a 0 oc) 0 [] ∧ (Value.slice a 0 oc).ownBlock ≠ some R := by
    have ho := h.ho
    rw [h0] at ho
    rcases ho.2 with ⟨hv, _⟩ | ⟨g, oc, _, hv, _⟩
    · exact ⟨none, 0, hv, World.ownsRow_nil _ _ _ _, by simp [Value.ownBlock]⟩
    · subst hv
      exact ⟨some ⟨g, 0, none⟩, oc, rfl, ho, hRne⟩
  have HOWN := Lib.hid hown0
  clear h hM hP h0 hA hcut hown0
  go_enter Tryz.func111, Tryz.ntmps111
  go_wp2_with (refine wpList_append_lies _ rfl _ _ _ rfl B 3 i0 _ 1 8 Tryz.underlying130 hi hz0 hz1 hz2 rfl (by omega) (.slice a 0 oc) 0 [] rfl (World.ownsRow.alloc HOWN.out _) ⟨w.heap.size, 0, none⟩ 1 1 [.int .i64 (id : Int)] rfl rfl (World.news_of_block (heap_alloc_new w _)) (by simp [Value.oneCell']) (by omega) (by unfold maxLen; omega) (by omega) (by simp; omega) (w.heap.size + 1) (by simp) ?_; intro g gcap w1 hown1 hgrow hat hlt; have f3 : w1.frozen? ⟨R, 6, none⟩ = false := (hgrow.frozen_far _ (by simp; omega) (Ne.symm hRne')).trans (by exact (H.out.box.alloc _).f 6); have e3 : w1.cell? ⟨R, 6, none⟩ = some (.slice a 0 oc) := (hgrow.cell_far _ (by simp; omega) (Ne.symm hRne')).trans (by exact (H.out.box.alloc _).cell 6))
  go_loopg [1] (1 + 2 * M.sts.length) (fun k _ wr => EnterAt w B R MB s p sv (.slice (some ⟨eg, 0, none⟩) M.sts.length ec) e spr M fr id b wr k)
  case atStart =>
    have hf : Frm (fun k => (Value.slice a 0 oc).ownBlock = some k) w w1 := ((Frm.refl _ w).alloc _).grown hgrow (fun k h _ => h)
    obtain ⟨h1, h2⟩ := H.out.setOpn hf (ov' := .slice (some ⟨g, 0, none⟩) 1 gcap) [id] hown1 (fun g' h => by
      simp only [Value.ownBlock, Option.some.injEq] at h
      subst h
      exact hat.imp (fun h => h) (fun h => by omega))
    refine ⟨{ e with opn := [id] }, ⟨nv, _, h1⟩, HPE.out.1, HPE.out.2, h2, ?_, ?_⟩
    · show 1 + 2 * unm e.seen p ≤ _; omega
    · show 1 + 2 * unm e.seen p ≤ _; omega
  case round =>
    obtain ⟨e', ⟨nv', ov', hsv⟩, hpi, hext, hfw, hk1, hk2⟩ := hrel
    have q6 := hsv.box.cell 6
    have HSV := Lib.hid hsv
    have HPI := Lib.hid hpi
    have HEX := Lib.hid hext
    have HFW := Lib.hid hfw
    cases hopn : e'.opn with
    | nil =>
      obtain ⟨a2, oc2, rfl⟩ : ∃ a2 oc2, ov' = .slice a2 0 oc2 := by
        have ho := hsv.ho
        rw [hopn] at ho
        rcases ho.2 with ⟨hv, _⟩ | ⟨g, oc, _, hv, _⟩
        · exact ⟨_, _, hv⟩
        · exact ⟨_, _, hv⟩
      have HO := Lib.hid hopn
      clear hsv hpi hext hfw hopn
      go_wp2
      refine bodyPost_end (v := .tuple #[]) (by simp [results, Tryz.results111, go_sem]) rfl ⟨rfl, ?_⟩
      exact ⟨e', ⟨nv', _, HSV.out⟩, HO.out, HPI.out, HEX.out, HFW.out⟩
    | cons x t =>
      obtain ⟨g2, cap2, rfl, hcap, hcx, hpop, hfp⟩ := hsv.pop hopn
      have HPOP := Lib.hid hpop
      have HFP := Lib.hid hfp
      have HO := Lib.hid hopn
      have hxn : x < M.sts.length := hpi.opnlt x (by rw [hopn]; simp)
      have hcx' : wr.cell? ⟨g2, t.length, none⟩ = some (.int .i64 (x : Int)) := hcx
      have qf6 := hsv.box.f 6
      have htl : t.length ≤ 3000000 := by rw [hopn] at hk2; simp only [List.length_cons] at hk2; omega
      have hwr := wrap_small t.length htl
      have htz : (0 : Int) ≤ (t.length : Int) := by omega
      clear hsv hpi hext hfw hopn hpop hfp hcx
      go_wp2
      go_quiet (fail)
      go_wp2
      go_region
      go_wp2
      have HS2 := Lib.hid (show SV ((wr.drewN (nq + 1)).setCell ⟨R, 6, none⟩ (.slice (some ⟨g2, 0, none⟩) t.length cap2)) B R MB s p nv' sv (.slice (some ⟨eg, 0, none⟩) M.sts.length ec) (.slice (some ⟨g2, 0, none⟩) t.length cap2) { e' with opn := t } spr from HPOP.out.no ⟨rfl, rfl, rfl, Nat.le_refl _, fun _ _ _ => rfl⟩)
      have HF2 := Lib.hid (show Frm (Ge B) w ((wr.drewN (nq + 1)).setCell ⟨R, 6, none⟩ (.slice (some ⟨g2, 0, none⟩) t.length cap2)) from (HFW.out.trans HFP.out).then (S' := No) ⟨rfl, rfl, rfl, Nat.le_refl _, fun _ _ _ => rfl⟩ (fun _ _ h => h.elim))
      generalize (wr.drewN (nq + 1)).setCell ⟨R, 6, none⟩ (.slice (some ⟨g2, 0, none⟩) t.length cap2) = w2 at HS2 HF2 ⊢
      have HEQ : { e' with opn := x :: t } = e' := by rw [← HO.out]
      have HPI2 := Lib.hid (show PI M s.data.toList fr p b { e' with opn := x :: t } by rw [HEQ]; exact HPI.out)
      have HEX2 := Lib.hid (show Ext p b id e { e' with opn := x :: t } by rw [HEQ]; exact HEX.out)
      have hxs : x < e'.seen.length := by rw [HPI.out.slen]; exact hxn
      obtain ⟨st, hst⟩ : ∃ st, M.sts[x]? = some st := ⟨_, List.getElem?_eq_getElem hxn⟩
      have HST := Lib.hid hst
      have HSTEP := Lib.hid (HPI2.out.step HEX2.out hst hfr hbp HCUT.out)
      obtain ⟨v, hv⟩ : ∃ v, e'.seen[x]? = some v := ⟨_, List.getElem?_eq_getElem hxs⟩
      obtain ⟨eg', ec', hev, hgR, hfz, hcell, hmark, hmf⟩ := HS2.out.mark hxs (p + 1)
      have hev2 := hev
      simp only [Value.slice.injEq, Option.some.injEq, Addr.mk.injEq, and_true, true_and] at hev2
      obtain ⟨rfl, _, rfl⟩ := hev2
      clear hev
      have k5 : w2.cell? ⟨R, 5, none⟩ = some (.slice (some ⟨eg, 0, none⟩) M.sts.length ec) := HS2.out.box.cell 5
      have k2 : w2.cell? ⟨R, 2, none⟩ = some (.int .i64 (p : Int)) := HS2.out.box.cell 2
      have kx : w2.cell? ⟨eg, x, none⟩ = some (.int .i64 (v : Int)) := hcell v hv
      have hx0 : (0 : Int) ≤ (x : Int) := by omega
      have hx1 : (x : Int) < (M.sts.length : Int) := by omega
      have HMK := Lib.hid hmark
      have HMF := Lib.hid hmf
      have HV := Lib.hid hv
      have HS3 := HS2
      clear hcell hmark hmf hst
      by_cases hvp : v = p + 1
      · subst hvp
        have HE := Lib.hid (show stepF M s.size p b x st { e' with opn := t } = { e' with opn := t } by unfold stepF; rw [if_pos HV.out])
        clear hv
        go_quiet (fail)
        go_wp2
        obtain ⟨s1, s2, s3⟩ := HSTEP.out
        rw [show s.data.toList.length = s.size by simp, HE.out] at s1 s2 s3
        go_roundg (t.length + 2 * unm e'.seen p)
        case measure =>
          rw [HO.out] at hk1
          simp only [List.length_cons] at hk1
          omega
        case rel =>
          refine ⟨{ e' with opn := t }, ⟨nv', _, HS2.out.no ((Frm.refl No w2).drewN _)⟩, s1, s2, HF2.out.then (S' := No) ((Frm.refl No w2).drewN _) (fun _ _ h => h.elim), Nat.le_refl _, ?_⟩
          rw [HO.out] at hk2
          simp only [List.length_cons] at hk2
          show t.length + 2 * unm e'.seen p ≤ 1 + 2 * M.sts.length
          omega
      · have hvp' : ((v : Int) == (p : Int) + 1) = false := by simp; omega
        have HE := Lib.hid (show stepF M s.size p b x st { e' with opn := t } = visitF s.size p x b st { e' with opn := t, seen := e'.seen.set x (p + 1) } by unfold stepF; rw [if_neg (by rw [HV.out]; intro h; cases h; exact hvp rfl)])
        clear hv
        go_quiet (fail)
        go_wp2
        go_region
        have HS4 := Lib.hid (show SV ((w2.drewN (nq + 1)).setCell ⟨eg, x, none⟩ (.int .i64 ((p : Int) + 1))) B R MB s p nv' sv (.slice (some ⟨eg, 0, none⟩) M.sts.length ec) (.slice (some ⟨g2, 0, none⟩) t.length cap2) { e' with opn := t, seen := e'.seen.set x (p + 1) } spr from HMK.out.no ⟨rfl, rfl, rfl, Nat.le_refl _, fun _ _ _ => rfl⟩)
        have HF4 := Lib.hid (show Frm (Ge B) w ((w2.drewN (nq + 1)).setCell ⟨eg, x, none⟩ (.int .i64 ((p : Int) + 1))) from (HF2.out.trans HMF.out).then (S' := No) ⟨rfl, rfl, rfl, Nat.le_refl _, fun _ _ _ => rfl⟩ (fun _ _ h => h.elim))
        generalize (w2.drewN (nq + 1)).setCell ⟨eg, x, none⟩ (.int .i64 ((p : Int) + 1)) = w4 at HS4 HF4 ⊢
        have hB4 : B ≤ w4.heap.size := Nat.le_trans hB HF4.out.size
        have hlen4 : e'.now.length ≤ 1000000 := by have := HPI.out.cnt; omega
        go_wp2_with (go_at_call 117; go_must (refine (visit_all w4 B R MB s p sv (.slice (some ⟨eg, 0, none⟩) M.sts.length ec) { e' with opn := t, seen := e'.seen.set x (p + 1) } spr M f em SB cap x b ⟨nv', _, HS4.out⟩ (HM.out.ge HF4.out) hB4 hlen4 (by show t.length ≤ _; omega) st HST.out).mono ?_; rintro en w5 ⟨rfl, hsw5, hf5⟩))
        obtain ⟨s1, s2, s3⟩ := HSTEP.out
        rw [show s.data.toList.length = s.size by simp, HE.out] at s1 s2 s3
        go_roundg ((visitF s.size p x b st { e' with opn := t, seen := e'.seen.set x (p + 1) }).opn.length + 2 * unm (visitF s.size p x b st { e' with opn := t, seen := e'.seen.set x (p + 1) }).seen p)
        case measure =>
          rw [HO.out] at hk1
          simp only [List.length_cons] at hk1
          omega
        case rel =>
          refine ⟨_, hsw5, s1, s2, HF4.out.trans hf5, Nat.le_refl _, ?_⟩
          rw [HO.out] at hk2
          simp only [List.length_cons] at hk2
          omega
end
end Go.Proofs.YtbfekknhmjndaaaGreat.nfa
