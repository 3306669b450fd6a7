/- The document's trim once more: what it answers lies where its argument lay. The document's Value, exactly: the nearest float of digits with a point. No run in this text: one numeral's word on both sides, whatever each side makes of a power that is out of all bounds. No run in this text: the document's digits and point, byte by byte. The document's blank and digit; where its reading of a numeral's digits stands, and what its struct holds: digits and point. -/
import Derived.Test.YtcjeeoadgoghfaaGreatDoorGFloatMath2
import Derived.Test.YtcjeeoadgoghfaaGreatDoorGDocH
import Derived.Deep.LoopGhost
import Derived.Deep.Cut
import Derived.Deep.DeepCutAuto
import Derived.Test.YtcjeeoadgoghfaaGreatDoorDecT
import Derived.Test.YtcjeeoadgoghfaaGreatDoorGLookB

namespace Go.Proofs.YtcjeeoadgoghfaaGreatDoor.deci
set_option linter.unusedVariables false set_option linter.unusedSimpArgs false
open Go.ChangeShapes Go.WideShapes Go.ChangeAt Go.RowKit Go.Proofs.YtcjeeoadgoghfaaGreatDoor.Deci

theorem trim_off (p : Int) (B : Nat) (v : Value) (l : List Nat) (w : World) (hr : RdI w B v l) (hl : l.length ≤ 100000) :
    Calls Tryz.prog 87 #[.agg #[v, .int .i64 p]] w fun e w' => ∃ v', e = .returned (.agg #[v', .int .i64 (pt (trimD l) p)]) ∧ RdI w' B v' (trimD l) ∧ Below w.heap.size w w' ∧ ∀ D, Off v D → Off v' D := by
  rcases hr with ⟨rfl, rfl⟩ | ⟨g, off, cap, rfl, hcap, hB, hc⟩
  · go_enter Tryz.func87, Tryz.ntmps87
    go_wp2
    go_rounds 1
    exact bodyPost_ret (v := .agg #[.slice none 0 0, .int .i64 0]) (by simp [results, Tryz.results87, go_sem]) rfl ⟨_, by rw [trimD_nil, pt_zero rfl], Or.inl ⟨rfl, trimD_nil⟩, (((Below.refl _ _).alloc (Nat.le_refl _) _).alloc (by simp) _), fun D h => h⟩
  · have hlt0 : 0 < l.length → g < w.heap.size := fun h => World.block_lt_of_cell? w _ (hc 0 h)
    go_enter Tryz.func87, Tryz.ntmps87
    go_wp2
    go_loop [3] (fun n => ∃ k : Nat, k ≤ l.length ∧ n = .int .i64 k ∧ trimD (l.take k) = trimD l) (fun n => (intOf n).toNat)
    case atStart => exact ⟨l.length, Nat.le_refl _, rfl, by rw [List.take_length]⟩
    case round =>
      obtain ⟨k, hk, rfl, ht⟩ := hrel
      have HT := Lib.hid ht
      clear ht
      by_cases hk0 : 0 < k
      · have hg := hlt0 (by omega)
        obtain ⟨c, hcc⟩ : ∃ c, c = l[k - 1]'(by omega) := ⟨_, rfl⟩
        have hcell : w.cell? ⟨g, off + (k - 1), none⟩ = some (.int .i64 (c : Nat)) := by rw [hcc]; exact hc (k - 1) (by omega)
        have HC := Lib.hid hcc
        have HCC := Lib.hid hc
        clear hcc hc
        by_cases hz : c = 0
        · subst hz
          go_wp2
          go_round
          case rel =>
            refine ⟨k - 1, by omega, by go_num, ?_⟩
            rw [← HT.out, show l.take k = l.take (k - 1) ++ [0] by rw [show l.take k = l.take (k - 1 + 1) by rw [show k - 1 + 1 = k by omega], List.take_succ_eq_append_getElem (by omega), ← HC.out], trimD_snoc0]
          case measure => simp [intOf]; omega
        · have hz2 : (((c : Nat) : Int) == 0) = false := by simp; omega
          have e : trimD l = l.take k := by
            rw [← HT.out, show l.take k = l.take (k - 1) ++ [c] by rw [show l.take k = l.take (k - 1 + 1) by rw [show k - 1 + 1 = k by omega], List.take_succ_eq_append_getElem (by omega), ← HC.out], trimD_snoc _ _ hz]
          have HE := Lib.hid e
          clear e
          go_wp2
          refine bodyPost_ret (v := .agg #[.slice (some ⟨g, off, none⟩) k cap, .int .i64 p]) (by simp [results, Tryz.results87, go_sem]) rfl ⟨.slice (some ⟨g, off, none⟩) k cap, ?_, ?_, ?_, fun D h g' off' n' cap' e' hn' => by cases e'; exact h _ _ _ _ rfl (by omega)⟩
          · have : trimD l ≠ [] := by rw [HE.out]; intro h; have := congrArg List.length h; rw [List.length_take, List.length_nil] at this; omega
            rw [pt, if_neg this]
          · rw [HE.out]
            exact (RdI.take hcap hB HCC.out hk).below (((Below.refl _ _).alloc (Nat.le_refl _) _).alloc (by simp) _)
          · exact ((Below.refl _ _).alloc (Nat.le_refl _) _).alloc (by simp) _
      · obtain rfl : k = 0 := by omega
        have HCC := Lib.hid hc
        clear hc
        go_wp2
        have e : trimD l = [] := by rw [← HT.out, List.take_zero, trimD_nil]
        refine bodyPost_ret (v := .agg #[.slice (some ⟨g, off, none⟩) 0 cap, .int .i64 0]) (by simp [results, Tryz.results87, go_sem]) rfl ⟨.slice (some ⟨g, off, none⟩) 0 cap, ?_, ?_, ?_, fun D h g' off' n' cap' e' hn' => by cases e'; omega⟩
        · rw [e, pt_zero rfl]
        · rw [e]
          exact (RdI.take (n := 0) hcap hB HCC.out (by omega)).below (((Below.refl _ _).alloc (Nat.le_refl _) _).alloc (by simp) _)
        · exact ((Below.refl _ _).alloc (Nat.le_refl _) _).alloc (by simp) _

end Go.Proofs.YtcjeeoadgoghfaaGreatDoor.deci

namespace Go.Proofs.YtcjeeoadgoghfaaGreatDoor.deci
set_option linter.unusedVariables false set_option linter.unusedSimpArgs false
open Go.ChangeShapes Go.WideShapes Go.ChangeAt Go.RowKit Go.Proofs.YtcjeeoadgoghfaaGreatDoor.Deci Go.Proofs.YtcjeeoadgoghfaaGreatDoor.Usc

theorem run_frombits_any (x : Int) (W : World) : (callFunc 88 #[.int .u64 x]).run Tryz.prog W = .ok (.value (.float .f64 x.toNat)) W := by
  rw [run_callFunc_extern (e := Extern.MathFloatBits.float64frombits) Tryz.func88 (by kernel_rfl) (by kernel_rfl) (by kernel_rfl) (by kernel_rfl)]
  rfl
def VX (w : World) (a0 b0 : Nat) (neg : Bool) (en : Ending) (w' : World) : Prop := (∃ x : Nat, NB a0 b0 x ∧ en = .returned (.float .f64 (sgD neg + x))) ∧ Below w.heap.size w w'
theorem VX.of {w w' : World} {A B : Nat} {neg : Bool} {x y : Nat} {en : Ending} (h : NB A B x) (hy : y = sgD neg + x) (he : en = .returned (.float .f64 y)) (hb : Below w.heap.size w w') : VX w A B neg en w' :=
  ⟨⟨x, h, by rw [he, hy]⟩, hb⟩
theorem ms_le {l : List Nat} {p : Int} (h : Digs l) (hp : p ≤ 400) : ms l p ≤ (4100 : Nat) := by
  unfold ms
  cases l with
  | nil => simp; omega
  | cons d t => have := h d (List.mem_cons_self ..); simp; omega
/-- Where the halving stands. -/
def L1At (A B : Nat) (w : World) (D : Nat) (wr : World) (k : Nat) (e : Int) : Prop := ∃ l p a c, Box2 wr D 85 (.slice a l.length c) (.int .i64 p) ∧ RdI wr 0 (.slice a l.length c) l ∧ Off (.slice a l.length c) D ∧ Digs l ∧ Led l ∧ l ≠ [] ∧ ms l p ≤ k ∧ 0 ≤ e ∧ e + k ≤ 5000 ∧ (l.length : Int) ≤ 1000 + e ∧ -500 ≤ p ∧ p ≤ 400 ∧ D < wr.heap.size ∧ w.heap.size ≤ D ∧ Below w.heap.size w wr ∧ Hid (FX A B e l p)
/-- Where the doubling stands. -/
def L2At (A B : Nat) (w : World) (D : Nat) (wr : World) (e : Int) : Prop := ∃ l p a c, Box2 wr D 85 (.slice a l.length c) (.int .i64 p) ∧ RdI wr 0 (.slice a l.length c) l ∧ Off (.slice a l.length c) D ∧ Digs l ∧ (l.length : Int) + e ≤ 11000 ∧ -1074 ≤ e ∧ e ≤ 5000 ∧ -500 ≤ p ∧ p + e ≤ 5400 ∧ D < wr.heap.size ∧ w.heap.size ≤ D ∧ Below w.heap.size w wr ∧ Hid (FX A B e l p) ∧ Hid (Lt53 A B e)

set_option maxRecDepth 100000 in
set_option maxHeartbeats 2000000 in
theorem value_ex (A0 B0 : Nat) (hB0 : 0 < B0) (p0 : Int) (v0 : Value) (l0 : List Nat) (neg : Bool) (w : World) (hrep : Rep l0 p0 A0 B0) (hr0 : RdI w 0 v0 l0) (hl0 : l0.length ≤ 1000) (hd0 : Digs l0) (hled0 : Led l0) :
    Calls Tryz.prog 50 #[.agg #[v0, .int .i64 p0], .bool neg] w (VX w A0 B0 neg) := by
  have HR0 := Lib.hid hr0
  obtain ⟨a0, c0, rfl⟩ := hr0.forms
  obtain ⟨l1, hl1⟩ : ∃ l1, l1 = trimD l0 := ⟨_, rfl⟩
  obtain ⟨p1, hp1⟩ : ∃ p1, p1 = pt l1 p0 := ⟨_, rfl⟩
  have HFX := Lib.hid (show FX A0 B0 0 l1 p1 by
    have h := Fine.of hd0 hled0 hrep
    rw [← hl1, ← hp1] at h
    refine fine_congr hB0 h ?_
    have e1 : numF (-0) A0 = A0 := by show A0 * 2 ^ 0 = A0; rw [Nat.pow_zero, Nat.mul_one]
    have e2 : denF (-0) B0 = B0 := by show B0 * 2 ^ 0 = B0; rw [Nat.pow_zero, Nat.mul_one]
    rw [e1, e2])
  have HF0 := Lib.hid (show Fine l1 p1 A0 B0 by have h := Fine.of hd0 hled0 hrep; rw [← hl1, ← hp1] at h; exact h)
  have HB0 := Lib.hid hB0
  obtain ⟨sg, hsg⟩ : ∃ sg : Int, sg = (sgD neg : Int) := ⟨_, rfl⟩
  have HSG := Lib.hid hsg
  obtain ⟨wi, hwi, hwi2⟩ := word_inf neg
  rw [← hsg] at hwi
  have HWI := Lib.hid hwi2
  have HOFF := Lib.hid (RdI.off HR0.out)
  have HTR := Lib.hid (fun (W : World) (h : RdI W 0 (.slice a0 l0.length c0) l0) => (trim_off p0 0 (.slice a0 l0.length c0) l0 W h (by omega)).mono (R' := fun e w' => ∃ a c, e = .returned (.agg #[.slice a l1.length c, .int .i64 p1]) ∧ RdI w' 0 (.slice a l1.length c) l1 ∧ Below W.heap.size W w' ∧ Off (.slice a l1.length c) w.heap.size) (fun e w' h => by
    obtain ⟨v', he, hr, hb, hof⟩ := h
    rw [← hl1] at hr he
    rw [← hp1] at he
    obtain ⟨a, c, rfl⟩ := hr.forms
    exact ⟨a, c, he, hr, hb, hof _ HOFF.out⟩))
  have HD1 := Lib.hid (show Digs l1 by rw [hl1]; exact trimD_digs hd0)
  have HE1 := Lib.hid (show Led l1 by rw [hl1]; exact trimD_led hled0)
  have hlen1 : l1.length ≤ 1000 := by rw [hl1]; exact trim_bd l0 1000 hl0
  have HX0 := Lib.hid (Box2.new w 85 (.slice a0 l0.length c0) (.int .i64 p0))
  have HBW0 := Lib.hid ((Below.refl w.heap.size w).alloc (Nat.le_refl _) (.cells #[.slice a0 l0.length c0, .int .i64 p0] 85))
  have HL0 := Lib.hid (HR0.out.below ((Below.refl w.heap.size w).alloc (Nat.le_refl _) (.cells #[.slice a0 l0.length c0, .int .i64 p0] 85)))
  have hfrom := run_frombits_any
  have hs1 : neg = true → sg = 9223372036854775808 := fun h => by rw [hsg, h]; rfl
  have hs0 : neg = false → sg = 0 := fun h => by rw [hsg, h]; rfl
  clear hr0 hl0 hd0 hled0 hl1 hp1 hrep hwi2 hB0 hsg
  go_enter Tryz.func50, Tryz.ntmps50
  go_upto_if 8 with fail
  go_cut [5] (fun sv wx => sv = .int .u64 sg ∧ wx = w.alloc (.cells #[.slice a0 l0.length c0, .int .i64 p0] 85))
  case first =>
    cases neg with
    | true =>
      have h := hs1 rfl
      clear hs1 hs0 hwi
      go_wp2
      go_meet
      exact ⟨by rw [h], rfl⟩
    | false =>
      have h := hs0 rfl
      clear hs1 hs0 hwi
      go_wp2
      go_meet
      exact ⟨by rw [h], rfl⟩
  case rest =>
  obtain ⟨rfl, rfl⟩ := hcut
  clear hs1 hs0
  have HSN := Lib.hid (show sg.toNat = sgD neg + 0 by rw [HSG.out]; omega)
  have x0 := HX0.out.c0
  have x1 := HX0.out.c1
  by_cases he1 : l1 = []
  · subst he1
    have HNZ := Lib.hid (show NB A0 B0 0 by rw [HF0.out.rep.nil]; exact nb_none HB0.out)
    simp only [List.length_nil] at *
    go_wp2_with (go_at_call 87; go_must (refine (HTR.out _ HL0.out).mono ?_; rintro e w1 ⟨a1, c1, rfl, hr1, hb1, hof1⟩; have HR1 := Lib.hid hr1; have HOF1 := Lib.hid hof1; have hz1 := hb1.size; have M1 := Lib.hid (HX0.out.below hb1 (by simp)); have m0 := M1.out.c0; have m1 := M1.out.c1; have mf0 := M1.out.f 0; have mf1 := M1.out.f 1; have HB1 := Lib.hid (HBW0.out.trans (hb1.mono (by simp))); clear hr1 hof1 hb1))
    go_ret
    exact VX.of HNZ.out HSN.out rfl ((HB1.out.setCell (Nat.le_refl _) _).setCell (Nat.le_refl _) _)
  · have hpos : 0 < l1.length := List.length_pos_iff.2 he1
    have hne : ((l1.length : Int) == 0) = false := by rw [beq_eq_false_iff_ne]; omega
    have HNE := Lib.hid he1
    clear he1
    by_cases hq1 : p1 < -400
    · have HNZ := Lib.hid (fine_low HB0.out HF0.out hq1)
      go_wp2_with (go_at_call 87; go_must (refine (HTR.out _ HL0.out).mono ?_; rintro e w1 ⟨a1, c1, rfl, hr1, hb1, hof1⟩; have HR1 := Lib.hid hr1; have HOF1 := Lib.hid hof1; have hz1 := hb1.size; have M1 := Lib.hid (HX0.out.below hb1 (by simp)); have m0 := M1.out.c0; have m1 := M1.out.c1; have mf0 := M1.out.f 0; have mf1 := M1.out.f 1; have HB1 := Lib.hid (HBW0.out.trans (hb1.mono (by simp))); clear hr1 hof1 hb1))
      go_ret
      exact VX.of HNZ.out HSN.out rfl ((HB1.out.setCell (Nat.le_refl _) _).setCell (Nat.le_refl _) _)
    · have hq1' : ¬ p1 < -400 := hq1
      by_cases hq2 : 400 < p1
      · have HNZ := Lib.hid (fine_high HB0.out HF0.out HNE.out hq2)
        go_wp2_with (go_at_call 87; go_must (refine (HTR.out _ HL0.out).mono ?_; rintro e w1 ⟨a1, c1, rfl, hr1, hb1, hof1⟩; have HR1 := Lib.hid hr1; have HOF1 := Lib.hid hof1; have hz1 := hb1.size; have M1 := Lib.hid (HX0.out.below hb1 (by simp)); have m0 := M1.out.c0; have m1 := M1.out.c1; have mf0 := M1.out.f 0; have mf1 := M1.out.f 1; have HB1 := Lib.hid (HBW0.out.trans (hb1.mono (by simp))); clear hr1 hof1 hb1))
        go_ret
        exact VX.of HNZ.out HWI.out rfl ((HB1.out.setCell (Nat.le_refl _) _).setCell (Nat.le_refl _) _)
      · have hq2' : ¬ 400 < p1 := hq2
        go_wp2_with (go_at_call 87; go_must (refine (HTR.out _ HL0.out).mono ?_; rintro e w1 ⟨a1, c1, rfl, hr1, hb1, hof1⟩; have HR1 := Lib.hid hr1; have HOF1 := Lib.hid hof1; have hz1 := hb1.size; have M1 := Lib.hid (HX0.out.below hb1 (by simp)); have m0 := M1.out.c0; have m1 := M1.out.c1; have mf0 := M1.out.f 0; have mf1 := M1.out.f 1; have HB1 := Lib.hid (HBW0.out.trans (hb1.mono (by simp))); clear hr1 hof1 hb1))
        go_loopg [6] 4100 (fun k ev wr => ∃ e : Int, ev = .int .i64 e ∧ L1At A0 B0 w w.heap.size wr k e)
        case atStart =>
          exact ⟨0, rfl, l1, p1, a1, c1, M1.out.put _ _, (HR1.out.setOff _ 0 _ HOF1.out).setOff _ 1 _ HOF1.out, HOF1.out, HD1.out, HE1.out, HNE.out, ms_le HD1.out (by omega), by omega, by omega, by omega, by omega, by omega, by simp at hz1 ⊢; omega, Nat.le_refl _, (HB1.out.setCell (Nat.le_refl _) _).setCell (Nat.le_refl _) _, HFX.out |> Lib.hid⟩
        case round =>
          obtain ⟨e, rfl, l, p, a, c, hbx, hrd, hof, hdg, hld, hne, hms, he0, hek, hlen, hp0, hp1, hsz, hDw, hbel, HFE⟩ := hrel
          have HLD := Lib.hid hld
          have HNE := Lib.hid hne
          have HMS := Lib.hid hms
          have HBX := Lib.hid hbx
          have HRD := Lib.hid hrd
          have HOF := Lib.hid hof
          have HDG := Lib.hid hdg
          have HBE := Lib.hid hbel
          have x0 := hbx.c0
          have x1 := hbx.c1
          have xf0 := hbx.f 0
          have xf1 := hbx.f 1
          clear hbx hrd hof hdg hbel hld hne hms
          clear HX0 HBW0 HL0 HR0 HTR HD1 HE1 M1 HR1 HOF1 HB1 HOFF m0 m1 mf0 mf1
          go_upto_if 29 with (go_at_call 89; go_must (refine (atLeast_ex p (.slice a l.length c) l 9007199254740992 _ HRD.out (by omega) (by omega) (by omega) (by omega) digs53.1 digs53.2.1 (tight_of digs53.1) _ rfl).mono ?_; rintro en w2 ⟨rfl, hb2⟩; obtain ⟨b, hb⟩ : ∃ b, geD l p (digs 9007199254740992) = b := ⟨_, rfl⟩; rw [hb]; have HB2 := Lib.hid hb2; have HBB := Lib.hid hb; have hz2 := hb2.size; clear hb hb2))
          have HX2 := Lib.hid (HBX.out.below HB2.out (by omega))
          have HRD2 := Lib.hid (HRD.out.below HB2.out)
          have HBE2 := Lib.hid (HBE.out.trans (HB2.out.mono (by omega)))
          clear x0 x1 xf0 xf1
          have x0 := HX2.out.c0
          have x1 := HX2.out.c1
          have xf0 := HX2.out.f 0
          have xf1 := HX2.out.f 1
          clear HBX HRD HBE
          cases b with
          | true =>
            go_wp2_with (go_at_call 90; go_must (refine (half_all p (.slice a l.length c) l _ HRD2.out (by omega) HDG.out (by omega) (by omega)).mono ?_; rintro en w3 ⟨v3, rfl, hr3, hb3⟩; obtain ⟨a3, c3, rfl⟩ := hr3.forms; have HR3 := Lib.hid hr3; have hz3 := hb3.size; have M3 := Lib.hid (HX2.out.below hb3 (by omega)); have m0 := M3.out.c0; have m1 := M3.out.c1; have mf0 := M3.out.f 0; have mf1 := M3.out.f 1; have HB3 := Lib.hid (HBE2.out.trans (hb3.mono (by omega))); clear hr3 hb3))
            have hls := hlf_less HDG.out HLD.out HNE.out p
            have hpt : pt (trimD (hlfL l)) (hlfP l p) = hlfP l p := if_neg hls.1
            have hmk := HMS.out
            have hp16 : 16 ≤ p := Decidable.byContradiction fun hp => by have := HBB.out; rw [geD_dn _ (by omega)] at this; cases this
            have hm0 : 160 ≤ ms l p := by unfold ms; omega
            go_roundg (ms (trimD (hlfL l)) (hlfP l p)).toNat
            case measure => omega
            case rel =>
              have htl := trim_bd (hlfL l) (l.length + 1) (hlfL_len l)
              exact ⟨e + 1, by go_num, _, _, a3, c3, M3.out.put _ _, ((HR3.out.mono (Nat.zero_le _)).setOff _ 0 _ (HR3.out.off_lt (by omega))).setOff _ 1 _ (HR3.out.off_lt (by omega)), HR3.out.off_lt (by omega), trimD_digs (hlfL_digs l HDG.out), trimD_led (hlfL_led l HLD.out), hls.1, by rw [hpt]; omega, by omega, by omega, by omega, by rw [hpt]; omega, by rw [hpt]; omega, by simp; omega, hDw, (HB3.out.setCell (by omega) _).setCell (by omega) _, Lib.hid (FX.half HB0.out HFE.out)⟩
          | false =>
            have HST : Hid (L2At A0 B0 w w.heap.size w2 e) := Lib.hid ⟨l, p, a, c, HX2.out, HRD2.out, HOF.out, HDG.out, by omega, by omega, by omega, by omega, by omega, by omega, hDw, HBE2.out, HFE, Lib.hid (ge_53 HB0.out HFE.out HBB.out)⟩
            clear x0 x1 xf0 xf1 HX2 HRD2 HOF HDG HBE2 HB2 HMS HNE HLD HBB
            go_wp2_with fail
            go_loopw [6] (fun ev wr => ∃ e : Int, ev = .int .i64 e ∧ L2At A0 B0 w w.heap.size wr e) (fun ev _ => (intOf ev + 1074).toNat)
            case atStart => exact ⟨e, rfl, HST.out⟩
            case round =>
              clear HST hlen he0 hek hp0 hp1 hsz hz2 x0 x1 hpos hne HNE hz1 hq1 hq1' hq2 hq2' hlen1
              clear HFE
              obtain ⟨e, rfl, l, p, a, c, hbx, hrd, hof, hdg, hlen, he0, hek, hp0, hp1, hsz, hDw, hbel, HFE, HLT⟩ := hrel
              have HBX := Lib.hid hbx
              have HRD := Lib.hid hrd
              have HOF := Lib.hid hof
              have HDG := Lib.hid hdg
              have HBE := Lib.hid hbel
              have x0 := hbx.c0
              have x1 := hbx.c1
              have xf0 := hbx.f 0
              have xf1 := hbx.f 1
              clear hbx hrd hof hdg hbel
              go_upto_region 13 with fail
              go_cut [40] (fun tv wx => ∃ b : Bool, tv = .bool b ∧ (b = true → -1074 < e) ∧ Hid ((b = true → ¬ Ge52 A0 B0 e) ∧ (b = false → e = -1074 ∨ Ge52 A0 B0 e)) ∧ L2At A0 B0 w w.heap.size wx e)
              case first =>
                by_cases heg : -1074 < e
                · go_wp2_with (go_at_call 89; go_must (refine (atLeast_ex p (.slice a l.length c) l 4503599627370496 _ HRD.out (by omega) (by omega) (by omega) (by omega) digs53.2.2.1 digs53.2.2.2 (tight_of digs53.2.2.1) _ rfl).mono ?_; rintro en w2 ⟨rfl, hb2⟩; obtain ⟨b, hb⟩ : ∃ b, geD l p (digs 4503599627370496) = b := ⟨_, rfl⟩; rw [hb]; have HB2 := Lib.hid hb2; have HBB := Lib.hid hb; have hz2 := hb2.size; clear hb hb2; cases b))
                  · go_meet
                    exact ⟨true, by first | rfl | (simp; omega), fun _ => heg, Lib.hid ⟨fun _ => (ge_52 HB0.out HFE.out).1 HBB.out, (fun h => by cases h)⟩, l, p, a, c, HBX.out.below HB2.out (by omega), HRD.out.below HB2.out, HOF.out, HDG.out, by omega, by omega, by omega, by omega, by omega, by omega, hDw, HBE.out.trans (HB2.out.mono (by omega)), HFE, HLT⟩
                  · go_meet
                    exact ⟨false, by first | rfl | (simp; omega), (fun h => by cases h), Lib.hid ⟨(fun h => by cases h), fun _ => Or.inr ((ge_52 HB0.out HFE.out).2 HBB.out)⟩, l, p, a, c, HBX.out.below HB2.out (by omega), HRD.out.below HB2.out, HOF.out, HDG.out, by omega, by omega, by omega, by omega, by omega, by omega, hDw, HBE.out.trans (HB2.out.mono (by omega)), HFE, HLT⟩
                · go_wp2_with (go_at_call 89; go_must (refine (atLeast_ex p (.slice a l.length c) l 4503599627370496 _ HRD.out (by omega) (by omega) (by omega) (by omega) digs53.2.2.1 digs53.2.2.2 (tight_of digs53.2.2.1) _ rfl).mono ?_; rintro en w2 ⟨rfl, hb2⟩; obtain ⟨b, hb⟩ : ∃ b, geD l p (digs 4503599627370496) = b := ⟨_, rfl⟩; rw [hb]; have HB2 := Lib.hid hb2; have HBB := Lib.hid hb; have hz2 := hb2.size; clear hb hb2; cases b))
                  all_goals
                    go_meet
                    exact ⟨false, by first | rfl | (simp; omega), (fun h => by cases h), Lib.hid ⟨(fun h => by cases h), fun _ => Or.inl (by omega)⟩, l, p, a, c, HBX.out.below HB2.out (by omega), HRD.out.below HB2.out, HOF.out, HDG.out, by omega, by omega, by omega, by omega, by omega, by omega, hDw, HBE.out.trans (HB2.out.mono (by omega)), HFE, HLT⟩
              case rest =>
              clear x0 x1 xf0 xf1 HBX HRD HOF HDG HBE hlen he0 hek hp0 hp1 hsz hDw HFE HLT
              obtain ⟨b, rfl, hbe, HBC, l, p, a, c, hbx, hrd, hof, hdg, hlen, he0, hek, hp0, hp1, hsz, hDw, hbel, HFE, HLT⟩ := hcut
              have HBX := Lib.hid hbx
              have HRD := Lib.hid hrd
              have HOF := Lib.hid hof
              have HDG := Lib.hid hdg
              have HBE := Lib.hid hbel
              have x0 := hbx.c0
              have x1 := hbx.c1
              have xf0 := hbx.f 0
              have xf1 := hbx.f 1
              have HBQ := Lib.hid hbe
              clear hbx hrd hof hdg hbel hbe
              cases b with
              | true =>
                have heg : -1074 < e := HBQ.out rfl
                go_wp2_with (go_at_call 91; go_must (refine (double_all p (.slice a l.length c) l _ HRD.out (by omega) HDG.out (by omega) (by omega)).mono ?_; rintro en w3 ⟨v3, rfl, hr3, hb3⟩; obtain ⟨a3, c3, rfl⟩ := hr3.forms; have HR3 := Lib.hid hr3; have hz3 := hb3.size; have M3 := Lib.hid (HBX.out.below hb3 (by omega)); have m0 := M3.out.c0; have m1 := M3.out.c1; have mf0 := M3.out.f 0; have mf1 := M3.out.f 1; have HB3 := Lib.hid (HBE.out.trans (hb3.mono (by omega))); clear hr3 hb3))
                go_roundw
                case rel =>
                  have htl := trim_bd (dblL l) (l.length + 1) (dblL_len l)
                  have hq : pt (trimD (dblL l)) (dblP l p) = 0 ∨ pt (trimD (dblL l)) (dblP l p) = p ∨ pt (trimD (dblL l)) (dblP l p) = p + 1 := by
                    unfold pt dblP
                    split
                    · exact Or.inl rfl
                    · split
                      · exact Or.inr (Or.inr rfl)
                      · exact Or.inr (Or.inl rfl)
                  exact ⟨e - 1, by go_num, _, _, a3, c3, M3.out.put _ _, ((HR3.out.mono (Nat.zero_le _)).setOff _ 0 _ (HR3.out.off_lt (by omega))).setOff _ 1 _ (HR3.out.off_lt (by omega)), HR3.out.off_lt (by omega), trimD_digs (dblL_digs l HDG.out), by omega, by omega, by omega, by omega, by omega, by simp; omega, hDw, (HB3.out.setCell (by omega) _).setCell (by omega) _, Lib.hid (FX.dbl HB0.out HFE.out), Lib.hid (lt_dbl HB0.out (HBC.out.1 (by first | rfl | trivial)))⟩
                case measure => simp [intOf]; omega
              | false =>
                have hend := end_word HB0.out he0 HFE.out HLT.out (HBC.out.2 (by first | rfl | trivial))
                have hp16 := pt_16 HB0.out HFE.out HLT.out
                obtain ⟨m, hm⟩ : ∃ m, rInt l p false = m := ⟨_, rfl⟩
                rw [hm] at hend
                obtain ⟨hnb, hmle⟩ := hend
                have HNB := Lib.hid hnb
                clear hnb
                by_cases hA : m = 9007199254740992
                · have HM := Lib.hid (show ((rInt l p false : Nat) : Int) = 9007199254740992 by rw [hm, hA]; rfl)
                  by_cases hE : 971 < e + 1
                  · have HW := Lib.hid (show docW m e = 2047 * 2 ^ 52 by unfold docW; rw [if_pos hA, if_pos (by omega)])
                    clear hm hA hmle
                    go_wp2_with (go_at_call 92; go_must (refine (nearest_ex p (.slice a l.length c) l _ HRD.out (by omega) (by omega) (by omega) HDG.out).mono ?_; rintro en w3 ⟨rfl, hb3⟩; rw [HM.out]; have HB3 := Lib.hid (HBE.out.trans (hb3.mono (by omega))); clear hb3))
                    go_ret
                    exact VX.of HNB.out (HWI.out.trans (congrArg (fun z => sgD neg + z) HW.out.symm)) rfl HB3.out
                  · obtain ⟨E, hEE⟩ : ∃ E : Nat, e + 1 + 1075 = (E : Int) := ⟨(e + 1 + 1075).toNat, by omega⟩
                    obtain ⟨F, G, H, X, w1, w2, w3, w4, hX⟩ := word_mid neg (m := 4503599627370496) (E := E) (by omega) (by decide) (by decide)
                    have HW := Lib.hid (show docW m e = E * 4503599627370496 + 4503599627370496 - 4503599627370496 by unfold docW; rw [if_pos hA, if_neg (by omega), hEE, Int.toNat_natCast])
                    have HX := Lib.hid hX
                    rw [← HSG.out] at w2
                    have w3' : IntKind.u64.wrap ((G : Int) + 4503599627370496) = (H : Int) := w3
                    clear hm hA hmle hX w3
                    go_wp2_with (go_at_call 92; go_must (refine (nearest_ex p (.slice a l.length c) l _ HRD.out (by omega) (by omega) (by omega) HDG.out).mono ?_; rintro en w3 ⟨rfl, hb3⟩; rw [HM.out]; have HB3 := Lib.hid (HBE.out.trans (hb3.mono (by omega))); clear hb3))
                    go_ret
                    exact VX.of HNB.out (HX.out.trans (congrArg (fun z => sgD neg + z) HW.out.symm)) rfl HB3.out
                · obtain ⟨M, hMm⟩ : ∃ M : Int, M = (m : Int) := ⟨_, rfl⟩
                  have HM := Lib.hid (show ((rInt l p false : Nat) : Int) = M by rw [hm, hMm])
                  have f1 : (M == 9007199254740992) = false := by rw [beq_eq_false_iff_ne]; omega
                  by_cases hB : m < 4503599627370496
                  · have f2 : M < 4503599627370496 := by omega
                    obtain ⟨X, w1, hX⟩ := word_low neg hB
                    rw [← HSG.out, ← hMm] at w1
                    have HX := Lib.hid hX
                    have HW := Lib.hid (show docW m e = m by unfold docW; rw [if_neg hA, if_pos hB])
                    clear hm hA hmle hX hB hMm
                    go_wp2_with (go_at_call 92; go_must (refine (nearest_ex p (.slice a l.length c) l _ HRD.out (by omega) (by omega) (by omega) HDG.out).mono ?_; rintro en w3 ⟨rfl, hb3⟩; rw [HM.out]; have HB3 := Lib.hid (HBE.out.trans (hb3.mono (by omega))); clear hb3))
                    go_ret
                    exact VX.of HNB.out (HX.out.trans (congrArg (fun z => sgD neg + z) HW.out.symm)) rfl HB3.out
                  · have f2 : ¬ M < 4503599627370496 := by omega
                    by_cases hE : 971 < e
                    · have HW := Lib.hid (show docW m e = 2047 * 2 ^ 52 by unfold docW; rw [if_neg hA, if_neg hB, if_pos (by omega)])
                      clear hm hA hmle hB hMm
                      go_wp2_with (go_at_call 92; go_must (refine (nearest_ex p (.slice a l.length c) l _ HRD.out (by omega) (by omega) (by omega) HDG.out).mono ?_; rintro en w3 ⟨rfl, hb3⟩; rw [HM.out]; have HB3 := Lib.hid (HBE.out.trans (hb3.mono (by omega))); clear hb3))
                      go_ret
                      exact VX.of HNB.out (HWI.out.trans (congrArg (fun z => sgD neg + z) HW.out.symm)) rfl HB3.out
                    · obtain ⟨E, hEE⟩ : ∃ E : Nat, e + 1075 = (E : Int) := ⟨(e + 1075).toNat, by omega⟩
                      obtain ⟨F, G, H, X, w1, w2, w3, w4, hX⟩ := word_mid neg (m := m) (E := E) (by omega) (by omega) (by omega)
                      have HW := Lib.hid (show docW m e = E * 4503599627370496 + m - 4503599627370496 by unfold docW; rw [if_neg hA, if_neg hB, if_neg (by omega), hEE, Int.toNat_natCast])
                      have HX := Lib.hid hX
                      rw [← HSG.out] at w2
                      rw [← hMm] at w3
                      clear hm hA hmle hX hB hMm
                      go_wp2_with (go_at_call 92; go_must (refine (nearest_ex p (.slice a l.length c) l _ HRD.out (by omega) (by omega) (by omega) HDG.out).mono ?_; rintro en w3 ⟨rfl, hb3⟩; rw [HM.out]; have HB3 := Lib.hid (HBE.out.trans (hb3.mono (by omega))); clear hb3))
                      go_ret
                      exact VX.of HNB.out (HX.out.trans (congrArg (fun z => sgD neg + z) HW.out.symm)) rfl HB3.out
end Go.Proofs.YtcjeeoadgoghfaaGreatDoor.deci

namespace Go.Proofs.YtcjeeoadgoghfaaGreatDoor.deci
set_option linter.unusedVariables false set_option linter.unusedSimpArgs false
open Go.Proofs.YtcjeeoadgoghfaaGreatDoor.Deci Go.Proofs.YtcjeeoadgoghfaaGreatDoor.Usc

theorem rep_ten (D : List Nat) (q : Int) : Rep D q (tenN (val D) (q - D.length)) (tenD (q - D.length)) := by
  unfold Rep tenN tenD
  rw [show (-(q - (D.length : Int))).toNat = ((D.length : Int) - q).toNat by omega]
theorem trim_some {D : List Nat} (hl : Led D) (h : D ≠ []) : trimD D ≠ [] := by
  cases D with
  | nil => exact absurd rfl h
  | cons d t =>
    obtain ⟨s, hs⟩ := trimD_head (hl d t rfl) t
    rw [hs]; exact List.cons_ne_nil _ _
theorem same_word {D : List Nat} {q1 q2 : Int} {x y : Nat} (hd : Digs D) (hl : Led D) (h : q1 = q2 ∨ D = [] ∨ (400 < q1 ∧ 400 < q2) ∨ (q1 < -400 ∧ q2 < -400))
    (hx : NB (tenN (val D) (q1 - D.length)) (tenD (q1 - D.length)) x) (hy : NB (tenN (val D) (q2 - D.length)) (tenD (q2 - D.length)) y) : x = y := by
  rcases h with rfl | rfl | ⟨h1, h2⟩ | ⟨h1, h2⟩
  · exact NB_one (tenD_pos _) hx hy
  · have e0 : ∀ q, tenN (val []) q = 0 := fun q => by unfold tenN; rw [val_nil, Nat.zero_mul]
    rw [e0] at hx hy
    exact (NB_one (tenD_pos _) hx (nb_none (tenD_pos _))).trans (NB_one (tenD_pos _) hy (nb_none (tenD_pos _))).symm
  · by_cases hD : D = []
    · subst hD
      have e0 : ∀ q, tenN (val []) q = 0 := fun q => by unfold tenN; rw [val_nil, Nat.zero_mul]
      rw [e0] at hx hy
      exact (NB_one (tenD_pos _) hx (nb_none (tenD_pos _))).trans (NB_one (tenD_pos _) hy (nb_none (tenD_pos _))).symm
    · have ht := trim_some hl hD
      have f : ∀ q : Int, 400 < q → NB (tenN (val D) (q - D.length)) (tenD (q - D.length)) (2047 * 2 ^ 52) := fun q hq =>
        fine_high (tenD_pos _) (Fine.of hd hl (rep_ten D q)) ht (by unfold pt; rw [if_neg ht]; exact hq)
      exact (NB_one (tenD_pos _) hx (f q1 h1)).trans (NB_one (tenD_pos _) hy (f q2 h2)).symm
  · by_cases hD : D = []
    · subst hD
      have e0 : ∀ q, tenN (val []) q = 0 := fun q => by unfold tenN; rw [val_nil, Nat.zero_mul]
      rw [e0] at hx hy
      exact (NB_one (tenD_pos _) hx (nb_none (tenD_pos _))).trans (NB_one (tenD_pos _) hy (nb_none (tenD_pos _))).symm
    · have ht := trim_some hl hD
      have f : ∀ q : Int, q < -400 → NB (tenN (val D) (q - D.length)) (tenD (q - D.length)) 0 := fun q hq =>
        fine_low (tenD_pos _) (Fine.of hd hl (rep_ten D q)) (by unfold pt; rw [if_neg ht]; exact hq)
      exact (NB_one (tenD_pos _) hx (f q1 h1)).trans (NB_one (tenD_pos _) hy (f q2 h2)).symm
end Go.Proofs.YtcjeeoadgoghfaaGreatDoor.deci

namespace Go.Proofs.YtcjeeoadgoghfaaGreatDoor.deca
set_option linter.unusedVariables false set_option linter.unusedSimpArgs false

/-- The point behind the digits of W ++ P (P: those behind the point), the zeros ahead left out. -/
def ptD (W P : List UInt8) : Int := (W.length : Int) - (((W ++ P).length : Int) - ((leadL W P).length : Int))
theorem drop_snoc (l : List UInt8) (c : UInt8) : (l ++ [c]).dropWhile (· == 48) = if l.dropWhile (· == 48) = [] ∧ c = 48 then [] else l.dropWhile (· == 48) ++ [c] := by
  induction l with
  | nil =>
    rw [List.nil_append, List.dropWhile_cons]
    by_cases h : c = 48
    · subst h; rfl
    · have hb : (c == 48) = false := by rw [beq_eq_false_iff_ne]; exact h
      rw [hb]
      exact (if_neg (fun h' : ([] : List UInt8).dropWhile (· == 48) = [] ∧ c = 48 => h h'.2)).symm
  | cons d t ih =>
    rw [List.cons_append, List.dropWhile_cons, List.dropWhile_cons]
    by_cases hd : (d == 48) = true
    · rw [if_pos hd, if_pos hd]; exact ih
    · rw [if_neg hd, if_neg hd, if_neg (fun h => by cases h.1)]; rfl
theorem lead_p (W P : List UInt8) (c : UInt8) : leadL W (P ++ [c]) = if leadL W P = [] ∧ c = 48 then [] else leadL W P ++ [c] := by
  unfold leadL
  rw [← List.append_assoc]; exact drop_snoc _ _
theorem lead_w (W : List UInt8) (c : UInt8) : leadL (W ++ [c]) [] = if leadL W [] = [] ∧ c = 48 then [] else leadL W [] ++ [c] := by
  unfold leadL
  rw [List.append_nil, List.append_nil]; exact drop_snoc _ _
theorem ptD_nil : ptD [] [] = 0 := rfl
theorem ptD_w (W : List UInt8) (c : UInt8) : ptD (W ++ [c]) [] = if leadL W [] = [] ∧ c = 48 then ptD W [] else ptD W [] + 1 := by
  unfold ptD
  rw [lead_w]
  simp only [List.append_nil, List.length_append, List.length_singleton]
  split
  · rename_i h; rw [h.1]; simp only [List.length_nil]; omega
  · simp only [List.length_append, List.length_singleton]; omega
theorem ptD_p (W P : List UInt8) (c : UInt8) : ptD W (P ++ [c]) = if leadL W P = [] ∧ c = 48 then ptD W P - 1 else ptD W P := by
  unfold ptD
  rw [lead_p]
  simp only [List.length_append, List.length_singleton]
  split
  · rename_i h; rw [h.1]; simp only [List.length_nil]; omega
  · simp only [List.length_append, List.length_singleton]; omega
/-- The program's power of the first digit is one less. -/
theorem first_pt (W P Q : List UInt8) : 1 + firstZ W P Q = ptD W P + Go.Proofs.YtcjeeoadgoghfaaGreatDoor.scan.pwZ Q := by unfold firstZ ptD; omega
end Go.Proofs.YtcjeeoadgoghfaaGreatDoor.deca

namespace Go.Proofs.YtcjeeoadgoghfaaGreatDoor.scan
set_option linter.unusedVariables false set_option linter.unusedSimpArgs false
open Go.ChangeShapes Go.WideShapes Go.ChangeAt Go.RowKit Go.Proofs.YtcjeeoadgoghfaaGreatDoor.Deci Go.Proofs.YtcjeeoadgoghfaaGreatDoor.deci

theorem blankD_all (c : UInt8) (w : World) : Calls Tryz.prog 48 #[.int .u8 (c.toNat : Int)] w fun e w' => e = .returned (.bool (isB c)) ∧ w' = w := by
  have HB := Lib.hid (isB_int c)
  obtain ⟨n, hn⟩ : ∃ n : Nat, n = c.toNat := ⟨_, rfl⟩
  rw [← hn] at HB ⊢
  clear hn
  by_cases h1 : n = 32
  · subst h1
    go_enter Tryz.func48, Tryz.ntmps48
    go_wp2
    go_ret
    exact ⟨by rw [HB.out]; rfl, rfl⟩
  · have e1 : ((n : Int) == 32) = false := by rw [beq_eq_false_iff_ne]; omega
    by_cases h2 : n = 9
    · subst h2
      go_enter Tryz.func48, Tryz.ntmps48
      go_wp2
      go_ret
      exact ⟨by rw [HB.out]; rfl, rfl⟩
    · have e2 : ((n : Int) == 9) = false := by rw [beq_eq_false_iff_ne]; omega
      have HN : Hid (isB c = decide ((n : Int) = 10)) := Lib.hid (by rw [HB.out]; exact decide_eq_decide.2 (by omega))
      clear HB
      go_enter Tryz.func48, Tryz.ntmps48
      go_wp2
      go_ret
      exact ⟨by rw [HN.out]; by_cases h : (n : Int) = 10 <;> simp [h], rfl⟩

theorem digitD_all (c : UInt8) (w : World) : Calls Tryz.prog 49 #[.int .u8 (c.toNat : Int)] w fun e w' => e = .returned (.bool (isD c)) ∧ w' = w := by
  have HB := Lib.hid (isD_int c)
  obtain ⟨n, hn⟩ : ∃ n : Nat, n = c.toNat := ⟨_, rfl⟩
  rw [← hn] at HB ⊢
  clear hn
  by_cases h1 : (48 : Int) ≤ n
  · have HN : Hid (isD c = decide ((n : Int) ≤ 57)) := Lib.hid (by rw [HB.out]; exact decide_eq_decide.2 (by omega))
    clear HB
    go_enter Tryz.func49, Tryz.ntmps49
    go_wp2
    go_ret
    exact ⟨by rw [HN.out]; rfl, rfl⟩
  · have HN : Hid (isD c = false) := Lib.hid (by rw [HB.out]; exact decide_eq_false (by omega))
    clear HB
    go_enter Tryz.func49, Tryz.ntmps49
    go_wp2
    go_ret
    exact ⟨by rw [HN.out]; rfl, rfl⟩

/-- In the digits ahead of the point, or behind it. -/
def At3 (s : ByteArray) (i : Nat) (sm pt : Bool) : Prop :=
  (∃ k, k ≤ pW s ∧ i = pX s + k ∧ sm = decide (0 < k) ∧ pt = false) ∨
  (pD s = true ∧ (0 < pW s ∨ 0 < pP s) ∧ ∃ j, j ≤ pP s ∧ i = pX s + pW s + 1 + j ∧ sm = decide (0 < pW s + j) ∧ pt = true)

theorem isD46 : isD 46 = false := by decide
theorem at_cases (s : ByteArray) (i : Nat) (sm pt : Bool) (h : At3 s i sm pt) :
    (∃ h : i < s.size, isD s[i] = true ∧ At3 s (i + 1) true pt) ∨
    (pt = false ∧ ∃ h : i < s.size, s[i] = 46 ∧ noNum (pT s) ∧ sm = false ∧ ∀ h : i + 1 < s.size, isD s[i + 1] = false) ∨
    (pt = false ∧ ∃ h : i < s.size, s[i] = 46 ∧ At3 s (i + 1) sm true ∧ (sm = true ∨ (sm = false ∧ ∃ h : i + 1 < s.size, isD s[i + 1] = true))) ∨
    ((∀ h : i < s.size, isD s[i] = false ∧ (pt = true ∨ s[i] ≠ 46)) ∧ (noNum (pT s) ∧ sm = false ∨ ¬ noNum (pT s) ∧ sm = true ∧ i = pB s + sizeA (pT s))) := by
  rcases h with ⟨k, hk, rfl, rfl, rfl⟩ | ⟨hd, hn, j, hj, rfl, rfl, rfl⟩
  · by_cases hlt : k < pW s
    · obtain ⟨h1, h2⟩ := run_inw isD s (pX s) k hlt
      exact Or.inl ⟨h1, h2, Or.inl ⟨k + 1, hlt, by omega, by simp, rfl⟩⟩
    · obtain rfl : k = pW s := by omega
      by_cases hd : pD s = true
      · obtain ⟨h1, h2⟩ := (pD_at s).1 hd
        by_cases hn : noNum (pT s)
        · obtain ⟨a, b⟩ := (noNum_iff s).1 hn
          have hp : pP s = 0 := b.resolve_left (by rw [hd]; decide)
          refine Or.inr (Or.inl ⟨rfl, h1, h2, hn, by simp [a], fun h => ?_⟩)
          have := run_out isD s (pX s + pW s + 1)
          rw [show run isD s (pX s + pW s + 1) = 0 from hp] at this
          exact this h
        · refine Or.inr (Or.inr (Or.inl ⟨rfl, h1, h2, Or.inr ⟨hd, ?_, 0, by omega, by omega, rfl, rfl⟩, ?_⟩))
          · by_cases h0 : pW s = 0
            · right
              by_cases h3 : pP s = 0
              · exact absurd ((noNum_iff s).2 ⟨h0, Or.inr h3⟩) hn
              · omega
            · left; omega
          · by_cases h0 : pW s = 0
            · right
              have h3 : 0 < pP s := by
                by_cases h3 : pP s = 0
                · exact absurd ((noNum_iff s).2 ⟨h0, Or.inr h3⟩) hn
                · omega
              exact ⟨by simp [h0], run_inw isD s (pX s + pW s + 1) 0 h3⟩
            · left; simp; omega
      · have hd' : pD s = false := by simpa using hd
        refine Or.inr (Or.inr (Or.inr ⟨fun h => ⟨run_out isD s (pX s) h, Or.inr fun e => hd ((pD_at s).2 ⟨h, e⟩)⟩, ?_⟩))
        by_cases h0 : pW s = 0
        · exact Or.inl ⟨(noNum_iff s).2 ⟨h0, Or.inl hd'⟩, by simp [h0]⟩
        · refine Or.inr ⟨fun hn => h0 ((noNum_iff s).1 hn).1, by simp; omega, ?_⟩
          rw [pA_eq, hd']; simp
  · by_cases hlt : j < pP s
    · obtain ⟨h1, h2⟩ := run_inw isD s (pX s + pW s + 1) j hlt
      exact Or.inl ⟨h1, h2, Or.inr ⟨hd, hn, j + 1, hlt, by omega, by simp; omega, rfl⟩⟩
    · obtain rfl : j = pP s := by omega
      refine Or.inr (Or.inr (Or.inr ⟨fun h => ⟨run_out isD s (pX s + pW s + 1) h, Or.inl rfl⟩, Or.inr ⟨fun h => ?_, by simp; omega, ?_⟩⟩))
      · obtain ⟨a, b⟩ := (noNum_iff s).1 h
        rw [hd] at b
        rcases b with b | b
        · cases b
        · omega
      · rw [pA_eq, hd]; simp; omega


open Go.Proofs.YtcjeeoadgoghfaaGreatDoor.deca (leadL ptD dig lead_w lead_p ptD_w ptD_p sgW firstZ first_pt)
/-- The digits that are read at place i, ahead of the point and behind it. -/
def wAt (s : ByteArray) (i : Nat) (pt : Bool) : List UInt8 := if pt = true then (s.data.toList.drop (pX s)).take (pW s) else (s.data.toList.drop (pX s)).take (i - pX s)
def pAt (s : ByteArray) (i : Nat) (pt : Bool) : List UInt8 := if pt = true then (s.data.toList.drop (pX s + pW s + 1)).take (i - (pX s + pW s + 1)) else []
/-- The digits and the point that the struct holds at place i. -/
def DP (s : ByteArray) (i : Nat) (pt : Bool) (l : List Nat) (p : Int) : Prop := l = (leadL (wAt s i pt) (pAt s i pt)).map dig ∧ p = ptD (wAt s i pt) (pAt s i pt)
theorem take_next (s : ByteArray) (x k : Nat) (h : x + k < s.size) : (s.data.toList.drop x).take (k + 1) = (s.data.toList.drop x).take k ++ [s[x + k]] := by
  have h2 : k < (s.data.toList.drop x).length := by rw [List.length_drop]; simp; omega
  rw [List.take_succ_eq_append_getElem h2, List.getElem_drop]
  rfl
theorem getE (s : ByteArray) {a b : Nat} (e : a = b) (h : a < s.size) (h2 : b < s.size) : s[a] = s[b] := by subst e; rfl
theorem dp_start (s : ByteArray) : DP s (pX s) false [] 0 := by
  have e1 : wAt s (pX s) false = [] := by unfold wAt; rw [if_neg (by decide), Nat.sub_self]; rfl
  have e2 : pAt s (pX s) false = [] := by unfold pAt; rw [if_neg (by decide)]
  unfold DP
  rw [e1, e2]
  exact ⟨rfl, rfl⟩
theorem dig_zero {c : UInt8} (h : isD c = true) : c = 48 ↔ c.toNat - 48 = 0 := by
  rw [isD_int] at h
  have := of_decide_eq_true h
  constructor
  · rintro rfl; rfl
  · intro e; exact UInt8.toNat_inj.1 (by show c.toNat = 48; omega)
theorem at_w {s : ByteArray} {i : Nat} {sm : Bool} (ha : At3 s i sm false) (h : i < s.size) : wAt s (i + 1) false = wAt s i false ++ [s[i]] ∧ pAt s (i + 1) false = [] ∧ pAt s i false = [] := by
  rcases ha with ⟨k, hk, rfl, _, _⟩ | ⟨_, _, j, _, _, _, h0⟩
  · refine ⟨?_, by unfold pAt; rw [if_neg (by decide)], by unfold pAt; rw [if_neg (by decide)]⟩
    unfold wAt
    rw [if_neg (by decide), if_neg (by decide), show pX s + k + 1 - pX s = k + 1 by omega, show pX s + k - pX s = k by omega]
    exact take_next s _ _ h
  · cases h0
theorem at_p {s : ByteArray} {i : Nat} {sm : Bool} (ha : At3 s i sm true) (h : i < s.size) : wAt s (i + 1) true = wAt s i true ∧ pAt s (i + 1) true = pAt s i true ++ [s[i]] := by
  rcases ha with ⟨k, hk, _, _, h0⟩ | ⟨_, _, j, _, rfl, _, _⟩
  · cases h0
  · refine ⟨by unfold wAt; rw [if_pos rfl, if_pos rfl], ?_⟩
    unfold pAt
    rw [if_pos rfl, if_pos rfl, show pX s + pW s + 1 + j + 1 - (pX s + pW s + 1) = j + 1 by omega, show pX s + pW s + 1 + j - (pX s + pW s + 1) = j by omega]
    exact take_next s _ _ h
theorem at_t {s : ByteArray} {i : Nat} {sm sm2 : Bool} (ha : At3 s i sm false) (hb : At3 s (i + 1) sm2 true) : wAt s (i + 1) true = wAt s i false ∧ pAt s (i + 1) true = [] ∧ pAt s i false = [] := by
  rcases ha with ⟨k, hk, rfl, _, _⟩ | ⟨_, _, j, _, _, _, h0⟩
  · rcases hb with ⟨_, _, _, _, h0⟩ | ⟨_, _, j, _, hj, _, _⟩
    · cases h0
    · have e1 : k = pW s := by omega
      have e2 : j = 0 := by omega
      refine ⟨?_, ?_, by unfold pAt; rw [if_neg (by decide)]⟩
      · unfold wAt
        rw [if_pos rfl, if_neg (by decide), show pX s + k - pX s = pW s by omega]
      · unfold pAt
        rw [if_pos rfl, show pX s + k + 1 - (pX s + pW s + 1) = 0 by omega]
        rfl
  · cases h0
theorem dp_t {s : ByteArray} {i : Nat} {sm sm2 : Bool} {l : List Nat} {p : Int} (ha : At3 s i sm false) (hb : At3 s (i + 1) sm2 true) (h : DP s i false l p) : DP s (i + 1) true l p := by
  obtain ⟨e1, e2, e3⟩ := at_t ha hb
  unfold DP at h ⊢
  rw [e1, e2]
  rw [e3] at h
  exact h
theorem dp_ws {s : ByteArray} {i : Nat} {sm : Bool} {l : List Nat} {p : Int} (ha : At3 s i sm false) (h : i < s.size) (hD : isD s[i] = true) (hd : DP s i false l p) (hc : 0 < s[i].toNat - 48 ∨ l ≠ []) : DP s (i + 1) false (l ++ [s[i].toNat - 48]) (p + 1) := by
  obtain ⟨e1, e2, e3⟩ := at_w ha h
  obtain ⟨h1, h2⟩ := hd
  rw [e3] at h1 h2
  have hn : ¬ (leadL (wAt s i false) [] = [] ∧ s[i] = 48) := by
    rintro ⟨a, b⟩
    rw [a] at h1
    have := (dig_zero hD).1 b
    rcases hc with hc | hc
    · omega
    · exact hc h1
  unfold DP
  rw [e1, e2, lead_w, ptD_w, if_neg hn, if_neg hn, List.map_append, ← h1, ← h2]
  exact ⟨rfl, rfl⟩
theorem dp_wn {s : ByteArray} {i : Nat} {sm : Bool} {l : List Nat} {p : Int} (ha : At3 s i sm false) (h : i < s.size) (hD : isD s[i] = true) (hd : DP s i false l p) (hc : s[i].toNat - 48 = 0) (hl : l = []) : DP s (i + 1) false l p := by
  obtain ⟨e1, e2, e3⟩ := at_w ha h
  obtain ⟨h1, h2⟩ := hd
  rw [e3] at h1 h2
  have hn : leadL (wAt s i false) [] = [] ∧ s[i] = 48 := by
    rw [hl] at h1
    exact ⟨List.map_eq_nil_iff.1 h1.symm, (dig_zero hD).2 hc⟩
  unfold DP
  rw [e1, e2, lead_w, ptD_w, if_pos hn, if_pos hn, ← h2]
  exact ⟨hl, rfl⟩
theorem dp_ps {s : ByteArray} {i : Nat} {sm : Bool} {l : List Nat} {p : Int} (ha : At3 s i sm true) (h : i < s.size) (hD : isD s[i] = true) (hd : DP s i true l p) (hc : 0 < s[i].toNat - 48 ∨ l ≠ []) : DP s (i + 1) true (l ++ [s[i].toNat - 48]) p := by
  obtain ⟨e1, e2⟩ := at_p ha h
  obtain ⟨h1, h2⟩ := hd
  have hn : ¬ (leadL (wAt s i true) (pAt s i true) = [] ∧ s[i] = 48) := by
    rintro ⟨a, b⟩
    rw [a] at h1
    have := (dig_zero hD).1 b
    rcases hc with hc | hc
    · omega
    · exact hc h1
  unfold DP
  rw [e1, e2, lead_p, ptD_p, if_neg hn, if_neg hn, List.map_append, ← h1, ← h2]
  exact ⟨rfl, rfl⟩
theorem dp_pn {s : ByteArray} {i : Nat} {sm : Bool} {l : List Nat} {p : Int} (ha : At3 s i sm true) (h : i < s.size) (hD : isD s[i] = true) (hd : DP s i true l p) (hc : s[i].toNat - 48 = 0) (hl : l = []) : DP s (i + 1) true l (p - 1) := by
  obtain ⟨e1, e2⟩ := at_p ha h
  obtain ⟨h1, h2⟩ := hd
  have hn : leadL (wAt s i true) (pAt s i true) = [] ∧ s[i] = 48 := by
    rw [hl] at h1
    exact ⟨List.map_eq_nil_iff.1 h1.symm, (dig_zero hD).2 hc⟩
  unfold DP
  rw [e1, e2, lead_p, ptD_p, if_pos hn, if_pos hn, ← h2]
  exact ⟨hl, rfl⟩
/-- The numeral's digits, and the point ahead of the power. -/
def D0 (s : ByteArray) : List Nat := (leadL (wholeL (pT s)) (partL (pT s))).map dig
def q0 (s : ByteArray) : Int := ptD (wholeL (pT s)) (partL (pT s))
theorem whole_at (s : ByteArray) : wholeL (pT s) = (s.data.toList.drop (pX s)).take (pW s) := by
  unfold wholeL pT pX pW run dg
  rw [List.drop_drop]
  rfl
theorem part_at (s : ByteArray) (h : pD s = true) : partL (pT s) = (s.data.toList.drop (pX s + pW s + 1)).take (pP s) := by
  unfold partL
  rw [pD_eq, if_pos h, pW_eq]
  have e : (pT s).drop (sg (pT s) + pW s + 1) = s.data.toList.drop (pX s + pW s + 1) := by
    unfold pX
    unfold pT
    rw [List.drop_drop]
    congr 1; omega
  rw [e]
  rfl
theorem part_no (s : ByteArray) (h : pD s = false) : partL (pT s) = [] := by
  unfold partL
  rw [pD_eq, h]
  rfl
theorem dp_end {s : ByteArray} {i : Nat} {sm pt : Bool} {l : List Nat} {p : Int} (ha : At3 s i sm pt) (hi : i = pB s + sizeA (pT s)) (hd : DP s i pt l p) : l = D0 s ∧ p = q0 s := by
  rw [pA_eq] at hi
  unfold D0 q0
  rw [whole_at]
  obtain ⟨h1, h2⟩ := hd
  rcases ha with ⟨k, hk, hik, _, rfl⟩ | ⟨hp, _, j, hj, hij, _, rfl⟩
  · have hp : pD s = false := by
      cases h : pD s with
      | false => rfl
      | true => rw [h, if_pos rfl] at hi; omega
    rw [hp, if_neg (by decide)] at hi
    rw [part_no s hp]
    have e1 : wAt s i false = (s.data.toList.drop (pX s)).take (pW s) := by
      unfold wAt; rw [if_neg (by decide)]; congr 1; omega
    have e2 : pAt s i false = [] := by unfold pAt; rw [if_neg (by decide)]
    rw [e1, e2] at h1 h2
    exact ⟨h1, h2⟩
  · rw [hp, if_pos rfl] at hi
    rw [part_at s hp]
    have e1 : wAt s i true = (s.data.toList.drop (pX s)).take (pW s) := by unfold wAt; rw [if_pos rfl]
    have e2 : pAt s i true = (s.data.toList.drop (pX s + pW s + 1)).take (pP s) := by
      unfold pAt; rw [if_pos rfl]; congr 1; omega
    rw [e1, e2] at h1 h2
    exact ⟨h1, h2⟩

/-- The power that digits say, 10^9 at most. -/
def eN (l : List UInt8) : Nat := l.foldl (fun e c => min (10 * e + (c.toNat - 48)) 1000000000) 0
def eZ (Q : List UInt8) : Int := if Q.head? = some 45 then -((eN (Q.drop (sg Q)) : Nat) : Int) else (eN (Q.drop (sg Q)) : Nat)
theorem eN_snoc (l : List UInt8) (c : UInt8) : eN (l ++ [c]) = min (10 * eN l + (c.toNat - 48)) 1000000000 := by unfold eN; rw [List.foldl_append]; rfl
theorem eN_step (s : ByteArray) (K x : Nat) (hx : K ≤ x) (h : x < s.size) (hD : isD s[x] = true) : ((eN ((s.data.toList.drop K).take (x + 1 - K)) : Nat) : Int) = min (10 * ((eN ((s.data.toList.drop K).take (x - K)) : Nat) : Int) + ((s[x].toNat : Int) - 48)) 1000000000 := by
  obtain ⟨k, rfl⟩ : ∃ k, x = K + k := ⟨x - K, by omega⟩
  rw [isD_int] at hD
  have := of_decide_eq_true hD
  rw [show K + k + 1 - K = k + 1 by omega, show K + k - K = k by omega, take_next s K k h, eN_snoc]
  omega
theorem eN_nil : eN [] = 0 := rfl
/-- The power's list, out of where it stands. -/
theorem lp_take (s : ByteArray) (i : Nat) (h : i < s.size) (hc : s[i] = 101 ∨ s[i] = 69) (hg : 0 < xG s i) : lp (s.data.toList.drop i) = (s.data.toList.drop (i + 1)).take (xS s i + xG s i) := by
  rcases head_at s i with ⟨h', e⟩ | ⟨h', e⟩
  · have hx : dg ((s.data.toList.drop (i + 1)).drop (sg (s.data.toList.drop (i + 1)))) = xG s i := by
      rw [List.drop_drop]; rfl
    rw [e]
    unfold lp
    simp only
    rw [if_pos hc, hx, if_neg (by omega)]
    rfl
  · omega
theorem sg_take (L : List UInt8) (n : Nat) (h : 0 < n) : sg (L.take n) = sg L ∧ (L.take n).head? = L.head? := by
  cases L with
  | nil => rw [List.take_nil]; exact ⟨rfl, rfl⟩
  | cons c t =>
    obtain ⟨m, rfl⟩ : ∃ m, n = m + 1 := ⟨n - 1, by omega⟩
    rw [List.take_succ_cons]
    exact ⟨rfl, rfl⟩
theorem eZ_at (s : ByteArray) (i : Nat) (h : i < s.size) (hc : s[i] = 101 ∨ s[i] = 69) (hg : 0 < xG s i) : eZ (lp (s.data.toList.drop i)) = if (s.data.toList.drop (i + 1)).head? = some 45 then -((eN ((s.data.toList.drop (i + 1 + xS s i)).take (xG s i)) : Nat) : Int) else ((eN ((s.data.toList.drop (i + 1 + xS s i)).take (xG s i)) : Nat) : Int) := by
  rw [lp_take s i h hc hg]
  obtain ⟨e1, e2⟩ := sg_take (s.data.toList.drop (i + 1)) (xS s i + xG s i) (by omega)
  have e3 : ((s.data.toList.drop (i + 1)).take (xS s i + xG s i)).drop (sg (s.data.toList.drop (i + 1))) = (s.data.toList.drop (i + 1 + xS s i)).take (xG s i) := by
    rw [List.drop_take, List.drop_drop]
    show List.take (xS s i + xG s i - xS s i) _ = _
    rw [Nat.add_sub_cancel_left]
    rfl
  unfold eZ
  rw [e1, e2, e3]
theorem pow_at (s : ByteArray) (q : Nat) (hq : q = pB s + sizeA (pT s)) : powL (pT s) = lp (s.data.toList.drop q) := by
  unfold powL
  rw [hq]
  unfold pT
  rw [List.drop_drop]
theorem eZ_nil : eZ [] = 0 := rfl

/-- Both powers are one, as far as they play a part. -/
theorem pow_both : ∀ (l : List UInt8) (p e : Nat), e = min p 1000000000 → (∀ c ∈ l, isD c = true) → l.foldl (fun e c => min (10 * e + (c.toNat - 48)) 1000000000) e = min (l.foldl pwStep p) 1000000000
  | [], p, e, h, _ => h
  | c :: t, p, e, h, hc => by
    rw [List.foldl_cons, List.foldl_cons]
    refine pow_both t _ _ ?_ (fun d hd => hc d (List.mem_cons_of_mem _ hd))
    have h1 := hc c List.mem_cons_self
    rw [isD_int] at h1
    have h2 := of_decide_eq_true h1
    have h3 : (c - 48).toNat = c.toNat - 48 := by
      rw [UInt8.toNat_sub_of_le _ _ (by rw [UInt8.le_iff_toNat_le]; show 48 ≤ c.toNat; omega)]
      rfl
    unfold pwStep
    rw [h3, h]
    split <;> omega
theorem eN_pw (l : List UInt8) (h : ∀ c ∈ l, isD c = true) : eN l = min (pwN l) 1000000000 := pow_both l 0 0 rfl h
theorem lp_digs (l : List UInt8) : ∀ c ∈ (lp l).drop (sg (lp l)), isD c = true := by
  cases l with
  | nil => intro c h; simp [lp] at h
  | cons a t =>
    intro c h
    unfold lp at h
    simp only at h
    split at h
    · split at h
      · simp at h
      · rename_i hg
        rw [(sg_take t (sg t + dg (t.drop (sg t))) (by omega)).1, List.drop_take, Nat.add_sub_cancel_left] at h
        exact tw_mem _ _ h
    · simp at h
 where
  tw_mem : ∀ (l : List UInt8) (c : UInt8), c ∈ l.take (dg l) → isD c = true
    | [], c, h => by simp [dg] at h
    | a :: t, c, h => by
      unfold dg at h
      rw [List.takeWhile_cons] at h
      split at h
      · rename_i ha
        rw [List.length_cons, List.take_succ_cons] at h
        rcases List.mem_cons.1 h with rfl | h
        · exact ha
        · exact tw_mem t c h
      · simp at h
theorem pow_two (l : List UInt8) : pwZ (lp l) = eZ (lp l) ∨ (1000000000 ≤ pwZ (lp l) ∧ 1000000000 ≤ eZ (lp l)) ∨ (pwZ (lp l) ≤ -1000000000 ∧ eZ (lp l) ≤ -1000000000) := by
  have h := eN_pw _ (lp_digs l)
  unfold pwZ eZ
  split <;> omega

/-- What the struct holds: digits, n at most. -/
def HoldX (s : ByteArray) (w : World) (wr : World) (n : Nat) (pt : Bool) : Prop := ∃ v l p, Box2 wr w.heap.size 85 v (.int .i64 p) ∧ OwnI wr (w.heap.size + 1) 3 v l ∧ Digs l ∧ Led l ∧ l.length ≤ n ∧ -(n : Int) ≤ p ∧ p ≤ (n : Int) ∧ w.heap.size + 1 ≤ wr.heap.size ∧ Below w.heap.size w wr ∧ Hid (DP s n pt l p)

theorem HoldX.start (s : ByteArray) (w : World) : HoldX s w (w.alloc (.cells #[.slice none 0 0, .int .i64 0] 85)) (pX s) false :=
  ⟨_, [], 0, Box2.new _ _ _ _, OwnI.nil _ _ _, (fun _ h => by simp at h), (fun _ _ h => by cases h), by simp, by omega, by omega, by simp, (Below.refl _ _).alloc (Nat.le_refl _) _, Lib.hid (dp_start s)⟩
/-- What it holds behind the exponent. -/
def QP (s : ByteArray) (l : List Nat) (p : Int) : Prop := l = D0 s ∧ (p = q0 s + eZ (powL (pT s)) ∨ l = [])
def Hold2X (s : ByteArray) (w : World) (wr : World) : Prop := ∃ v l p, Box2 wr w.heap.size 85 v (.int .i64 p) ∧ OwnI wr (w.heap.size + 1) 3 v l ∧ Digs l ∧ Led l ∧ l.length ≤ 1000 ∧ w.heap.size + 1 ≤ wr.heap.size ∧ Below w.heap.size w wr ∧ Hid (QP s l p)
/-- A byte that is a digit. -/
theorem isD_dig (c : UInt8) (h : isD c = true) : ∃ d : Nat, d ≤ 9 ∧ (c.toNat : Int) = 48 + d := by
  rw [isD_int] at h
  have := of_decide_eq_true h
  exact ⟨c.toNat - 48, by omega, by omega⟩
theorem led_snoc {l : List Nat} {d : Nat} (h : Led l) (hd : 0 < d ∨ l ≠ []) : Led (l ++ [d]) := by
  intro c t e
  cases l with
  | nil =>
    simp at e
    rcases hd with hd | hd
    · omega
    · exact absurd rfl hd
  | cons a t2 =>
    simp at e
    exact h c t2 (by rw [e.1])
theorem digs_snoc {l : List Nat} {d : Nat} (h : Digs l) (hd : d ≤ 9) : Digs (l ++ [d]) := by
  intro x hx
  rcases List.mem_append.1 hx with hx | hx
  · exact h x hx
  · simp at hx; omega
end Go.Proofs.YtcjeeoadgoghfaaGreatDoor.scan
namespace Go.Proofs.YtcjeeoadgoghfaaGreatDoor.deci
open Go.ChangeShapes Go.WideShapes Go.ChangeAt Go.RowKit Go.Proofs.YtcjeeoadgoghfaaGreatDoor.Deci
theorem Box2.set0 {w : World} {b : Nat} {T : TypeId} {x y : Value} (h : Box2 w b T x y) (x' : Value) : Box2 (w.setCell ⟨b, 0, none⟩ x') b T x' y := by
  unfold Box2 at *
  rw [heap_setCell_same w b 0 _ T x' h]
  rfl
theorem Box2.set1 {w : World} {b : Nat} {T : TypeId} {x y : Value} (h : Box2 w b T x y) (y' : Value) : Box2 (w.setCell ⟨b, 1, none⟩ y') b T x y' := by
  unfold Box2 at *
  rw [heap_setCell_same w b 1 _ T y' h]
  rfl
theorem OwnI.set {w : World} {B : Nat} {e : TypeId} {v : Value} {l : List Nat} (h : OwnI w B e v l) (b o : Nat) (x : Value) (hb : b < B) : OwnI (w.setCell ⟨b, o, none⟩ x) B e v l := by
  refine ⟨h.1, h.2.elim Or.inl (fun ⟨g, cap, cur, hv, hg, hh, r⟩ => Or.inr ⟨g, cap, cur, hv, hg, ?_, r⟩)⟩
  rw [heap_setCell_other w ⟨b, o, none⟩ g x (by show g ≠ b; omega)]
  exact hh
end Go.Proofs.YtcjeeoadgoghfaaGreatDoor.deci
