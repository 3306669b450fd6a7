/- The document's Value: that it ends. -/
import Derived.Test.YthckhhifpmhlbaaGreatDoorVal
import Derived.Test.YthckhhifpmhlbaaGreatDoorTrim2
import Derived.Deep.Cut
import Derived.Deep.DeepCutAuto
namespace Go.Proofs.YthckhhifpmhlbaaGreatDoor.deci
set_option linter.unusedVariables false set_option linter.unusedSimpArgs false
open Go.ChangeShapes Go.WideShapes Go.ChangeAt Go.RowKit Go.Proofs.YthckhhifpmhlbaaGreatDoor.Deci

theorem run_frombits_any (x : Int) (W : World) : (callFunc 34 #[.int .u64 x]).run Tryz.prog W = .ok (.value (.float .f64 x.toNat)) W := by
  rw [run_callFunc_extern (e := Extern.MathFloatBits.float64frombits) Tryz.func34 (by kernel_rfl) (by kernel_rfl) (by kernel_rfl) (by kernel_rfl)]
  rfl
def VPost (w : World) (en : Ending) (w' : World) : Prop := ∃ f : Nat, en = .returned (.float .f64 f) ∧ Below w.heap.size w w'
theorem ms_le {l : List Nat} {p : Int} (h : Digs l) (hp : p ≤ 400) : ms l p ≤ (4100 : Nat) := by
  unfold ms
  cases l with
  | nil => simp; omega
  | cons d t => have := h d (List.mem_cons_self ..); simp; omega
/-- Where the halving stands. -/
def L1At (w : World) (D : Nat) (wr : World) (k : Nat) (e : Int) : Prop := ∃ l p a c, Box2 wr D 46 (.slice a l.length c) (.int .i64 p) ∧ RdI wr 0 (.slice a l.length c) l ∧ Off (.slice a l.length c) D ∧ Digs l ∧ Led l ∧ l ≠ [] ∧ ms l p ≤ k ∧ 0 ≤ e ∧ e + k ≤ 5000 ∧ (l.length : Int) ≤ 1000 + e ∧ -500 ≤ p ∧ p ≤ 400 ∧ D < wr.heap.size ∧ w.heap.size ≤ D ∧ Below w.heap.size w wr
/-- Where the doubling stands. -/
def L2At (w : World) (D : Nat) (wr : World) (e : Int) : Prop := ∃ l p a c, Box2 wr D 46 (.slice a l.length c) (.int .i64 p) ∧ RdI wr 0 (.slice a l.length c) l ∧ Off (.slice a l.length c) D ∧ Digs l ∧ (l.length : Int) + e ≤ 11000 ∧ -1074 ≤ e ∧ e ≤ 5000 ∧ -500 ≤ p ∧ p + e ≤ 5400 ∧ D < wr.heap.size ∧ w.heap.size ≤ D ∧ Below w.heap.size w wr

set_option maxRecDepth 100000 in
set_option maxHeartbeats 2000000 in
theorem value_all (p0 : Int) (v0 : Value) (l0 : List Nat) (neg : Bool) (w : World) (hr0 : RdI w 0 v0 l0) (hl0 : l0.length ≤ 1000) (hd0 : Digs l0) (hled0 : Led l0) :
    Calls Tryz.prog 29 #[.agg #[v0, .int .i64 p0], .bool neg] w (VPost w) := by
  have HR0 := Lib.hid hr0
  obtain ⟨a0, c0, rfl⟩ := hr0.forms
  obtain ⟨l1, hl1⟩ : ∃ l1, l1 = trimD l0 := ⟨_, rfl⟩
  obtain ⟨p1, hp1⟩ : ∃ p1, p1 = pt l1 p0 := ⟨_, rfl⟩
  have HOFF := Lib.hid (RdI.off HR0.out)
  have HTR := Lib.hid (fun (W : World) (h : RdI W 0 (.slice a0 l0.length c0) l0) => (trim_off p0 0 (.slice a0 l0.length c0) l0 W h (by omega)).mono (R' := fun e w' => ∃ a c, e = .returned (.agg #[.slice a l1.length c, .int .i64 p1]) ∧ RdI w' 0 (.slice a l1.length c) l1 ∧ Below W.heap.size W w' ∧ Off (.slice a l1.length c) w.heap.size) (fun e w' h => by
    obtain ⟨v', he, hr, hb, hof⟩ := h
    rw [← hl1] at hr he
    rw [← hp1] at he
    obtain ⟨a, c, rfl⟩ := hr.forms
    exact ⟨a, c, he, hr, hb, hof _ HOFF.out⟩))
  have HD1 := Lib.hid (show Digs l1 by rw [hl1]; exact trimD_digs hd0)
  have HE1 := Lib.hid (show Led l1 by rw [hl1]; exact trimD_led hled0)
  have hlen1 : l1.length ≤ 1000 := by rw [hl1]; exact trim_bd l0 1000 hl0
  have HX0 := Lib.hid (Box2.new w 46 (.slice a0 l0.length c0) (.int .i64 p0))
  have HBW0 := Lib.hid ((Below.refl w.heap.size w).alloc (Nat.le_refl _) (.cells #[.slice a0 l0.length c0, .int .i64 p0] 46))
  have HL0 := Lib.hid (HR0.out.below ((Below.refl w.heap.size w).alloc (Nat.le_refl _) (.cells #[.slice a0 l0.length c0, .int .i64 p0] 46)))
  have hfrom := run_frombits_any
  clear hr0 hl0 hd0 hled0 hl1 hp1
  go_enter Tryz.func29, Tryz.ntmps29
  go_upto_if 8 with fail
  go_cut [5] (fun sv wx => ∃ sg : Int, sv = .int .u64 sg ∧ wx = w.alloc (.cells #[.slice a0 l0.length c0, .int .i64 p0] 46))
  case first =>
    cases neg with
    | true =>
      go_wp2
      go_meet
      exact ⟨_, rfl, rfl⟩
    | false =>
      go_wp2
      go_meet
      exact ⟨_, rfl, rfl⟩
  case rest =>
  obtain ⟨sg, rfl, rfl⟩ := hcut
  have x0 := HX0.out.c0
  have x1 := HX0.out.c1
  by_cases he1 : l1 = []
  · subst he1
    simp only [List.length_nil] at *
    go_wp2_with (go_at_call 49; go_must (refine (HTR.out _ HL0.out).mono ?_; rintro e w1 ⟨a1, c1, rfl, hr1, hb1, hof1⟩; have HR1 := Lib.hid hr1; have HOF1 := Lib.hid hof1; have hz1 := hb1.size; have M1 := Lib.hid (HX0.out.below hb1 (by simp)); have m0 := M1.out.c0; have m1 := M1.out.c1; have mf0 := M1.out.f 0; have mf1 := M1.out.f 1; have HB1 := Lib.hid (HBW0.out.trans (hb1.mono (by simp))); clear hr1 hof1 hb1))
    go_ret
    exact ⟨_, rfl, (HB1.out.setCell (Nat.le_refl _) _).setCell (Nat.le_refl _) _⟩
  · have hpos : 0 < l1.length := List.length_pos_iff.2 he1
    have hne : ((l1.length : Int) == 0) = false := by rw [beq_eq_false_iff_ne]; omega
    have HNE := Lib.hid he1
    clear he1
    by_cases hq1 : p1 < -400
    · go_wp2_with (go_at_call 49; go_must (refine (HTR.out _ HL0.out).mono ?_; rintro e w1 ⟨a1, c1, rfl, hr1, hb1, hof1⟩; have HR1 := Lib.hid hr1; have HOF1 := Lib.hid hof1; have hz1 := hb1.size; have M1 := Lib.hid (HX0.out.below hb1 (by simp)); have m0 := M1.out.c0; have m1 := M1.out.c1; have mf0 := M1.out.f 0; have mf1 := M1.out.f 1; have HB1 := Lib.hid (HBW0.out.trans (hb1.mono (by simp))); clear hr1 hof1 hb1))
      go_ret
      exact ⟨_, rfl, (HB1.out.setCell (Nat.le_refl _) _).setCell (Nat.le_refl _) _⟩
    · have hq1' : ¬ p1 < -400 := hq1
      by_cases hq2 : 400 < p1
      · go_wp2_with (go_at_call 49; go_must (refine (HTR.out _ HL0.out).mono ?_; rintro e w1 ⟨a1, c1, rfl, hr1, hb1, hof1⟩; have HR1 := Lib.hid hr1; have HOF1 := Lib.hid hof1; have hz1 := hb1.size; have M1 := Lib.hid (HX0.out.below hb1 (by simp)); have m0 := M1.out.c0; have m1 := M1.out.c1; have mf0 := M1.out.f 0; have mf1 := M1.out.f 1; have HB1 := Lib.hid (HBW0.out.trans (hb1.mono (by simp))); clear hr1 hof1 hb1))
        go_ret
        exact ⟨_, rfl, (HB1.out.setCell (Nat.le_refl _) _).setCell (Nat.le_refl _) _⟩
      · have hq2' : ¬ 400 < p1 := hq2
        go_wp2_with (go_at_call 49; go_must (refine (HTR.out _ HL0.out).mono ?_; rintro e w1 ⟨a1, c1, rfl, hr1, hb1, hof1⟩; have HR1 := Lib.hid hr1; have HOF1 := Lib.hid hof1; have hz1 := hb1.size; have M1 := Lib.hid (HX0.out.below hb1 (by simp)); have m0 := M1.out.c0; have m1 := M1.out.c1; have mf0 := M1.out.f 0; have mf1 := M1.out.f 1; have HB1 := Lib.hid (HBW0.out.trans (hb1.mono (by simp))); clear hr1 hof1 hb1))
        go_loopg [6] 4100 (fun k ev wr => ∃ e : Int, ev = .int .i64 e ∧ L1At w w.heap.size wr k e)
        case atStart =>
          exact ⟨0, rfl, l1, p1, a1, c1, M1.out.put _ _, (HR1.out.setOff _ 0 _ HOF1.out).setOff _ 1 _ HOF1.out, HOF1.out, HD1.out, HE1.out, HNE.out, ms_le HD1.out (by omega), by omega, by omega, by omega, by omega, by omega, by simp at hz1 ⊢; omega, Nat.le_refl _, (HB1.out.setCell (Nat.le_refl _) _).setCell (Nat.le_refl _) _⟩
        case round =>
          obtain ⟨e, rfl, l, p, a, c, hbx, hrd, hof, hdg, hld, hne, hms, he0, hek, hlen, hp0, hp1, hsz, hDw, hbel⟩ := hrel
          have HLD := Lib.hid hld
          have HNE := Lib.hid hne
          have HMS := Lib.hid hms
          have HBX := Lib.hid hbx
          have HRD := Lib.hid hrd
          have HOF := Lib.hid hof
          have HDG := Lib.hid hdg
          have HBE := Lib.hid hbel
          have x0 := hbx.c0
          have x1 := hbx.c1
          have xf0 := hbx.f 0
          have xf1 := hbx.f 1
          clear hbx hrd hof hdg hbel hld hne hms
          clear HX0 HBW0 HL0 HR0 HTR HD1 HE1 M1 HR1 HOF1 HB1 HOFF m0 m1 mf0 mf1
          go_upto_if 29 with (go_at_call 50; go_must (refine (atLeast_all p (.slice a l.length c) l 9007199254740992 _ HRD.out (by omega) (by omega) (by omega) (by omega) digs53.1 digs53.2.1 _ rfl).mono ?_; rintro en w2 ⟨b, rfl, hb, hb2⟩; have HB2 := Lib.hid hb2; have HBB := Lib.hid hb; have hz2 := hb2.size; clear hb hb2))
          have HX2 := Lib.hid (HBX.out.below HB2.out (by omega))
          have HRD2 := Lib.hid (HRD.out.below HB2.out)
          have HBE2 := Lib.hid (HBE.out.trans (HB2.out.mono (by omega)))
          clear x0 x1 xf0 xf1
          have x0 := HX2.out.c0
          have x1 := HX2.out.c1
          have xf0 := HX2.out.f 0
          have xf1 := HX2.out.f 1
          clear HBX HRD HBE
          cases b with
          | true =>
            go_wp2_with (go_at_call 51; go_must (refine (half_all p (.slice a l.length c) l _ HRD2.out (by omega) HDG.out (by omega) (by omega)).mono ?_; rintro en w3 ⟨v3, rfl, hr3, hb3⟩; obtain ⟨a3, c3, rfl⟩ := hr3.forms; have HR3 := Lib.hid hr3; have hz3 := hb3.size; have M3 := Lib.hid (HX2.out.below hb3 (by omega)); have m0 := M3.out.c0; have m1 := M3.out.c1; have mf0 := M3.out.f 0; have mf1 := M3.out.f 1; have HB3 := Lib.hid (HBE2.out.trans (hb3.mono (by omega))); clear hr3 hb3))
            have hls := hlf_less HDG.out HLD.out HNE.out p
            have hpt : pt (trimD (hlfL l)) (hlfP l p) = hlfP l p := if_neg hls.1
            have hmk := HMS.out
            have hp16 := (HBB.out (by first | rfl | trivial)).2
            have hm0 : 160 ≤ ms l p := by unfold ms; omega
            go_roundg (ms (trimD (hlfL l)) (hlfP l p)).toNat
            case measure => omega
            case rel =>
              have htl := trim_bd (hlfL l) (l.length + 1) (hlfL_len l)
              exact ⟨e + 1, by go_num, _, _, a3, c3, M3.out.put _ _, ((HR3.out.mono (Nat.zero_le _)).setOff _ 0 _ (HR3.out.off_lt (by omega))).setOff _ 1 _ (HR3.out.off_lt (by omega)), HR3.out.off_lt (by omega), trimD_digs (hlfL_digs l HDG.out), trimD_led (hlfL_led l HLD.out), hls.1, by rw [hpt]; omega, by omega, by omega, by omega, by rw [hpt]; omega, by rw [hpt]; omega, by simp; omega, hDw, (HB3.out.setCell (by omega) _).setCell (by omega) _⟩
          | false =>
            have HST : Hid (L2At w w.heap.size w2 e) := Lib.hid ⟨l, p, a, c, HX2.out, HRD2.out, HOF.out, HDG.out, by omega, by omega, by omega, by omega, by omega, by omega, hDw, HBE2.out⟩
            clear x0 x1 xf0 xf1 HX2 HRD2 HOF HDG HBE2 HB2 HMS HNE HLD HBB
            go_wp2_with fail
            go_loopw [6] (fun ev wr => ∃ e : Int, ev = .int .i64 e ∧ L2At w w.heap.size wr e) (fun ev _ => (intOf ev + 1074).toNat)
            case atStart => exact ⟨e, rfl, HST.out⟩
            case round =>
              clear HST hlen he0 hek hp0 hp1 hsz hz2 x0 x1 hpos hne HNE hz1 hq1 hq1' hq2 hq2' hlen1
              obtain ⟨e, rfl, l, p, a, c, hbx, hrd, hof, hdg, hlen, he0, hek, hp0, hp1, hsz, hDw, hbel⟩ := hrel
              have HBX := Lib.hid hbx
              have HRD := Lib.hid hrd
              have HOF := Lib.hid hof
              have HDG := Lib.hid hdg
              have HBE := Lib.hid hbel
              have x0 := hbx.c0
              have x1 := hbx.c1
              have xf0 := hbx.f 0
              have xf1 := hbx.f 1
              clear hbx hrd hof hdg hbel
              go_upto_region 13 with fail
              go_cut [40] (fun tv wx => ∃ b : Bool, tv = .bool b ∧ (b = true → -1074 < e) ∧ L2At w w.heap.size wx e)
              case first =>
                by_cases heg : -1074 < e
                · go_wp2_with (go_at_call 50; go_must (refine (atLeast_all p (.slice a l.length c) l 4503599627370496 _ HRD.out (by omega) (by omega) (by omega) (by omega) digs53.2.2.1 digs53.2.2.2 _ rfl).mono ?_; rintro en w2 ⟨b, rfl, hb, hb2⟩; have HB2 := Lib.hid hb2; have HBB := Lib.hid hb; have hz2 := hb2.size; clear hb hb2; cases b))
                  all_goals
                    go_meet
                    exact ⟨_, rfl, fun _ => heg, l, p, a, c, HBX.out.below HB2.out (by omega), HRD.out.below HB2.out, HOF.out, HDG.out, by omega, by omega, by omega, by omega, by omega, by omega, hDw, HBE.out.trans (HB2.out.mono (by omega))⟩
                · go_wp2_with (go_at_call 50; go_must (refine (atLeast_all p (.slice a l.length c) l 4503599627370496 _ HRD.out (by omega) (by omega) (by omega) (by omega) digs53.2.2.1 digs53.2.2.2 _ rfl).mono ?_; rintro en w2 ⟨b, rfl, hb, hb2⟩; have HB2 := Lib.hid hb2; have HBB := Lib.hid hb; have hz2 := hb2.size; clear hb hb2; cases b))
                  all_goals
                    go_meet
                    exact ⟨_, rfl, (fun h => by first | exact of_decide_eq_true h | cases h), l, p, a, c, HBX.out.below HB2.out (by omega), HRD.out.below HB2.out, HOF.out, HDG.out, by omega, by omega, by omega, by omega, by omega, by omega, hDw, HBE.out.trans (HB2.out.mono (by omega))⟩
              case rest =>
              clear x0 x1 xf0 xf1 HBX HRD HOF HDG HBE hlen he0 hek hp0 hp1 hsz hDw
              obtain ⟨b, rfl, hbe, l, p, a, c, hbx, hrd, hof, hdg, hlen, he0, hek, hp0, hp1, hsz, hDw, hbel⟩ := hcut
              have HBX := Lib.hid hbx
              have HRD := Lib.hid hrd
              have HOF := Lib.hid hof
              have HDG := Lib.hid hdg
              have HBE := Lib.hid hbel
              have x0 := hbx.c0
              have x1 := hbx.c1
              have xf0 := hbx.f 0
              have xf1 := hbx.f 1
              have HBQ := Lib.hid hbe
              clear hbx hrd hof hdg hbel hbe
              cases b with
              | true =>
                have heg : -1074 < e := HBQ.out rfl
                go_wp2_with (go_at_call 52; go_must (refine (double_all p (.slice a l.length c) l _ HRD.out (by omega) HDG.out (by omega) (by omega)).mono ?_; rintro en w3 ⟨v3, rfl, hr3, hb3⟩; obtain ⟨a3, c3, rfl⟩ := hr3.forms; have HR3 := Lib.hid hr3; have hz3 := hb3.size; have M3 := Lib.hid (HBX.out.below hb3 (by omega)); have m0 := M3.out.c0; have m1 := M3.out.c1; have mf0 := M3.out.f 0; have mf1 := M3.out.f 1; have HB3 := Lib.hid (HBE.out.trans (hb3.mono (by omega))); clear hr3 hb3))
                go_roundw
                case rel =>
                  have htl := trim_bd (dblL l) (l.length + 1) (dblL_len l)
                  have hq : pt (trimD (dblL l)) (dblP l p) = 0 ∨ pt (trimD (dblL l)) (dblP l p) = p ∨ pt (trimD (dblL l)) (dblP l p) = p + 1 := by
                    unfold pt dblP
                    split
                    · exact Or.inl rfl
                    · split
                      · exact Or.inr (Or.inr rfl)
                      · exact Or.inr (Or.inl rfl)
                  exact ⟨e - 1, by go_num, _, _, a3, c3, M3.out.put _ _, ((HR3.out.mono (Nat.zero_le _)).setOff _ 0 _ (HR3.out.off_lt (by omega))).setOff _ 1 _ (HR3.out.off_lt (by omega)), HR3.out.off_lt (by omega), trimD_digs (dblL_digs l HDG.out), by omega, by omega, by omega, by omega, by omega, by simp; omega, hDw, (HB3.out.setCell (by omega) _).setCell (by omega) _⟩
                case measure => simp [intOf]; omega
              | false =>
                go_wp2_with (go_at_call 53; go_must (refine (nearest_all p (.slice a l.length c) l _ HRD.out (by omega) (by omega) (by omega)).mono ?_; rintro en w3 ⟨m, rfl, hb3⟩; have HB3 := Lib.hid (HBE.out.trans (hb3.mono (by omega))); clear hb3))
                all_goals
                  go_ret
                  exact ⟨_, rfl, HB3.out⟩
end Go.Proofs.YthckhhifpmhlbaaGreatDoor.deci
