/- Contracts of the document's digits with a point (package tedderref02): Exact, at, fixed, Whole. -/
import Derived.Test.YtplnpplmhjddbaaGreatDoorDeci2
import Derived.Test.YtplnpplmhjddbaaGreatDoorFloatMath
import Derived.Laws.FloatArith
import Derived.Laws.Externs
namespace Go.Proofs.YtplnpplmhjddbaaGreatDoor.deci
set_option linter.unusedVariables false set_option linter.unusedSimpArgs false
open Go.ChangeShapes Go.WideShapes Go.ChangeAt Go.RowKit Go.Proofs.YtplnpplmhjddbaaGreatDoor.Deci

/-- The slice v doesn't lie in block D. -/
def Off (v : Value) (D : Nat) : Prop := ∀ g off n cap, v = .slice (some ⟨g, off, none⟩) n cap → 0 < n → g ≠ D
theorem RdI.off {w : World} {B : Nat} {v : Value} {l : List Nat} (h : RdI w B v l) : Off v w.heap.size := by
  intro g off n cap hv hn
  rcases h with ⟨h, _⟩ | ⟨g', off', cap', h, _, _, hc⟩
  · rw [h] at hv; cases hv
  · rw [h] at hv
    cases hv
    have := World.block_lt_of_cell? w _ (hc 0 hn)
    simp at this
    omega
theorem RdI.off_lt {w : World} {B D : Nat} {v : Value} {l : List Nat} (h : RdI w B v l) (hD : D < B) : Off v D := by
  intro g off n cap hv hn
  rcases h with ⟨h, _⟩ | ⟨g', off', cap', h, _, hB, hc⟩
  · rw [h] at hv; cases hv
  · rw [h] at hv
    cases hv
    omega
theorem RdI.setOff {w : World} {B : Nat} {v : Value} {l : List Nat} (h : RdI w B v l) (b o : Nat) (x : Value) (hb : Off v b) : RdI (w.setCell ⟨b, o, none⟩ x) B v l := by
  rcases h with h | ⟨g, off, cap, hv, hc, hB, hr⟩
  · exact Or.inl h
  · refine Or.inr ⟨g, off, cap, hv, hc, hB, fun i hi => ?_⟩
    have := hr i hi
    have hne : g ≠ b := hb g off _ cap hv (by omega)
    go_cell

/-- A struct in a block of the call's own, both fields written. -/
theorem Box2.put {w : World} {b : Nat} {T : TypeId} {x y : Value} (h : Box2 w b T x y) (x' y' : Value) : Box2 ((w.setCell ⟨b, 0, none⟩ x').setCell ⟨b, 1, none⟩ y') b T x' y' := by
  unfold Box2 at *
  have h1 := heap_setCell_same w b 0 _ T x' h
  have h2 := heap_setCell_same _ b 1 _ T y' h1
  rw [h2]
  rfl

/-- What a finite number's word says: a numerator, a denominator. -/
def magOf (b : Nat) : Nat := if b % 9223372036854775808 / 4503599627370496 = 0 then b % 4503599627370496 else b % 4503599627370496 + 4503599627370496
def expOf (b : Nat) : Int := if b % 9223372036854775808 / 4503599627370496 = 0 then -1074 else (b % 9223372036854775808 / 4503599627370496 : Nat) - 1075
def numOf (b : Nat) : Nat := magOf b * 2 ^ (expOf b).toNat
def denOf (b : Nat) : Nat := 2 ^ (-(expOf b)).toNat

theorem run_bits (x : Nat) (W : World) : (callFunc 18 #[.float .f64 x]).run Tryz.prog W = .ok (.value (.int .u64 x)) W := by
  rw [run_callFunc_extern (e := Extern.MathFloatBits.float64bits) Tryz.func18 (by kernel_rfl) (by kernel_rfl) (by kernel_rfl) (by kernel_rfl)]
  rfl
theorem run_frombits (x : Nat) (W : World) : (callFunc 13 #[.int .u64 x]).run Tryz.prog W = .ok (.value (.float .f64 x)) W := by
  rw [run_callFunc_extern (e := Extern.MathFloatBits.float64frombits) Tryz.func13 (by kernel_rfl) (by kernel_rfl) (by kernel_rfl) (by kernel_rfl)]
  rfl

theorem Fine.any {p : Int} {a b : Nat} (h : Fine [] p a b) (b' : Nat) : Fine [] p a b' := Fine.make h.digs h.tight h.led h.zero (by have := Rep.nil h.rep; subst this; simp [Rep, val])

theorem pt_bd {l : List Nat} {p k : Int} (h0 : -k ≤ p) (h1 : p ≤ k) (hk : 0 ≤ k) : -k ≤ pt l p ∧ pt l p ≤ k := by
  unfold pt
  split <;> omega
theorem dblP_bd {l : List Nat} {p k : Int} (h0 : -k ≤ p) (h1 : p ≤ k) : -(k + 1) ≤ dblP l p ∧ dblP l p ≤ k + 1 := by
  unfold dblP
  split <;> omega
theorem hlfP_bd {l : List Nat} {p k : Int} (h0 : -k ≤ p) (h1 : p ≤ k) : -(k + 1) ≤ hlfP l p ∧ hlfP l p ≤ k + 1 := by
  unfold hlfP
  split <;> omega
theorem trim_bd (l : List Nat) (k : Nat) (h : l.length ≤ k) : (trimD l).length ≤ k := Nat.le_trans (trimD_len l) h

/-- The state of a loop that doubles or halves a variable in block D. -/
def ExSt (w wr : World) (R D : Nat) (T : TypeId) (A B k : Nat) : Prop :=
  ∃ l p a c, Box2 wr D T (.slice a l.length c) (.int .i64 p) ∧ RdI wr w.heap.size (.slice a l.length c) l ∧ Off (.slice a l.length c) D ∧ Off (.slice a l.length c) R ∧ Fine l p A B ∧ l.length ≤ 20 + k ∧ -(20 + k : Int) ≤ p ∧ p ≤ 20 + k ∧
    Box2 wr R T (.slice none 0 0) (.int .i64 0) ∧ w.heap.size ≤ R ∧ R < D ∧ D < wr.heap.size ∧ Below w.heap.size w wr

set_option maxRecDepth 100000 in
set_option maxHeartbeats 1000000 in
theorem Exact_all (b : Nat) (w : World) (hb : b < 18446744073709551616) (hf : b % 9223372036854775808 / 4503599627370496 < 2047) :
    Calls Tryz.prog 28 #[.float .f64 b] w fun e w' => ∃ a c l p, e = .returned (.agg #[.slice a l.length c, .int .i64 p]) ∧ RdI w' w.heap.size (.slice a l.length c) l ∧ Fine l p (numOf b) (denOf b) ∧ l.length ≤ 3000 ∧ -3000 ≤ p ∧ p ≤ 3000 ∧ Below w.heap.size w w' := by
  have hbits := run_bits b
  obtain ⟨r, hr⟩ : ∃ r : Nat, r = b % 9223372036854775808 := ⟨_, rfl⟩
  obtain ⟨q, hq⟩ : ∃ q : Nat, q = r / 4503599627370496 := ⟨_, rfl⟩
  obtain ⟨m, hm⟩ : ∃ m : Nat, m = r % 4503599627370496 := ⟨_, rfl⟩
  have e1 : (b : Int) % 9223372036854775808 = (r : Int) := by omega
  have e2 : (r : Int) / 4503599627370496 = (q : Int) := by omega
  have e3 : (r : Int) % 4503599627370496 = (m : Int) := by omega
  have hb1 : (b : Int) < 18446744073709551616 := by omega
  have hr1 : (r : Int) < 9223372036854775808 := by omega
  have hq1 : q < 2047 := by omega
  have hm1 : (m : Int) < 4503599627370496 := by omega
  have HB := Lib.hid hb
  have HF := Lib.hid hf
  have HR := Lib.hid hr
  have HQ := Lib.hid hq
  have HM := Lib.hid hm
  clear hb hf hr hq hm
  go_enter Tryz.func28, Tryz.ntmps28
  obtain ⟨M, hM, hML, E, hE, hE1, hE2⟩ : ∃ M : Nat, M = magOf b ∧ M < 9007199254740992 ∧ ∃ E : Int, E = expOf b ∧ -1074 ≤ E ∧ E ≤ 972 := by
    refine ⟨_, rfl, ?_, _, rfl, ?_, ?_⟩
    · unfold magOf; split <;> omega
    · unfold expOf; rw [← HR.out, ← HQ.out]; split <;> omega
    · unfold expOf; rw [← HR.out, ← HQ.out]; split <;> omega
  have HMM := Lib.hid hM
  have HEE := Lib.hid hE
  have hM64 : M < 10 ^ 16 := by omega
  have hlen := digs_len 16 M hM64
  have HML := Lib.hid hML
  clear hM64 hML hM hE
  have HDG := Lib.hid (fun (w : World) => digits_all M w (by have := HML.out; omega))
  have HF0 := Lib.hid (digs_fine M)
  have hpl := pt_bd (l := trimD (digs M)) (p := (digs M).length) (k := 20) (by omega) (by omega) (by omega)
  have htl := trim_bd (digs M) 20 (by omega)
  generalize hp0 : pt (trimD (digs M)) (digs M).length = p0 at *
  generalize hl0 : trimD (digs M) = l0 at *
  clear hlen hp0 hl0
  by_cases h0 : 0 < q
  · have eM : (m : Int) + 4503599627370496 = (M : Int) := by have := HMM.out; unfold magOf at this; rw [← HR.out, ← HQ.out, if_neg (by omega)] at this; have := HM.out; have := HR.out; omega
    have eE : (q : Int) = E + 1075 := by have := HEE.out; unfold expOf at this; rw [← HR.out, ← HQ.out, if_neg (by omega)] at this; omega
    have EE := Lib.hid eE
    clear eE
    go_wp2_with (go_at_call 49; refine (HDG.out _).mono ?_; rintro e w1 ⟨v1, rfl, hr1, hb1⟩; obtain ⟨a1, c1, rfl⟩ := hr1.forms; have hz1 := hb1.size)
    go_loopw [4] (fun ev wr => ∃ (k : Nat) (x : Int), ev = .int .i64 x ∧ x + k = E ∧ (k = 0 ∨ 0 ≤ x) ∧ ExSt w wr w.heap.size w1.heap.size 47 (M * 2 ^ k) 1 k) (fun ev _ => (intOf ev).toNat)
    case atStart =>
      have := EE.out
      exact ⟨0, _, rfl, by omega, Or.inl rfl, l0, p0, a1, c1, Box2.new _ _ _ _, (hr1.mono (by simp)).alloc _, hr1.off, hr1.off_lt (by simp), by simpa using HF0.out, by omega, by omega, by omega, ((Box2.new _ _ _ _).below hb1 (by simp)).old _, Nat.le_refl _, by simp at hz1; omega, by simp, (((Below.refl _ _).alloc (Nat.le_refl _) _).trans (hb1.mono (by simp))).alloc (by simp at hz1; omega) _⟩
    case round =>
      obtain ⟨k, x, rfl, hxk, hk0, l, p, a, c, hbx, hrd, hoff, hoffR, hfine, hll, hp0, hp1, hbr, hRle, hRD, hDs, hbel⟩ := hrel
      have HX := Lib.hid hxk
      have x0 := hbx.c0
      have x1 := hbx.c1
      have xf0 := hbx.f 0
      have xf1 := hbx.f 1
      have hkk : (k : Int) ≤ 2100 := by omega
      have hxu : x ≤ 972 ∧ -2000 ≤ x := by omega
      obtain ⟨hxu, hxl⟩ := hxu
      clear hxk
      by_cases hx : 0 < x
      · go_wp2_with (go_at_call 44; go_must (refine (double_all p (.slice a l.length c) l _ (hrd.mono (Nat.zero_le _)) (by omega) hfine.digs (by omega) (by omega)).mono ?_; rintro e w2 ⟨v2, rfl, hr2, hb2⟩; obtain ⟨a2, c2, rfl⟩ := hr2.forms; have hz2 := hb2.size; have M1 := Lib.hid (hbx.below hb2 (by omega)); have m0 := M1.out.c0; have m1 := M1.out.c1; have mf0 := M1.out.f 0; have mf1 := M1.out.f 1))
        go_roundw
        case rel =>
          have := HX.out
          have hq1 := dblP_bd (l := l) (p := p) (k := 20 + k) hp0 hp1
          have hq2 := pt_bd (l := trimD (dblL l)) (p := dblP l p) (k := 20 + k + 1) (by omega) (by omega) (by omega)
          have hq3 := trim_bd (dblL l) (20 + k + 1) (by have := dblL_len l; omega)
          exact ⟨k + 1, x - 1, rfl, by omega, Or.inr (by omega), _, _, _, _, M1.out.put _ _, ((hr2.set _ 0 _ hDs).set _ 1 _ hDs).mono (by omega), hr2.off_lt hDs, hr2.off_lt (by omega), by have := hfine.double; rw [show M * 2 ^ (k + 1) = 2 * (M * 2 ^ k) by rw [Nat.pow_succ, ← Nat.mul_assoc, Nat.mul_comm]]; exact this, by omega, by omega, by omega, ((hbr.below hb2 (by omega)).set_ne _ (by omega)).set_ne _ (by omega), hRle, hRD, by simp; omega, ((hbel.trans (hb2.mono (by omega))).setCell (by simp; omega) _).setCell (by simp; omega) _⟩
        case measure => simp [intOf]; omega
      · have HK := Lib.hid hk0
        have HST : Hid (ExSt w wr w.heap.size w1.heap.size 47 (M * 2 ^ E.toNat) (2 ^ 0) 1000) := Lib.hid (by
          have h1 := HX.out
          have h2 : k = E.toNat := by omega
          subst h2
          exact ⟨l, p, a, c, hbx, hrd, hoff, hoffR, hfine, by omega, by omega, by omega, hbr, hRle, hRD, hDs, hbel⟩)
        have HEX := Lib.hid (show (0 ≤ E → x = 0) ∧ (E < 0 → x = E) by have := HX.out; omega)
        have hxle : x ≤ 0 := by omega
        clear hk0 x0 x1 xf0 xf1 hrd hoff hoffR hfine hll hp0 hp1 hbr hRle hRD hDs hbel hbx hkk hx
        have hx2 : ¬ 0 < x := by omega
        clear HK hxu hxl hxle
        go_wp2_with fail
        go_loopw [4] (fun ev wr => ∃ (k : Nat) (x : Int), ev = .int .i64 x ∧ x ≤ 0 ∧ (0 ≤ E → x = 0 ∧ k = 0) ∧ (E < 0 → x = E + k) ∧ ExSt w wr w.heap.size w1.heap.size 47 (M * 2 ^ E.toNat) (2 ^ k) (1000 + k)) (fun ev _ => (-(intOf ev)).toNat)
        case atStart =>
          have := HEX.out
          exact ⟨0, _, rfl, by omega, fun h => ⟨by omega, rfl⟩, fun h => by omega, HST.out⟩
        case round =>
          clear HX HST HEX
          obtain ⟨k, x, rfl, hx0, hxp, hxn, l, p, a, c, hbx, hrd, hoff, hoffR, hfine, hll, hp0, hp1, hbr, hRle, hRD, hDs, hbel⟩ := hrel
          have HXP := Lib.hid hxp
          have HXN := Lib.hid hxn
          have x0 := hbx.c0
          have x1 := hbx.c1
          have xf0 := hbx.f 0
          have xf1 := hbx.f 1
          have hkk : (k : Int) ≤ 1074 ∧ -1100 ≤ x := by omega
          obtain ⟨hkk, hxl⟩ := hkk
          clear hxp hxn
          by_cases hx : x < 0
          · by_cases hl : 0 < l.length
            · go_wp2_with (go_at_call 43; go_must (refine (half_all p (.slice a l.length c) l _ (hrd.mono (Nat.zero_le _)) (by omega) hfine.digs (by omega) (by omega)).mono ?_; rintro e w2 ⟨v2, rfl, hr2, hb2⟩; obtain ⟨a2, c2, rfl⟩ := hr2.forms; have hz2 := hb2.size; have M1 := Lib.hid (hbx.below hb2 (by omega)); have m0 := M1.out.c0; have m1 := M1.out.c1; have mf0 := M1.out.f 0; have mf1 := M1.out.f 1))
              go_roundw
              case rel =>
                have := HXP.out
                have := HXN.out
                have hq1 := hlfP_bd (l := l) (p := p) (k := 20 + (1000 + k : Nat)) hp0 hp1
                have hq2 := pt_bd (l := trimD (hlfL l)) (p := hlfP l p) (k := 20 + (1000 + k : Nat) + 1) (by omega) (by omega) (by omega)
                have hq3 := trim_bd (hlfL l) (20 + (1000 + k) + 1) (by have := hlfL_len l; omega)
                refine ⟨k + 1, x + 1, by go_num, by omega, fun h => by omega, fun h => by omega, _, _, _, _, M1.out.put _ _, ((hr2.set _ 0 _ hDs).set _ 1 _ hDs).mono (by omega), hr2.off_lt hDs, hr2.off_lt (by omega), by have := hfine.half; rw [show 2 ^ (k + 1) = 2 * 2 ^ k by rw [Nat.pow_succ, Nat.mul_comm]]; exact this, by omega, by omega, by omega, ((hbr.below hb2 (by omega)).set_ne _ (by omega)).set_ne _ (by omega), hRle, hRD, by simp; omega, ((hbel.trans (hb2.mono (by omega))).setCell (by simp; omega) _).setCell (by simp; omega) _⟩
              case measure => simp [intOf]; omega
            · obtain rfl : l = [] := List.eq_nil_of_length_eq_zero (by omega)
              simp only [List.length_nil] at hrd hoff hoffR x0 hl
              have r0 := hbr.c0
              have r1 := hbr.c1
              have rf0 := hbr.f 0
              have rf1 := hbr.f 1
              go_wp2_with fail
              refine bodyPost_ret (v := .agg #[.slice a 0 c, .int .i64 p]) (by simp [results, Tryz.results28, go_sem, r0, r1]) rfl ⟨a, c, [], p, rfl, (hrd.setOff _ 0 _ hoffR).setOff _ 1 _ hoffR, ?_, by simp, by omega, by omega, (hbel.setCell (by simp) _).setCell (by simp) _⟩
              have h1 := HXP.out
              have h3 : E.toNat = 0 := by omega
              rw [h3, Nat.pow_zero, Nat.mul_one] at hfine
              unfold numOf
              rw [← HEE.out, ← HMM.out, h3, Nat.pow_zero, Nat.mul_one]
              exact Fine.any hfine _
          · have hx0' : x = 0 := by omega
            have hxn2 : ¬ x < 0 := hx
            have r0 := hbr.c0
            have r1 := hbr.c1
            have rf0 := hbr.f 0
            have rf1 := hbr.f 1
            have HX0 := Lib.hid hx0'
            clear hx0'
            go_wp2_with fail
            refine bodyPost_ret (v := .agg #[.slice a l.length c, .int .i64 p]) (by simp [results, Tryz.results28, go_sem, r0, r1]) rfl ⟨a, c, l, p, rfl, (hrd.setOff _ 0 _ hoffR).setOff _ 1 _ hoffR, ?_, by omega, by omega, by omega, (hbel.setCell (by simp) _).setCell (by simp) _⟩
            unfold numOf denOf
            rw [← HEE.out, ← HMM.out]
            have h1 := HXP.out
            have h2 := HXN.out
            have h3 := HX0.out
            rw [show (-E).toNat = k by omega]
            exact hfine
  · have eM : (m : Int) = (M : Int) := by have := HMM.out; unfold magOf at this; rw [← HR.out, ← HQ.out, if_pos (by omega)] at this; have := HM.out; have := HR.out; omega
    have eE : (q : Int) = 0 ∧ E = -1074 := by have := HEE.out; unfold expOf at this; rw [← HR.out, ← HQ.out, if_pos (by omega)] at this; omega
    have EE := Lib.hid eE
    clear eE
    go_wp2_with (go_at_call 49; refine (HDG.out _).mono ?_; rintro e w1 ⟨v1, rfl, hr1, hb1⟩; obtain ⟨a1, c1, rfl⟩ := hr1.forms; have hz1 := hb1.size)
    go_loopw [4] (fun ev wr => ∃ (k : Nat) (x : Int), ev = .int .i64 x ∧ x + k = E ∧ (k = 0 ∨ 0 ≤ x) ∧ ExSt w wr w.heap.size w1.heap.size 47 (M * 2 ^ k) 1 k) (fun ev _ => (intOf ev).toNat)
    case atStart =>
      have := EE.out
      exact ⟨0, _, rfl, by omega, Or.inl rfl, l0, p0, a1, c1, Box2.new _ _ _ _, (hr1.mono (by simp)).alloc _, hr1.off, hr1.off_lt (by simp), by simpa using HF0.out, by omega, by omega, by omega, ((Box2.new _ _ _ _).below hb1 (by simp)).old _, Nat.le_refl _, by simp at hz1; omega, by simp, (((Below.refl _ _).alloc (Nat.le_refl _) _).trans (hb1.mono (by simp))).alloc (by simp at hz1; omega) _⟩
    case round =>
      obtain ⟨k, x, rfl, hxk, hk0, l, p, a, c, hbx, hrd, hoff, hoffR, hfine, hll, hp0, hp1, hbr, hRle, hRD, hDs, hbel⟩ := hrel
      have HX := Lib.hid hxk
      have x0 := hbx.c0
      have x1 := hbx.c1
      have xf0 := hbx.f 0
      have xf1 := hbx.f 1
      have hkk : (k : Int) ≤ 2100 := by omega
      have hxu : x ≤ 972 ∧ -2000 ≤ x := by omega
      obtain ⟨hxu, hxl⟩ := hxu
      clear hxk
      by_cases hx : 0 < x
      · go_wp2_with (go_at_call 44; go_must (refine (double_all p (.slice a l.length c) l _ (hrd.mono (Nat.zero_le _)) (by omega) hfine.digs (by omega) (by omega)).mono ?_; rintro e w2 ⟨v2, rfl, hr2, hb2⟩; obtain ⟨a2, c2, rfl⟩ := hr2.forms; have hz2 := hb2.size; have M1 := Lib.hid (hbx.below hb2 (by omega)); have m0 := M1.out.c0; have m1 := M1.out.c1; have mf0 := M1.out.f 0; have mf1 := M1.out.f 1))
        go_roundw
        case rel =>
          have := HX.out
          have hq1 := dblP_bd (l := l) (p := p) (k := 20 + k) hp0 hp1
          have hq2 := pt_bd (l := trimD (dblL l)) (p := dblP l p) (k := 20 + k + 1) (by omega) (by omega) (by omega)
          have hq3 := trim_bd (dblL l) (20 + k + 1) (by have := dblL_len l; omega)
          exact ⟨k + 1, x - 1, rfl, by omega, Or.inr (by omega), _, _, _, _, M1.out.put _ _, ((hr2.set _ 0 _ hDs).set _ 1 _ hDs).mono (by omega), hr2.off_lt hDs, hr2.off_lt (by omega), by have := hfine.double; rw [show M * 2 ^ (k + 1) = 2 * (M * 2 ^ k) by rw [Nat.pow_succ, ← Nat.mul_assoc, Nat.mul_comm]]; exact this, by omega, by omega, by omega, ((hbr.below hb2 (by omega)).set_ne _ (by omega)).set_ne _ (by omega), hRle, hRD, by simp; omega, ((hbel.trans (hb2.mono (by omega))).setCell (by simp; omega) _).setCell (by simp; omega) _⟩
        case measure => simp [intOf]; omega
      · have HK := Lib.hid hk0
        have HST : Hid (ExSt w wr w.heap.size w1.heap.size 47 (M * 2 ^ E.toNat) (2 ^ 0) 1000) := Lib.hid (by
          have h1 := HX.out
          have h2 : k = E.toNat := by omega
          subst h2
          exact ⟨l, p, a, c, hbx, hrd, hoff, hoffR, hfine, by omega, by omega, by omega, hbr, hRle, hRD, hDs, hbel⟩)
        have HEX := Lib.hid (show (0 ≤ E → x = 0) ∧ (E < 0 → x = E) by have := HX.out; omega)
        have hxle : x ≤ 0 := by omega
        clear hk0 x0 x1 xf0 xf1 hrd hoff hoffR hfine hll hp0 hp1 hbr hRle hRD hDs hbel hbx hkk hx
        have hx2 : ¬ 0 < x := by omega
        clear HK hxu hxl hxle
        go_wp2_with fail
        go_loopw [4] (fun ev wr => ∃ (k : Nat) (x : Int), ev = .int .i64 x ∧ x ≤ 0 ∧ (0 ≤ E → x = 0 ∧ k = 0) ∧ (E < 0 → x = E + k) ∧ ExSt w wr w.heap.size w1.heap.size 47 (M * 2 ^ E.toNat) (2 ^ k) (1000 + k)) (fun ev _ => (-(intOf ev)).toNat)
        case atStart =>
          have := HEX.out
          exact ⟨0, _, rfl, by omega, fun h => ⟨by omega, rfl⟩, fun h => by omega, HST.out⟩
        case round =>
          clear HX HST HEX
          obtain ⟨k, x, rfl, hx0, hxp, hxn, l, p, a, c, hbx, hrd, hoff, hoffR, hfine, hll, hp0, hp1, hbr, hRle, hRD, hDs, hbel⟩ := hrel
          have HXP := Lib.hid hxp
          have HXN := Lib.hid hxn
          have x0 := hbx.c0
          have x1 := hbx.c1
          have xf0 := hbx.f 0
          have xf1 := hbx.f 1
          have hkk : (k : Int) ≤ 1074 ∧ -1100 ≤ x := by omega
          obtain ⟨hkk, hxl⟩ := hkk
          clear hxp hxn
          by_cases hx : x < 0
          · by_cases hl : 0 < l.length
            · go_wp2_with (go_at_call 43; go_must (refine (half_all p (.slice a l.length c) l _ (hrd.mono (Nat.zero_le _)) (by omega) hfine.digs (by omega) (by omega)).mono ?_; rintro e w2 ⟨v2, rfl, hr2, hb2⟩; obtain ⟨a2, c2, rfl⟩ := hr2.forms; have hz2 := hb2.size; have M1 := Lib.hid (hbx.below hb2 (by omega)); have m0 := M1.out.c0; have m1 := M1.out.c1; have mf0 := M1.out.f 0; have mf1 := M1.out.f 1))
              go_roundw
              case rel =>
                have := HXP.out
                have := HXN.out
                have hq1 := hlfP_bd (l := l) (p := p) (k := 20 + (1000 + k : Nat)) hp0 hp1
                have hq2 := pt_bd (l := trimD (hlfL l)) (p := hlfP l p) (k := 20 + (1000 + k : Nat) + 1) (by omega) (by omega) (by omega)
                have hq3 := trim_bd (hlfL l) (20 + (1000 + k) + 1) (by have := hlfL_len l; omega)
                refine ⟨k + 1, x + 1, by go_num, by omega, fun h => by omega, fun h => by omega, _, _, _, _, M1.out.put _ _, ((hr2.set _ 0 _ hDs).set _ 1 _ hDs).mono (by omega), hr2.off_lt hDs, hr2.off_lt (by omega), by have := hfine.half; rw [show 2 ^ (k + 1) = 2 * 2 ^ k by rw [Nat.pow_succ, Nat.mul_comm]]; exact this, by omega, by omega, by omega, ((hbr.below hb2 (by omega)).set_ne _ (by omega)).set_ne _ (by omega), hRle, hRD, by simp; omega, ((hbel.trans (hb2.mono (by omega))).setCell (by simp; omega) _).setCell (by simp; omega) _⟩
              case measure => simp [intOf]; omega
            · obtain rfl : l = [] := List.eq_nil_of_length_eq_zero (by omega)
              simp only [List.length_nil] at hrd hoff hoffR x0 hl
              have r0 := hbr.c0
              have r1 := hbr.c1
              have rf0 := hbr.f 0
              have rf1 := hbr.f 1
              go_wp2_with fail
              refine bodyPost_ret (v := .agg #[.slice a 0 c, .int .i64 p]) (by simp [results, Tryz.results28, go_sem, r0, r1]) rfl ⟨a, c, [], p, rfl, (hrd.setOff _ 0 _ hoffR).setOff _ 1 _ hoffR, ?_, by simp, by omega, by omega, (hbel.setCell (by simp) _).setCell (by simp) _⟩
              have h1 := HXP.out
              have h3 : E.toNat = 0 := by omega
              rw [h3, Nat.pow_zero, Nat.mul_one] at hfine
              unfold numOf
              rw [← HEE.out, ← HMM.out, h3, Nat.pow_zero, Nat.mul_one]
              exact Fine.any hfine _
          · have hx0' : x = 0 := by omega
            have hxn2 : ¬ x < 0 := hx
            have r0 := hbr.c0
            have r1 := hbr.c1
            have rf0 := hbr.f 0
            have rf1 := hbr.f 1
            have HX0 := Lib.hid hx0'
            clear hx0'
            go_wp2_with fail
            refine bodyPost_ret (v := .agg #[.slice a l.length c, .int .i64 p]) (by simp [results, Tryz.results28, go_sem, r0, r1]) rfl ⟨a, c, l, p, rfl, (hrd.setOff _ 0 _ hoffR).setOff _ 1 _ hoffR, ?_, by omega, by omega, by omega, (hbel.setCell (by simp) _).setCell (by simp) _⟩
            unfold numOf denOf
            rw [← HEE.out, ← HMM.out]
            have h1 := HXP.out
            have h2 := HXN.out
            have h3 := HX0.out
            rw [show (-E).toNat = k by omega]
            exact hfine
end Go.Proofs.YtplnpplmhjddbaaGreatDoor.deci
