/- Powers of binary64: the document's Power, and both where there is no power. -/
import Derived.Test.YtnddldnabldnoaaGreatDoorPowB
namespace Go.Proofs.YtnddldnabldnoaaGreatDoor.pow8
set_option linter.unusedVariables false set_option linter.unusedSimpArgs false
open Go.ChangeShapes Go.WideShapes Go.ChangeAt Go.RowKit
open Go.Proofs.YtnddldnabldnoaaGreatDoor.deci (magOf expOf denOf wholeN denOf_pos)
open Go.Proofs.YtnddldnabldnoaaGreatDoor.FloatMath Go.Proofs.YtnddldnabldnoaaGreatDoor.whole

set_option maxRecDepth 100000 in
set_option maxHeartbeats 1000000 in
theorem rPower_good (x y : Nat) (w : World) (hb : y < 18446744073709551616) (hf : y % 9223372036854775808 / 4503599627370496 < 2047) (hd : denOf y ∣ deci.numOf y) (hle : ¬ 4652218415073722368 < y % 9223372036854775808) :
    Calls Tryz.prog 27 #[.float .f64 x, .float .f64 y] w (PwPost x y w) := by
  have ho := ord_ne y (trW y) ((order_sym _ _).1 ((trunc_order y hb hf).2 hd))
  have HT := Lib.hid (fun w => Trunc_fin y hf w)
  have hg : (FloatKind.f64.format.order y 4652218415073722368 == some .gt) = false := by
    have := gt_1024 y hb hf
    rw [decide_eq_false (by omega)] at this
    exact this
  have hg2 : (FloatKind.f64.format.order y 13875590451928498176 == some .lt) = false := by
    have := lt_m1024 y hb hf
    rw [decide_eq_false (by omega)] at this
    exact this
  have hcv := conv_of y (wholeN y) (toInt_word y hb (by omega))
  have hN := cnt_le y hf hle
  have hZN := whole_self y
  have HRES := Lib.hid (show res x y = if wholeN y < 0 then (pw x (cntN y)).bind (fun r => Ieee.double.div 4607182418800017408 r) else pw x (cntN y) from rfl)
  have hz1 : -1024 ≤ wholeN y := by rw [hZN]; split <;> omega
  have hz2 : wholeN y ≤ 1024 := by rw [hZN]; split <;> omega
  have hmax : max (wholeN y) (-(wholeN y)) = (cntN y : Int) := by rw [hZN]; split <;> omega
  clear hZN
  generalize cntN y = N at *
  by_cases hZ : wholeN y < 0
  · have HR := Lib.hid (show res x y = (pw x N).bind (fun r => Ieee.double.div 4607182418800017408 r) by rw [HRES.out, if_pos hZ])
    clear hb hf hd hle HRES
    generalize wholeN y = Z at *
    go_enter Tryz.func27, Tryz.ntmps27
    go_wp2_with (go_at_call 43; go_must (refine (HT.out _).mono ?_; rintro e w1 ⟨rfl, rfl⟩))
    go_loopw [7, 8] (fun pv iv wr => ∃ k c : Nat, k ≤ N ∧ iv = .int .i64 k ∧ pv = .float .f64 c ∧ St (pw x k) c ∧ Below w.heap.size w wr) (fun _ iv _ => N - (intOf iv).toNat)
    case atStart => exact ⟨0, 4607182418800017408, Nat.zero_le _, rfl, rfl, rfl, Below.refl _ _⟩
    case round =>
      obtain ⟨k, c, hk, rfl, rfl, hst, hbel⟩ := hrel
      have HST := Lib.hid hst
      clear hst
      by_cases hlt : k < N
      · rcases step x c k HST.out with ⟨r', hm, hp⟩ | ⟨hm, hp⟩
        · have hop := fun t W => mul_some t W c x r' hm
          have HP := Lib.hid (show St (pw x (k + 1)) r' by rw [hp]; rfl)
          clear hm hp
          go_wp2
          go_roundw
          case rel => exact ⟨k + 1, r', by omega, by go_num, rfl, HP.out, hbel⟩
          case measure => simp [intOf]; omega
        · have hop := fun t W => mul_none t W c x hm
          have HP := Lib.hid (show ∀ W, St (pw x (k + 1)) (nanC c x W) by intro W; rw [hp]; exact nan_nanC c x W)
          clear hm hp
          go_wp2
          go_roundw
          case rel => exact ⟨k + 1, _, by omega, by go_num, rfl, HP.out _, hbel.drew⟩
          case measure => simp [intOf]; omega
      · obtain rfl : k = N := by omega
        rcases stepD c _ HST.out with ⟨r', hm, hp⟩ | ⟨hm, hp⟩
        · have hop := fun t W => div_some t W 4607182418800017408 c r' hm
          have HP := Lib.hid (show St (res x y) r' by rw [HR.out, hp]; rfl)
          clear hm hp
          go_wp2
          go_ret2
          exact ⟨r', rfl, HP.out, hbel⟩
        · have hop := fun t W => div_none t W 4607182418800017408 c hm
          have HP := Lib.hid (show ∀ W, St (res x y) (nanC 4607182418800017408 c W) by intro W; rw [HR.out, hp]; exact nan_nanC _ _ W)
          clear hm hp
          go_wp2
          go_ret2
          exact ⟨_, rfl, HP.out _, hbel.drew⟩
  · have HR := Lib.hid (show res x y = pw x N by rw [HRES.out, if_neg hZ])
    clear hb hf hd hle HRES
    generalize wholeN y = Z at *
    go_enter Tryz.func27, Tryz.ntmps27
    go_wp2_with (go_at_call 43; go_must (refine (HT.out _).mono ?_; rintro e w1 ⟨rfl, rfl⟩))
    go_loopw [7, 8] (fun pv iv wr => ∃ k c : Nat, k ≤ N ∧ iv = .int .i64 k ∧ pv = .float .f64 c ∧ St (pw x k) c ∧ Below w.heap.size w wr) (fun _ iv _ => N - (intOf iv).toNat)
    case atStart => exact ⟨0, 4607182418800017408, Nat.zero_le _, rfl, rfl, rfl, Below.refl _ _⟩
    case round =>
      obtain ⟨k, c, hk, rfl, rfl, hst, hbel⟩ := hrel
      have HST := Lib.hid hst
      clear hst
      by_cases hlt : k < N
      · rcases step x c k HST.out with ⟨r', hm, hp⟩ | ⟨hm, hp⟩
        · have hop := fun t W => mul_some t W c x r' hm
          have HP := Lib.hid (show St (pw x (k + 1)) r' by rw [hp]; rfl)
          clear hm hp
          go_wp2
          go_roundw
          case rel => exact ⟨k + 1, r', by omega, by go_num, rfl, HP.out, hbel⟩
          case measure => simp [intOf]; omega
        · have hop := fun t W => mul_none t W c x hm
          have HP := Lib.hid (show ∀ W, St (pw x (k + 1)) (nanC c x W) by intro W; rw [hp]; exact nan_nanC c x W)
          clear hm hp
          go_wp2
          go_roundw
          case rel => exact ⟨k + 1, _, by omega, by go_num, rfl, HP.out _, hbel.drew⟩
          case measure => simp [intOf]; omega
      · obtain rfl : k = N := by omega
        go_wp2
        go_ret2
        exact ⟨c, rfl, by rw [HR.out]; exact HST.out, hbel⟩

/-- There is no power. -/
def noPow (y : Nat) : Prop := 9218868437227405312 ≤ y % 9223372036854775808 ∨ ¬ denOf y ∣ deci.numOf y ∨ 4652218415073722368 < y % 9223372036854775808

def NoPost (w : World) (e : Ending) (w' : World) : Prop := e = .returned (.tuple #[.float .f64 0, .bool false]) ∧ Below w.heap.size w w'

set_option maxRecDepth 100000 in
set_option maxHeartbeats 1000000 in
theorem vPower_no (x y : Nat) (w : World) (hb : y < 18446744073709551616) (h : noPow y) : Calls Tryz.prog 26 #[.float .f64 x, .float .f64 y] w (NoPost w) := by
  by_cases h1 : 9218868437227405312 < y % 9223372036854775808
  · have HO := Lib.hid (fun a => ord_ne2 a y (by rw [nan_order a y h1]; simp))
    have HT := Lib.hid (fun w => Trunc_nan y h1 w)
    clear hb h h1
    go_enter Tryz.func26, Tryz.ntmps26
    go_wp2_with (go_at_call 43; go_must (refine (HT.out _).mono ?_; rintro e w1 ⟨y, rfl, hb1⟩; have ho := HO.out y))
    go_ret2
    exact ⟨rfl, hb1⟩
  · by_cases h2 : y % 9223372036854775808 = 9218868437227405312
    · have ho := ord_ne y y (inf_order y h2)
      have HT := Lib.hid (fun w => Trunc_inf y hb h2 w)
      have HA := Lib.hid (fun w => Abs_all y 9218868437227405312 hb h2.symm w)
      have hg : (FloatKind.f64.format.order 9218868437227405312 4652218415073722368 == some .gt) = true := by decide
      clear hb h h1 h2
      go_enter Tryz.func26, Tryz.ntmps26
      go_wp2_with (first | (go_at_call 43; go_must (refine (HT.out _).mono ?_; rintro e w1 ⟨rfl, rfl⟩)) | (go_at_call 44; go_must (refine (HA.out _).mono ?_; rintro e w1 ⟨rfl, rfl⟩)))
      go_ret2
      exact ⟨rfl, Below.refl _ _⟩
    · have hf : y % 9223372036854775808 / 4503599627370496 < 2047 := by omega
      by_cases hd : denOf y ∣ deci.numOf y
      · have hbig : 4652218415073722368 < y % 9223372036854775808 := by
          rcases h with h | h | h
          · omega
          · exact absurd hd h
          · exact h
        have ho := ord_ne (trW y) y ((trunc_order y hb hf).2 hd)
        have HT := Lib.hid (fun w => Trunc_fin y hf w)
        obtain ⟨r, hr⟩ : ∃ r, r = y % 9223372036854775808 := ⟨_, rfl⟩
        have HA := Lib.hid (fun w => Abs_all y r hb hr w)
        have hg : (FloatKind.f64.format.order r 4652218415073722368 == some .gt) = true := by
          have := gt_1024 r (by omega) (by omega)
          rw [decide_eq_true (by omega)] at this
          exact this
        clear hb h h1 h2 hf hd hr hbig
        go_enter Tryz.func26, Tryz.ntmps26
        go_wp2_with (first | (go_at_call 43; go_must (refine (HT.out _).mono ?_; rintro e w1 ⟨rfl, rfl⟩)) | (go_at_call 44; go_must (refine (HA.out _).mono ?_; rintro e w1 ⟨rfl, rfl⟩)))
        go_ret2
        exact ⟨rfl, Below.refl _ _⟩
      · have ho := ord_ne2 (trW y) y (fun e => hd ((trunc_order y hb hf).1 e))
        have HT := Lib.hid (fun w => Trunc_fin y hf w)
        clear hb h h1 h2 hf hd
        go_enter Tryz.func26, Tryz.ntmps26
        go_wp2_with (go_at_call 43; go_must (refine (HT.out _).mono ?_; rintro e w1 ⟨rfl, rfl⟩))
        go_ret2
        exact ⟨rfl, Below.refl _ _⟩

set_option maxRecDepth 100000 in
set_option maxHeartbeats 1000000 in
theorem rPower_no (x y : Nat) (w : World) (hb : y < 18446744073709551616) (h : noPow y) : Calls Tryz.prog 27 #[.float .f64 x, .float .f64 y] w (NoPost w) := by
  by_cases h1 : 9218868437227405312 < y % 9223372036854775808
  · have HO := Lib.hid (fun a => ord_ne2 y a (fun e => by rw [order_sym, nan_order a y h1] at e; cases e))
    have HT := Lib.hid (fun w => Trunc_nan y h1 w)
    clear hb h h1
    go_enter Tryz.func27, Tryz.ntmps27
    go_wp2_with (go_at_call 43; go_must (refine (HT.out _).mono ?_; rintro e w1 ⟨y, rfl, hb1⟩; have ho := HO.out y))
    go_ret2
    exact ⟨rfl, hb1⟩
  · by_cases h2 : y % 9223372036854775808 = 9218868437227405312
    · have ho := ord_ne y y (inf_order y h2)
      have HT := Lib.hid (fun w => Trunc_inf y hb h2 w)
      have hor : y = 9218868437227405312 ∨ y = 18442240474082181120 := by omega
      rcases hor with e | e
      · subst e
        have hg : (FloatKind.f64.format.order 9218868437227405312 4652218415073722368 == some .gt) = true := by decide
        clear hb h h1 h2
        go_enter Tryz.func27, Tryz.ntmps27
        go_wp2_with (go_at_call 43; go_must (refine (HT.out _).mono ?_; rintro e w1 ⟨rfl, rfl⟩))
        go_ret2
        exact ⟨rfl, Below.refl _ _⟩
      · subst e
        have hg : (FloatKind.f64.format.order 18442240474082181120 4652218415073722368 == some .gt) = false := by decide
        have hg2 : (FloatKind.f64.format.order 18442240474082181120 13875590451928498176 == some .lt) = true := by decide
        clear hb h h1 h2
        go_enter Tryz.func27, Tryz.ntmps27
        go_wp2_with (go_at_call 43; go_must (refine (HT.out _).mono ?_; rintro e w1 ⟨rfl, rfl⟩))
        go_ret2
        exact ⟨rfl, Below.refl _ _⟩
    · have hf : y % 9223372036854775808 / 4503599627370496 < 2047 := by omega
      by_cases hd : denOf y ∣ deci.numOf y
      · have hbig : 4652218415073722368 < y % 9223372036854775808 := by
          rcases h with h | h | h
          · omega
          · exact absurd hd h
          · exact h
        have ho := ord_ne y (trW y) ((order_sym _ _).1 ((trunc_order y hb hf).2 hd))
        have HT := Lib.hid (fun w => Trunc_fin y hf w)
        have hg0 := gt_1024 y hb hf
        have hg1 := lt_m1024 y hb hf
        by_cases hs : y < 9223372036854775808
        · have hg : (FloatKind.f64.format.order y 4652218415073722368 == some .gt) = true := by
            rw [decide_eq_true (by omega)] at hg0
            exact hg0
          clear hb h h1 h2 hf hd hbig hg0 hg1 hs
          go_enter Tryz.func27, Tryz.ntmps27
          go_wp2_with (go_at_call 43; go_must (refine (HT.out _).mono ?_; rintro e w1 ⟨rfl, rfl⟩))
          go_ret2
          exact ⟨rfl, Below.refl _ _⟩
        · have hg : (FloatKind.f64.format.order y 4652218415073722368 == some .gt) = false := by
            rw [decide_eq_false (by omega)] at hg0
            exact hg0
          have hg2 : (FloatKind.f64.format.order y 13875590451928498176 == some .lt) = true := by
            rw [decide_eq_true (by omega)] at hg1
            exact hg1
          clear hb h h1 h2 hf hd hbig hg0 hg1 hs
          go_enter Tryz.func27, Tryz.ntmps27
          go_wp2_with (go_at_call 43; go_must (refine (HT.out _).mono ?_; rintro e w1 ⟨rfl, rfl⟩))
          go_ret2
          exact ⟨rfl, Below.refl _ _⟩
      · have ho := ord_ne2 y (trW y) (fun e => hd ((trunc_order y hb hf).1 ((order_sym _ _).1 e)))
        have HT := Lib.hid (fun w => Trunc_fin y hf w)
        clear hb h h1 h2 hf hd
        go_enter Tryz.func27, Tryz.ntmps27
        go_wp2_with (go_at_call 43; go_must (refine (HT.out _).mono ?_; rintro e w1 ⟨rfl, rfl⟩))
        go_ret2
        exact ⟨rfl, Below.refl _ _⟩
end Go.Proofs.YtnddldnabldnoaaGreatDoor.pow8
