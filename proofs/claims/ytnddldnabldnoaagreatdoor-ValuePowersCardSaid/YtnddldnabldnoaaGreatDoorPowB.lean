/- Powers of binary64: value.Power and the document's Power answer alike. -/
import Derived.Test.YtnddldnabldnoaaGreatDoorPowA
namespace Go.Proofs.YtnddldnabldnoaaGreatDoor.pow8
set_option linter.unusedVariables false set_option linter.unusedSimpArgs false
open Go.ChangeShapes Go.WideShapes Go.ChangeAt Go.RowKit
open Go.Proofs.YtnddldnabldnoaaGreatDoor.deci (magOf expOf denOf wholeN denOf_pos)
open Go.Proofs.YtnddldnabldnoaaGreatDoor.FloatMath Go.Proofs.YtnddldnabldnoaaGreatDoor.whole

/-- No number. -/
def nanW (c : Nat) : Prop := 9218868437227405312 < c % 9223372036854775808 ∧ c < 18446744073709551616
/-- The product behind k rounds; none: it is no number. -/
def pw (x : Nat) : Nat → Option Nat
  | 0 => some 4607182418800017408
  | k + 1 => (pw x k).bind fun r => Ieee.double.mul r x
def St (o : Option Nat) (c : Nat) : Prop := match o with
  | some r => c = r
  | none => nanW c
def res (x y : Nat) : Option Nat := if wholeN y < 0 then (pw x (cntN y)).bind (fun r => Ieee.double.div 4607182418800017408 r) else pw x (cntN y)

theorem mul_nan (c x : Nat) (h : nanW c) : Ieee.double.mul c x = none := by
  unfold Ieee.Format.mul
  rw [read_nan c h.1]
  rfl
theorem div_nan (c x : Nat) (h : nanW c) : Ieee.double.div x c = none := by
  unfold Ieee.Format.div
  rw [read_nan c h.1]
  cases Ieee.double.read x <;> rfl
theorem step (x c k : Nat) (h : St (pw x k) c) : (∃ r, Ieee.double.mul c x = some r ∧ pw x (k + 1) = some r) ∨ (Ieee.double.mul c x = none ∧ pw x (k + 1) = none) := by
  have e : pw x (k + 1) = (pw x k).bind fun r => Ieee.double.mul r x := rfl
  rw [e]
  unfold St at h
  cases hp : pw x k with
  | none => rw [hp] at h; exact Or.inr ⟨mul_nan c x h, rfl⟩
  | some r =>
    rw [hp] at h
    subst h
    cases hm : Ieee.double.mul c x with
    | none => exact Or.inr ⟨rfl, hm⟩
    | some q => exact Or.inl ⟨q, rfl, hm⟩
theorem stepD (c : Nat) (o : Option Nat) (h : St o c) : (∃ r, Ieee.double.div 4607182418800017408 c = some r ∧ o.bind (fun r => Ieee.double.div 4607182418800017408 r) = some r) ∨ (Ieee.double.div 4607182418800017408 c = none ∧ o.bind (fun r => Ieee.double.div 4607182418800017408 r) = none) := by
  unfold St at h
  cases o with
  | none => exact Or.inr ⟨div_nan c _ h, rfl⟩
  | some r =>
    subst h
    cases hm : Ieee.double.div 4607182418800017408 c with
    | none => exact Or.inr ⟨rfl, hm⟩
    | some q => exact Or.inl ⟨q, rfl, hm⟩

def nanC (c x : Nat) (W : World) : Nat := Question.cut (.nanBits .f64 c x) (W.tape W.drawn (.nanBits .f64 c x))
theorem nan_nanC (c x : Nat) (W : World) : nanW (nanC c x W) := by
  unfold nanC nanW Question.cut
  generalize W.tape W.drawn (Question.nanBits FloatKind.f64 c x) = t
  simp only
  have h1 : t / 2 % (2 ^ 52 - 1) < 4503599627370495 := Nat.mod_lt _ (by decide)
  have h2 := Nat.mod_lt t (show 0 < 2 by decide)
  rw [show (2 : Nat) ^ 63 = 9223372036854775808 by decide]
  have h3 : t % 2 * 9223372036854775808 + 9218868437227405312 + 1 + t / 2 % (2 ^ 52 - 1) = t % 2 * 9223372036854775808 + (9218868437227405313 + t / 2 % (2 ^ 52 - 1)) := by omega
  generalize t / 2 % (2 ^ 52 - 1) = u at *
  rw [show (0x7ff0000000000000 : Nat) = 9218868437227405312 by decide]
  omega

theorem mul_some (t : TypeId) (W : World) (c x r : Nat) (h : Ieee.double.mul c x = some r) : (binOp .mul t (.float .f64 c) (.float .f64 x)).run Tryz.prog W = .ok (.float .f64 r) W :=
  run_float_arith W .mul t .f64 c x r h
theorem div_some (t : TypeId) (W : World) (c x r : Nat) (h : Ieee.double.div c x = some r) : (binOp .quo t (.float .f64 c) (.float .f64 x)).run Tryz.prog W = .ok (.float .f64 r) W :=
  run_float_arith W .quo t .f64 c x r h
theorem mul_none (t : TypeId) (W : World) (c x : Nat) (h : Ieee.double.mul c x = none) : (binOp .mul t (.float .f64 c) (.float .f64 x)).run Tryz.prog W = .ok (.float .f64 (nanC c x W)) W.drew := by
  have h' : FloatKind.f64.format.mul c x = none := h
  simp [binOp, Op.floatArith, h', nanC, Question.forced]
theorem div_none (t : TypeId) (W : World) (c x : Nat) (h : Ieee.double.div c x = none) : (binOp .quo t (.float .f64 c) (.float .f64 x)).run Tryz.prog W = .ok (.float .f64 (nanC c x W)) W.drew := by
  have h' : FloatKind.f64.format.div c x = none := h
  simp [binOp, Op.floatArith, h', nanC, Question.forced]

def PwPost (x y : Nat) (w : World) (e : Ending) (w' : World) : Prop := ∃ c, e = .returned (.tuple #[.float .f64 c, .bool true]) ∧ St (res x y) c ∧ Below w.heap.size w w'

theorem conv_of (b : Nat) (n : Int) (h : floatToIntVal .f64 b .i64 = some n) (W : World) : (convert 22 3 (.float .f64 b)).run Tryz.prog W = .ok (.int .i64 n) W :=
  run_convert_float_int (P := Tryz.prog) W 22 3 .f64 .i64 b n (by kernel_rfl) (by kernel_rfl) h

set_option maxRecDepth 100000 in
set_option maxHeartbeats 1000000 in
theorem vPower_good (x y : Nat) (w : World) (hb : y < 18446744073709551616) (hf : y % 9223372036854775808 / 4503599627370496 < 2047) (hd : denOf y ∣ deci.numOf y) (hle : ¬ 4652218415073722368 < y % 9223372036854775808) :
    Calls Tryz.prog 26 #[.float .f64 x, .float .f64 y] w (PwPost x y w) := by
  have ho := ord_ne (trW y) y ((trunc_order y hb hf).2 hd)
  have HT := Lib.hid (fun w => Trunc_fin y hf w)
  obtain ⟨r, hr⟩ : ∃ r, r = y % 9223372036854775808 := ⟨_, rfl⟩
  have HA := Lib.hid (fun w => Abs_all y r hb hr w)
  have hg : (FloatKind.f64.format.order r 4652218415073722368 == some .gt) = false := by
    have := gt_1024 r (by omega) (by omega)
    rw [decide_eq_false (by omega)] at this
    exact this
  have hcv := conv_of r (cntN y : Nat) (by rw [toInt_word r (by omega) (by omega), hr, whole_abs])
  have hN := cnt_le y hf hle
  have hl0 : (FloatKind.f64.format.order y 0 == some .lt) = decide (wholeN y < 0) := by
    have := lt_0 y hb hf
    rw [show decide (9223372036854775808 ≤ y ∧ magOf y ≠ 0) = decide (wholeN y < 0) by rw [decide_eq_decide]; exact neg_iff y hd] at this
    exact this
  have HRES := Lib.hid (show res x y = if wholeN y < 0 then (pw x (cntN y)).bind (fun r => Ieee.double.div 4607182418800017408 r) else pw x (cntN y) from rfl)
  generalize cntN y = N at *
  by_cases hZ : wholeN y < 0
  · rw [decide_eq_true hZ] at hl0
    have HR := Lib.hid (show res x y = (pw x N).bind (fun r => Ieee.double.div 4607182418800017408 r) by rw [HRES.out, if_pos hZ])
    clear hb hf hd hle hr hZ HRES
    go_enter Tryz.func26, Tryz.ntmps26
    go_wp2_with (first | (go_at_call 43; go_must (refine (HT.out _).mono ?_; rintro e w1 ⟨rfl, rfl⟩)) | (go_at_call 44; go_must (refine (HA.out _).mono ?_; rintro e w1 ⟨rfl, rfl⟩)))
    go_loopw [6, 19] (fun pv iv wr => ∃ k c : Nat, k ≤ N ∧ iv = .int .i64 k ∧ pv = .float .f64 c ∧ St (pw x k) c ∧ Below w.heap.size w wr) (fun _ iv _ => N - (intOf iv).toNat)
    case atStart => exact ⟨0, 4607182418800017408, Nat.zero_le _, rfl, rfl, rfl, Below.refl _ _⟩
    case round =>
      obtain ⟨k, c, hk, rfl, rfl, hst, hbel⟩ := hrel
      have HST := Lib.hid hst
      clear hst
      by_cases hlt : k < N
      · rcases step x c k HST.out with ⟨r', hm, hp⟩ | ⟨hm, hp⟩
        · have hop := fun t W => mul_some t W c x r' hm
          have HP := Lib.hid (show St (pw x (k + 1)) r' by rw [hp]; rfl)
          clear hm hp
          go_wp2
          go_roundw
          case rel => exact ⟨k + 1, r', by omega, by go_num, rfl, HP.out, hbel⟩
          case measure => simp [intOf]; omega
        · have hop := fun t W => mul_none t W c x hm
          have HP := Lib.hid (show ∀ W, St (pw x (k + 1)) (nanC c x W) by intro W; rw [hp]; exact nan_nanC c x W)
          clear hm hp
          go_wp2
          go_roundw
          case rel => exact ⟨k + 1, _, by omega, by go_num, rfl, HP.out _, hbel.drew⟩
          case measure => simp [intOf]; omega
      · obtain rfl : k = N := by omega
        rcases stepD c _ HST.out with ⟨r', hm, hp⟩ | ⟨hm, hp⟩
        · have hop := fun t W => div_some t W 4607182418800017408 c r' hm
          have HP := Lib.hid (show St (res x y) r' by rw [HR.out, hp]; rfl)
          clear hm hp
          go_wp2
          go_ret2
          exact ⟨r', rfl, HP.out, hbel⟩
        · have hop := fun t W => div_none t W 4607182418800017408 c hm
          have HP := Lib.hid (show ∀ W, St (res x y) (nanC 4607182418800017408 c W) by intro W; rw [HR.out, hp]; exact nan_nanC _ _ W)
          clear hm hp
          go_wp2
          go_ret2
          exact ⟨_, rfl, HP.out _, hbel.drew⟩
  · rw [decide_eq_false hZ] at hl0
    have HR := Lib.hid (show res x y = pw x N by rw [HRES.out, if_neg hZ])
    clear hb hf hd hle hr hZ HRES
    go_enter Tryz.func26, Tryz.ntmps26
    go_wp2_with (first | (go_at_call 43; go_must (refine (HT.out _).mono ?_; rintro e w1 ⟨rfl, rfl⟩)) | (go_at_call 44; go_must (refine (HA.out _).mono ?_; rintro e w1 ⟨rfl, rfl⟩)))
    go_loopw [6, 19] (fun pv iv wr => ∃ k c : Nat, k ≤ N ∧ iv = .int .i64 k ∧ pv = .float .f64 c ∧ St (pw x k) c ∧ Below w.heap.size w wr) (fun _ iv _ => N - (intOf iv).toNat)
    case atStart => exact ⟨0, 4607182418800017408, Nat.zero_le _, rfl, rfl, rfl, Below.refl _ _⟩
    case round =>
      obtain ⟨k, c, hk, rfl, rfl, hst, hbel⟩ := hrel
      have HST := Lib.hid hst
      clear hst
      by_cases hlt : k < N
      · rcases step x c k HST.out with ⟨r', hm, hp⟩ | ⟨hm, hp⟩
        · have hop := fun t W => mul_some t W c x r' hm
          have HP := Lib.hid (show St (pw x (k + 1)) r' by rw [hp]; rfl)
          clear hm hp
          go_wp2
          go_roundw
          case rel => exact ⟨k + 1, r', by omega, by go_num, rfl, HP.out, hbel⟩
          case measure => simp [intOf]; omega
        · have hop := fun t W => mul_none t W c x hm
          have HP := Lib.hid (show ∀ W, St (pw x (k + 1)) (nanC c x W) by intro W; rw [hp]; exact nan_nanC c x W)
          clear hm hp
          go_wp2
          go_roundw
          case rel => exact ⟨k + 1, _, by omega, by go_num, rfl, HP.out _, hbel.drew⟩
          case measure => simp [intOf]; omega
      · obtain rfl : k = N := by omega
        go_wp2
        go_ret2
        exact ⟨c, rfl, by rw [HR.out]; exact HST.out, hbel⟩
end Go.Proofs.YtnddldnabldnoaaGreatDoor.pow8
