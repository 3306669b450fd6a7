/- The contract of dec.Whole: the same answers as the document's Whole. The contract of dec.Whole, a case each; and that the law's two Wholes answer alike. -/
import Derived.Test.YtcjeeoadgoghfaaGreatDoorGFloatMath2
import Derived.Test.YtcjeeoadgoghfaaGreatDoorShelf

namespace Go.Proofs.YtcjeeoadgoghfaaGreatDoor.whole
set_option linter.unusedVariables false set_option linter.unusedSimpArgs false
open Go.ChangeShapes Go.WideShapes Go.ChangeAt Go.RowKit Go.Proofs.YtcjeeoadgoghfaaGreatDoor.deci Go.Proofs.YtcjeeoadgoghfaaGreatDoor.FloatMath

theorem run_arch (x : Nat) (W : World) : (callFunc 103 #[.float .f64 x]).run Tryz.prog W = ((Extern.MathFloor.toIntegral "math.archTrunc" .zero #[.float .f64 x]).run Tryz.prog W).andThen fun v w' => .ok (.value v) w' :=
  run_callFunc_extern (e := Extern.MathFloor.toIntegral "math.archTrunc" .zero) Tryz.func103 (by kernel_rfl) (by kernel_rfl) (by kernel_rfl) (by kernel_rfl) _ _

theorem run_trunc (b : Nat) (y : Nat) (h : ∀ s t, FloatKind.f64.decode b ≠ .nan s t) (hy : FloatKind.f64.encode ((FloatKind.f64.decode b).integral .zero) = y) (W : World) :
    (callFunc 103 #[.float .f64 b]).run Tryz.prog W = .ok (.value (.float .f64 y)) W := by
  rw [run_arch]
  subst hy
  have key : ∀ X : Sem Value, Extern.MathFloor.toIntegral "math.archTrunc" .zero #[.float .f64 b] = X → X.run Tryz.prog W = .ok (.float .f64 (FloatKind.f64.encode ((FloatKind.f64.decode b).integral .zero))) W := by
    intro X hX
    subst hX
    delta Extern.MathFloor.toIntegral
    conv => lhs; arg 2; whnf
    cases hd : FloatKind.f64.decode b with
    | nan s t => exact absurd hd (h s t)
    | infinity s => rfl
    | number s m e => rfl
  rw [key _ rfl]
  rfl

theorem run_trunc_nan (b : Nat) (W : World) (s : Bool) (t : Nat) (h : FloatKind.f64.decode b = .nan s t) :
    ∃ y W', (callFunc 103 #[.float .f64 b]).run Tryz.prog W = .ok (.value (.float .f64 y)) W' ∧ Below W.heap.size W W' := by
  rw [run_arch]
  have key : ∃ y W', (Extern.MathFloor.toIntegral "math.archTrunc" .zero #[.float .f64 b]).run Tryz.prog W = .ok (.float .f64 y) W' ∧ Below W.heap.size W W' := by
    delta Extern.MathFloor.toIntegral
    refine (?_ : ∃ y W', (_ : Result Value) = .ok (.float .f64 y) W' ∧ Below W.heap.size W W')
    conv => rhs; intro y; rhs; intro W'; lhs; lhs; arg 2; whnf
    rw [h]
    by_cases hq : FloatKind.f64.format.quiet t = t
    · simp only [if_pos hq]
      exact ⟨b, W, rfl, Below.refl _ _⟩
    · simp only [if_neg hq, Sem.run_bind, run_choose_drew]
      split
      · exact ⟨_, W, rfl, Below.refl _ _⟩
      · exact ⟨_, W.drew, rfl, (Below.refl _ _).drew⟩
  obtain ⟨y, W', hrun, hb⟩ := key
  exact ⟨y, W', by rw [hrun]; rfl, hb⟩

theorem Trunc_fin (b : Nat) (hf : b % 9223372036854775808 / 4503599627370496 < 2047) (w : World) :
    Calls Tryz.prog 72 #[.float .f64 b] w fun e w' => e = .returned (.float .f64 (trW b)) ∧ w = w' := by
  have hr := run_trunc b (trW b) (by intro s t h; rw [show FloatKind.f64.decode b = Ieee.double.read b from rfl, read_finite b hf] at h; cases h) (trunc_word b hf)
  clear hf
  go_enter Tryz.func72, Tryz.ntmps72
  go_wp2_with fail
  go_ret
  exact ⟨rfl, rfl⟩

theorem Trunc_inf (b : Nat) (hb : b < 18446744073709551616) (h : b % 9223372036854775808 = 9218868437227405312) (w : World) :
    Calls Tryz.prog 72 #[.float .f64 b] w fun e w' => e = .returned (.float .f64 b) ∧ w = w' := by
  have hr := run_trunc b b (by intro s t h2; rw [show FloatKind.f64.decode b = Ieee.double.read b from rfl, read_inf b h] at h2; cases h2) (inf_word b hb h)
  clear hb h
  go_enter Tryz.func72, Tryz.ntmps72
  go_wp2_with fail
  go_ret
  exact ⟨rfl, rfl⟩

set_option maxRecDepth 100000 in
theorem Trunc_nan (b : Nat) (h : 9218868437227405312 < b % 9223372036854775808) (w : World) :
    Calls Tryz.prog 72 #[.float .f64 b] w fun e w' => ∃ y, e = .returned (.float .f64 y) ∧ Below w.heap.size w w' := by
  obtain ⟨y, W', hr, hb⟩ := run_trunc_nan b w _ _ (read_nan b h)
  clear h
  go_enter Tryz.func72, Tryz.ntmps72
  go_wp2_with fail
  go_ret
  exact ⟨y, rfl, hb⟩

theorem Abs_all (b r : Nat) (hb : b < 18446744073709551616) (hr : r = b % 9223372036854775808) (w : World) :
    Calls Tryz.prog 73 #[.float .f64 b] w fun e w' => e = .returned (.float .f64 r) ∧ w = w' := by
  have hbits := run_bits b
  have hfrom := run_frombits r
  have hand : bits BinOp.andNot IntKind.u64 (b : Int) 9223372036854775808 = (r : Int) := by
    have h1 : (BitVec.ofInt 64 (b : Int)).toNat = b := by
      rw [BitVec.ofInt_natCast, BitVec.toNat_ofNat]; exact Nat.mod_eq_of_lt (by omega)
    have h2 : (~~~ BitVec.ofInt 64 (9223372036854775808 : Int)) = BitVec.ofNat 64 9223372036854775807 := by decide
    show IntKind.u64.wrap ((BitVec.ofInt 64 (b : Int) &&& ~~~ BitVec.ofInt 64 (9223372036854775808 : Int)).toNat : Int) = _
    rw [h2, BitVec.toNat_and, h1, BitVec.toNat_ofNat, show 9223372036854775807 % 2 ^ 64 = 2 ^ 63 - 1 by decide, Nat.and_two_pow_sub_one_eq_mod, IntKind.wrap_u64]
    omega
  have hb1 : (b : Int) < 18446744073709551616 := by omega
  clear hb hr
  go_enter Tryz.func73, Tryz.ntmps73
  go_wp2_with fail
  go_ret
  exact ⟨rfl, rfl⟩
end Go.Proofs.YtcjeeoadgoghfaaGreatDoor.whole

namespace Go.Proofs.YtcjeeoadgoghfaaGreatDoor.whole
set_option linter.unusedVariables false set_option linter.unusedSimpArgs false
open Go.ChangeShapes Go.WideShapes Go.ChangeAt Go.RowKit Go.Proofs.YtcjeeoadgoghfaaGreatDoor.deci Go.Proofs.YtcjeeoadgoghfaaGreatDoor.FloatMath

/-- New blocks and draws touch nothing that was there. -/
theorem below_more (w : World) (k : Nat) (os : Array Obj) : Below w.heap.size w (Sort.grow (w.drewN k) os) := by
  refine ⟨rfl, rfl, rfl, ?_, fun i hi => ?_⟩
  · show w.heap.size ≤ (w.heap ++ os).size
    rw [Array.size_append]; omega
  · show (w.heap ++ os)[i]? = _
    exact Array.getElem?_append_left hi

theorem whole_lt (b : Nat) (hc : b % 9223372036854775808 < 4890909195324358656) : numOf b / denOf b < 9223372036854775808 := by
  have hm := mag_lt b
  have he : expOf b ≤ 10 := by unfold expOf; split <;> omega
  refine Nat.lt_of_le_of_lt (Nat.div_le_self _ _) ?_
  unfold deci.numOf
  have h1 : 2 ^ (expOf b).toNat ≤ 2 ^ 10 := Nat.pow_le_pow_right (by omega) (by omega)
  have h2 : magOf b * 2 ^ (expOf b).toNat ≤ magOf b * 2 ^ 10 := Nat.mul_le_mul_left _ h1
  rw [pow53] at hm
  omega

theorem wholeN_bd (b : Nat) (hc : b % 9223372036854775808 < 4890909195324358656) : -9223372036854775808 ≤ wholeN b ∧ wholeN b ≤ 9223372036854775807 := by
  have := whole_lt b hc
  unfold wholeN
  generalize numOf b / denOf b = V at *
  split <;> omega

/-- 'int64(x)'. -/
theorem toInt_word (b : Nat) (hb : b < 18446744073709551616) (hc : b % 9223372036854775808 < 4890909195324358656) : floatToIntVal .f64 b .i64 = some (wholeN b) := by
  have hbd := wholeN_bd b hc
  have e : (FloatKind.f64.decode b).toInt .zero = some (wholeN b) := by
    rw [show FloatKind.f64.decode b = Ieee.double.read b from rfl, read_finite b (finite_of hc)]
    unfold Ieee.Datum.toInt Ieee.Datum.integral
    simp only
    rw [zero_cut, Nat.shiftLeft_eq]
    unfold Ieee.signed wholeN
    simp only [Nat.shiftLeft_zero]
    have e2 : magOf b * 2 ^ (expOf b).toNat / 2 ^ (-expOf b).toNat = numOf b / denOf b := rfl
    rw [e2]
    by_cases hn : 9223372036854775808 ≤ b
    · rw [if_pos hn, if_pos (by simp; omega)]
    · rw [if_neg hn, if_neg (by simp; omega)]
  unfold floatToIntVal
  rw [e]
  have h1 : IntKind.i64.min = -9223372036854775808 := rfl
  have h2 : IntKind.i64.max = 9223372036854775807 := rfl
  simp only [h1, h2]
  rw [if_pos hbd]

theorem ord_ne (a b : Nat) (h : Ieee.double.order a b = some .eq) : (FloatKind.f64.format.order a b != some .eq) = false := by rw [show FloatKind.f64.format.order a b = some .eq from h]; rfl
theorem ord_ne2 (a b : Nat) (h : Ieee.double.order a b ≠ some .eq) : (FloatKind.f64.format.order a b != some .eq) = true := by
  have h2 : ¬ (FloatKind.f64.format.order a b = some .eq) := h
  simpa [bne] using h2

set_option maxRecDepth 100000 in
set_option maxHeartbeats 400000 in
theorem Whole_part (b : Nat) (w : World) (hb : b < 18446744073709551616) (hf : b % 9223372036854775808 / 4503599627370496 < 2047) (hd : ¬ denOf b ∣ numOf b) :
    Calls Tryz.prog 42 #[.float .f64 b] w fun e w' => e = .returned (.tuple #[.string ⟨#[]⟩, .bool false]) ∧ Below w.heap.size w w' := by
  have ho := ord_ne2 (trW b) b (fun h => hd ((trunc_order b hb hf).1 h))
  have HT := Lib.hid (fun w => Trunc_fin b hf w)
  clear hb hf hd
  go_enter Tryz.func42, Tryz.ntmps42
  go_wp2_with (go_at_call 72; go_must (refine (HT.out _).mono ?_; rintro e w1 ⟨rfl, rfl⟩))
  go_ret2
  exact ⟨rfl, Below.refl _ _⟩

set_option maxRecDepth 100000 in
set_option maxHeartbeats 400000 in
theorem Whole_nan (b : Nat) (w : World) (hb : b < 18446744073709551616) (h : 9218868437227405312 < b % 9223372036854775808) :
    Calls Tryz.prog 42 #[.float .f64 b] w fun e w' => e = .returned (.tuple #[.string ⟨#[]⟩, .bool false]) ∧ Below w.heap.size w w' := by
  have HO := Lib.hid (fun a => ord_ne2 a b (by rw [nan_order a b h]; simp))
  have HT := Lib.hid (fun w => Trunc_nan b h w)
  clear hb h
  go_enter Tryz.func42, Tryz.ntmps42
  go_wp2_with (go_at_call 72; go_must (refine (HT.out _).mono ?_; rintro e w1 ⟨y, rfl, hb1⟩; have ho := HO.out y))
  go_ret2
  exact ⟨rfl, hb1⟩

set_option maxRecDepth 100000 in
set_option maxHeartbeats 400000 in
theorem Whole_big (b : Nat) (w : World) (hb : b < 18446744073709551616) (hf : b % 9223372036854775808 / 4503599627370496 < 2047) (hc : 4890909195324358656 ≤ b % 9223372036854775808) :
    Calls Tryz.prog 42 #[.float .f64 b] w fun e w' => e = .returned (.tuple #[.string ⟨#[]⟩, .bool false]) ∧ Below w.heap.size w w' := by
  by_cases hd : denOf b ∣ numOf b
  · have ho := ord_ne (trW b) b ((trunc_order b hb hf).2 hd)
    have HT := Lib.hid (fun w => Trunc_fin b hf w)
    obtain ⟨r, hr⟩ : ∃ r, r = b % 9223372036854775808 := ⟨_, rfl⟩
    have HA := Lib.hid (fun w => Abs_all b r hb hr w)
    have hg : (FloatKind.f64.format.order r 4890909195324358656 == some .gt || FloatKind.f64.format.order r 4890909195324358656 == some .eq) = true := by
      have := order_big r (by omega) (by omega)
      rw [decide_eq_true (by omega)] at this
      exact this
    clear hb hf hd hr hc
    go_enter Tryz.func42, Tryz.ntmps42
    go_wp2_with (first | (go_at_call 72; go_must (refine (HT.out _).mono ?_; rintro e w1 ⟨rfl, rfl⟩)) | (go_at_call 73; go_must (refine (HA.out _).mono ?_; rintro e w1 ⟨rfl, rfl⟩)))
    go_ret2
    exact ⟨rfl, Below.refl _ _⟩
  · exact Whole_part b w hb hf hd

set_option maxRecDepth 100000 in
set_option maxHeartbeats 400000 in
theorem Whole_inf (b : Nat) (w : World) (hb : b < 18446744073709551616) (h : b % 9223372036854775808 = 9218868437227405312) :
    Calls Tryz.prog 42 #[.float .f64 b] w fun e w' => e = .returned (.tuple #[.string ⟨#[]⟩, .bool false]) ∧ Below w.heap.size w w' := by
  have ho := ord_ne b b (inf_order b h)
  have HT := Lib.hid (fun w => Trunc_inf b hb h w)
  have HA := Lib.hid (fun w => Abs_all b 9218868437227405312 hb h.symm w)
  have hg : (FloatKind.f64.format.order 9218868437227405312 4890909195324358656 == some .gt || FloatKind.f64.format.order 9218868437227405312 4890909195324358656 == some .eq) = true := inf_big
  clear hb h
  go_enter Tryz.func42, Tryz.ntmps42
  go_wp2_with (first | (go_at_call 72; go_must (refine (HT.out _).mono ?_; rintro e w1 ⟨rfl, rfl⟩)) | (go_at_call 73; go_must (refine (HA.out _).mono ?_; rintro e w1 ⟨rfl, rfl⟩)))
  go_ret2
  exact ⟨rfl, Below.refl _ _⟩

set_option maxRecDepth 100000 in
set_option maxHeartbeats 400000 in
theorem Whole_yes (b : Nat) (w : World) (hb : b < 18446744073709551616) (hc : b % 9223372036854775808 < 4890909195324358656) (hd : denOf b ∣ numOf b) (htab : Lib.TabIs Tryz.prog w "internal/strconv.uint64pow10" .u64 Lib.pow10Tab) :
    Calls Tryz.prog 42 #[.float .f64 b] w fun e w' => e = .returned (.tuple #[.string ⟨(Lib.itoa (wholeN b)).toArray⟩, .bool true]) ∧ Below w.heap.size w w' := by
  have ho := ord_ne (trW b) b ((trunc_order b hb (finite_of hc)).2 hd)
  have HT := Lib.hid (fun w => Trunc_fin b (finite_of hc) w)
  obtain ⟨r, hr⟩ : ∃ r, r = b % 9223372036854775808 := ⟨_, rfl⟩
  have HA := Lib.hid (fun w => Abs_all b r hb hr w)
  have hg : (FloatKind.f64.format.order r 4890909195324358656 == some .gt || FloatKind.f64.format.order r 4890909195324358656 == some .eq) = false := by
    have := order_big r (by omega) (by omega)
    rw [decide_eq_false (by omega)] at this
    exact this
  have hcv := fun W => run_convert_float_int (P := Tryz.prog) W 23 2 .f64 .i64 b _ (by kernel_rfl) (by kernel_rfl) (toInt_word b hb hc)
  have HF := Lib.hid (Tryz.strconv_FormatInt_10 (wholeN b) (wholeN_bd b hc).1 (wholeN_bd b hc).2 w htab)
  generalize wholeN b = N at *
  clear hb hc hd hr htab
  go_enter Tryz.func42, Tryz.ntmps42
  go_wp2_with (first | (go_at_call 72; go_must (refine (HT.out _).mono ?_; rintro e w1 ⟨rfl, rfl⟩)) | (go_at_call 73; go_must (refine (HA.out _).mono ?_; rintro e w1 ⟨rfl, rfl⟩)) | (go_at_call 74; go_must (refine (HF.out).mono ?_; rintro e w1 ⟨rfl, k, os, rfl⟩)))
  go_ret2
  exact ⟨rfl, below_more _ _ _⟩
end Go.Proofs.YtcjeeoadgoghfaaGreatDoor.whole
