/- The contract of dec.Whole: the same answers as the document's Whole. -/
import Derived.Test.YtnddldnabldnoaaGreatDoorFloatMath2
namespace Go.Proofs.YtnddldnabldnoaaGreatDoor.whole
set_option linter.unusedVariables false set_option linter.unusedSimpArgs false
open Go.ChangeShapes Go.WideShapes Go.ChangeAt Go.RowKit Go.Proofs.YtnddldnabldnoaaGreatDoor.deci Go.Proofs.YtnddldnabldnoaaGreatDoor.FloatMath

theorem run_arch (x : Nat) (W : World) : (callFunc 57 #[.float .f64 x]).run Tryz.prog W = ((Extern.MathFloor.toIntegral "math.archTrunc" .zero #[.float .f64 x]).run Tryz.prog W).andThen fun v w' => .ok (.value v) w' :=
  run_callFunc_extern (e := Extern.MathFloor.toIntegral "math.archTrunc" .zero) Tryz.func57 (by kernel_rfl) (by kernel_rfl) (by kernel_rfl) (by kernel_rfl) _ _

theorem run_trunc (b : Nat) (y : Nat) (h : ∀ s t, FloatKind.f64.decode b ≠ .nan s t) (hy : FloatKind.f64.encode ((FloatKind.f64.decode b).integral .zero) = y) (W : World) :
    (callFunc 57 #[.float .f64 b]).run Tryz.prog W = .ok (.value (.float .f64 y)) W := by
  rw [run_arch]
  subst hy
  have key : ∀ X : Sem Value, Extern.MathFloor.toIntegral "math.archTrunc" .zero #[.float .f64 b] = X → X.run Tryz.prog W = .ok (.float .f64 (FloatKind.f64.encode ((FloatKind.f64.decode b).integral .zero))) W := by
    intro X hX
    subst hX
    delta Extern.MathFloor.toIntegral
    conv => lhs; arg 2; whnf
    cases hd : FloatKind.f64.decode b with
    | nan s t => exact absurd hd (h s t)
    | infinity s => rfl
    | number s m e => rfl
  rw [key _ rfl]
  rfl

theorem run_trunc_nan (b : Nat) (W : World) (s : Bool) (t : Nat) (h : FloatKind.f64.decode b = .nan s t) :
    ∃ y W', (callFunc 57 #[.float .f64 b]).run Tryz.prog W = .ok (.value (.float .f64 y)) W' ∧ Below W.heap.size W W' := by
  rw [run_arch]
  have key : ∃ y W', (Extern.MathFloor.toIntegral "math.archTrunc" .zero #[.float .f64 b]).run Tryz.prog W = .ok (.float .f64 y) W' ∧ Below W.heap.size W W' := by
    delta Extern.MathFloor.toIntegral
    refine (?_ : ∃ y W', (_ : Result Value) = .ok (.float .f64 y) W' ∧ Below W.heap.size W W')
    conv => rhs; intro y; rhs; intro W'; lhs; lhs; arg 2; whnf
    rw [h]
    by_cases hq : FloatKind.f64.format.quiet t = t
    · simp only [if_pos hq]
      exact ⟨b, W, rfl, Below.refl _ _⟩
    · simp only [if_neg hq, Sem.run_bind, run_choose_drew]
      split
      · exact ⟨_, W, rfl, Below.refl _ _⟩
      · exact ⟨_, W.drew, rfl, (Below.refl _ _).drew⟩
  obtain ⟨y, W', hrun, hb⟩ := key
  exact ⟨y, W', by rw [hrun]; rfl, hb⟩

theorem Trunc_fin (b : Nat) (hf : b % 9223372036854775808 / 4503599627370496 < 2047) (w : World) :
    Calls Tryz.prog 43 #[.float .f64 b] w fun e w' => e = .returned (.float .f64 (trW b)) ∧ w = w' := by
  have hr := run_trunc b (trW b) (by intro s t h; rw [show FloatKind.f64.decode b = Ieee.double.read b from rfl, read_finite b hf] at h; cases h) (trunc_word b hf)
  clear hf
  go_enter Tryz.func43, Tryz.ntmps43
  go_wp2_with fail
  go_ret
  exact ⟨rfl, rfl⟩

theorem Trunc_inf (b : Nat) (hb : b < 18446744073709551616) (h : b % 9223372036854775808 = 9218868437227405312) (w : World) :
    Calls Tryz.prog 43 #[.float .f64 b] w fun e w' => e = .returned (.float .f64 b) ∧ w = w' := by
  have hr := run_trunc b b (by intro s t h2; rw [show FloatKind.f64.decode b = Ieee.double.read b from rfl, read_inf b h] at h2; cases h2) (inf_word b hb h)
  clear hb h
  go_enter Tryz.func43, Tryz.ntmps43
  go_wp2_with fail
  go_ret
  exact ⟨rfl, rfl⟩

set_option maxRecDepth 100000 in
theorem Trunc_nan (b : Nat) (h : 9218868437227405312 < b % 9223372036854775808) (w : World) :
    Calls Tryz.prog 43 #[.float .f64 b] w fun e w' => ∃ y, e = .returned (.float .f64 y) ∧ Below w.heap.size w w' := by
  obtain ⟨y, W', hr, hb⟩ := run_trunc_nan b w _ _ (read_nan b h)
  clear h
  go_enter Tryz.func43, Tryz.ntmps43
  go_wp2_with fail
  go_ret
  exact ⟨y, rfl, hb⟩

theorem Abs_all (b r : Nat) (hb : b < 18446744073709551616) (hr : r = b % 9223372036854775808) (w : World) :
    Calls Tryz.prog 44 #[.float .f64 b] w fun e w' => e = .returned (.float .f64 r) ∧ w = w' := by
  have hbits := run_bits b
  have hfrom := run_frombits r
  have hand : bits BinOp.andNot IntKind.u64 (b : Int) 9223372036854775808 = (r : Int) := by
    have h1 : (BitVec.ofInt 64 (b : Int)).toNat = b := by
      rw [BitVec.ofInt_natCast, BitVec.toNat_ofNat]; exact Nat.mod_eq_of_lt (by omega)
    have h2 : (~~~ BitVec.ofInt 64 (9223372036854775808 : Int)) = BitVec.ofNat 64 9223372036854775807 := by decide
    show IntKind.u64.wrap ((BitVec.ofInt 64 (b : Int) &&& ~~~ BitVec.ofInt 64 (9223372036854775808 : Int)).toNat : Int) = _
    rw [h2, BitVec.toNat_and, h1, BitVec.toNat_ofNat, show 9223372036854775807 % 2 ^ 64 = 2 ^ 63 - 1 by decide, Nat.and_two_pow_sub_one_eq_mod, IntKind.wrap_u64]
    omega
  have hb1 : (b : Int) < 18446744073709551616 := by omega
  clear hb hr
  go_enter Tryz.func44, Tryz.ntmps44
  go_wp2_with fail
  go_ret
  exact ⟨rfl, rfl⟩
end Go.Proofs.YtnddldnabldnoaaGreatDoor.whole
