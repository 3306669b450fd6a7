/- What Deci3 holds before Exact: slices that lie off a block, boxes, bits, bounds. For trees without Exact. -/
import Derived.Test.YtnddldnabldnoaaGreatDoorDeci2
import Derived.Test.YtnddldnabldnoaaGreatDoorFloatMath
import Derived.Laws.FloatArith
import Derived.Laws.Externs
namespace Go.Proofs.YtnddldnabldnoaaGreatDoor.deci
set_option linter.unusedVariables false set_option linter.unusedSimpArgs false
open Go.ChangeShapes Go.WideShapes Go.ChangeAt Go.RowKit Go.Proofs.YtnddldnabldnoaaGreatDoor.Deci

/-- The slice v doesn't lie in block D. -/
def Off (v : Value) (D : Nat) : Prop := ∀ g off n cap, v = .slice (some ⟨g, off, none⟩) n cap → 0 < n → g ≠ D
theorem RdI.off {w : World} {B : Nat} {v : Value} {l : List Nat} (h : RdI w B v l) : Off v w.heap.size := by
  intro g off n cap hv hn
  rcases h with ⟨h, _⟩ | ⟨g', off', cap', h, _, _, hc⟩
  · rw [h] at hv; cases hv
  · rw [h] at hv
    cases hv
    have := World.block_lt_of_cell? w _ (hc 0 hn)
    simp at this
    omega
theorem RdI.off_lt {w : World} {B D : Nat} {v : Value} {l : List Nat} (h : RdI w B v l) (hD : D < B) : Off v D := by
  intro g off n cap hv hn
  rcases h with ⟨h, _⟩ | ⟨g', off', cap', h, _, hB, hc⟩
  · rw [h] at hv; cases hv
  · rw [h] at hv
    cases hv
    omega
theorem RdI.setOff {w : World} {B : Nat} {v : Value} {l : List Nat} (h : RdI w B v l) (b o : Nat) (x : Value) (hb : Off v b) : RdI (w.setCell ⟨b, o, none⟩ x) B v l := by
  rcases h with h | ⟨g, off, cap, hv, hc, hB, hr⟩
  · exact Or.inl h
  · refine Or.inr ⟨g, off, cap, hv, hc, hB, fun i hi => ?_⟩
    have := hr i hi
    have hne : g ≠ b := hb g off _ cap hv (by omega)
    go_cell

/-- A struct in a block of the call's own, both fields written. -/
theorem Box2.put {w : World} {b : Nat} {T : TypeId} {x y : Value} (h : Box2 w b T x y) (x' y' : Value) : Box2 ((w.setCell ⟨b, 0, none⟩ x').setCell ⟨b, 1, none⟩ y') b T x' y' := by
  unfold Box2 at *
  have h1 := heap_setCell_same w b 0 _ T x' h
  have h2 := heap_setCell_same _ b 1 _ T y' h1
  rw [h2]
  rfl

/-- What a finite number's word says: a numerator, a denominator. -/
def magOf (b : Nat) : Nat := if b % 9223372036854775808 / 4503599627370496 = 0 then b % 4503599627370496 else b % 4503599627370496 + 4503599627370496
def expOf (b : Nat) : Int := if b % 9223372036854775808 / 4503599627370496 = 0 then -1074 else (b % 9223372036854775808 / 4503599627370496 : Nat) - 1075
def numOf (b : Nat) : Nat := magOf b * 2 ^ (expOf b).toNat
def denOf (b : Nat) : Nat := 2 ^ (-(expOf b)).toNat

theorem run_bits (x : Nat) (W : World) : (callFunc 30 #[.float .f64 x]).run Tryz.prog W = .ok (.value (.int .u64 x)) W := by
  rw [run_callFunc_extern (e := Extern.MathFloatBits.float64bits) Tryz.func30 (by kernel_rfl) (by kernel_rfl) (by kernel_rfl) (by kernel_rfl)]
  rfl
theorem run_frombits (x : Nat) (W : World) : (callFunc 25 #[.int .u64 x]).run Tryz.prog W = .ok (.value (.float .f64 x)) W := by
  rw [run_callFunc_extern (e := Extern.MathFloatBits.float64frombits) Tryz.func25 (by kernel_rfl) (by kernel_rfl) (by kernel_rfl) (by kernel_rfl)]
  rfl

theorem Fine.any {p : Int} {a b : Nat} (h : Fine [] p a b) (b' : Nat) : Fine [] p a b' := Fine.make h.digs h.tight h.led h.zero (by have := Rep.nil h.rep; subst this; simp [Rep, val])

theorem pt_bd {l : List Nat} {p k : Int} (h0 : -k ≤ p) (h1 : p ≤ k) (hk : 0 ≤ k) : -k ≤ pt l p ∧ pt l p ≤ k := by
  unfold pt
  split <;> omega
theorem dblP_bd {l : List Nat} {p k : Int} (h0 : -k ≤ p) (h1 : p ≤ k) : -(k + 1) ≤ dblP l p ∧ dblP l p ≤ k + 1 := by
  unfold dblP
  split <;> omega
theorem hlfP_bd {l : List Nat} {p k : Int} (h0 : -k ≤ p) (h1 : p ≤ k) : -(k + 1) ≤ hlfP l p ∧ hlfP l p ≤ k + 1 := by
  unfold hlfP
  split <;> omega
theorem trim_bd (l : List Nat) (k : Nat) (h : l.length ≤ k) : (trimD l).length ≤ k := Nat.le_trans (trimD_len l) h

end Go.Proofs.YtnddldnabldnoaaGreatDoor.deci
