/- The law ValuePowers: the walk. -/
import Derived.Test.YtnddldnabldnoaaGreatDoorVaw8
import Derived.Test.YtnddldnabldnoaaGreatDoorPowC
namespace Go.Proofs.YtnddldnabldnoaaGreatDoor.pow8
set_option linter.unusedVariables false set_option linter.unusedSimpArgs false
open Go.ChangeShapes Go.WideShapes Go.ChangeAt Go.RowKit Go.Proofs.YtnddldnabldnoaaGreatDoor.val8
open Go.Proofs.YtnddldnabldnoaaGreatDoor.deci (denOf run_bits run_frombits)
open Go.Proofs.YtnddldnabldnoaaGreatDoor.FloatMath Go.Proofs.YtnddldnabldnoaaGreatDoor.whole

/-- A number's word; 1 of what is none. -/
def bitsN (c : Nat) : Nat := if Ieee.double.order c c = some .eq then c else 1
theorem bits_any (c : Nat) (w : World) : Calls Tryz.prog 14 #[.float .f64 c] w fun e w' => e = .returned (.int .u64 (bitsN c : Nat)) ∧ w = w' := by
  have hb := run_bits c
  by_cases h : Ieee.double.order c c = some .eq
  · have ho := ord_ne c c h
    have HE := Lib.hid (show bitsN c = c from if_pos h)
    clear h
    go_enter Tryz.func14, Tryz.ntmps14
    go_wp2
    go_ret
    exact ⟨ret_int (by rw [HE.out]), rfl⟩
  · have ho := ord_ne2 c c h
    have HE := Lib.hid (show bitsN c = 1 from if_neg h)
    clear h
    go_enter Tryz.func14, Tryz.ntmps14
    go_wp2
    go_ret
    exact ⟨ret_int (by rw [HE.out]; rfl), rfl⟩
theorem bits_alike (o : Option Nat) (c d : Nat) (h1 : St o c) (h2 : St o d) : bitsN c = bitsN d := by
  unfold St at h1 h2
  cases o with
  | some r => rw [h1, h2]
  | none =>
    unfold bitsN
    rw [nan_order c c h1.1, nan_order d d h2.1, if_neg (by simp), if_neg (by simp)]

set_option maxRecDepth 100000 in
set_option maxHeartbeats 1000000 in
theorem powers (x y : Nat) (w : World) (hb : y < 18446744073709551616) (h : Tabs w) :
    Calls Tryz.prog 6 #[.int .u64 x, .int .u64 y] w fun e w' => e = .returned (.bool true) ∧ Below w.heap.size w w' := by
  have hfx := run_frombits x
  have hfy := run_frombits y
  have HA := Lib.hid (awake_all w h)
  by_cases hn : noPow y
  · have HV := Lib.hid (fun w => vPower_no x y w hb hn)
    have HR := Lib.hid (fun w => rPower_no x y w hb hn)
    clear hb h hn
    go_enter Tryz.func6, Tryz.ntmps6
    go_wp2_with (first | (go_at_call 8; go_must (refine (HA.out).mono ?_; rintro e w1 ⟨rfl, hb1⟩; have hz1 := hb1.size)) | (go_at_call 26; go_must (refine (HV.out _).mono ?_; rintro e w2 ⟨rfl, hb2⟩; have hb12 := hb1.trans (hb2.mono hz1); have hz2 := hb12.size)) | (go_at_call 27; go_must (refine (HR.out _).mono ?_; rintro e w3 ⟨rfl, hb3⟩)) | (go_at_call 14; go_must (refine (bits_any _ _).mono ?_; rintro e w4 ⟨rfl, rfl⟩)))
    go_ret
    exact ⟨rfl, hb12.trans (hb3.mono hz2)⟩
  · unfold noPow at hn
    have HV := Lib.hid (fun w => vPower_good x y w hb (by omega) (Classical.byContradiction fun e => hn (Or.inr (Or.inl e))) (fun e => hn (Or.inr (Or.inr e))))
    have HR := Lib.hid (fun w => rPower_good x y w hb (by omega) (Classical.byContradiction fun e => hn (Or.inr (Or.inl e))) (fun e => hn (Or.inr (Or.inr e))))
    clear hb h hn
    go_enter Tryz.func6, Tryz.ntmps6
    go_wp2_with (first | (go_at_call 8; go_must (refine (HA.out).mono ?_; rintro e w1 ⟨rfl, hb1⟩; have hz1 := hb1.size)) | (go_at_call 26; go_must (refine (HV.out _).mono ?_; rintro e w2 ⟨c, rfl, hc, hb2⟩; have HC := Lib.hid hc; clear hc; have hb12 := hb1.trans (hb2.mono hz1); have hz2 := hb12.size)) | (go_at_call 27; go_must (refine (HR.out _).mono ?_; rintro e w3 ⟨d, rfl, hd, hb3⟩; have hbb : ((bitsN c : Int) == (bitsN d : Int)) = true := (by rw [bits_alike _ c d HC.out hd]; simp); clear hd)) | (go_at_call 14; go_must (refine (bits_any _ _).mono ?_; rintro e w4 ⟨rfl, rfl⟩)))
    go_ret
    exact ⟨by first | rfl | simp_all, hb12.trans (hb3.mono hz2)⟩
end Go.Proofs.YtnddldnabldnoaaGreatDoor.pow8
