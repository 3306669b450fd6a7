/- The contract of the document's Whole (package tedderref02). -/
import Derived.Test.YtplnpplmhjddbaaGreatDoorDeci4
namespace Go.Proofs.YtplnpplmhjddbaaGreatDoor.deci
set_option linter.unusedVariables false set_option linter.unusedSimpArgs false
open Go.ChangeShapes Go.WideShapes Go.ChangeAt Go.RowKit Go.Proofs.YtplnpplmhjddbaaGreatDoor.Deci

theorem decDigits_txt (u : Nat) (h : 0 < u) : Lib.decDigits u = txt (digs u) := by
  induction u using Nat.strongRecOn with
  | _ u ih =>
    rw [digs_pos h, txt_snoc]
    by_cases h1 : u < 10
    · rw [Lib.decDigits_one h1, show u / 10 = 0 by omega, digs_zero, show u % 10 = u by omega]
      rfl
    · rw [Lib.decDigits, dif_neg h1, ih (u / 10) (by omega) (by omega)]

/-- What Whole answers of a number below 2^63 in size. -/
def wholeN (b : Nat) : Int := if 9223372036854775808 ≤ b then -((numOf b / denOf b : Nat) : Int) else ((numOf b / denOf b : Nat) : Int)

theorem denOf_pos (b : Nat) : 0 < denOf b := Nat.two_pow_pos _

theorem fix_digits {l : List Nat} {p : Int} {b : Nat} (h : Fine l p (numOf b) (denOf b)) (hd : denOf b ∣ numOf b) : txt (fixD l p) = Lib.decDigits (numOf b / denOf b) ∧ (l = [] ↔ numOf b / denOf b = 0) := by
  obtain ⟨V, hV⟩ := hd
  have hpos := denOf_pos b
  have e : numOf b / denOf b = V := by rw [hV, Nat.mul_div_cancel_left _ hpos]
  rw [e]
  rw [hV, Nat.mul_comm] at h
  have hv := h.whole_val hpos
  by_cases h0 : l = []
  · have hz : V = 0 := by
      rw [← hv, h0]
      rw [h0] at h
      rw [h.zero rfl]
      rfl
    subst hz
    refine ⟨?_, by simp [h0]⟩
    rw [fixD, if_pos h0, Lib.decDigits_one (by omega)]
    rfl
  · have hl : Led (l ++ List.replicate (p - l.length).toNat 0) := by
      intro d t e
      cases l with
      | nil => exact absurd rfl h0
      | cons c s =>
        simp only [List.cons_append, List.cons.injEq] at e
        rw [← e.1]
        exact h.led c s rfl
    have hdg : Digs (l ++ List.replicate (p - l.length).toNat 0) := h.digs.append (fun d hd => by rw [List.mem_replicate] at hd; omega)
    have hd2 := digs_val _ hdg hl
    rw [hv] at hd2
    have hVp : 0 < V := by
      rcases Nat.eq_zero_or_pos V with hz | hz
      · subst hz
        rw [digs_zero] at hd2
        have := congrArg List.length hd2
        rw [List.length_append] at this
        have h1 := List.length_pos_iff.2 h0
        simp at this
        omega
      · exact hz
    refine ⟨?_, by constructor <;> intro x; exact absurd x h0; omega⟩
    rw [fixD, if_neg h0, decDigits_txt V hVp, hd2]

theorem whole_itoa (b : Nat) : Lib.itoa (wholeN b) = if 9223372036854775808 ≤ b ∧ numOf b / denOf b ≠ 0 then 45 :: Lib.decDigits (numOf b / denOf b) else Lib.decDigits (numOf b / denOf b) := by
  unfold wholeN Lib.itoa
  generalize numOf b / denOf b = V
  by_cases h : 9223372036854775808 ≤ b
  · rw [if_pos h]
    by_cases h0 : V = 0
    · rw [if_neg (by omega), if_neg (fun x => x.2 h0), h0]; rfl
    · rw [if_pos (by omega), if_pos ⟨h, h0⟩, Int.natAbs_neg, Int.natAbs_natCast]
  · rw [if_neg h, if_neg (by omega), if_neg (fun x => h x.1), Int.toNat_natCast]

set_option maxRecDepth 100000 in
set_option maxHeartbeats 400000 in
theorem refWhole_big (b : Nat) (w : World) (hb : b < 18446744073709551616) (hc : 4890909195324358656 ≤ b % 9223372036854775808) :
    Calls Tryz.prog 15 #[.float .f64 b] w fun e w' => e = .returned (.tuple #[.string ⟨#[]⟩, .bool false]) ∧ Below w.heap.size w w' := by
  have hbits := run_bits b
  obtain ⟨r, hr⟩ : ∃ r : Nat, r = b % 9223372036854775808 := ⟨_, rfl⟩
  have e1 : (b : Int) % 9223372036854775808 = (r : Int) := by omega
  have hb1 : (b : Int) < 18446744073709551616 := by omega
  have hr1 : (r : Int) < 9223372036854775808 := by omega
  have hc1 : 4890909195324358656 ≤ (r : Int) := by omega
  clear hb hc hr
  go_enter Tryz.func15, Tryz.ntmps15
  go_wp2_with fail
  go_ret2
  exact ⟨rfl, Below.refl _ _⟩

theorem finite_of {b : Nat} (hc : b % 9223372036854775808 < 4890909195324358656) : b % 9223372036854775808 / 4503599627370496 < 2047 := by omega

set_option maxRecDepth 100000 in
set_option maxHeartbeats 400000 in
theorem refWhole_part (b : Nat) (w : World) (hb : b < 18446744073709551616) (hc : b % 9223372036854775808 < 4890909195324358656) (hd : ¬ denOf b ∣ numOf b) :
    Calls Tryz.prog 15 #[.float .f64 b] w fun e w' => e = .returned (.tuple #[.string ⟨#[]⟩, .bool false]) ∧ Below w.heap.size w w' := by
  have hbits := run_bits b
  have HX := Lib.hid (fun w => Exact_all b w hb (finite_of hc))
  obtain ⟨r, hr⟩ : ∃ r : Nat, r = b % 9223372036854775808 := ⟨_, rfl⟩
  have e1 : (b : Int) % 9223372036854775808 = (r : Int) := by omega
  have hb1 : (b : Int) < 18446744073709551616 := by omega
  have hr1 : (r : Int) < 9223372036854775808 := by omega
  have hc1 : decide (4890909195324358656 ≤ (r : Int)) = false := by simp; omega
  have HD := Lib.hid hd
  clear hb hc hr hd
  go_enter Tryz.func15, Tryz.ntmps15
  go_wp2_with (go_at_call 28; go_must (refine (HX.out _).mono ?_; rintro e w1 ⟨a, c, l, p, rfl, hr, hfine, hl, hp0, hp1, hb1⟩; have hw := (not_congr (hfine.whole (denOf_pos b))).2 HD.out; have hw2 : max p 0 < (l.length : Int) := (by omega); clear hw hfine))
  go_ret2
  exact ⟨rfl, hb1.alloc hb1.size _⟩

set_option maxRecDepth 100000 in
set_option maxHeartbeats 400000 in
theorem refWhole_yes (b : Nat) (w : World) (hb : b < 18446744073709551616) (hc : b % 9223372036854775808 < 4890909195324358656) (hd : denOf b ∣ numOf b) :
    Calls Tryz.prog 15 #[.float .f64 b] w fun e w' => e = .returned (.tuple #[.string ⟨(Lib.itoa (wholeN b)).toArray⟩, .bool true]) ∧ Below w.heap.size w w' := by
  have hbits := run_bits b
  have HX := Lib.hid (fun w => Exact_all b w hb (finite_of hc))
  have hW := whole_itoa b
  generalize Lib.itoa (wholeN b) = S at *
  have HW := Lib.hid hW
  clear hW
  obtain ⟨r, hr⟩ : ∃ r : Nat, r = b % 9223372036854775808 := ⟨_, rfl⟩
  have e1 : (b : Int) % 9223372036854775808 = (r : Int) := by omega
  have hb1 : (b : Int) < 18446744073709551616 := by omega
  have hr1 : (r : Int) < 9223372036854775808 := by omega
  have hc1 : decide (4890909195324358656 ≤ (r : Int)) = false := by simp; omega
  have HD := Lib.hid hd
  clear hb hc hr hd
  by_cases hneg : 9223372036854775808 ≤ b
  · have hn1 : 9223372036854775808 ≤ (b : Int) := by omega
    have HN := Lib.hid hneg
    clear hneg
    by_cases hz : numOf b / denOf b = 0
    · have HZ := Lib.hid hz
      clear hz
      go_enter Tryz.func15, Tryz.ntmps15
      go_wp2_with (first | (go_at_call 28; go_must (refine (HX.out _).mono ?_; rintro e w1 ⟨a, c, l, p, rfl, hr, hfine, hl, hp0, hp1, hb1⟩; have hl0 := (fix_digits hfine HD.out).2.2 HZ.out; subst hl0; obtain rfl := hfine.zero rfl; have HF := Lib.hid hfine; clear hfine; simp only [List.length_nil] at hr ⊢; have hw2 : max (0 : Int) 0 = 0 := (by decide))) | (go_at_call 29; go_must (refine (fixed_whole w.heap.size a c [] 0 _ (hr.alloc _) (by simp) HF.out.digs (by omega) (by omega) (by intro h; exact absurd rfl h) HF.out.zero).mono ?_; rintro e w2 ⟨rfl, hb2⟩; have hk := (Box2.new w1 47 (.slice a 0 c) (.int .i64 0)).below hb2 (by simp); have k0 := hk.c0)))
      go_ret2
      refine ⟨?_, (hb1.alloc hb1.size _).trans (hb2.mono (by have := hb1.size; simp; omega))⟩
      rw [(fix_digits HF.out HD.out).1, HW.out, if_neg (fun x => x.2 HZ.out)]
      rfl
    · have HZ := Lib.hid hz
      clear hz
      go_enter Tryz.func15, Tryz.ntmps15
      go_wp2_with (first | (go_at_call 28; go_must (refine (HX.out _).mono ?_; rintro e w1 ⟨a, c, l, p, rfl, hr, hfine, hl, hp0, hp1, hb1⟩; have HW2 := Lib.hid ((hfine.whole (denOf_pos b)).2 HD.out); have hw2 : decide (max p 0 < (l.length : Int)) = false := (by have := HW2.out; simp; omega); have hl0 := List.length_pos_iff.2 (fun h => HZ.out ((fix_digits hfine HD.out).2.1 h)); have htl : (txt (fixD l p)).length ≤ 100000 := (by have := fixD_len l p (by intro h; have := HW2.out; omega) hfine.zero; unfold txt; rw [List.length_map]; omega); have HF := Lib.hid hfine; clear hfine)) | (go_at_call 29; go_must (refine (fixed_whole w.heap.size a c l p _ (hr.alloc _) (by omega) HF.out.digs (by omega) (by omega) (by intro h; have := HW2.out; omega) HF.out.zero).mono ?_; rintro e w2 ⟨rfl, hb2⟩; have hk := (Box2.new w1 47 (.slice a l.length c) (.int .i64 p)).below hb2 (by simp); have k0 := hk.c0)))
      go_ret2
      refine ⟨?_, (hb1.alloc hb1.size _).trans (hb2.mono (by have := hb1.size; simp; omega))⟩
      rw [HW.out, if_pos ⟨HN.out, HZ.out⟩, ← (fix_digits HF.out HD.out).1]
      rfl
  · have hn1 : decide (9223372036854775808 ≤ (b : Int)) = false := by simp; omega
    have HN := Lib.hid hneg
    clear hneg
    go_enter Tryz.func15, Tryz.ntmps15
    go_wp2_with (first | (go_at_call 28; go_must (refine (HX.out _).mono ?_; rintro e w1 ⟨a, c, l, p, rfl, hr, hfine, hl, hp0, hp1, hb1⟩; have HW2 := Lib.hid ((hfine.whole (denOf_pos b)).2 HD.out); have hw2 : decide (max p 0 < (l.length : Int)) = false := (by have := HW2.out; simp; omega); have HF := Lib.hid hfine; clear hfine)) | (go_at_call 29; go_must (refine (fixed_whole w.heap.size a c l p _ (hr.alloc _) (by omega) HF.out.digs (by omega) (by omega) (by intro h; have := List.length_pos_iff.2 h; have := HW2.out; omega) HF.out.zero).mono ?_; rintro e w2 ⟨rfl, hb2⟩)))
    go_ret2
    refine ⟨?_, (hb1.alloc hb1.size _).trans (hb2.mono (by have := hb1.size; simp; omega))⟩
    rw [(fix_digits HF.out HD.out).1, HW.out, if_neg (fun x => HN.out x.1)]
    rfl
end Go.Proofs.YtplnpplmhjddbaaGreatDoor.deci
