/- The document's atLeast, exactly: what it answers of digits against 2^52 and 2^53. The document's test of digits against 2^52 and 2^53 is the fraction's. The document's nearest, exactly: it is strconv's rounding of a decimal of which nothing was cut. Towards the document's Value, exactly: bounds, and the words that it puts together. -/
import Derived.Test.YtcjeeoadgoghfaaGreatDoorGFloatMath2
import Derived.Test.YtcjeeoadgoghfaaGreatDoorGTabR
import Derived.Test.YtcjeeoadgoghfaaGreatDoorGDecB
import Derived.Deep.LoopGhost
import Derived.Deep.Cut
import Derived.Deep.DeepCutAuto
import Derived.Test.YtcjeeoadgoghfaaGreatDoorGDecM
import Derived.IntWalk

namespace Go.Proofs.YtcjeeoadgoghfaaGreatDoor.deci
set_option linter.unusedVariables false set_option linter.unusedSimpArgs false
open Go.ChangeShapes Go.WideShapes Go.ChangeAt Go.RowKit Go.Proofs.YtcjeeoadgoghfaaGreatDoor.Deci
open Go.Proofs.YtcjeeoadgoghfaaGreatDoor.deca (less_drop)

/-- Is the number with these digits c at least, whose point stands behind 16? -/
def geD (l : List Nat) (p : Int) (c : List Nat) : Bool := !l.isEmpty && (decide (16 < p) || (p == 16 && !less l c))
def ALX (w : World) (l : List Nat) (p : Int) (c : List Nat) (en : Ending) (w' : World) : Prop := en = .returned (.bool (geD l p c)) ∧ Below w.heap.size w w'
theorem less_nil (l : List Nat) : less l [] = false := by cases l <;> rfl
theorem less_out {c : List Nat} {k : Nat} (h : k < c.length) : less [] (c.drop k) = true := by
  rw [List.drop_eq_getElem_cons h]; rfl
theorem tight_next {c : List Nat} (ht : Tight c) {k : Nat} (h : k < c.length) (h0 : c[k] = 0) : k + 1 < c.length := by
  refine Decidable.byContradiction fun hn => ?_
  have e : c = c.take k ++ [c[k]] := by
    have h1 : c.drop (k + 1) = [] := List.drop_eq_nil_of_le (by omega)
    have h2 := (List.take_append_drop k c).symm
    rw [List.drop_eq_getElem_cons h, h1] at h2
    exact h2
  exact ht _ _ e h0
theorem geD_nil (p : Int) (c : List Nat) : geD [] p c = false := rfl
theorem geD_at {l : List Nat} (c : List Nat) (h : l ≠ []) : geD l 16 c = !less l c := by
  unfold geD
  cases l with
  | nil => exact absurd rfl h
  | cons d t => simp
theorem geD_up {l : List Nat} {p : Int} (c : List Nat) (h : l ≠ []) (hp : 16 < p) : geD l p c = true := by
  unfold geD
  cases l with
  | nil => exact absurd rfl h
  | cons d t => simp [hp]
theorem geD_dn {l : List Nat} {p : Int} (c : List Nat) (hp : p < 16) : geD l p c = false := by
  unfold geD
  rw [decide_eq_false (by omega), show (p == 16) = false by rw [beq_eq_false_iff_ne]; omega]
  simp

set_option maxRecDepth 100000 in
set_option maxHeartbeats 1000000 in
theorem atLeast_ex (p : Int) (v : Value) (l : List Nat) (n : Nat) (w : World) (hr : RdI w 0 v l) (hl : l.length ≤ 90000) (hp0 : -1000000 ≤ p) (hp1 : p ≤ 1000000) (hn : n < 18446744073709551616) (ht : trimD (digs n) = digs n) (h16 : (digs n).length = 16) (htg : Tight (digs n)) (N : Int) (hN : N = (n : Nat)) :
    Calls Tryz.prog 89 #[.agg #[v, .int .i64 p], .int .u64 N] w (ALX w l p (digs n)) := by
  subst hN
  have HR := Lib.hid hr
  obtain ⟨a, cap, rfl⟩ := hr.forms
  obtain ⟨dn, hdn⟩ : ∃ dn, dn = digs n := ⟨_, rfl⟩
  rw [← hdn] at htg
  have HTG := Lib.hid htg
  have HDG := Lib.hid (fun (W : World) => (digits_all n W hn).mono (R' := fun e w' => ∃ a2 c2, e = .returned (.agg #[.slice a2 16 c2, .int .i64 16]) ∧ RdI w' W.heap.size (.slice a2 16 c2) dn ∧ Below W.heap.size W w') (fun e w' h => by
    obtain ⟨v', he, hr', hb⟩ := h
    rw [ht, ← hdn] at hr' he
    obtain ⟨a2, c2, rfl⟩ := hr'.forms
    have h16d : dn.length = 16 := by rw [hdn]; exact h16
    have hq : pt dn (dn.length : Nat) = 16 := by
      unfold pt
      rw [if_neg (by intro e; rw [e] at h16d; simp at h16d), h16d]
      rfl
    rw [hq, h16d] at he
    rw [h16d] at hr'
    exact ⟨a2, c2, he, hr', hb⟩))
  have h16' : dn.length = 16 := by rw [hdn]; exact h16
  rw [← hdn]
  clear hr hdn ht h16 hn htg
  go_enter Tryz.func89, Tryz.ntmps89
  go_upto_region 2 with (go_at_call 122; go_must (refine (HDG.out _).mono ?_; rintro e w1 ⟨a2, c2, rfl, hr1, hb1⟩; have HR1 := Lib.hid hr1; have hz1 := hb1.size; have HB1 := Lib.hid hb1; clear hr1 hb1))
  have HX := Lib.hid (show Box2 (w1.alloc (.cells #[.slice a2 16 c2, .int .i64 16] 85)) w.heap.size 85 (.slice a l.length cap) (.int .i64 p) from ((Box2.new w _ _ _).below HB1.out (by simp)).old _)
  have HY := Lib.hid (Box2.new w1 85 (.slice a2 16 c2) (.int .i64 16))
  have HBW := Lib.hid (show Below w.heap.size w (w1.alloc (.cells #[.slice a2 16 c2, .int .i64 16] 85)) from (((Below.refl _ w).alloc (Nat.le_refl _) _).trans (HB1.out.mono (by simp))).alloc (by simp at hz1; omega) _)
  have HL := Lib.hid (show RdI (w1.alloc (.cells #[.slice a2 16 c2, .int .i64 16] 85)) 0 (.slice a l.length cap) l from HR.out.below HBW.out)
  have HL2 := Lib.hid (show RdI (w1.alloc (.cells #[.slice a2 16 c2, .int .i64 16] 85)) 0 (.slice a2 16 c2) dn from (HR1.out.alloc _).mono (Nat.zero_le _))
  generalize (w1.alloc (.cells #[.slice a2 16 c2, .int .i64 16] 85)) = w2 at HX HY HBW HL HL2 ⊢
  have x0 := HX.out.c0
  have x1 := HX.out.c1
  have y0 := HY.out.c0
  have y1 := HY.out.c1
  by_cases hl0 : l = []
  · subst hl0
    simp only [List.length_nil] at *
    go_wp2
    go_ret
    exact ⟨rfl, HBW.out⟩
  · have hpos : 0 < l.length := List.length_pos_iff.2 hl0
    have hne : ((l.length : Int) == 0) = false := by rw [beq_eq_false_iff_ne]; omega
    have HL0 := Lib.hid hl0
    clear hl0
    by_cases hp : p = 16
    · subst hp
      obtain ⟨g, off, cap1, hv, hcap, _, hc⟩ := HL.out.addr hpos
      obtain ⟨g2, off2, cap2, hv2, hcap2, _, hc2⟩ := HL2.out.addr (by omega)
      rw [h16'] at hv2 hcap2
      injection hv with e1 e2 e3
      injection hv2 with e4 e5 e6
      subst e1 e3 e4 e6
      have HC := Lib.hid hc
      have HC2 := Lib.hid hc2
      clear hc hc2
      go_wp2
      go_loopw [6] (fun iv wr => ∃ k : Nat, iv = .int .i64 (k : Int) ∧ k ≤ l.length + 16 ∧ Hid (less l dn = less (l.drop k) (dn.drop k)) ∧ wr = w2) (fun iv _ => l.length + 16 - (intOf iv).toNat)
      case atStart => exact ⟨0, rfl, by omega, Lib.hid (by rw [List.drop_zero, List.drop_zero]), rfl⟩
      case round =>
        obtain ⟨k, rfl, hk, HLS, rfl⟩ := hrel
        have h1 : (0 : Int) ≤ (k : Int) := by omega
        by_cases hk1 : k < l.length
        · have h2 : (k : Int) < (l.length : Int) := by omega
          obtain ⟨d, hd⟩ : ∃ d : Nat, d = l[k] := ⟨_, rfl⟩
          have q1 : wr.cell? ⟨g, off + k, none⟩ = some (.int .i64 (d : Int)) := by rw [hd]; exact HC.out k hk1
          by_cases hk2 : k < 16
          · have h3 : (k : Int) < 16 := by omega
            obtain ⟨d2, hd2⟩ : ∃ d2 : Nat, d2 = dn[k]'(by omega) := ⟨_, rfl⟩
            have q2 : wr.cell? ⟨g2, off2 + k, none⟩ = some (.int .i64 (d2 : Int)) := by rw [hd2]; exact HC2.out k (by omega)
            have HD := Lib.hid (show less (l.drop k) (dn.drop k) = if d = d2 then less (l.drop (k + 1)) (dn.drop (k + 1)) else decide (d < d2) by rw [hd, hd2]; exact less_drop hk1 (by omega))
            clear hd hd2
            by_cases hq : d = d2
            · have HN := Lib.hid (show less l dn = less (l.drop (k + 1)) (dn.drop (k + 1)) by rw [HLS.out, HD.out, if_pos hq])
              have hq' : (d : Int) = (d2 : Int) := by omega
              go_wp2
              exact ⟨⟨k + 1, by go_num, by omega, HN, by simp⟩, by simp [intOf]; omega⟩
            · have HN := Lib.hid (show less l dn = decide (d < d2) by rw [HLS.out, HD.out, if_neg hq])
              have hq' : ¬ (d : Int) = (d2 : Int) := by omega
              by_cases hlt : d < d2
              · have HG := Lib.hid (show geD l 16 dn = false by rw [geD_at _ HL0.out, HN.out, decide_eq_true hlt]; rfl)
                have hlt' : ¬ (d2 : Int) < (d : Int) := by omega
                have hlt2 : decide ((d2 : Int) < (d : Int)) = false := decide_eq_false hlt'
                have hlt3 : decide (d2 < d) = false := decide_eq_false (by omega)
                go_wp2
                go_ret
                exact ⟨by rw [HG.out]; simp; try omega, HBW.out⟩
              · have HG := Lib.hid (show geD l 16 dn = true by rw [geD_at _ HL0.out, HN.out, decide_eq_false hlt]; rfl)
                have hlt' : (d2 : Int) < (d : Int) := by omega
                go_wp2
                go_ret
                exact ⟨by rw [HG.out]; simp; try omega, HBW.out⟩
          · have h3 : ¬ (k : Int) < 16 := by omega
            have HZ := Lib.hid (show less l dn = false by rw [HLS.out, List.drop_eq_nil_of_le (show dn.length ≤ k by omega), less_nil])
            have HG := Lib.hid (show geD l 16 dn = true by rw [geD_at _ HL0.out, HZ.out]; rfl)
            clear hd
            by_cases hq : d = 0
            · have HN := Lib.hid (show less l dn = less (l.drop (k + 1)) (dn.drop (k + 1)) by rw [HZ.out, List.drop_eq_nil_of_le (show dn.length ≤ k + 1 by omega), less_nil])
              have hq' : (d : Int) = 0 := by omega
              go_wp2
              exact ⟨⟨k + 1, by go_num, by omega, HN, by simp⟩, by simp [intOf]; omega⟩
            · have hq' : ¬ (d : Int) = 0 := by omega
              have hq2 : (0 : Int) < (d : Int) := by omega
              go_wp2
              go_ret
              exact ⟨by rw [HG.out]; simp; try omega, HBW.out⟩
        · have h2 : ¬ (k : Int) < (l.length : Int) := by omega
          by_cases hk2 : k < 16
          · have h3 : (k : Int) < 16 := by omega
            obtain ⟨d2, hd2⟩ : ∃ d2 : Nat, d2 = dn[k]'(by omega) := ⟨_, rfl⟩
            have q2 : wr.cell? ⟨g2, off2 + k, none⟩ = some (.int .i64 (d2 : Int)) := by rw [hd2]; exact HC2.out k (by omega)
            have HO := Lib.hid (show less l dn = true by rw [HLS.out, List.drop_eq_nil_of_le (show l.length ≤ k by omega)]; exact less_out (by omega))
            have HG := Lib.hid (show geD l 16 dn = false by rw [geD_at _ HL0.out, HO.out]; rfl)
            have HNX := Lib.hid (fun h0 : d2 = 0 => tight_next HTG.out (show k < dn.length by omega) (by rw [← hd2]; exact h0))
            clear hd2
            by_cases hq : d2 = 0
            · have HN := Lib.hid (show less l dn = less (l.drop (k + 1)) (dn.drop (k + 1)) by rw [HO.out, List.drop_eq_nil_of_le (show l.length ≤ k + 1 by omega)]; exact (less_out (HNX.out hq)).symm)
              have hq' : (d2 : Int) = 0 := by omega
              go_wp2
              exact ⟨⟨k + 1, by go_num, by omega, HN, by simp⟩, by simp [intOf]; omega⟩
            · have hq' : ¬ (0 : Int) = (d2 : Int) := by omega
              have hq2 : ¬ (d2 : Int) < 0 := by omega
              go_wp2
              go_ret
              exact ⟨by rw [HG.out]; simp; try omega, HBW.out⟩
          · have h3 : ¬ (k : Int) < 16 := by omega
            have HG := Lib.hid (show geD l 16 dn = true by rw [geD_at _ HL0.out, HLS.out, List.drop_eq_nil_of_le (show dn.length ≤ k by omega), less_nil]; rfl)
            go_wp2
            go_ret
            exact ⟨by rw [HG.out]; rfl, HBW.out⟩
    · by_cases hgt : 16 < p
      · have HG := Lib.hid (geD_up dn HL0.out hgt)
        go_wp2
        go_ret
        exact ⟨by rw [HG.out]; simp; try omega, HBW.out⟩
      · have hgt' : ¬ 16 < p := hgt
        have HG := Lib.hid (geD_dn (l := l) (p := p) dn (by omega))
        go_wp2
        go_ret
        exact ⟨by rw [HG.out]; simp; try omega, HBW.out⟩
end Go.Proofs.YtcjeeoadgoghfaaGreatDoor.deci

namespace Go.Proofs.YtcjeeoadgoghfaaGreatDoor.deci
set_option linter.unusedVariables false set_option linter.unusedSimpArgs false
open Go.Proofs.YtcjeeoadgoghfaaGreatDoor.Deci Go.Proofs.YtcjeeoadgoghfaaGreatDoor.Usc

theorem ge_fine {l : List Nat} {p : Int} {a b n : Nat} (hb : 0 < b) (h : Fine l p a b) (h16 : (digs n).length = 16) (ht : Tight (digs n)) (hn1 : 10 ^ 15 ≤ n) (hn2 : n < 10 ^ 16) : geD l p (digs n) = decide (n * b ≤ a) := by
  have r := h.rep
  unfold Rep at r
  have hv := val_lt l h.digs
  by_cases hl : l = []
  · subst hl
    rw [geD_nil]
    have ha : a = 0 := h.rep.nil
    rw [ha]
    have : 0 < n * b := Nat.mul_pos (Nat.lt_of_lt_of_le (by decide) hn1) hb
    exact (decide_eq_false (by omega)).symm
  · have hlow : 10 ^ (l.length - 1) ≤ val l := by
      cases l with
      | nil => exact absurd rfl hl
      | cons d t =>
        have h1 := val_ge d t (by have := h.led d t rfl; omega)
        simpa using h1
    have hlen := List.length_pos_iff.2 hl
    have p0 : ∀ k, 0 < 10 ^ k := fun k => Nat.pow_pos (by decide)
    by_cases hp : 16 < p
    · rw [geD_up _ hl hp]
      refine (decide_eq_true ?_).symm
      -- a * 10^x = val l * 10^y * b, x = (len - p)+, y = (p - len)+
      have h2 : 10 ^ 16 * 10 ^ (l.length - p).toNat ≤ val l * 10 ^ (p - l.length).toNat := by
        refine Nat.le_trans ?_ (Nat.mul_le_mul_right _ hlow)
        rw [← Nat.pow_add, ← Nat.pow_add]
        exact Nat.pow_le_pow_right (by decide) (by omega)
      have h3 := Nat.mul_le_mul_right b h2
      rw [r] at h3
      have h4 : 10 ^ 16 * b ≤ a := by
        apply Nat.le_of_mul_le_mul_right _ (p0 (l.length - p).toNat)
        refine Nat.le_trans (Nat.le_of_eq ?_) h3
        ac_rfl
      exact Nat.le_trans (Nat.mul_le_mul_right _ (Nat.le_of_lt hn2)) h4
    · by_cases hp2 : p < 16
      · rw [geD_dn _ hp2]
        refine (decide_eq_false ?_).symm
        intro hle
        have h2 : val l * 10 ^ (p - l.length).toNat < 10 ^ 15 * 10 ^ (l.length - p).toNat := by
          refine Nat.lt_of_lt_of_le (Nat.mul_lt_mul_of_pos_right hv (p0 _)) ?_
          rw [← Nat.pow_add, ← Nat.pow_add]
          exact Nat.pow_le_pow_right (by decide) (by omega)
        have h3 := Nat.mul_lt_mul_of_pos_right h2 hb
        rw [r] at h3
        have h4 : a < 10 ^ 15 * b := by
          apply Nat.lt_of_mul_lt_mul_right (a := 10 ^ (l.length - p).toNat)
          refine Nat.lt_of_lt_of_le h3 (Nat.le_of_eq ?_)
          ac_rfl
        have h5 := Nat.mul_le_mul_right b hn1
        omega
      · obtain rfl : p = 16 := by omega
        rw [geD_at _ hl]
        have hi := less_iff (digs n) l h.digs (digs_all n).1 ht
        rw [h16, (digs_all n).2.2] at hi
        have hiff : n * b ≤ a ↔ ¬ (val l * 10 ^ 16 < n * 10 ^ l.length) := by
          have e1 : val l * 10 ^ 16 * b = a * 10 ^ l.length := by
            by_cases hc : l.length ≤ 16
            · rw [show ((l.length : Int) - 16).toNat = 0 by omega, Nat.pow_zero, Nat.mul_one] at r
              have e2 : 10 ^ 16 = 10 ^ ((16 : Int) - (l.length : Int)).toNat * 10 ^ l.length := by rw [← Nat.pow_add]; congr 1; omega
              rw [e2, ← r]; ac_rfl
            · rw [show ((16 : Int) - (l.length : Int)).toNat = 0 by omega, Nat.pow_zero, Nat.mul_one] at r
              have e2 : 10 ^ l.length = 10 ^ ((l.length : Int) - 16).toNat * 10 ^ 16 := by rw [← Nat.pow_add]; congr 1; omega
              calc val l * 10 ^ 16 * b = val l * b * 10 ^ 16 := by ac_rfl
                _ = a * 10 ^ ((l.length : Int) - 16).toNat * 10 ^ 16 := by rw [r]
                _ = a * 10 ^ l.length := by rw [e2]; ac_rfl
          rw [Nat.not_lt]
          constructor
          · intro hle
            have h2 := Nat.mul_le_mul_right (10 ^ l.length) hle
            rw [← e1] at h2
            apply Nat.le_of_mul_le_mul_right _ hb
            refine Nat.le_trans (Nat.le_of_eq ?_) h2
            ac_rfl
          · intro hle
            have h2 := Nat.mul_le_mul_right b hle
            rw [e1] at h2
            apply Nat.le_of_mul_le_mul_right _ (p0 l.length)
            refine Nat.le_trans (Nat.le_of_eq ?_) h2
            ac_rfl
        cases hlv : less l (digs n) with
        | true => exact (decide_eq_false (fun h' => (hiff.1 h') (hi.1 hlv))).symm
        | false => exact (decide_eq_true (hiff.2 (fun h' => by rw [hi.2 h'] at hlv; cases hlv))).symm
end Go.Proofs.YtcjeeoadgoghfaaGreatDoor.deci

namespace Go.Proofs.YtcjeeoadgoghfaaGreatDoor.deci
set_option linter.unusedVariables false set_option linter.unusedSimpArgs false
open Go.ChangeShapes Go.WideShapes Go.ChangeAt Go.RowKit Go.Proofs.YtcjeeoadgoghfaaGreatDoor.Deci Go.Proofs.YtcjeeoadgoghfaaGreatDoor.Usc
open Go.Proofs.YtcjeeoadgoghfaaGreatDoor.deca (whole_in whole_out whole_lt whole_int whole_int2)

def NX (w : World) (m : Nat) (en : Ending) (w' : World) : Prop := en = .returned (.int .u64 (m : Nat)) ∧ Below w.heap.size w w'
theorem near_step {V d : Nat} (hd : d ≤ 9) (hV : (V : Int) < 1000000000000000000) : ∃ A B : Nat, IntKind.u64.wrap (10 * (V : Int)) = (A : Int) ∧ IntKind.u64.wrap ((A : Int) + (d : Int)) = (B : Int) ∧ B = 10 * V + d := by
  refine ⟨10 * V, 10 * V + d, ?_, ?_, rfl⟩
  · rw [Go.IntWalk.u64_in _ ⟨by omega, by omega⟩]; omega
  · rw [Go.IntWalk.u64_in _ ⟨by omega, by omega⟩]; omega
theorem near_up {V : Nat} (hV : (V : Int) < 10000000000000000000) : ∃ B : Nat, IntKind.u64.wrap ((V : Int) + 1) = (B : Int) ∧ B = V + 1 := by
  refine ⟨V + 1, ?_, rfl⟩
  rw [Go.IntWalk.u64_in _ ⟨by omega, by omega⟩]; omega

set_option maxRecDepth 100000 in
set_option maxHeartbeats 1000000 in
theorem nearest_ex (p : Int) (v : Value) (l : List Nat) (w : World) (hr : RdI w 0 v l) (hl : l.length ≤ 90000) (hp0 : -1000000 ≤ p) (hp1 : p ≤ 19) (hd : Digs l) :
    Calls Tryz.prog 92 #[.agg #[v, .int .i64 p]] w (NX w (rInt l p false)) := by
  have HR := Lib.hid hr
  obtain ⟨a, cap, rfl⟩ := hr.forms
  have HX := Lib.hid (Box2.new w 85 (.slice a l.length cap) (.int .i64 p))
  have HBW := Lib.hid ((Below.refl w.heap.size w).alloc (Nat.le_refl _) (.cells #[.slice a l.length cap, .int .i64 p] 85))
  have HL := Lib.hid (HR.out.below HBW.out)
  have HDG := Lib.hid hd
  clear hr hd
  go_enter Tryz.func92, Tryz.ntmps92
  go_wp2
  generalize (w.alloc (.cells #[.slice a l.length cap, .int .i64 p] 85)) = w2 at HX HBW HL ⊢
  have x0 := HX.out.c0
  have x1 := HX.out.c1
  go_loopw [3, 4] (fun nv iv wr => ∃ (m k : Nat), nv = .int .u64 (m : Int) ∧ iv = .int .i64 (k : Int) ∧ (k = 0 ∨ (k : Int) ≤ p) ∧ Hid (m = whole l k) ∧ wr = w2) (fun _ iv _ => (p - intOf iv).toNat)
  case atStart => exact ⟨0, 0, rfl, rfl, Or.inl rfl, Lib.hid (by unfold whole; rw [List.take_zero, val_nil, Nat.zero_mul]), rfl⟩
  case round =>
    obtain ⟨m, k, rfl, rfl, hk, HM, rfl⟩ := hrel
    have h1 : (0 : Int) ≤ (k : Int) := by omega
    have HK := Lib.hid hk
    clear hk
    by_cases hkp : (k : Int) < p
    · have hm18 : (m : Int) < 1000000000000000000 := by rw [HM.out]; exact whole_int HDG.out (show k < p.toNat by omega) (by omega)
      by_cases hk1 : k < l.length
      · have h2 : (k : Int) < (l.length : Int) := by omega
        obtain ⟨g, off, cap1, hv, hcap, _, hc⟩ := HL.out.addr (by omega)
        injection hv with e1 e2 e3
        subst e1 e3
        obtain ⟨d, hd⟩ : ∃ d : Nat, d = l[k] := ⟨_, rfl⟩
        have q1 : wr.cell? ⟨g, off + k, none⟩ = some (.int .i64 (d : Int)) := by rw [hd]; exact hc k hk1
        have hd9 : d ≤ 9 := by rw [hd]; exact HDG.out _ (List.getElem_mem _)
        obtain ⟨A, B, w1, w2', hB⟩ := near_step hd9 hm18
        have HB := Lib.hid (show B = whole l (k + 1) by rw [whole_in hk1, ← HM.out, ← hd, hB])
        clear hd hc hB hm18
        go_wp2
        exact ⟨⟨B, k + 1, rfl, by go_num, Or.inr (by omega), HB, by simp⟩, by simp [intOf]; omega⟩
      · have h2 : ¬ (k : Int) < (l.length : Int) := by omega
        obtain ⟨A, B, w1, w2', hB⟩ := near_step (d := 0) (by decide) hm18
        have hAB : A = B := by
          have h3 : 10 * (m : Int) = (A : Int) := by rw [← w1, Go.IntWalk.u64_in _ ⟨by omega, by omega⟩]
          omega
        subst hAB
        have w3 : IntKind.u64.wrap (A : Int) = (A : Int) := by simpa using w2'
        have HB := Lib.hid (show A = whole l (k + 1) by rw [whole_out (by omega), ← HM.out, hB, Nat.add_zero])
        clear hB hm18
        go_wp2
        exact ⟨⟨A, k + 1, rfl, by go_num, Or.inr (by omega), HB, by simp⟩, by simp [intOf]; omega⟩
    · by_cases hp : p < 0
      · have HZ := Lib.hid (show m = rInt l p false by
          have hk0 : k = 0 := by have := HK.out; omega
          rw [HM.out, hk0]
          unfold rInt whole
          rw [if_pos hp, List.take_zero, val_nil, Nat.zero_mul])
        go_wp2
        go_ret
        exact ⟨by rw [← HZ.out]; rfl, HBW.out⟩
      · obtain ⟨P, rfl⟩ : ∃ P : Nat, p = (P : Int) := ⟨p.toNat, by omega⟩
        have hkP : k = P := by have := HK.out; omega
        subst hkP
        have HRI := Lib.hid (show rInt l (k : Int) false = whole l k + (if upR l k false then 1 else 0) by unfold rInt; rw [if_neg (by omega), Int.toNat_natCast])
        by_cases hpl : (l.length : Int) ≤ (k : Int)
        · have HU := Lib.hid (show rInt l (k : Int) false = m by
            rw [HRI.out, HM.out]
            have : upR l k false = false := by unfold upR; rw [List.drop_eq_nil_of_le (by omega)]
            rw [this]; rfl)
          go_wp2
          go_ret
          exact ⟨by rw [HU.out]; rfl, HBW.out⟩
        · have h2 : (k : Int) < (l.length : Int) := by omega
          have hkl : k < l.length := by omega
          obtain ⟨g, off, cap1, hv, hcap, _, hc⟩ := HL.out.addr (by omega)
          injection hv with e1 e2 e3
          subst e1 e3
          obtain ⟨d, hd⟩ : ∃ d : Nat, d = l[k] := ⟨_, rfl⟩
          have q1 : wr.cell? ⟨g, off + k, none⟩ = some (.int .i64 (d : Int)) := by rw [hd]; exact hc k (by omega)
          have HUP := Lib.hid (show upR l k false = if d = 5 ∧ l.drop (k + 1) = [] then (decide (0 < k) && decide ((l.getD (k - 1) 0) % 2 ≠ 0)) else decide (5 ≤ d) by
            unfold upR
            rw [List.drop_eq_getElem_cons hkl, ← hd]
            simp)
          have hm19 : (m : Int) < 10000000000000000000 := by rw [HM.out]; exact whole_int2 HDG.out (by omega)
          obtain ⟨B, w1, hB⟩ := near_up hm19
          have HB := Lib.hid hB
          clear hd hc hm19 hB
          by_cases hd5 : 5 < d
          · have f1 : (5 : Int) < (d : Int) := by omega
            have HU := Lib.hid (show rInt l (k : Int) false = B by rw [HRI.out, HUP.out, if_neg (show ¬ (d = 5 ∧ l.drop (k + 1) = []) from fun h => by have := h.1; omega), decide_eq_true (by omega), HB.out, HM.out]; rfl)
            go_wp2
            all_goals
              go_ret
              exact ⟨by rw [HU.out]; rfl, HBW.out⟩
          · have f1 : ¬ (5 : Int) < (d : Int) := by omega
            by_cases he5 : d = 5
            · by_cases hmore : k + 1 < l.length
              · have HU := Lib.hid (show rInt l (k : Int) false = B by rw [HRI.out, HUP.out, if_neg (show ¬ (d = 5 ∧ l.drop (k + 1) = []) from fun h => by have := congrArg List.length h.2; rw [List.length_drop, List.length_nil] at this; omega), decide_eq_true (by omega), HB.out, HM.out]; rfl)
                have f2 : (k : Int) + 1 < (l.length : Int) := by omega
                subst he5
                go_wp2
                all_goals
                  go_ret
                  exact ⟨by rw [HU.out]; rfl, HBW.out⟩
              · have f2 : ¬ (k : Int) + 1 < (l.length : Int) := by omega
                have hpar : whole l k % 2 = l.getD (k - 1) 0 % 2 ∨ k = 0 := by
                  rcases Nat.eq_zero_or_pos k with h0 | h0
                  · exact Or.inr h0
                  · refine Or.inl ?_
                    unfold whole
                    rw [show k - l.length = 0 by omega, Nat.pow_zero, Nat.mul_one]
                    exact last_mod2 l k h0 (by omega)
                have HUP2 := Lib.hid (show upR l k false = decide (m % 2 = 1) by
                  rw [HUP.out, if_pos ⟨he5, List.drop_eq_nil_of_le (by omega)⟩, HM.out]
                  rcases hpar with h | h
                  · rw [h]
                    rcases Nat.eq_zero_or_pos k with h0 | h0
                    · subst h0
                      have : whole l 0 = 0 := by unfold whole; rw [List.take_zero, val_nil, Nat.zero_mul]
                      rw [this] at h
                      rw [← h]; rfl
                    · rw [decide_eq_true h0, Bool.true_and]
                      rcases Nat.mod_two_eq_zero_or_one (l.getD (k - 1) 0) with h2 | h2 <;> rw [h2] <;> rfl
                  · subst h
                    have : whole l 0 = 0 := by unfold whole; rw [List.take_zero, val_nil, Nat.zero_mul]
                    rw [this]; rfl)
                subst he5
                clear hpar
                rcases Nat.mod_two_eq_zero_or_one m with h | h
                · have HU := Lib.hid (show rInt l (k : Int) false = m by rw [HRI.out, HUP2.out, h, HM.out]; rfl)
                  have g1 : (m : Int) % 2 = 0 := by omega
                  clear h
                  go_wp2
                  all_goals
                    go_ret
                    exact ⟨by rw [HU.out]; rfl, HBW.out⟩
                · have HU := Lib.hid (show rInt l (k : Int) false = B by rw [HRI.out, HUP2.out, h, HB.out, HM.out]; rfl)
                  have g1 : (m : Int) % 2 = 1 := by omega
                  clear h
                  go_wp2
                  all_goals
                    go_ret
                    exact ⟨by rw [HU.out]; rfl, HBW.out⟩
            · have f2 : ((d : Int) == 5) = false := by rw [beq_eq_false_iff_ne]; omega
              have HU := Lib.hid (show rInt l (k : Int) false = m by rw [HRI.out, HUP.out, if_neg (show ¬ (d = 5 ∧ l.drop (k + 1) = []) from fun h => he5 h.1), decide_eq_false (by omega), HM.out]; rfl)
              go_wp2
              all_goals
                go_ret
                exact ⟨by rw [HU.out]; rfl, HBW.out⟩
end Go.Proofs.YtcjeeoadgoghfaaGreatDoor.deci

namespace Go.Proofs.YtcjeeoadgoghfaaGreatDoor.deci
set_option linter.unusedVariables false set_option linter.unusedSimpArgs false
open Go.Proofs.YtcjeeoadgoghfaaGreatDoor.Deci Go.Proofs.YtcjeeoadgoghfaaGreatDoor.Usc

/-- The sign's word. -/
def sgD (neg : Bool) : Nat := if neg then 9223372036854775808 else 0
theorem nb_none {b : Nat} (hb : 0 < b) : NB 0 b 0 :=
  NB_small hb (tenD_pos (-400)) (by rw [Nat.zero_mul]; exact Nat.zero_le _) (ten_zero (m := 0) (p := -400) (Nat.zero_le _) (by decide))
theorem tN_nat (m k : Nat) : tenN m (k : Int) = m * 10 ^ k := by unfold tenN; rw [Int.toNat_natCast]
theorem tD_nat (k : Nat) : tenD (k : Int) = 1 := by unfold tenD; rw [show (-(k : Int)).toNat = 0 by omega, Nat.pow_zero]
theorem tN_neg (m k : Nat) : tenN m (-(k : Int)) = m := by unfold tenN; rw [show (-(k : Int)).toNat = 0 by omega, Nat.pow_zero, Nat.mul_one]
theorem tD_neg (k : Nat) : tenD (-(k : Int)) = 10 ^ k := by unfold tenD; rw [Int.neg_neg, Int.toNat_natCast]
theorem fine_low {l : List Nat} {p : Int} {a b : Nat} (hb : 0 < b) (h : Fine l p a b) (hp : p < -400) : NB a b 0 := by
  obtain ⟨k, hk⟩ : ∃ k : Nat, k = 400 := ⟨_, rfl⟩
  refine NB_small hb (tenD_pos (-(k : Int))) ?_ (ten_zero (m := 1) (p := -(k : Int)) (Nat.one_le_pow _ _ (by decide)) (by omega))
  have r := h.rep
  unfold Rep at r
  have hv := val_lt l h.digs
  rw [show (p - (l.length : Int)).toNat = 0 by omega, Nat.pow_zero, Nat.mul_one] at r
  obtain ⟨m, hm⟩ : ∃ m : Nat, ((l.length : Int) - p).toNat = l.length + k + m := ⟨((l.length : Int) - p).toNat - (l.length + k), by omega⟩
  rw [hm] at r
  rw [tD_neg, tN_neg, Nat.one_mul]
  have h1 : val l * b ≤ 10 ^ l.length * b := Nat.mul_le_mul_right _ (Nat.le_of_lt hv)
  rw [r, Nat.pow_add, Nat.pow_add] at h1
  have p0 : ∀ k, 0 < 10 ^ k := fun k => Nat.pow_pos (by decide)
  apply Nat.le_of_mul_le_mul_right _ (p0 l.length)
  refine Nat.le_trans ?_ (Nat.le_trans h1 (Nat.le_of_eq (Nat.mul_comm _ _)))
  calc a * 10 ^ k * 10 ^ l.length = a * (10 ^ l.length * 10 ^ k * 1) := by rw [Nat.mul_one]; ac_rfl
    _ ≤ a * (10 ^ l.length * 10 ^ k * 10 ^ m) := Nat.mul_le_mul_left _ (Nat.mul_le_mul_left _ (p0 m))
theorem fine_high {l : List Nat} {p : Int} {a b : Nat} (hb : 0 < b) (h : Fine l p a b) (hl : l ≠ []) (hp : 400 < p) : NB a b (2047 * 2 ^ 52) := by
  obtain ⟨k, hk⟩ : ∃ k : Nat, k = 400 := ⟨_, rfl⟩
  refine NB_big hb (tenD_pos (k : Int)) ?_ (ten_inf (m := 1) (p := (k : Int)) (Nat.le_refl _) (by omega))
  have r := h.rep
  unfold Rep at r
  have hlow : 10 ^ (l.length - 1) ≤ val l := by
    cases l with
    | nil => exact absurd rfl hl
    | cons d t =>
      have h1 := val_ge d t (by have := h.led d t rfl; omega)
      simpa using h1
  have hlen := List.length_pos_iff.2 hl
  have p0 : ∀ k, 0 < 10 ^ k := fun k => Nat.pow_pos (by decide)
  rw [tD_nat, tN_nat, Nat.one_mul, Nat.mul_one]
  have hle : k + (l.length - p).toNat ≤ (l.length - 1) + (p - l.length).toNat := by omega
  apply Nat.le_of_mul_le_mul_right _ (p0 (l.length - p).toNat)
  rw [← r]
  calc 10 ^ k * b * 10 ^ (l.length - p).toNat = 10 ^ (k + (l.length - p).toNat) * b := by rw [Nat.pow_add]; ac_rfl
    _ ≤ 10 ^ ((l.length - 1) + (p - l.length).toNat) * b := Nat.mul_le_mul_right _ (Nat.pow_le_pow_right (by decide) hle)
    _ = 10 ^ (l.length - 1) * 10 ^ (p - l.length).toNat * b := by rw [Nat.pow_add]
    _ ≤ val l * 10 ^ (p - l.length).toNat * b := Nat.mul_le_mul_right _ (Nat.mul_le_mul_right _ hlow)

/-- Below 2^53; 2^52 at least. -/
def Lt53 (a0 b0 : Nat) (e : Int) : Prop := ¬ 9007199254740992 * denF (-e) b0 ≤ numF (-e) a0
def Ge52 (a0 b0 : Nat) (e : Int) : Prop := 4503599627370496 * denF (-e) b0 ≤ numF (-e) a0
theorem tight_of {n : Nat} (h : trimD (digs n) = digs n) : Tight (digs n) := by
  obtain ⟨k, _, ht⟩ := trimD_spec (digs n)
  rwa [h] at ht
theorem ge_53 {a0 b0 : Nat} {e : Int} {l : List Nat} {p : Int} (hb : 0 < b0) (h : FX a0 b0 e l p) : (geD l p (digs 9007199254740992) = false → Lt53 a0 b0 e) := by
  have hg := ge_fine (denF_pos (-e) hb) h digs53.2.1 (tight_of digs53.1) (by decide) (by decide)
  intro hf
  rw [hg] at hf
  unfold Lt53
  exact of_decide_eq_false hf
theorem ge_52 {a0 b0 : Nat} {e : Int} {l : List Nat} {p : Int} (hb : 0 < b0) (h : FX a0 b0 e l p) : (geD l p (digs 4503599627370496) = false → ¬ Ge52 a0 b0 e) ∧ (geD l p (digs 4503599627370496) = true → Ge52 a0 b0 e) := by
  have hg := ge_fine (denF_pos (-e) hb) h digs53.2.2.2 (tight_of digs53.2.2.1) (by decide) (by decide)
  unfold Ge52
  constructor
  · intro hf
    rw [hg] at hf
    exact of_decide_eq_false hf
  · intro hf
    rw [hg] at hf
    exact of_decide_eq_true hf
theorem lt_dbl {a0 b0 : Nat} {e : Int} (hb : 0 < b0) (h : ¬ Ge52 a0 b0 e) : Lt53 a0 b0 (e - 1) := by
  unfold Ge52 at h
  unfold Lt53
  have s := scale_up (-e) (-(e - 1)) (by omega) a0 b0
  rw [show (-(e - 1) - -e).toNat = 1 by omega, Nat.pow_one] at s
  have d1 := denF_pos (-e) hb
  have d2 := denF_pos (-(e - 1)) hb
  generalize numF (-(e - 1)) a0 = A' at *
  generalize denF (-(e - 1)) b0 = B' at *
  generalize numF (-e) a0 = A at *
  generalize denF (-e) b0 = B at *
  intro hle
  have h1 := Nat.mul_le_mul_right B hle
  rw [s] at h1
  have h2 : A < 4503599627370496 * B := by omega
  have h3 := Nat.mul_lt_mul_of_pos_right h2 (show 0 < 2 * B' by omega)
  have e1 : 2 * A * B' = A * (2 * B') := by ac_rfl
  have e2 : 9007199254740992 * B' * B = 4503599627370496 * B * (2 * B') := by
    rw [show (9007199254740992 : Nat) = 4503599627370496 * 2 by decide]; ac_rfl
  omega
theorem pt_16 {a0 b0 : Nat} {e : Int} {l : List Nat} {p : Int} (hb : 0 < b0) (h : FX a0 b0 e l p) (hlt : Lt53 a0 b0 e) : p ≤ 16 := by
  refine Decidable.byContradiction fun hp => ?_
  have hl : l ≠ [] := fun hl => by have := h.zero hl; omega
  have hg := ge_fine (denF_pos (-e) hb) h digs53.2.1 (tight_of digs53.1) (by decide) (by decide)
  rw [geD_up _ hl (by omega)] at hg
  unfold Lt53 at hlt
  exact hlt (of_decide_eq_true hg.symm)
/-- The word at the loops' end. -/
theorem end_word {a0 b0 : Nat} {e : Int} {l : List Nat} {p : Int} (hb : 0 < b0) (he : -1074 ≤ e) (h : FX a0 b0 e l p) (hlt : Lt53 a0 b0 e) (hge : e = -1074 ∨ Ge52 a0 b0 e) : NB a0 b0 (docW (rInt l p false) e) ∧ rInt l p false ≤ 9007199254740992 := by
  have e52 : (2 : Nat) ^ 52 = 4503599627370496 := by decide
  have e53 : (2 : Nat) ^ 53 = 9007199254740992 := by decide
  have hd := denF_pos (-e) hb
  have hr := fine_round hd h
  unfold Lt53 at hlt
  have hm : rnd (numF (-e) a0) (denF (-e) b0) ≤ 9007199254740992 := by
    have h1 := rnd_mono hd hd (show numF (-e) a0 * denF (-e) b0 ≤ 9007199254740992 * denF (-e) b0 * denF (-e) b0 from Nat.mul_le_mul_right _ (by omega))
    rwa [rnd_mul _ _ hd] at h1
  rw [hr]
  refine ⟨doc_near hb he (by rw [e53]; omega) ?_ hm, hm⟩
  rcases hge with h | h
  · exact Or.inl h
  · exact Or.inr (by rw [e52]; exact h)
/-- The words, as the walk meets them. -/
theorem word_low (neg : Bool) {m : Nat} (hm : m < 4503599627370496) : ∃ X : Nat, IntKind.u64.wrap ((sgD neg : Int) + (m : Int)) = (X : Int) ∧ X = sgD neg + m := by
  refine ⟨sgD neg + m, ?_, rfl⟩
  have : sgD neg ≤ 9223372036854775808 := by unfold sgD; split <;> omega
  rw [Go.IntWalk.u64_in _ ⟨by omega, by omega⟩]; omega
theorem word_inf (neg : Bool) : ∃ X : Nat, IntKind.u64.wrap ((sgD neg : Int) + 9218868437227405312) = (X : Int) ∧ X = sgD neg + 2047 * 2 ^ 52 := by
  have ei : (2047 : Nat) * 2 ^ 52 = 9218868437227405312 := by decide
  rw [ei]
  refine ⟨sgD neg + 9218868437227405312, ?_, rfl⟩
  have : sgD neg ≤ 9223372036854775808 := by unfold sgD; split <;> omega
  rw [Go.IntWalk.u64_in _ ⟨by omega, by omega⟩]; omega
theorem word_mid (neg : Bool) {m E : Nat} (hE : E ≤ 2046) (hm1 : 4503599627370496 ≤ m) (hm2 : m < 9007199254740992) : ∃ F G H X : Nat, IntKind.u64.wrap ((E : Int) * 4503599627370496) = (F : Int) ∧ IntKind.u64.wrap ((sgD neg : Int) + (F : Int)) = (G : Int) ∧ IntKind.u64.wrap ((G : Int) + (m : Int)) = (H : Int) ∧ IntKind.u64.wrap ((H : Int) - 4503599627370496) = (X : Int) ∧ X = sgD neg + (E * 4503599627370496 + m - 4503599627370496) := by
  have hs : sgD neg ≤ 9223372036854775808 := by unfold sgD; split <;> omega
  refine ⟨E * 4503599627370496, sgD neg + E * 4503599627370496, sgD neg + E * 4503599627370496 + m, sgD neg + (E * 4503599627370496 + m - 4503599627370496), ?_, ?_, ?_, ?_, rfl⟩
  all_goals
    rw [Go.IntWalk.u64_in _ ⟨by omega, by omega⟩]; omega
end Go.Proofs.YtcjeeoadgoghfaaGreatDoor.deci
