/- The document's atLeast, nearest and Value: that they end; little else. -/
import Derived.Test.YthckhhifpmhlbaaGreatDoorDeci2b
import Derived.Test.YthckhhifpmhlbaaGreatDoorLookA
import Derived.Deep.LoopGhost
import Derived.Deep.Cut
import Derived.Deep.DeepCutAuto
namespace Go.Proofs.YthckhhifpmhlbaaGreatDoor.deci
set_option linter.unusedVariables false set_option linter.unusedSimpArgs false
open Go.ChangeShapes Go.WideShapes Go.ChangeAt Go.RowKit Go.Proofs.YthckhhifpmhlbaaGreatDoor.Deci

/-- What atLeast says of 2^52 and 2^53. -/
def ALPost (w : World) (l : List Nat) (p : Int) (en : Ending) (w' : World) : Prop := ∃ b : Bool, en = .returned (.bool b) ∧ (b = true → l ≠ [] ∧ 16 ≤ p) ∧ Below w.heap.size w w'

set_option maxRecDepth 100000 in
set_option maxHeartbeats 1000000 in
theorem atLeast_all (p : Int) (v : Value) (l : List Nat) (n : Nat) (w : World) (hr : RdI w 0 v l) (hl : l.length ≤ 90000) (hp0 : -1000000 ≤ p) (hp1 : p ≤ 1000000) (hn : n < 18446744073709551616) (ht : trimD (digs n) = digs n) (h16 : (digs n).length = 16) (N : Int) (hN : N = (n : Nat)) :
    Calls Tryz.prog 50 #[.agg #[v, .int .i64 p], .int .u64 N] w (ALPost w l p) := by
  subst hN
  have HR := Lib.hid hr
  obtain ⟨a, cap, rfl⟩ := hr.forms
  obtain ⟨dn, hdn⟩ : ∃ dn, dn = digs n := ⟨_, rfl⟩
  have HDG := Lib.hid (fun (W : World) => (digits_all n W hn).mono (R' := fun e w' => ∃ a2 c2, e = .returned (.agg #[.slice a2 16 c2, .int .i64 16]) ∧ RdI w' W.heap.size (.slice a2 16 c2) dn ∧ Below W.heap.size W w') (fun e w' h => by
    obtain ⟨v', he, hr', hb⟩ := h
    rw [ht, ← hdn] at hr' he
    obtain ⟨a2, c2, rfl⟩ := hr'.forms
    have h16d : dn.length = 16 := by rw [hdn]; exact h16
    have hq : pt dn (dn.length : Nat) = 16 := by
      unfold pt
      rw [if_neg (by intro e; rw [e] at h16d; simp at h16d), h16d]
      rfl
    rw [hq, h16d] at he
    rw [h16d] at hr'
    exact ⟨a2, c2, he, hr', hb⟩))
  have h16' : dn.length = 16 := by rw [hdn]; exact h16
  clear hr hdn ht h16 hn
  go_enter Tryz.func50, Tryz.ntmps50
  go_upto_region 2 with (go_at_call 75; go_must (refine (HDG.out _).mono ?_; rintro e w1 ⟨a2, c2, rfl, hr1, hb1⟩; have HR1 := Lib.hid hr1; have hz1 := hb1.size; have HB1 := Lib.hid hb1; clear hr1 hb1))
  have HX := Lib.hid (show Box2 (w1.alloc (.cells #[.slice a2 16 c2, .int .i64 16] 46)) w.heap.size 46 (.slice a l.length cap) (.int .i64 p) from ((Box2.new w _ _ _).below HB1.out (by simp)).old _)
  have HY := Lib.hid (Box2.new w1 46 (.slice a2 16 c2) (.int .i64 16))
  have HBW := Lib.hid (show Below w.heap.size w (w1.alloc (.cells #[.slice a2 16 c2, .int .i64 16] 46)) from (((Below.refl _ w).alloc (Nat.le_refl _) _).trans (HB1.out.mono (by simp))).alloc (by simp at hz1; omega) _)
  have HL := Lib.hid (show RdI (w1.alloc (.cells #[.slice a2 16 c2, .int .i64 16] 46)) 0 (.slice a l.length cap) l from HR.out.below HBW.out)
  have HL2 := Lib.hid (show RdI (w1.alloc (.cells #[.slice a2 16 c2, .int .i64 16] 46)) 0 (.slice a2 16 c2) dn from (HR1.out.alloc _).mono (Nat.zero_le _))
  generalize (w1.alloc (.cells #[.slice a2 16 c2, .int .i64 16] 46)) = w2 at HX HY HBW HL HL2 ⊢
  have x0 := HX.out.c0
  have x1 := HX.out.c1
  have y0 := HY.out.c0
  have y1 := HY.out.c1
  by_cases hl0 : l = []
  · subst hl0
    simp only [List.length_nil] at *
    go_wp2
    go_ret
    exact ⟨false, rfl, (fun h => by cases h), HBW.out⟩
  · have hpos : 0 < l.length := List.length_pos_iff.2 hl0
    have hne : ((l.length : Int) == 0) = false := by rw [beq_eq_false_iff_ne]; omega
    have HL0 := Lib.hid hl0
    clear hl0
    by_cases hp : p = 16
    · subst hp
      obtain ⟨g, off, cap1, hv, hcap, _, hc⟩ := HL.out.addr hpos
      obtain ⟨g2, off2, cap2, hv2, hcap2, _, hc2⟩ := HL2.out.addr (by omega)
      rw [h16'] at hv2 hcap2
      injection hv with e1 e2 e3
      injection hv2 with e4 e5 e6
      subst e1 e3 e4 e6
      have HC := Lib.hid hc
      have HC2 := Lib.hid hc2
      clear hc hc2
      go_wp2
      go_loopw [6] (fun iv wr => ∃ k : Nat, iv = .int .i64 (k : Int) ∧ k ≤ l.length + 16 ∧ wr = w2) (fun iv _ => l.length + 16 - (intOf iv).toNat)
      case atStart => exact ⟨0, rfl, by omega, rfl⟩
      case round =>
        obtain ⟨k, rfl, hk, rfl⟩ := hrel
        have h1 : (0 : Int) ≤ (k : Int) := by omega
        by_cases hk1 : k < l.length
        · have h2 : (k : Int) < (l.length : Int) := by omega
          obtain ⟨d, hd⟩ : ∃ d : Nat, d = l[k] := ⟨_, rfl⟩
          have q1 : wr.cell? ⟨g, off + k, none⟩ = some (.int .i64 (d : Int)) := by rw [hd]; exact HC.out k hk1
          clear hd
          by_cases hk2 : k < 16
          · have h3 : (k : Int) < 16 := by omega
            obtain ⟨d2, hd2⟩ : ∃ d2 : Nat, d2 = dn[k]'(by omega) := ⟨_, rfl⟩
            have q2 : wr.cell? ⟨g2, off2 + k, none⟩ = some (.int .i64 (d2 : Int)) := by rw [hd2]; exact HC2.out k (by omega)
            clear hd2
            by_cases hq : d = d2
            · have hq' : (d : Int) = (d2 : Int) := by omega
              go_wp2
              exact ⟨⟨k + 1, by go_num, by omega, by simp⟩, by simp [intOf]; omega⟩
            · have hq' : ¬ (d : Int) = (d2 : Int) := by omega
              go_wp2
              go_ret
              exact ⟨_, rfl, fun _ => ⟨HL0.out, by omega⟩, HBW.out⟩
          · have h3 : ¬ (k : Int) < 16 := by omega
            by_cases hq : d = 0
            · have hq' : (d : Int) = 0 := by omega
              go_wp2
              exact ⟨⟨k + 1, by go_num, by omega, by simp⟩, by simp [intOf]; omega⟩
            · have hq' : ¬ (d : Int) = 0 := by omega
              go_wp2
              go_ret
              exact ⟨_, rfl, fun _ => ⟨HL0.out, by omega⟩, HBW.out⟩
        · have h2 : ¬ (k : Int) < (l.length : Int) := by omega
          by_cases hk2 : k < 16
          · have h3 : (k : Int) < 16 := by omega
            obtain ⟨d2, hd2⟩ : ∃ d2 : Nat, d2 = dn[k]'(by omega) := ⟨_, rfl⟩
            have q2 : wr.cell? ⟨g2, off2 + k, none⟩ = some (.int .i64 (d2 : Int)) := by rw [hd2]; exact HC2.out k (by omega)
            clear hd2
            by_cases hq : d2 = 0
            · have hq' : (d2 : Int) = 0 := by omega
              go_wp2
              exact ⟨⟨k + 1, by go_num, by omega, by simp⟩, by simp [intOf]; omega⟩
            · have hq' : ¬ (0 : Int) = (d2 : Int) := by omega
              go_wp2
              go_ret
              exact ⟨_, rfl, fun _ => ⟨HL0.out, by omega⟩, HBW.out⟩
          · have h3 : ¬ (k : Int) < 16 := by omega
            go_wp2
            go_ret
            exact ⟨true, rfl, fun _ => ⟨HL0.out, by omega⟩, HBW.out⟩
    · by_cases hgt : 16 < p
      · go_wp2
        go_ret
        exact ⟨_, rfl, fun _ => ⟨HL0.out, by omega⟩, HBW.out⟩
      · have hgt' : ¬ 16 < p := hgt
        go_wp2
        go_ret
        exact ⟨false, by simp, (fun h => by cases h), HBW.out⟩

def NPost (w : World) (en : Ending) (w' : World) : Prop := ∃ m : Int, en = .returned (.int .u64 m) ∧ Below w.heap.size w w'
set_option maxRecDepth 100000 in
set_option maxHeartbeats 1000000 in
theorem nearest_all (p : Int) (v : Value) (l : List Nat) (w : World) (hr : RdI w 0 v l) (hl : l.length ≤ 90000) (hp0 : -1000000 ≤ p) (hp1 : p ≤ 1000000) :
    Calls Tryz.prog 53 #[.agg #[v, .int .i64 p]] w (NPost w) := by
  have HR := Lib.hid hr
  obtain ⟨a, cap, rfl⟩ := hr.forms
  have HX := Lib.hid (Box2.new w 46 (.slice a l.length cap) (.int .i64 p))
  have HBW := Lib.hid ((Below.refl w.heap.size w).alloc (Nat.le_refl _) (.cells #[.slice a l.length cap, .int .i64 p] 46))
  have HL := Lib.hid (HR.out.below HBW.out)
  clear hr
  go_enter Tryz.func53, Tryz.ntmps53
  go_wp2
  generalize (w.alloc (.cells #[.slice a l.length cap, .int .i64 p] 46)) = w2 at HX HBW HL ⊢
  have x0 := HX.out.c0
  have x1 := HX.out.c1
  go_loopw [3, 4] (fun nv iv wr => ∃ (m : Int) (k : Nat), nv = .int .u64 m ∧ iv = .int .i64 (k : Int) ∧ (k = 0 ∨ (k : Int) ≤ p) ∧ wr = w2) (fun _ iv _ => (p - intOf iv).toNat)
  case atStart => exact ⟨0, 0, rfl, rfl, Or.inl rfl, rfl⟩
  case round =>
    obtain ⟨m, k, rfl, rfl, hk, rfl⟩ := hrel
    have h1 : (0 : Int) ≤ (k : Int) := by omega
    have HK := Lib.hid hk
    clear hk
    by_cases hkp : (k : Int) < p
    · by_cases hk1 : k < l.length
      · have h2 : (k : Int) < (l.length : Int) := by omega
        obtain ⟨g, off, cap1, hv, hcap, _, hc⟩ := HL.out.addr (by omega)
        injection hv with e1 e2 e3
        subst e1 e3
        obtain ⟨d, hd⟩ : ∃ d : Nat, d = l[k] := ⟨_, rfl⟩
        have q1 : wr.cell? ⟨g, off + k, none⟩ = some (.int .i64 (d : Int)) := by rw [hd]; exact hc k hk1
        clear hd hc
        go_wp2
        exact ⟨⟨_, k + 1, rfl, by go_num, Or.inr (by omega), by simp⟩, by simp [intOf]; omega⟩
      · have h2 : ¬ (k : Int) < (l.length : Int) := by omega
        go_wp2
        exact ⟨⟨_, k + 1, rfl, by go_num, Or.inr (by omega), by simp⟩, by simp [intOf]; omega⟩
    · by_cases hp : p < 0
      · go_wp2
        go_ret
        exact ⟨_, rfl, HBW.out⟩
      · by_cases hpl : (l.length : Int) ≤ p
        · go_wp2
          go_ret
          exact ⟨_, rfl, HBW.out⟩
        · obtain ⟨P, rfl⟩ : ∃ P : Nat, p = (P : Int) := ⟨p.toNat, by omega⟩
          have h2 : (P : Int) < (l.length : Int) := by omega
          have h3 : (0 : Int) ≤ (P : Int) := by omega
          obtain ⟨g, off, cap1, hv, hcap, _, hc⟩ := HL.out.addr (by omega)
          injection hv with e1 e2 e3
          subst e1 e3
          obtain ⟨d, hd⟩ : ∃ d : Nat, d = l[P]'(by omega) := ⟨_, rfl⟩
          have q1 : wr.cell? ⟨g, off + P, none⟩ = some (.int .i64 (d : Int)) := by rw [hd]; exact hc P (by omega)
          clear hd hc
          by_cases hd5 : 5 < d
          · have f1 : (5 : Int) < (d : Int) := by omega
            go_wp2
            all_goals
              go_ret
              exact ⟨_, rfl, HBW.out⟩
          · have f1 : ¬ (5 : Int) < (d : Int) := by omega
            by_cases he5 : d = 5
            · subst he5
              go_wp2
              all_goals
                go_ret
                exact ⟨_, rfl, HBW.out⟩
            · have f2 : ((d : Int) == 5) = false := by rw [beq_eq_false_iff_ne]; omega
              go_wp2
              all_goals
                go_ret
                exact ⟨_, rfl, HBW.out⟩
end Go.Proofs.YthckhhifpmhlbaaGreatDoor.deci
