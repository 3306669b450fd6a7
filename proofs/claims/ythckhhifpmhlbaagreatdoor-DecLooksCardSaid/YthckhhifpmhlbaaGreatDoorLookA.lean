/- Halving digits with a point comes to an end (apart from memory). -/
import Derived.Test.YthckhhifpmhlbaaGreatDoorDeciMath
namespace Go.Proofs.YthckhhifpmhlbaaGreatDoor.Deci
set_option linter.unusedVariables false set_option linter.unusedSimpArgs false

theorem trimD_head {c : Nat} (h : c ≠ 0) (s : List Nat) : ∃ s', trimD (c :: s) = c :: s' := by
  obtain ⟨k, h1, _⟩ := trimD_spec (c :: s)
  cases ht : trimD (c :: s) with
  | nil =>
    rw [ht] at h1
    cases k with
    | zero => simp at h1
    | succ k =>
      rw [List.replicate_succ] at h1
      simp at h1
      exact absurd h1.1 h
  | cons d t =>
    rw [ht] at h1
    simp at h1
    exact ⟨t, by rw [h1.1]⟩
/-- A number for how great digits with a point are. -/
def ms (l : List Nat) (p : Int) : Int := 10 * p + (l.headD 0 : Nat)
theorem hlf_less {l : List Nat} (hd : Digs l) (hl : Led l) (hne : l ≠ []) (p : Int) : trimD (hlfL l) ≠ [] ∧ ms (trimD (hlfL l)) (hlfP l p) < ms l p ∧ (hlfP l p = p ∨ hlfP l p = p - 1) := by
  cases l with
  | nil => exact absurd rfl hne
  | cons d t =>
    have h0 := hl d t rfl
    have h9 := hd d (List.mem_cons_self ..)
    have hR : hlfR (d :: t) = d / 2 :: (if 0 < rem (d % 2) t then hlf (d % 2) t ++ [5] else hlf (d % 2) t) := by
      unfold hlfR
      show (if 0 < rem ((10 * 0 + d) % 2) t then ((10 * 0 + d) / 2 :: hlf ((10 * 0 + d) % 2) t) ++ [5] else (10 * 0 + d) / 2 :: hlf ((10 * 0 + d) % 2) t) = _
      rw [Nat.mul_zero, Nat.zero_add]
      split <;> rfl
    by_cases h2 : 2 ≤ d
    · have hL : hlfL (d :: t) = hlfR (d :: t) ∧ hlfP (d :: t) p = p := by
        unfold hlfL hlfP
        rw [hR]
        have hq : d / 2 ≠ 0 := by omega
        constructor
        · split
          · rename_i u e
            simp at e
            omega
          · rfl
        · split
          · rename_i u e
            simp at e
            omega
          · rfl
      rw [hL.1, hL.2, hR]
      obtain ⟨s', hs⟩ := trimD_head (show d / 2 ≠ 0 by omega) (if 0 < rem (d % 2) t then hlf (d % 2) t ++ [5] else hlf (d % 2) t)
      rw [hs]
      exact ⟨by simp, by show 10 * p + ((d / 2 : Nat) : Int) < 10 * p + (d : Int); omega, Or.inl rfl⟩
    · obtain rfl : d = 1 := by omega
      have hX : ∃ c s, (if 0 < rem (1 % 2) t then hlf (1 % 2) t ++ [5] else hlf (1 % 2) t) = c :: s ∧ 5 ≤ c ∧ c ≤ 9 := by
        cases t with
        | nil => exact ⟨5, [], rfl, by omega, by omega⟩
        | cons c s =>
          have hc := hd c (by simp)
          have e : hlf (1 % 2) (c :: s) = (10 * 1 + c) / 2 :: hlf ((10 * 1 + c) % 2) s := rfl
          rw [e]
          split
          · exact ⟨_, _, rfl, by omega, by omega⟩
          · exact ⟨_, _, rfl, by omega, by omega⟩
      obtain ⟨c, s, hX, h5, hc9⟩ := hX
      have hL : hlfL (1 :: t) = c :: s ∧ hlfP (1 :: t) p = p - 1 := by
        unfold hlfL hlfP
        rw [hR, hX]
        exact ⟨rfl, rfl⟩
      rw [hL.1, hL.2]
      obtain ⟨s', hs⟩ := trimD_head (show c ≠ 0 by omega) s
      rw [hs]
      exact ⟨by simp, by show 10 * (p - 1) + (c : Int) < 10 * p + ((1 : Nat) : Int); omega, Or.inr rfl⟩
theorem digs53 : trimD (digs 9007199254740992) = digs 9007199254740992 ∧ (digs 9007199254740992).length = 16 ∧ trimD (digs 4503599627370496) = digs 4503599627370496 ∧ (digs 4503599627370496).length = 16 := by decide +kernel
end Go.Proofs.YthckhhifpmhlbaaGreatDoor.Deci
