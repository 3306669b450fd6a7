/- Where the document's reading of a numeral stands (apart from memory). -/
import Derived.Test.YthckhhifpmhlbaaGreatDoorLooks
namespace Go.Proofs.YthckhhifpmhlbaaGreatDoor.scan
set_option linter.unusedVariables false set_option linter.unusedSimpArgs false
open Go.ChangeShapes Go.WideShapes Go.ChangeAt Go.RowKit

theorem tw_in (p : UInt8 → Bool) (l : List UInt8) : ∀ k, k < (l.takeWhile p).length → ∃ h : k < l.length, p l[k] = true := by
  induction l with
  | nil => intro k h; simp at h
  | cons c t ih =>
    intro k h
    rw [List.takeWhile_cons] at h
    by_cases hc : p c = true
    · rw [if_pos hc] at h
      cases k with
      | zero => exact ⟨by simp, hc⟩
      | succ k =>
        obtain ⟨h1, h2⟩ := ih k (by simpa using h)
        exact ⟨by simp; omega, by simpa using h2⟩
    · rw [if_neg hc] at h; simp at h
theorem tw_out (p : UInt8 → Bool) (l : List UInt8) : ∀ h : (l.takeWhile p).length < l.length, p (l[(l.takeWhile p).length]) = false := by
  induction l with
  | nil => intro h; simp at h
  | cons c t ih =>
    intro h
    by_cases hc : p c = true
    · have e : ((c :: t).takeWhile p) = c :: t.takeWhile p := by rw [List.takeWhile_cons, if_pos hc]
      simp only [e, List.length_cons, List.getElem_cons_succ]
      simp only [e, List.length_cons] at h
      exact ih (by omega)
    · have e : ((c :: t).takeWhile p) = [] := by rw [List.takeWhile_cons, if_neg hc]
      simp only [e, List.length_nil, List.getElem_cons_zero]
      simpa using hc
/-- How many such bytes stand from place x on. -/
def run (p : UInt8 → Bool) (s : ByteArray) (x : Nat) : Nat := ((s.data.toList.drop x).takeWhile p).length
theorem run_le (p : UInt8 → Bool) (s : ByteArray) (x : Nat) (hx : x ≤ s.size) : x + run p s x ≤ s.size := by
  have := tw_len p (s.data.toList.drop x)
  rw [List.length_drop] at this
  simp only [Array.length_toList] at this
  have e : s.data.size = s.size := rfl
  unfold run
  omega
theorem run_inw (p : UInt8 → Bool) (s : ByteArray) (x k : Nat) (h : k < run p s x) : ∃ h : x + k < s.size, p s[x + k] = true := by
  obtain ⟨h1, h2⟩ := tw_in p (s.data.toList.drop x) k h
  rw [List.length_drop] at h1
  simp only [Array.length_toList] at h1
  have e : s.data.size = s.size := rfl
  refine ⟨by omega, ?_⟩
  rw [List.getElem_drop] at h2
  exact h2
theorem run_out (p : UInt8 → Bool) (s : ByteArray) (x : Nat) (h : x + run p s x < s.size) : p (s[x + run p s x]) = false := by
  have e : s.data.size = s.size := rfl
  have h2 := tw_out p (s.data.toList.drop x) (by rw [List.length_drop]; simp only [Array.length_toList]; unfold run at h; omega)
  rw [List.getElem_drop] at h2
  exact h2
def pB (s : ByteArray) : Nat := run isB s 0
def pT (s : ByteArray) : List UInt8 := s.data.toList.drop (pB s)
def pX (s : ByteArray) : Nat := pB s + sg (pT s)
def pW (s : ByteArray) : Nat := run isD s (pX s)
def pP (s : ByteArray) : Nat := run isD s (pX s + pW s + 1)
def pD (s : ByteArray) : Bool := (s.data.toList.drop (pX s + pW s)).head? == some 46
theorem pB_eq (s : ByteArray) : pB s = bl s.data.toList := by unfold pB run bl; rw [List.drop_zero]
theorem pB_le (s : ByteArray) : pB s ≤ s.size := by have := run_le isB s 0 (Nat.zero_le _); unfold pB; omega
theorem pX_le (s : ByteArray) : pX s ≤ s.size := by
  have h1 := (sg_le (pT s)).1
  have h2 := pB_le s
  have e : s.data.size = s.size := rfl
  unfold pT at h1
  rw [List.length_drop] at h1
  simp only [Array.length_toList] at h1
  unfold pX pT
  omega
theorem pW_eq (s : ByteArray) : (wholeL (pT s)).length = pW s := by
  rw [wholeL_len]
  unfold pT
  rw [List.drop_drop]
  rfl
theorem pD_eq (s : ByteArray) : hasPt (pT s) = pD s := by
  unfold hasPt pD
  rw [pW_eq]
  unfold pT
  rw [List.drop_drop, ← Nat.add_assoc]
  rfl
theorem pP_eq (s : ByteArray) (h : pD s = true) : (partL (pT s)).length = pP s := by
  have h1 := dg_le ((pT s).drop (sg (pT s) + (wholeL (pT s)).length + 1))
  unfold partL
  rw [pD_eq, if_pos h, List.length_take, Nat.min_eq_left h1, pW_eq]
  show dg (List.drop _ (pT s)) = _
  unfold pP run dg pX
  unfold pT
  rw [List.drop_drop]
  congr 3
  omega
theorem pA_eq (s : ByteArray) : pB s + sizeA (pT s) = pX s + pW s + if pD s then 1 + pP s else 0 := by
  unfold sizeA
  rw [pW_eq, pD_eq]
  cases hd : pD s with
  | true => rw [if_pos rfl, if_pos rfl, pP_eq s hd]; unfold pX; omega
  | false => rw [if_neg (by decide), if_neg (by decide)]; unfold pX; omega
theorem noNum_iff (s : ByteArray) : noNum (pT s) ↔ pW s = 0 ∧ (pD s = false ∨ pP s = 0) := by
  unfold noNum
  have h1 : wholeL (pT s) = [] ↔ pW s = 0 := by rw [← pW_eq]; exact List.length_eq_zero_iff.symm
  rw [h1]
  cases hd : pD s with
  | true =>
    have h2 : partL (pT s) = [] ↔ pP s = 0 := by rw [← pP_eq s hd]; exact List.length_eq_zero_iff.symm
    rw [h2]
    simp
  | false =>
    have h2 : partL (pT s) = [] := by unfold partL; rw [pD_eq, hd]; rfl
    rw [h2]
    simp
/-- The byte at a place as the list has it. -/
theorem head_at (s : ByteArray) (x : Nat) : (∃ h : x < s.size, s.data.toList.drop x = s[x] :: s.data.toList.drop (x + 1)) ∨ (s.size ≤ x ∧ s.data.toList.drop x = []) := by
  by_cases h : x < s.size
  · left
    refine ⟨h, ?_⟩
    have h2 : x < s.data.toList.length := by simpa using h
    exact List.drop_eq_getElem_cons h2
  · right
    exact ⟨by omega, List.drop_eq_nil_of_le (by simpa using (show s.size ≤ x by omega))⟩
theorem sg_at (s : ByteArray) (x : Nat) : (∃ h : x < s.size, (s[x] = 43 ∨ s[x] = 45) ∧ sg (s.data.toList.drop x) = 1) ∨ ((∀ h : x < s.size, s[x] ≠ 43 ∧ s[x] ≠ 45) ∧ sg (s.data.toList.drop x) = 0) := by
  rcases head_at s x with ⟨h, e⟩ | ⟨h, e⟩
  · rw [e]
    by_cases hc : s[x] = 43 ∨ s[x] = 45
    · exact Or.inl ⟨h, hc, if_pos hc⟩
    · exact Or.inr ⟨fun _ => ⟨fun e => hc (Or.inl e), fun e => hc (Or.inr e)⟩, if_neg hc⟩
  · rw [e]
    exact Or.inr ⟨fun h2 => by omega, rfl⟩
theorem pD_at (s : ByteArray) : pD s = true ↔ ∃ h : pX s + pW s < s.size, s[pX s + pW s] = 46 := by
  unfold pD
  rcases head_at s (pX s + pW s) with ⟨h, e⟩ | ⟨h, e⟩
  · rw [e]
    simp only [List.head?_cons, beq_iff_eq, Option.some.injEq]
    exact ⟨fun hh => ⟨h, hh⟩, fun ⟨_, hh⟩ => hh⟩
  · rw [e]
    simp only [List.head?_nil]
    constructor
    · intro hh; cases hh
    · rintro ⟨h2, _⟩; omega
/-- The exponent's sign and digits, behind place q. -/
def xS (s : ByteArray) (q : Nat) : Nat := sg (s.data.toList.drop (q + 1))
def xG (s : ByteArray) (q : Nat) : Nat := run isD s (q + 1 + xS s q)
theorem lp_at (s : ByteArray) (q : Nat) : (∃ h : q < s.size, (s[q] = 101 ∨ s[q] = 69) ∧ 0 < xG s q ∧ lp (s.data.toList.drop q) ≠ [] ∧ (lp (s.data.toList.drop q)).length = xS s q + xG s q) ∨
    (lp (s.data.toList.drop q) = [] ∧ ∀ h : q < s.size, (s[q] = 101 ∨ s[q] = 69) → xG s q = 0) := by
  rcases head_at s q with ⟨h, e⟩ | ⟨h, e⟩
  · have hx : dg ((s.data.toList.drop (q + 1)).drop (sg (s.data.toList.drop (q + 1)))) = xG s q := by
      rw [List.drop_drop]; rfl
    by_cases hc : s[q] = 101 ∨ s[q] = 69
    · by_cases hg : xG s q = 0
      · right
        refine ⟨?_, fun _ _ => hg⟩
        rw [e]
        unfold lp
        simp only
        rw [if_pos hc, hx, if_pos hg]
      · left
        have hl : lp (s.data.toList.drop q) = (s.data.toList.drop (q + 1)).take (sg (s.data.toList.drop (q + 1)) + xG s q) := by
          rw [e]
          unfold lp
          simp only
          rw [if_pos hc, hx, if_neg hg]
        have hle := dg_le ((s.data.toList.drop (q + 1)).drop (sg (s.data.toList.drop (q + 1))))
        have hsl := (sg_le (s.data.toList.drop (q + 1))).1
        rw [hx, List.length_drop] at hle
        have hlen : (lp (s.data.toList.drop q)).length = xS s q + xG s q := by
          rw [hl, List.length_take, Nat.min_eq_left (by omega)]
          rfl
        exact ⟨h, hc, by omega, fun hn => by rw [hn] at hlen; simp at hlen; omega, hlen⟩
    · right
      refine ⟨?_, fun _ hcc => absurd hcc hc⟩
      rw [e]
      unfold lp
      simp only
      rw [if_neg hc]
  · right
    rw [e]
    exact ⟨rfl, fun h2 => by omega⟩
theorem size_at (s : ByteArray) (q : Nat) (hq : q = pB s + sizeA (pT s)) : pB s + sizeB (pT s) = q + if lp (s.data.toList.drop q) = [] then 0 else 1 + (lp (s.data.toList.drop q)).length := by
  have e : powL (pT s) = lp (s.data.toList.drop q) := by
    unfold powL
    rw [hq]
    unfold pT
    rw [List.drop_drop]
  unfold sizeB
  rw [e]
  omega
end Go.Proofs.YthckhhifpmhlbaaGreatDoor.scan
