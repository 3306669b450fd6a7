/- Where the document's reading of a numeral's digits stands (apart from memory), and what its struct holds. -/
import Derived.Test.YthckhhifpmhlbaaGreatDoorPref0
namespace Go.Proofs.YthckhhifpmhlbaaGreatDoor.scan
set_option linter.unusedVariables false set_option linter.unusedSimpArgs false
open Go.ChangeShapes Go.WideShapes Go.ChangeAt Go.RowKit Go.Proofs.YthckhhifpmhlbaaGreatDoor.Deci Go.Proofs.YthckhhifpmhlbaaGreatDoor.deci

/-- In the digits ahead of the point, or behind it. -/
def At3 (s : ByteArray) (i : Nat) (sm pt : Bool) : Prop :=
  (∃ k, k ≤ pW s ∧ i = pX s + k ∧ sm = decide (0 < k) ∧ pt = false) ∨
  (pD s = true ∧ (0 < pW s ∨ 0 < pP s) ∧ ∃ j, j ≤ pP s ∧ i = pX s + pW s + 1 + j ∧ sm = decide (0 < pW s + j) ∧ pt = true)

theorem isD46 : isD 46 = false := by decide
theorem at_cases (s : ByteArray) (i : Nat) (sm pt : Bool) (h : At3 s i sm pt) :
    (∃ h : i < s.size, isD s[i] = true ∧ At3 s (i + 1) true pt) ∨
    (pt = false ∧ ∃ h : i < s.size, s[i] = 46 ∧ noNum (pT s) ∧ sm = false ∧ ∀ h : i + 1 < s.size, isD s[i + 1] = false) ∨
    (pt = false ∧ ∃ h : i < s.size, s[i] = 46 ∧ At3 s (i + 1) sm true ∧ (sm = true ∨ (sm = false ∧ ∃ h : i + 1 < s.size, isD s[i + 1] = true))) ∨
    ((∀ h : i < s.size, isD s[i] = false ∧ (pt = true ∨ s[i] ≠ 46)) ∧ (noNum (pT s) ∧ sm = false ∨ ¬ noNum (pT s) ∧ sm = true ∧ i = pB s + sizeA (pT s))) := by
  rcases h with ⟨k, hk, rfl, rfl, rfl⟩ | ⟨hd, hn, j, hj, rfl, rfl, rfl⟩
  · by_cases hlt : k < pW s
    · obtain ⟨h1, h2⟩ := run_inw isD s (pX s) k hlt
      exact Or.inl ⟨h1, h2, Or.inl ⟨k + 1, hlt, by omega, by simp, rfl⟩⟩
    · obtain rfl : k = pW s := by omega
      by_cases hd : pD s = true
      · obtain ⟨h1, h2⟩ := (pD_at s).1 hd
        by_cases hn : noNum (pT s)
        · obtain ⟨a, b⟩ := (noNum_iff s).1 hn
          have hp : pP s = 0 := b.resolve_left (by rw [hd]; decide)
          refine Or.inr (Or.inl ⟨rfl, h1, h2, hn, by simp [a], fun h => ?_⟩)
          have := run_out isD s (pX s + pW s + 1)
          rw [show run isD s (pX s + pW s + 1) = 0 from hp] at this
          exact this h
        · refine Or.inr (Or.inr (Or.inl ⟨rfl, h1, h2, Or.inr ⟨hd, ?_, 0, by omega, by omega, rfl, rfl⟩, ?_⟩))
          · by_cases h0 : pW s = 0
            · right
              by_cases h3 : pP s = 0
              · exact absurd ((noNum_iff s).2 ⟨h0, Or.inr h3⟩) hn
              · omega
            · left; omega
          · by_cases h0 : pW s = 0
            · right
              have h3 : 0 < pP s := by
                by_cases h3 : pP s = 0
                · exact absurd ((noNum_iff s).2 ⟨h0, Or.inr h3⟩) hn
                · omega
              exact ⟨by simp [h0], run_inw isD s (pX s + pW s + 1) 0 h3⟩
            · left; simp; omega
      · have hd' : pD s = false := by simpa using hd
        refine Or.inr (Or.inr (Or.inr ⟨fun h => ⟨run_out isD s (pX s) h, Or.inr fun e => hd ((pD_at s).2 ⟨h, e⟩)⟩, ?_⟩))
        by_cases h0 : pW s = 0
        · exact Or.inl ⟨(noNum_iff s).2 ⟨h0, Or.inl hd'⟩, by simp [h0]⟩
        · refine Or.inr ⟨fun hn => h0 ((noNum_iff s).1 hn).1, by simp; omega, ?_⟩
          rw [pA_eq, hd']; simp
  · by_cases hlt : j < pP s
    · obtain ⟨h1, h2⟩ := run_inw isD s (pX s + pW s + 1) j hlt
      exact Or.inl ⟨h1, h2, Or.inr ⟨hd, hn, j + 1, hlt, by omega, by simp; omega, rfl⟩⟩
    · obtain rfl : j = pP s := by omega
      refine Or.inr (Or.inr (Or.inr ⟨fun h => ⟨run_out isD s (pX s + pW s + 1) h, Or.inl rfl⟩, Or.inr ⟨fun h => ?_, by simp; omega, ?_⟩⟩))
      · obtain ⟨a, b⟩ := (noNum_iff s).1 h
        rw [hd] at b
        rcases b with b | b
        · cases b
        · omega
      · rw [pA_eq, hd]; simp; omega

/-- What the struct holds: digits, n at most. -/
def Hold (w : World) (wr : World) (n : Nat) : Prop := ∃ v l p, Box2 wr w.heap.size 46 v (.int .i64 p) ∧ OwnI wr (w.heap.size + 1) 3 v l ∧ Digs l ∧ Led l ∧ l.length ≤ n ∧ -(n : Int) ≤ p ∧ p ≤ (n : Int) ∧ w.heap.size + 1 ≤ wr.heap.size ∧ Below w.heap.size w wr

theorem Hold.start (w : World) (n : Nat) : Hold w (w.alloc (.cells #[.slice none 0 0, .int .i64 0] 46)) n :=
  ⟨_, [], 0, Box2.new _ _ _ _, OwnI.nil _ _ _, (fun _ h => by simp at h), (fun _ _ h => by cases h), by simp, by omega, by omega, by simp, (Below.refl _ _).alloc (Nat.le_refl _) _⟩
theorem Hold.mono {w wr : World} {n m : Nat} (h : Hold w wr n) (hm : n ≤ m) : Hold w wr m := by
  obtain ⟨v, l, p, a, b, c, d, e, f, g, h⟩ := h
  exact ⟨v, l, p, a, b, c, d, by omega, by omega, by omega, h⟩
/-- What it holds behind the exponent. -/
def Hold2 (w : World) (wr : World) : Prop := ∃ v l p, Box2 wr w.heap.size 46 v (.int .i64 p) ∧ OwnI wr (w.heap.size + 1) 3 v l ∧ Digs l ∧ Led l ∧ l.length ≤ 1000 ∧ w.heap.size + 1 ≤ wr.heap.size ∧ Below w.heap.size w wr
/-- A byte that is a digit. -/
theorem isD_dig (c : UInt8) (h : isD c = true) : ∃ d : Nat, d ≤ 9 ∧ (c.toNat : Int) = 48 + d := by
  rw [isD_int] at h
  have := of_decide_eq_true h
  exact ⟨c.toNat - 48, by omega, by omega⟩
theorem led_snoc {l : List Nat} {d : Nat} (h : Led l) (hd : 0 < d ∨ l ≠ []) : Led (l ++ [d]) := by
  intro c t e
  cases l with
  | nil =>
    simp at e
    rcases hd with hd | hd
    · omega
    · exact absurd rfl hd
  | cons a t2 =>
    simp at e
    exact h c t2 (by rw [e.1])
theorem digs_snoc {l : List Nat} {d : Nat} (h : Digs l) (hd : d ≤ 9) : Digs (l ++ [d]) := by
  intro x hx
  rcases List.mem_append.1 hx with hx | hx
  · exact h x hx
  · simp at hx; omega
end Go.Proofs.YthckhhifpmhlbaaGreatDoor.scan
namespace Go.Proofs.YthckhhifpmhlbaaGreatDoor.deci
open Go.ChangeShapes Go.WideShapes Go.ChangeAt Go.RowKit Go.Proofs.YthckhhifpmhlbaaGreatDoor.Deci
theorem Box2.set0 {w : World} {b : Nat} {T : TypeId} {x y : Value} (h : Box2 w b T x y) (x' : Value) : Box2 (w.setCell ⟨b, 0, none⟩ x') b T x' y := by
  unfold Box2 at *
  rw [heap_setCell_same w b 0 _ T x' h]
  rfl
theorem Box2.set1 {w : World} {b : Nat} {T : TypeId} {x y : Value} (h : Box2 w b T x y) (y' : Value) : Box2 (w.setCell ⟨b, 1, none⟩ y') b T x y' := by
  unfold Box2 at *
  rw [heap_setCell_same w b 1 _ T y' h]
  rfl
theorem OwnI.set {w : World} {B : Nat} {e : TypeId} {v : Value} {l : List Nat} (h : OwnI w B e v l) (b o : Nat) (x : Value) (hb : b < B) : OwnI (w.setCell ⟨b, o, none⟩ x) B e v l := by
  refine ⟨h.1, h.2.elim Or.inl (fun ⟨g, cap, cur, hv, hg, hh, r⟩ => Or.inr ⟨g, cap, cur, hv, hg, ?_, r⟩)⟩
  rw [heap_setCell_other w ⟨b, o, none⟩ g x (by show g ≠ b; omega)]
  exact hh
end Go.Proofs.YthckhhifpmhlbaaGreatDoor.deci
