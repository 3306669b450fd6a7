/- No run in this text: where records stand (by one byte; by runs of bytes 10), byte by byte; what an operand stands for. -/
import Derived.Test.YteaibkbdoocifaaDoorKit
import Derived.Lib.IndexMore
import Derived.Lib.IndexLaws
import Derived.Lib.TrimByte
import Derived.Lib.CutLaws
namespace Go.Proofs.YteaibkbdoocifaaDoor.inps
set_option linter.unusedVariables false set_option linter.unusedSimpArgs false

/-- The records' places by one byte: what is left, where the record at hand begins, where this stands. -/
def spn (b : UInt8) : List UInt8 → Nat → Nat → List (Nat × Nat)
  | [], f, p => if f < p then [(f, p)] else []
  | c :: r, f, p => if c = b then (f, p) :: spn b r (p + 1) (p + 1) else spn b r f (p + 1)

theorem spn_find (b : UInt8) : ∀ (j : Nat) (l : List UInt8) (f p : Nat), l[j]? = some b → (∀ i, i < j → l[i]? ≠ some b) → spn b l f p = (f, p + j) :: spn b (l.drop (j + 1)) (p + j + 1) (p + j + 1)
  | _, [], f, p, h, _ => by simp at h
  | 0, c :: r, f, p, h, _ => by
    obtain rfl : c = b := by simpa using h
    simp [spn]
  | j + 1, c :: r, f, p, h, hn => by
    have h0 : c ≠ b := fun e => hn 0 (Nat.succ_pos j) (by rw [e]; rfl)
    have := spn_find b j r f (p + 1) (by simpa using h) (fun i hi => by simpa using hn (i + 1) (Nat.succ_lt_succ hi))
    simp only [spn, if_neg h0]
    rw [this, List.drop_succ_cons, show p + 1 + j = p + (j + 1) by omega]
theorem spn_none (b : UInt8) : ∀ (l : List UInt8) (f p : Nat), (∀ i : Nat, l[i]? ≠ some b) → spn b l f p = if f < p + l.length then [(f, p + l.length)] else []
  | [], f, p, _ => by simp [spn]
  | c :: r, f, p, hn => by
    have h0 : c ≠ b := fun e => hn 0 (by rw [e]; rfl)
    have := spn_none b r f (p + 1) (fun i => by simpa using hn (i + 1))
    simp only [spn, if_neg h0]
    rw [this, List.length_cons, show p + 1 + r.length = p + (r.length + 1) by omega]

/-- How many bytes 10 a text begins with; how long a paragraph is. -/
def nls (l : List UInt8) : Nat := (l.takeWhile (fun c => c == 10)).length
theorem nls_le (l : List UInt8) : nls l ≤ l.length := by
  unfold nls
  induction l with
  | nil => simp
  | cons c t ih => rw [List.takeWhile_cons]; split <;> simp; exact ih
theorem nls_ten (t : List UInt8) : nls (10 :: t) = 1 + nls t := by simp [nls, List.takeWhile_cons]; omega
theorem nls_not {c : UInt8} (t : List UInt8) (h : c ≠ 10) : nls (c :: t) = 0 := by simp [nls, List.takeWhile_cons, h]
theorem nls_nil : nls [] = 0 := rfl
/-- Does a paragraph end here? -/
def stp (c : UInt8) (t : List UInt8) : Bool := decide (c = 10 ∧ (t = [] ∨ t.head? = some 10))
def bdy : List UInt8 → Nat
  | [] => 0
  | c :: t => if stp c t then 0 else 1 + bdy t
theorem bdy_le : ∀ l : List UInt8, bdy l ≤ l.length
  | [] => Nat.le_refl _
  | c :: t => by
    have := bdy_le t
    simp only [bdy, List.length_cons]
    split <;> omega
/-- A paragraph and the bytes 10 behind it. -/
def adv (l : List UInt8) : Nat := bdy l + nls (l.drop (bdy l))
theorem adv_le (l : List UInt8) : adv l ≤ l.length := by
  have h1 := bdy_le l
  have h2 := nls_le (l.drop (bdy l))
  rw [List.length_drop] at h2
  unfold adv
  omega
theorem adv_pos {l : List UInt8} (h : l ≠ []) : 0 < adv l := by
  cases l with
  | nil => exact absurd rfl h
  | cons c t =>
    unfold adv
    simp only [bdy]
    split
    · rename_i hs
      have : c = 10 := by
        unfold stp at hs
        simp only [decide_eq_true_eq] at hs
        exact hs.1
      subst this
      rw [List.drop_zero, nls_ten]
      omega
    · omega
/-- The paragraphs' places. -/
def pgs (l : List UInt8) (p : Nat) : List (Nat × Nat) := if h : l = [] then [] else (p, p + bdy l) :: pgs (l.drop (adv l)) (p + adv l)
termination_by l.length
decreasing_by
  have := adv_pos h
  have h0 : 0 < l.length := List.length_pos_iff.2 h
  rw [List.length_drop]
  omega
theorem pgs_nil (p : Nat) : pgs [] p = [] := by rw [pgs]; simp
theorem pgs_cons {l : List UInt8} (h : l ≠ []) (p : Nat) : pgs l p = (p, p + bdy l) :: pgs (l.drop (adv l)) (p + adv l) := by rw [pgs, dif_neg h]

/-- A place at which a paragraph ends. -/
def EndAt (l : List UInt8) (i : Nat) : Prop := l[i]? = some 10 ∧ (l.length = i + 1 ∨ l[i + 1]? = some 10)
theorem bdy_eq : ∀ (l : List UInt8) (i : Nat), i ≤ l.length → (i = l.length ∨ EndAt l i) → (∀ j, j < i → ¬ EndAt l j) → bdy l = i
  | [], i, hi, _, _ => by
    have : i = 0 := by simpa using hi
    rw [this]; rfl
  | c :: t, 0, hi, h, _ => by
    rcases h with h | ⟨h1, h2⟩
    · simp at h
    · have hc : c = 10 := by simpa using h1
      simp only [bdy]
      rw [if_pos]
      unfold stp
      rw [decide_eq_true_eq]
      refine ⟨hc, ?_⟩
      rcases h2 with h2 | h2
      · left; simpa using h2
      · right
        cases t with
        | nil => simp at h2
        | cons d u => simpa using h2
  | c :: t, i + 1, hi, h, hn => by
    have ih := bdy_eq t i (by simpa using hi) (by
      rcases h with h | ⟨h1, h2⟩
      · left; simpa using h
      · right
        refine ⟨by simpa using h1, ?_⟩
        rcases h2 with h2 | h2
        · left; simpa using h2
        · right; simpa using h2) (fun j hj he => hn (j + 1) (Nat.succ_lt_succ hj) (by
          obtain ⟨h1, h2⟩ := he
          refine ⟨by simpa using h1, ?_⟩
          rcases h2 with h2 | h2
          · left; simpa using h2
          · right; simpa using h2))
    have h0 := hn 0 (Nat.succ_pos i)
    simp only [bdy]
    rw [if_neg, ih, Nat.add_comm]
    intro hs
    unfold stp at hs
    rw [decide_eq_true_eq] at hs
    refine h0 ⟨by rw [hs.1]; rfl, ?_⟩
    rcases hs.2 with h2 | h2
    · left; simp [h2]
    · right
      cases t with
      | nil => cases h2
      | cons d u => simpa using h2

/-- What is left of a text whose end, from k on, is bytes 10 alone: no two of them ahead of k. -/
theorem bdy_none {l : List UInt8} {k : Nat} (hk : k ≤ l.length) (ht : ∀ j, k ≤ j → j < l.length → l[j]? = some 10) (hl : 0 < k → l[k - 1]? ≠ some 10) (hn : ∀ i, i + 1 < k → ¬ (l[i]? = some 10 ∧ l[i + 1]? = some 10)) : bdy l = k := by
  refine bdy_eq l k hk ?_ ?_
  · rcases Nat.lt_or_ge k l.length with h | h
    · right
      refine ⟨ht k (Nat.le_refl _) h, ?_⟩
      rcases Nat.lt_or_ge (k + 1) l.length with h2 | h2
      · right; exact ht (k + 1) (by omega) h2
      · left; omega
    · left; omega
  · rintro j hj ⟨h1, h2⟩
    by_cases e : j + 1 = k
    · exact hl (by omega) (by rw [← e]; exact h1)
    · rcases h2 with h2 | h2
      · omega
      · exact hn j (by omega) ⟨h1, h2⟩
theorem bdy_some {l : List UInt8} {k i : Nat} (hk : k ≤ l.length) (hi : i + 1 < k) (h1 : l[i]? = some 10) (h2 : l[i + 1]? = some 10) (hn : ∀ j, j < i → ¬ (l[j]? = some 10 ∧ l[j + 1]? = some 10)) : bdy l = i := by
  refine bdy_eq l i (by omega) (Or.inr ⟨h1, Or.inr h2⟩) ?_
  rintro j hj ⟨h3, h4⟩
  rcases h4 with h4 | h4
  · omega
  · exact hn j hj ⟨h3, h4⟩

theorem nls_spec (l : List UInt8) : (∀ j, j < nls l → l[j]? = some 10) ∧ l[nls l]? ≠ some 10 := by
  induction l with
  | nil => exact ⟨fun j hj => by simp [nls] at hj, by simp⟩
  | cons c t ih =>
    by_cases h : c = 10
    · subst h
      rw [nls_ten]
      refine ⟨fun j hj => ?_, ?_⟩
      · cases j with
        | zero => rfl
        | succ j => simpa using ih.1 j (by omega)
      · rw [Nat.add_comm]; simpa using ih.2
    · rw [nls_not t h]
      exact ⟨fun j hj => by omega, by simpa using h⟩
theorem nls_eq {l : List UInt8} {k : Nat} (h1 : ∀ j, j < k → l[j]? = some 10) (h2 : l[k]? ≠ some 10) : nls l = k := by
  obtain ⟨a, b⟩ := nls_spec l
  rcases Nat.lt_trichotomy (nls l) k with h | h | h
  · exact absurd (h1 _ h) b
  · exact h
  · exact absurd (a _ h) h2
/-- Behind a paragraph and its bytes 10 nothing stands, or a byte that is none. -/
theorem adv_next (l : List UInt8) : (l.drop (adv l))[0]? ≠ some 10 := by
  have := (nls_spec (l.drop (bdy l))).2
  rw [List.getElem?_drop] at this ⊢
  exact this

/-- What strings.TrimRight leaves of bytes 10. -/
theorem trimR_spec (l : List UInt8) : ∃ k, k ≤ l.length ∧ Lib.trimRightB l 10 = l.take k ∧ (∀ j, k ≤ j → j < l.length → l[j]? = some 10) ∧ (0 < k → l[k - 1]? ≠ some 10) := by
  have key : ∀ n, ∀ l : List UInt8, l.length = n → ∃ k, k ≤ l.length ∧ (∀ j, k ≤ j → j < l.length → l[j]? = some 10) ∧ (0 < k → l[k - 1]? ≠ some 10) := by
    intro n
    induction n with
    | zero => intro l h; exact ⟨0, Nat.zero_le _, fun j _ hj => by omega, fun h => by omega⟩
    | succ n ih =>
      intro l h
      by_cases e : l[n]? = some 10
      · obtain ⟨k, h1, h2, h3⟩ := ih (l.take n) (by rw [List.length_take]; omega)
        rw [List.length_take] at h1 h2
        refine ⟨k, by omega, fun j hj hjl => ?_, fun hk => ?_⟩
        · by_cases ej : j = n
          · rw [ej]; exact e
          · have := h2 j hj (by omega)
            rw [List.getElem?_take, if_pos (by omega)] at this
            exact this
        · have := h3 hk
          rw [List.getElem?_take, if_pos (by omega)] at this
          exact this
      · exact ⟨n + 1, by omega, fun j _ hj => by omega, fun _ => by simpa using e⟩
  obtain ⟨k, h1, h2, h3⟩ := key _ l rfl
  refine ⟨k, h1, Lib.trimRightB_take l 10 k h1 (fun j b hj hb => ?_) (fun b hk hb e => h3 hk (by rw [hb, e])), h2, h3⟩
  have := h2 j hj (List.getElem?_eq_some_iff.1 hb).1
  rw [hb] at this
  exact Option.some.inj this
/-- What strings.TrimLeft leaves of bytes 10. -/
theorem trimL_eq (l : List UInt8) : Lib.trimLeftB l 10 = l.drop (nls l) := by
  obtain ⟨a, b⟩ := nls_spec l
  refine Lib.trimLeftB_drop l 10 _ (nls_le l) (fun j c hj hc => ?_) (fun c hc e => b (by rw [hc, e]))
  have := a j hj
  rw [hc] at this
  exact Option.some.inj this

/-- Where two bytes 10 stand first. -/
theorem two_spec (l : List UInt8) : (Lib.index l [10, 10] = -1 ∧ ∀ i : Nat, ¬ (l[i]? = some 10 ∧ l[i + 1]? = some 10)) ∨ ∃ i : Nat, Lib.index l [10, 10] = i ∧ i + 1 < l.length ∧ l[i]? = some 10 ∧ l[i + 1]? = some 10 ∧ ∀ j, j < i → ¬ (l[j]? = some 10 ∧ l[j + 1]? = some 10) := by
  have hocc : ∀ j, Lib.occAt l [10, 10] j = true ↔ (l[j]? = some 10 ∧ l[j + 1]? = some 10) := by
    intro j
    unfold Lib.occAt
    rw [List.isPrefixOf_iff_prefix]
    constructor
    · rintro ⟨t, ht⟩
      have h0 := congrArg (·[0]?) ht
      have h1 := congrArg (·[1]?) ht
      simp only [List.getElem?_drop] at h0 h1
      exact ⟨by simpa using h0.symm, by simpa using h1.symm⟩
    · rintro ⟨h0, h1⟩
      obtain ⟨hj, e0⟩ := List.getElem?_eq_some_iff.1 h0
      obtain ⟨hj1, e1⟩ := List.getElem?_eq_some_iff.1 h1
      refine ⟨l.drop (j + 2), ?_⟩
      rw [List.drop_eq_getElem_cons hj, List.drop_eq_getElem_cons hj1, e0, e1]
      rfl
  rcases Lib.index_spec l [10, 10] with ⟨h, hn⟩ | ⟨i, h, hi, ho, hn⟩
  · refine Or.inl ⟨h, fun i hc => ?_⟩
    have hl := (List.getElem?_eq_some_iff.1 hc.1).1
    have := (hocc i).2 hc
    rw [hn i (by omega)] at this
    cases this
  · have hc := (hocc i).1 ho
    refine Or.inr ⟨i, h, (List.getElem?_eq_some_iff.1 hc.2).1, hc.1, hc.2, fun j hj hcj => ?_⟩
    have := (hocc j).2 hcj
    rw [hn j hj] at this
    cases this

end Go.Proofs.YteaibkbdoocifaaDoor.inps
