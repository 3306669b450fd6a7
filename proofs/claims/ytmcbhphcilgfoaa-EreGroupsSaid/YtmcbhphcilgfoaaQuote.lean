/- What ere.Parse answers of a text each byte of which is quoted. -/
import Derived.Test.YtmcbhphcilgfoaaParse
namespace Go.Proofs.Ytmcbhphcilgfoaa.quote
set_option linter.unusedVariables false set_option linter.unusedSimpArgs false
open Go.Proofs.Ytmcbhphcilgfoaa.base Go.Proofs.Ytmcbhphcilgfoaa.read Go.Proofs.Ytmcbhphcilgfoaa.spec Go.Proofs.Ytmcbhphcilgfoaa.nums Go.Proofs.Ytmcbhphcilgfoaa.items Go.Proofs.Ytmcbhphcilgfoaa.set

/-- A digit or a letter. -/
def aln (c : UInt8) : Bool := (48 ≤ c && c ≤ 57) || (97 ≤ c && c ≤ 122) || (65 ≤ c && c ≤ 90)
def tokq (c : UInt8) : List UInt8 := if aln c then [91, c, 93] else [92, c]
def quo : List UInt8 → List UInt8
  | [] => []
  | c :: t => tokq c ++ quo t

theorem quo_hd (l : List UInt8) : (quo l = [] ∧ l = []) ∨ (∃ t, quo l = 91 :: t) ∨ (∃ t, quo l = 92 :: t) := by
  cases l with
  | nil => exact Or.inl ⟨rfl, rfl⟩
  | cons c t =>
    right
    unfold quo tokq
    by_cases h : aln c = true
    · rw [if_pos h]; exact Or.inl ⟨_, rfl⟩
    · rw [if_neg h]; exact Or.inr ⟨_, rfl⟩
theorem quo_rep (l : List UInt8) : atRep (quo l) = false := by
  rcases quo_hd l with ⟨h, _⟩ | ⟨t, h⟩ | ⟨t, h⟩ <;> rw [h] <;> rfl
theorem quo_rng (l : List UInt8) : atRange (93 :: l) = false := rfl

theorem aln_facts (c : UInt8) : (aln c = true → c ≠ 94 ∧ c ≠ 91 ∧ c ≠ 92 ∧ c ≠ 93) ∧ (aln c = false → escByte c = c ∧ ¬ (c - 48).toNat < 8) ∧ setText (addF emptyF c c) = [c] := by
  have h : ∀ n : Fin 256, (aln (UInt8.ofNat n.val) = true → UInt8.ofNat n.val ≠ 94 ∧ UInt8.ofNat n.val ≠ 91 ∧ UInt8.ofNat n.val ≠ 92 ∧ UInt8.ofNat n.val ≠ 93) ∧ (aln (UInt8.ofNat n.val) = false → escByte (UInt8.ofNat n.val) = UInt8.ofNat n.val ∧ ¬ (UInt8.ofNat n.val - 48).toNat < 8) ∧ setText (addF emptyF (UInt8.ofNat n.val) (UInt8.ofNat n.val)) = [UInt8.ofNat n.val] := by decide +kernel
  have := h ⟨c.toNat, c.toNat_lt⟩
  simpa using this

theorem pre2_ne {c : UInt8} {t : List UInt8} (h : c ≠ 91) : pre2 (c :: t) 91 58 = false := by
  cases t with
  | nil => rfl
  | cons y t => simp [pre2, h]

theorem piece_tok (g : List UInt8 → Res Part) (c : UInt8) (t : List UInt8) : piece g (tokq c ++ quo t) = .ok (oneP c) (quo t) := by
  obtain ⟨h1, h2, h3⟩ := aln_facts c
  by_cases h : aln c = true
  · obtain ⟨e1, e2, e3, e4⟩ := h1 h
    have hit : items ((c :: 93 :: quo t).length + 1) true emptyF (c :: 93 :: quo t) = .ok (addF emptyF c c) (quo t) := by
      show items ((c :: 93 :: quo t).length + 1) true emptyF (c :: 93 :: quo t) = _
      rw [items]
      rw [if_neg (by simp)]
      have hi : item emptyF (c :: 93 :: quo t) = .ok (addF emptyF c c) (93 :: quo t) := by
        rw [item, pre2_ne e2]
        simp [itemByte, e3, atRange, hd]
      rw [hi]
      simp only [List.length_cons]
      rw [items, if_pos (by simp [hd])]
      rfl
    have hb : bracket (c :: 93 :: quo t) = .ok (oneP c) (quo t) := by
      unfold bracket
      rw [if_neg (by simp [hd, e1]), hit]
      simp only [setP, h3, oneP]
    have ha : atom g (91 :: c :: 93 :: quo t) = .ok (oneP c) (quo t) := by
      unfold atom
      rw [if_neg (by simp [atRep, hd])]
      simp [hb]
    show piece g (tokq c ++ quo t) = _
    rw [show tokq c = [91, c, 93] by rw [tokq, if_pos h]]
    show piece g (91 :: c :: 93 :: quo t) = _
    rw [piece, ha]
    simp only
    rw [repsF, if_neg (by rw [quo_rep]; decide)]
  · have h' : aln c = false := by simpa using h
    obtain ⟨e1, e2⟩ := h2 h'
    have he : esc (c :: quo t) = .ok c (quo t) := by
      have ho : octF 3 0 false (c :: quo t) = (0, false, c :: quo t) := by
        show octF (2 + 1) 0 false (c :: quo t) = _
        rw [octF, show dgt 8 (c :: quo t) = none by simp only [dgt]; rw [if_neg e2]]
      simp only [esc, ho, e1]
      rfl
    have ha : atom g (92 :: c :: quo t) = .ok (oneP c) (quo t) := by
      unfold atom
      rw [if_neg (by simp [atRep, hd])]
      simp [he]
    rw [show tokq c = [92, c] by rw [tokq, if_neg h]]
    show piece g (92 :: c :: quo t) = _
    rw [piece, ha]
    simp only
    rw [repsF, if_neg (by rw [quo_rep]; decide)]

def forestOf : Forest → List UInt8 → Forest
  | f, [] => f
  | f, c :: t => forestOf (f.snoc (oneP c).t) t
theorem forestOf_len (f : Forest) (l : List UInt8) : (forestOf f l).len = f.len + l.length := by
  induction l generalizing f with
  | nil => rfl
  | cons c t ih => rw [forestOf, ih, Forest.len_snoc]; simp only [List.length_cons]; omega

theorem ends_quo (c : UInt8) (t : List UInt8) : ends (tokq c ++ quo t) = false := by
  unfold tokq
  split <;> rfl
theorem branchF_quo (g : List UInt8 → Res Part) (n : Nat) (r : Row) (l : List UInt8) (hn : (quo l).length < n) (hr : r.n + l.length < 2001) : branchF g n r (quo l) = .ok ⟨forestOf r.kids l, r.n + l.length⟩ [] := by
  induction l generalizing n r with
  | nil =>
    obtain ⟨m, rfl⟩ : ∃ m, n = m + 1 := ⟨n - 1, by simp only [quo, List.length_nil] at hn; omega⟩
    rw [branchF, if_pos (by rfl)]
    rfl
  | cons c t ih =>
    obtain ⟨m, rfl⟩ : ∃ m, n = m + 1 := ⟨n - 1, by omega⟩
    simp only [List.length_cons] at hr
    rw [branchF, if_neg (by rw [quo, ends_quo]; decide), quo, piece_tok]
    simp only
    have hl : (quo t).length < m := by
      rw [quo, List.length_append] at hn
      have : 2 ≤ (tokq c).length := by unfold tokq; split <;> simp
      omega
    have hadd : r.add (oneP c) = ⟨r.kids.snoc (oneP c).t, r.n + 1⟩ := by rw [Row.add, if_pos (by show r.n + 1 < 2001; omega)]; rfl
    rw [hadd, ih m _ hl (by show r.n + 1 + t.length < 2001; omega)]
    simp only [forestOf, List.length_cons]
    congr 2
    omega

/-- The tree of a quoted text. -/
def quoT (l : List UInt8) : T := ⟨catW, ⟨#[]⟩, 0, 0, forestOf .nil l⟩
theorem parse_quo (l : List UInt8) (h2 : 2 ≤ l.length) (h600 : l.length ≤ 600) : parse (quo l) = (quoT l, 0) := by
  have hb : branch (groupN 100) (quo l) = .ok ⟨quoT l, l.length⟩ [] := by
    unfold branch
    rw [branchF_quo (groupN 100) _ row0 l (by omega) (by show 0 + l.length < 2001; omega)]
    simp only
    congr 1
    have hk : (forestOf row0.kids l).len = l.length := by rw [forestOf_len]; show 0 + l.length = _; omega
    rw [Row.join, if_neg (by rw [hk]; omega), sizedP, if_neg (by show ¬ 2000 < 0 + l.length + 0; omega)]
    show (⟨⟨catW, ⟨#[]⟩, 0, 0, forestOf .nil l⟩, 0 + l.length + 0⟩ : Part) = _
    simp only [Nat.zero_add, Nat.add_zero]
    rfl
  have he : expr (groupN 100) (quo l) = .ok ⟨quoT l, l.length⟩ [] := by
    unfold expr
    rw [exprF, hb]
    simp only
    rw [if_neg (by decide)]
    simp only
    have hadd : row0.add ⟨quoT l, l.length⟩ = ⟨Forest.nil.snoc (quoT l), 0 + l.length⟩ := by rw [Row.add, if_pos (by show 0 + l.length < 2001; omega)]; rfl
    rw [hadd, Row.join, if_pos (by rfl)]
    simp only [Nat.zero_add]
    rfl
  unfold parse
  rw [he]
  simp only
  rw [if_neg (by decide), if_neg (by show ¬ 2000 < l.length; omega)]
end Go.Proofs.Ytmcbhphcilgfoaa.quote
