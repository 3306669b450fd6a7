/- How many nodes the tree of a text has. -/
import Derived.Test.YtmcbhphcilgfoaaSim
import Derived.Test.YtmcbhphcilgfoaaAwake3
namespace Go.Proofs.Ytmcbhphcilgfoaa.sim
set_option linter.unusedVariables false set_option linter.unusedSimpArgs false
open Go.Proofs.Ytmcbhphcilgfoaa.base Go.Proofs.Ytmcbhphcilgfoaa.read Go.Proofs.Ytmcbhphcilgfoaa.spec Go.Proofs.Ytmcbhphcilgfoaa.nums Go.Proofs.Ytmcbhphcilgfoaa.items Go.Proofs.Ytmcbhphcilgfoaa.sets Go.Proofs.Ytmcbhphcilgfoaa.law03

def fsz : Forest → Nat
  | .nil => 0
  | .cons _ _ _ _ k r => 1 + fsz k + fsz r
def nd (t : T) : Nat := 1 + fsz t.kids
theorem fsz_snoc (f : Forest) (t : T) : fsz (f.snoc t) = fsz f + nd t := by
  induction f with
  | nil => simp [Forest.snoc, fsz, nd]
  | cons op set lo hi k r _ ih =>
    simp only [Forest.snoc, fsz, ih]
    omega
theorem nd_head {f : Forest} (h : f.len = 1) : nd f.head = fsz f := by
  cases f with
  | nil => cases h
  | cons op set lo hi k r =>
    cases r with
    | nil => simp [Forest.head, nd, fsz]
    | cons op2 set2 lo2 hi2 k2 r2 => simp only [Forest.len] at h; omega
theorem len_fsz (f : Forest) : f.len ≤ fsz f := by
  induction f with
  | nil => exact Nat.le_refl _
  | cons op set lo hi k r _ ih => simp only [Forest.len, fsz]; omega
theorem nth_nd {f : Forest} {j : Nat} {t : T} (h : nth f j = some t) : nd t ≤ fsz f := by
  induction f generalizing j with
  | nil => cases h
  | cons op set lo hi k r _ ih =>
    cases j with
    | zero =>
      cases h
      simp only [nd, fsz]
      omega
    | succ j =>
      have := ih h
      simp only [fsz]
      omega
theorem nth_some {f : Forest} {j : Nat} (h : j < f.len) : ∃ t, nth f j = some t := by
  induction f generalizing j with
  | nil => cases h
  | cons op set lo hi k r _ ih =>
    cases j with
    | zero => exact ⟨_, rfl⟩
    | succ j => exact ih (by simp only [Forest.len] at h; omega)

theorem nd_sized (op set : ByteArray) (lo hi : Int) (k : Forest) (n : Nat) : nd (sizedP ⟨op, set, lo, hi, k⟩ n).t ≤ 1 + fsz k := by
  unfold sizedP
  split
  · show 1 + 0 ≤ _; omega
  · exact Nat.le_refl _
theorem nd_rep (p : Part) (lo hi : Int) : nd (repP p lo hi).t ≤ nd p.t + 1 := by
  unfold repP
  split
  · omega
  · have := nd_sized repW ⟨#[]⟩ lo hi (Forest.nil.snoc p.t) (p.n * timesOf lo hi + 1)
    rw [fsz_snoc] at this
    simp only [fsz] at this
    omega
theorem nd_add (r : Row) (p : Part) : fsz (r.add p).kids ≤ fsz r.kids + nd p.t := by
  unfold Row.add
  split
  · rw [fsz_snoc]; exact Nat.le_refl _
  · exact Nat.zero_le _
theorem nd_join (r : Row) (op : ByteArray) (own : Nat) : nd (r.join op own).t ≤ 1 + fsz r.kids := by
  unfold Row.join
  split
  · have := nd_head (by assumption)
    show nd r.kids.head ≤ _
    omega
  · exact nd_sized _ _ _ _ _ _
theorem nd_repeat {p p' : Part} {l l' : List UInt8} (h : repeatL p l = .ok p' l') : nd p'.t + l'.length ≤ nd p.t + l.length := by
  cases l with
  | nil => cases h
  | cons c t =>
    unfold repeatL at h
    simp only at h
    simp only [List.length_cons]
    split at h
    · cases h; have := nd_rep p 0 (-1); omega
    · split at h
      · cases h; have := nd_rep p 1 (-1); omega
      · split at h
        · cases h; have := nd_rep p 0 1; omega
        · split at h
          · cases h
          · rename_i lo hi t' hi'
            have h1 := interval_len hi'
            cases h
            have := nd_rep p lo hi
            omega
theorem nd_reps {n : Nat} {p p' : Part} {l l' : List UInt8} (h : repsF n p l = .ok p' l') : nd p'.t + l'.length ≤ nd p.t + l.length := by
  induction n generalizing p l with
  | zero => cases h
  | succ n ih =>
    rw [repsF] at h
    split at h
    · split at h
      · cases h
      · rename_i p1 l1 hr
        have h1 := nd_repeat hr
        have h2 := ih h
        omega
    · cases h; exact Nat.le_refl _
def NdG (g : List UInt8 → Res Part) : Prop := ∀ l p l', g l = .ok p l' → nd p.t + l'.length ≤ l.length + 1
theorem nd_bracket {p : Part} {l l' : List UInt8} (h : bracket l = .ok p l') : nd p.t = 1 := by
  unfold bracket at h
  split at h
  · split at h
    · cases h
    · cases h; rfl
  · split at h
    · cases h
    · cases h; rfl
theorem nd_atom {g : List UInt8 → Res Part} (hg : NdG g) {p : Part} {l l' : List UInt8} (h : atom g l = .ok p l') : nd p.t + l'.length ≤ l.length := by
  unfold atom at h
  split at h
  · cases h
  · cases l with
    | nil => cases h
    | cons c t =>
      simp only at h
      simp only [List.length_cons]
      split at h
      · exact hg _ _ _ h
      · split at h
        · have := bracket_len h
          have := nd_bracket h
          omega
        · split at h
          · split at h
            · cases h
            · rename_i b t' he
              have := esc_len he
              cases h
              show 1 + 0 + _ ≤ _
              omega
          · repeat' split at h
            all_goals cases h
            all_goals (show 1 + 0 + _ ≤ _; omega)
theorem nd_piece {g : List UInt8 → Res Part} (hg : NdG g) {p : Part} {l l' : List UInt8} (h : piece g l = .ok p l') : nd p.t + l'.length ≤ l.length := by
  unfold piece at h
  split at h
  · cases h
  · have h1 := nd_atom hg (by assumption)
    have h2 := nd_reps h
    omega
theorem nd_branchF {g : List UInt8 → Res Part} (hg : NdG g) {n : Nat} {r r' : Row} {l l' : List UInt8} (h : branchF g n r l = .ok r' l') : fsz r'.kids + l'.length ≤ fsz r.kids + l.length := by
  induction n generalizing r l with
  | zero => cases h
  | succ n ih =>
    rw [branchF] at h
    split at h
    · cases h; exact Nat.le_refl _
    · split at h
      · cases h
      · rename_i p1 l1 hp
        have h1 := nd_piece hg hp
        have h2 := ih h
        have h3 := nd_add r p1
        omega
theorem nd_branch {g : List UInt8 → Res Part} (hg : NdG g) {p : Part} {l l' : List UInt8} (h : branch g l = .ok p l') : nd p.t + l'.length ≤ l.length + 1 := by
  unfold branch at h
  split at h
  · cases h
  · rename_i r1 l1 hb
    have h1 := nd_branchF hg hb
    cases h
    have h2 := nd_join r1 catW 0
    have h3 : fsz row0.kids = 0 := rfl
    omega
theorem nd_exprF {g : List UInt8 → Res Part} (hg : NdG g) {n : Nat} {r r' : Row} {l l' : List UInt8} (h : exprF g n r l = .ok r' l') : fsz r'.kids + l'.length ≤ fsz r.kids + l.length + 1 := by
  induction n generalizing r l with
  | zero => cases h
  | succ n ih =>
    rw [exprF] at h
    split at h
    · cases h
    · rename_i p1 l1 hb
      have h1 := nd_branch hg hb
      have h3 := nd_add r p1
      split at h
      · rename_i hh
        obtain ⟨t, rfl⟩ := hd_cons hh
        have h2 := ih h
        simp only [List.tail_cons, List.length_cons] at h1 h2
        omega
      · cases h
        omega
theorem nd_expr {g : List UInt8 → Res Part} (hg : NdG g) {p : Part} {l l' : List UInt8} (h : expr g l = .ok p l') : nd p.t + l'.length ≤ l.length + 2 := by
  unfold expr at h
  split at h
  · cases h
  · rename_i r1 l1 hb
    have h1 := nd_exprF hg hb
    cases h
    have h2 := nd_join r1 altW 1
    have h3 : fsz row0.kids = 0 := rfl
    omega
theorem nd_group (k : Nat) : NdG (groupN k) := by
  induction k with
  | zero => intro l p l' h; cases h
  | succ k ih =>
    intro l p l' h
    rw [groupN] at h
    simp only at h
    split at h
    · cases h
    · rename_i p1 l1 he
      have h1 := nd_expr ih he
      split at h
      · rename_i hh
        obtain ⟨t, rfl⟩ := hd_cons hh
        cases h
        simp only [List.tail_cons, List.length_cons] at h1 ⊢
        omega
      · cases h
theorem nd_parse {u : List UInt8} {t : T} (h : parse u = (t, 0)) : nd t ≤ u.length + 2 := by
  obtain ⟨p, hp, _, rfl⟩ := parse_ok h
  have := nd_expr (nd_group 100) hp
  omega
end Go.Proofs.Ytmcbhphcilgfoaa.sim
