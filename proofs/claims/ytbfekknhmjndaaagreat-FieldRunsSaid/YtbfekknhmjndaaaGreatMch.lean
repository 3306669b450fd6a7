/- The tree of a text: how many nodes it has, and how long its sets are. Contract of the law's machine: the machine of a text. -/
import Derived.Test.YtbfekknhmjndaaaGreatMake
import Derived.Test.YtbfekknhmjndaaaGreatRun
import Derived.Test.YtbfekknhmjndaaaGreatParse

namespace Go.Proofs.YtbfekknhmjndaaaGreat.part
set_option linter.unusedVariables false set_option linter.unusedSimpArgs false
open Go.Proofs.YtbfekknhmjndaaaGreat.base Go.Proofs.YtbfekknhmjndaaaGreat.read Go.Proofs.YtbfekknhmjndaaaGreat.spec Go.Proofs.YtbfekknhmjndaaaGreat.nums Go.Proofs.YtbfekknhmjndaaaGreat.items Go.Proofs.YtbfekknhmjndaaaGreat.set Go.Proofs.YtbfekknhmjndaaaGreat.parts

theorem nd_head {f : Forest} (h : f.len = 1) : nd f.head = fsz f := by
  cases f with
  | nil => cases h
  | cons op set lo hi k r =>
    cases r with
    | nil => simp [Forest.head, nd, fsz]
    | cons op2 set2 lo2 hi2 k2 r2 => simp only [Forest.len] at h; omega
theorem nd_sized (op set : ByteArray) (lo hi : Int) (k : Forest) (n : Nat) : nd (sizedP ⟨op, set, lo, hi, k⟩ n).t ≤ 1 + fsz k := by
  unfold sizedP
  split
  · show 1 + 0 ≤ _; omega
  · exact Nat.le_refl _
theorem nd_rep (p : Part) (lo hi : Int) : nd (repP p lo hi).t ≤ nd p.t + 1 := by
  unfold repP
  split
  · omega
  · have := nd_sized repW ⟨#[]⟩ lo hi (Forest.nil.snoc p.t) (p.n * timesOf lo hi + 1)
    rw [fszs] at this
    simp only [fsz] at this
    omega
theorem nd_add (r : Row) (p : Part) : fsz (r.add p).kids ≤ fsz r.kids + nd p.t := by
  unfold Row.add
  split
  · rw [fszs]; exact Nat.le_refl _
  · exact Nat.zero_le _
theorem nd_join (r : Row) (op : ByteArray) (own : Nat) : nd (r.join op own).t ≤ 1 + fsz r.kids := by
  unfold Row.join
  split
  · have := nd_head (by assumption)
    show nd r.kids.head ≤ _
    omega
  · exact nd_sized _ _ _ _ _ _
theorem nd_repeat {p p' : Part} {l l' : List UInt8} (h : repeatL p l = .ok p' l') : nd p'.t + l'.length ≤ nd p.t + l.length := by
  cases l with
  | nil => cases h
  | cons c t =>
    unfold repeatL at h
    simp only at h
    simp only [List.length_cons]
    split at h
    · cases h; have := nd_rep p 0 (-1); omega
    · split at h
      · cases h; have := nd_rep p 1 (-1); omega
      · split at h
        · cases h; have := nd_rep p 0 1; omega
        · split at h
          · cases h
          · rename_i lo hi t' hi'
            have h1 := interval_len hi'
            cases h
            have := nd_rep p lo hi
            omega
theorem nd_reps {n : Nat} {p p' : Part} {l l' : List UInt8} (h : repsF n p l = .ok p' l') : nd p'.t + l'.length ≤ nd p.t + l.length := by
  induction n generalizing p l with
  | zero => cases h
  | succ n ih =>
    rw [repsF] at h
    split at h
    · split at h
      · cases h
      · rename_i p1 l1 hr
        have h1 := nd_repeat hr
        have h2 := ih h
        omega
    · cases h; exact Nat.le_refl _
def NdG (g : List UInt8 → Res Part) : Prop := ∀ l p l', g l = .ok p l' → nd p.t + l'.length ≤ l.length + 1
theorem nd_bracket {p : Part} {l l' : List UInt8} (h : bracket l = .ok p l') : nd p.t = 1 := by
  unfold bracket at h
  split at h
  · split at h
    · cases h
    · cases h; rfl
  · split at h
    · cases h
    · cases h; rfl
theorem nd_atom {g : List UInt8 → Res Part} (hg : NdG g) {p : Part} {l l' : List UInt8} (h : atom g l = .ok p l') : nd p.t + l'.length ≤ l.length := by
  unfold atom at h
  split at h
  · cases h
  · cases l with
    | nil => cases h
    | cons c t =>
      simp only at h
      simp only [List.length_cons]
      split at h
      · exact hg _ _ _ h
      · split at h
        · have := bracket_len h
          have := nd_bracket h
          omega
        · split at h
          · split at h
            · cases h
            · rename_i b t' he
              have := esc_len he
              cases h
              show 1 + 0 + _ ≤ _
              omega
          · repeat' split at h
            all_goals cases h
            all_goals (show 1 + 0 + _ ≤ _; omega)
theorem nd_piece {g : List UInt8 → Res Part} (hg : NdG g) {p : Part} {l l' : List UInt8} (h : piece g l = .ok p l') : nd p.t + l'.length ≤ l.length := by
  unfold piece at h
  split at h
  · cases h
  · have h1 := nd_atom hg (by assumption)
    have h2 := nd_reps h
    omega
theorem nd_branchF {g : List UInt8 → Res Part} (hg : NdG g) {n : Nat} {r r' : Row} {l l' : List UInt8} (h : branchF g n r l = .ok r' l') : fsz r'.kids + l'.length ≤ fsz r.kids + l.length := by
  induction n generalizing r l with
  | zero => cases h
  | succ n ih =>
    rw [branchF] at h
    split at h
    · cases h; exact Nat.le_refl _
    · split at h
      · cases h
      · rename_i p1 l1 hp
        have h1 := nd_piece hg hp
        have h2 := ih h
        have h3 := nd_add r p1
        omega
theorem nd_branch {g : List UInt8 → Res Part} (hg : NdG g) {p : Part} {l l' : List UInt8} (h : branch g l = .ok p l') : nd p.t + l'.length ≤ l.length + 1 := by
  unfold branch at h
  split at h
  · cases h
  · rename_i r1 l1 hb
    have h1 := nd_branchF hg hb
    cases h
    have h2 := nd_join r1 catW 0
    have h3 : fsz row0.kids = 0 := rfl
    omega
theorem nd_exprF {g : List UInt8 → Res Part} (hg : NdG g) {n : Nat} {r r' : Row} {l l' : List UInt8} (h : exprF g n r l = .ok r' l') : fsz r'.kids + l'.length ≤ fsz r.kids + l.length + 1 := by
  induction n generalizing r l with
  | zero => cases h
  | succ n ih =>
    rw [exprF] at h
    split at h
    · cases h
    · rename_i p1 l1 hb
      have h1 := nd_branch hg hb
      have h3 := nd_add r p1
      split at h
      · rename_i hh
        obtain ⟨t, rfl⟩ := hd_cons hh
        have h2 := ih h
        simp only [List.tail_cons, List.length_cons] at h1 h2
        omega
      · cases h
        omega
theorem nd_expr {g : List UInt8 → Res Part} (hg : NdG g) {p : Part} {l l' : List UInt8} (h : expr g l = .ok p l') : nd p.t + l'.length ≤ l.length + 2 := by
  unfold expr at h
  split at h
  · cases h
  · rename_i r1 l1 hb
    have h1 := nd_exprF hg hb
    cases h
    have h2 := nd_join r1 altW 1
    have h3 : fsz row0.kids = 0 := rfl
    omega
theorem nd_group (k : Nat) : NdG (groupN k) := by
  induction k with
  | zero => intro l p l' h; cases h
  | succ k ih =>
    intro l p l' h
    rw [groupN] at h
    simp only at h
    split at h
    · cases h
    · rename_i p1 l1 he
      have h1 := nd_expr ih he
      split at h
      · rename_i hh
        obtain ⟨t, rfl⟩ := hd_cons hh
        cases h
        simp only [List.tail_cons, List.length_cons] at h1 ⊢
        omega
      · cases h

theorem szf_snoc {f : Forest} {t : T} (h : SzF f) (k : SzT t) : SzF (f.snoc t) := by
  induction f with
  | nil => exact ⟨k.1, k.2, trivial⟩
  | cons op set lo hi kd r _ ih => exact ⟨h.1, h.2.1, ih h.2.2⟩
theorem szf_head {f : Forest} (h : SzF f) (hl : f.len = 1) : SzT f.head := by
  cases f with
  | nil => cases hl
  | cons op set lo hi k r => exact ⟨h.1, h.2.1⟩
theorem sz_zT : SzT zT := ⟨Nat.zero_le _, trivial⟩
theorem sz_sized {op set : ByteArray} {lo hi : Int} {k : Forest} {n : Nat} (h : SzT ⟨op, set, lo, hi, k⟩) : SzT (sizedP ⟨op, set, lo, hi, k⟩ n).t := by
  unfold sizedP
  split
  · exact sz_zT
  · exact h
theorem sz_rep {p : Part} (lo hi : Int) (h : SzT p.t) : SzT (repP p lo hi).t := by
  unfold repP
  split
  · exact h
  · exact sz_sized ⟨Nat.zero_le _, szf_snoc (f := .nil) trivial h⟩
theorem sz_add {r : Row} {p : Part} (h : SzF r.kids) (k : SzT p.t) : SzF (r.add p).kids := by
  unfold Row.add
  split
  · exact szf_snoc h k
  · trivial
theorem sz_join {r : Row} (op : ByteArray) (own : Nat) (h : SzF r.kids) : SzT (r.join op own).t := by
  unfold Row.join
  split
  · exact szf_head h (by assumption)
  · exact sz_sized ⟨Nat.zero_le _, h⟩
theorem sz_repeat {p p' : Part} {l l' : List UInt8} (hp : SzT p.t) (h : repeatL p l = .ok p' l') : SzT p'.t := by
  cases l with
  | nil => cases h
  | cons c t =>
    unfold repeatL at h
    simp only at h
    split at h
    · cases h; exact sz_rep _ _ hp
    · split at h
      · cases h; exact sz_rep _ _ hp
      · split at h
        · cases h; exact sz_rep _ _ hp
        · split at h
          · cases h
          · cases h; exact sz_rep _ _ hp
theorem sz_reps {n : Nat} {p p' : Part} {l l' : List UInt8} (hp : SzT p.t) (h : repsF n p l = .ok p' l') : SzT p'.t := by
  induction n generalizing p l with
  | zero => cases h
  | succ n ih =>
    rw [repsF] at h
    split at h
    · split at h
      · cases h
      · rename_i p1 l1 hr
        exact ih (sz_repeat hp hr) h
    · cases h; exact hp
def SzG (g : List UInt8 → Res Part) : Prop := ∀ l p l', g l = .ok p l' → SzT p.t
theorem sz_set (f : Nat → Bool) : SzT (setP f).t := by
  refine ⟨?_, trivial⟩
  have h : (setText f).length ≤ 256 := by
    unfold setText
    rw [List.length_map]
    exact Nat.le_trans (List.length_filter_le _ _) (by simp)
  show (setText f).toArray.size ≤ _
  simp
  omega
theorem sz_one (c : UInt8) : SzT (oneP c).t := ⟨by show 1 ≤ _; omega, trivial⟩
theorem sz_edge (op : ByteArray) : SzT (edgeP op).t := ⟨Nat.zero_le _, trivial⟩
theorem sz_bracket {p : Part} {l l' : List UInt8} (h : bracket l = .ok p l') : SzT p.t := by
  unfold bracket at h
  split at h
  · split at h
    · cases h
    · cases h; exact sz_set _
  · split at h
    · cases h
    · cases h; exact sz_set _
theorem sz_atom {g : List UInt8 → Res Part} (hg : SzG g) {p : Part} {l l' : List UInt8} (h : atom g l = .ok p l') : SzT p.t := by
  unfold atom at h
  split at h
  · cases h
  · cases l with
    | nil => cases h
    | cons c t =>
      simp only at h
      split at h
      · exact hg _ _ _ h
      · split at h
        · exact sz_bracket h
        · split at h
          · split at h
            · cases h
            · cases h; exact sz_one _
          · split at h
            · cases h; exact sz_set _
            · split at h
              · cases h; exact sz_edge _
              · split at h
                · cases h; exact sz_edge _
                · cases h; exact sz_one _
theorem sz_piece {g : List UInt8 → Res Part} (hg : SzG g) {p : Part} {l l' : List UInt8} (h : piece g l = .ok p l') : SzT p.t := by
  unfold piece at h
  split at h
  · cases h
  · exact sz_reps (sz_atom hg (by assumption)) h
theorem sz_branchF {g : List UInt8 → Res Part} (hg : SzG g) {n : Nat} {r r' : Row} {l l' : List UInt8} (hr : SzF r.kids) (h : branchF g n r l = .ok r' l') : SzF r'.kids := by
  induction n generalizing r l with
  | zero => cases h
  | succ n ih =>
    rw [branchF] at h
    split at h
    · cases h; exact hr
    · split at h
      · cases h
      · exact ih (sz_add hr (sz_piece hg (by assumption))) h
theorem sz_branch {g : List UInt8 → Res Part} (hg : SzG g) {p : Part} {l l' : List UInt8} (h : branch g l = .ok p l') : SzT p.t := by
  unfold branch at h
  split at h
  · cases h
  · rename_i r1 l1 hb
    have h1 := sz_branchF hg (r := row0) trivial hb
    cases h
    exact sz_join _ _ h1
theorem sz_exprF {g : List UInt8 → Res Part} (hg : SzG g) {n : Nat} {r r' : Row} {l l' : List UInt8} (hr : SzF r.kids) (h : exprF g n r l = .ok r' l') : SzF r'.kids := by
  induction n generalizing r l with
  | zero => cases h
  | succ n ih =>
    rw [exprF] at h
    split at h
    · cases h
    · rename_i p1 l1 hb
      have h3 := sz_add hr (sz_branch hg hb)
      split at h
      · exact ih h3 h
      · cases h; exact h3
theorem sz_expr {g : List UInt8 → Res Part} (hg : SzG g) {p : Part} {l l' : List UInt8} (h : expr g l = .ok p l') : SzT p.t := by
  unfold expr at h
  split at h
  · cases h
  · rename_i r1 l1 hb
    have h1 := sz_exprF hg (r := row0) trivial hb
    cases h
    exact sz_join _ _ h1
theorem sz_group (k : Nat) : SzG (groupN k) := by
  induction k with
  | zero => intro l p l' h; cases h
  | succ k ih =>
    intro l p l' h
    rw [groupN] at h
    simp only at h
    split at h
    · cases h
    · rename_i p1 l1 he
      have h1 := sz_expr ih he
      split at h
      · cases h; exact h1
      · cases h
/-- The tree that a text is read as, or the one at a fault. -/
theorem grow_parse (u : List UInt8) : nd (parse u).1 ≤ u.length + 2 ∧ SzT (parse u).1 := by
  have hz : nd zT ≤ u.length + 2 ∧ SzT zT := ⟨by show 1 + 0 ≤ _; omega, sz_zT⟩
  unfold parse
  split
  · exact hz
  · rename_i p l' he
    split
    · exact hz
    · split
      · exact hz
      · have := nd_expr (nd_group 100) he
        exact ⟨by show nd p.t ≤ _; omega, sz_expr (sz_group 100) he⟩
end Go.Proofs.YtbfekknhmjndaaaGreat.part

namespace Go.Proofs.YtbfekknhmjndaaaGreat.part
set_option linter.unusedVariables false set_option linter.unusedSimpArgs false
open Go.ChangeShapes Go.WideShapes Go.ChangeAt Go.RowKit Go.Proofs.YtbfekknhmjndaaaGreat.base Go.Proofs.YtbfekknhmjndaaaGreat.spec Go.Proofs.YtbfekknhmjndaaaGreat.nfa Go.Proofs.YtbfekknhmjndaaaGreat.set Go.Proofs.YtbfekknhmjndaaaGreat.parts Go.Proofs.YtbfekknhmjndaaaGreat.items

theorem StW.up {w : World} {B B' SB o : Nat} {st : St} (h : StW w B SB o st) (hB : B ≤ B') : StW w B' SB o st := by
  cases st with
  | acc => exact h
  | take f nx => obtain ⟨h1, h2, fb, h3, h4, h5⟩ := h; exact ⟨h1, h2, fb, h3, Nat.lt_of_lt_of_le h4 hB, h5⟩
  | fork a b => exact h
  | bol a => exact h
  | eol a => exact h
theorem machW_up {w : World} {B B' MB : Nat} {M : Nm} {f : Nat → Bool} {em : Bool} {SB cap : Nat} (h : MachW w B MB M f em SB cap) (hB : B ≤ B') : MachW w B' MB M f em SB cap :=
  ⟨h.c0, h.c1, h.c2, h.c3, Nat.lt_of_lt_of_le h.hM hB, Nat.lt_of_lt_of_le h.hS hB, fun k st hk => StW.up (h.st k st hk) hB, h.n⟩
/-- The value is the machine of R, or nil. -/
def MP (w : World) (v : Value) : Option Rel → Prop
  | none => v = .pointer none
  | some R => ∃ MB M f em SB cap, v = .pointer (some ⟨MB, 0, none⟩) ∧ MachW w w.heap.size MB M f em SB cap ∧ LA M f em ∧ (∀ s p j, M.A s M.start p j ↔ R s p j)
theorem MP.move {w w' : World} (hf : Frm No w w') {v : Value} {R : Option Rel} (h : MP w v R) : MP w' v R := by
  cases R with
  | none => exact h
  | some R =>
    obtain ⟨MB, M, f, em, SB, cap, h1, h2, h3, h4⟩ := h
    exact ⟨MB, M, f, em, SB, cap, h1, machW_up (h2.frm hf (fun _ _ => id)) hf.size, h3, h4⟩
theorem mp_new {w w' : World} {t : T} {en : Ending} (h : NewPost w t en w') : ∃ v, en = .returned v ∧ MP w' v ((rdT t 0).map (fun _ => relT t)) ∧ Frm No w w' := by
  obtain ⟨hf, h⟩ := h
  cases hrd : rdT t 0 with
  | none => rw [hrd] at h; exact ⟨_, h, rfl, hf⟩
  | some x =>
    rw [hrd] at h
    obtain ⟨MB, M, f, em, SB, cap, h1, h2, h3, h4⟩ := h
    exact ⟨_, h1, ⟨MB, M, f, em, SB, cap, rfl, h2, h3, h4⟩, hf⟩

end Go.Proofs.YtbfekknhmjndaaaGreat.part
