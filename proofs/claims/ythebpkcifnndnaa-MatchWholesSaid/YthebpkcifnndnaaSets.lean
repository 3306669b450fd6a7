/- What ere.Parse answers of a set and of its opposite. -/
import Derived.Test.YthebpkcifnndnaaParse
namespace Go.Proofs.Ythebpkcifnndnaa.sets
set_option linter.unusedVariables false set_option linter.unusedSimpArgs false
open Go.Proofs.Ythebpkcifnndnaa.base Go.Proofs.Ythebpkcifnndnaa.read Go.Proofs.Ythebpkcifnndnaa.spec Go.Proofs.Ythebpkcifnndnaa.nums Go.Proofs.Ythebpkcifnndnaa.items Go.Proofs.Ythebpkcifnndnaa.set

/-- A set and its opposite; or no sets. -/
def HR (t t' : T) : Prop := (∃ f : Nat → Bool, t = (setP f).t ∧ t' = (setP fun k => !f k).t) ∨ (t.op ≠ setW ∧ t'.op ≠ setW)
def SP (p p' : Part) : Prop := p.n = p'.n ∧ HR p.t p'.t
def RS {α : Type} (R : α → α → Prop) (r r' : Res α) : Prop := match r, r' with
  | .ok a l, .ok a' l' => R a a' ∧ l = l'
  | .bad e, .bad e' => e = e'
  | _, _ => False
def RR (r r' : Row) : Prop := r.n = r'.n ∧ r.kids.len = r'.kids.len ∧ (1 ≤ r.kids.len ∨ 2001 ≤ r.n) ∧ (r.kids.len = 1 → HR r.kids.head r'.kids.head)

theorem rep_ne : repW ≠ setW := by decide
theorem cat_ne : catW ≠ setW := by decide
theorem alt_ne : altW ≠ setW := by decide
theorem z_ne : zT.op ≠ setW := by decide

theorem items_fuel (n m : Nat) (b : Bool) (f : Nat → Bool) (l : List UInt8) (hn : l.length < n) (hm : l.length < m) : items n b f l = items m b f l := by
  induction n generalizing m b f l with
  | zero => omega
  | succ n ih =>
    obtain ⟨m, rfl⟩ : ∃ k, m = k + 1 := ⟨m - 1, by omega⟩
    rw [items, items]
    by_cases hc : (!b && hd l 93) = true
    · rw [if_pos hc, if_pos hc]
    · rw [if_neg hc, if_neg hc]
      cases hi : item f l with
      | bad e => rfl
      | ok f' l' =>
        have := item_len hi
        exact ih m false f' l' (by omega) (by omega)

theorem bracket_sets (u : List UInt8) (h94 : hd u 94 = false) : (∃ e, bracket u = .bad e ∧ bracket (94 :: u) = .bad e) ∨ ∃ f l', bracket u = .ok (setP f) l' ∧ bracket (94 :: u) = .ok (setP fun k => !f k) l' := by
  have h2 : items ((94 :: u).length + 1) true emptyF u = items (u.length + 1) true emptyF u := items_fuel _ _ _ _ _ (by simp only [List.length_cons]; omega) (by omega)
  cases hi : items (u.length + 1) true emptyF u with
  | bad e =>
    left
    refine ⟨e, ?_, ?_⟩
    · unfold bracket
      rw [if_neg (by rw [h94]; decide), hi]
    · unfold bracket
      rw [if_pos (by simp [hd]), List.tail_cons, h2, hi]
  | ok f l' =>
    right
    refine ⟨f, l', ?_, ?_⟩
    · unfold bracket
      rw [if_neg (by rw [h94]; decide), hi]
    · unfold bracket
      rw [if_pos (by simp [hd]), List.tail_cons, h2, hi]

theorem sized_rel (op : ByteArray) (ho : op ≠ setW) (set : ByteArray) (lo hi : Int) (k k' : Forest) (n : Nat) : SP (sizedP ⟨op, set, lo, hi, k⟩ n) (sizedP ⟨op, set, lo, hi, k'⟩ n) := by
  unfold sizedP
  split
  · exact ⟨rfl, Or.inr ⟨z_ne, z_ne⟩⟩
  · exact ⟨rfl, Or.inr ⟨ho, ho⟩⟩
theorem repP_rel {p p' : Part} (h : SP p p') (lo hi : Int) : SP (repP p lo hi) (repP p' lo hi) := by
  unfold repP
  rw [← h.1]
  split
  · exact h
  · exact sized_rel repW rep_ne _ _ _ _ _ _
theorem repeatL_rel {p p' : Part} (h : SP p p') (l : List UInt8) : RS SP (repeatL p l) (repeatL p' l) := by
  cases l with
  | nil => exact rfl
  | cons c t =>
    unfold repeatL
    simp only
    split
    · exact ⟨repP_rel h _ _, rfl⟩
    · split
      · exact ⟨repP_rel h _ _, rfl⟩
      · split
        · exact ⟨repP_rel h _ _, rfl⟩
        · cases interval t with
          | none => exact rfl
          | some q => exact ⟨repP_rel h _ _, rfl⟩
theorem repsF_rel (n : Nat) {p p' : Part} (h : SP p p') (l : List UInt8) : RS SP (repsF n p l) (repsF n p' l) := by
  induction n generalizing p p' l with
  | zero => exact rfl
  | succ n ih =>
    rw [repsF, repsF]
    by_cases ha : atRep l = true
    · rw [if_pos ha, if_pos ha]
      have hr := repeatL_rel h l
      cases h1 : repeatL p l with
      | bad e =>
        rw [h1] at hr
        cases h2 : repeatL p' l with
        | bad e' => rw [h2] at hr; exact hr
        | ok p2 l2 => rw [h2] at hr; exact hr.elim
      | ok p1 l1 =>
        rw [h1] at hr
        cases h2 : repeatL p' l with
        | bad e' => rw [h2] at hr; exact hr.elim
        | ok p2 l2 =>
          rw [h2] at hr
          obtain ⟨h3, rfl⟩ := hr
          exact ih h3 l1
    · rw [if_neg ha, if_neg ha]
      exact ⟨h, rfl⟩
theorem piece_sets (g : List UInt8 → Res Part) (u : List UInt8) (h94 : hd u 94 = false) : RS SP (piece g (91 :: u)) (piece g (91 :: 94 :: u)) := by
  have ha : atom g (91 :: u) = bracket u := by
    unfold atom
    rw [if_neg (by simp [atRep, hd])]
    simp
  have hb : atom g (91 :: 94 :: u) = bracket (94 :: u) := by
    unfold atom
    rw [if_neg (by simp [atRep, hd])]
    simp
  rw [piece, piece, ha, hb]
  rcases bracket_sets u h94 with ⟨e, h1, h2⟩ | ⟨f, l', h1, h2⟩
  · rw [h1, h2]; exact rfl
  · rw [h1, h2]
    exact repsF_rel (l'.length + 1) (p := setP f) (p' := setP fun k => !f k) ⟨rfl, Or.inl ⟨f, rfl, rfl⟩⟩ l'

theorem head_snoc (t : T) : (Forest.nil.snoc t).head = t := by cases t; rfl
theorem add_first {p p' : Part} (h : SP p p') : RR (row0.add p) (row0.add p') := by
  unfold Row.add
  rw [← h.1]
  split
  · refine ⟨rfl, rfl, Or.inl (Nat.le_refl _), fun _ => ?_⟩
    show HR (Forest.nil.snoc p.t).head (Forest.nil.snoc p'.t).head
    rw [head_snoc, head_snoc]
    exact h.2
  · exact ⟨rfl, rfl, Or.inr (Nat.le_refl _), fun h => by cases h⟩
theorem add_next {r r' : Row} (h : RR r r') (p : Part) : RR (r.add p) (r'.add p) := by
  obtain ⟨h1, h2, h3, h4⟩ := h
  unfold Row.add
  rw [← h1]
  split
  · refine ⟨rfl, by simp only [Forest.len_snoc]; omega, Or.inl (by simp only [Forest.len_snoc]; omega), fun h => ?_⟩
    simp only [Forest.len_snoc] at h
    omega
  · exact ⟨rfl, rfl, Or.inr (Nat.le_refl _), fun h => by cases h⟩
theorem join_rel {r r' : Row} (h : RR r r') (op : ByteArray) (ho : op ≠ setW) (own : Nat) : SP (r.join op own) (r'.join op own) := by
  obtain ⟨h1, h2, h3, h4⟩ := h
  unfold Row.join
  rw [← h2, ← h1]
  split
  · exact ⟨rfl, h4 (by assumption)⟩
  · exact sized_rel op ho _ _ _ _ _ _
theorem branchF_rel {g : List UInt8 → Res Part} (hg : Short g) (n m : Nat) {r r' : Row} (h : RR r r') (l : List UInt8) (hn : l.length < n) (hm : l.length < m) : RS RR (branchF g n r l) (branchF g m r' l) := by
  induction n generalizing m r r' l with
  | zero => omega
  | succ n ih =>
    obtain ⟨m, rfl⟩ : ∃ k, m = k + 1 := ⟨m - 1, by omega⟩
    rw [branchF, branchF]
    by_cases he : ends l = true
    · rw [if_pos he, if_pos he]
      exact ⟨h, rfl⟩
    · rw [if_neg he, if_neg he]
      cases hp : piece g l with
      | bad e => exact rfl
      | ok p l' =>
        have := piece_len hg hp
        exact ih m (add_next h p) l' (by omega) (by omega)
theorem branch_sets {g : List UInt8 → Res Part} (hg : Short g) (u : List UInt8) (h94 : hd u 94 = false) : RS SP (branch g (91 :: u)) (branch g (91 :: 94 :: u)) := by
  have hp := piece_sets g u h94
  rw [branch, branch, branchF, branchF, if_neg (by simp [ends, hd]), if_neg (by simp [ends, hd])]
  cases h1 : piece g (91 :: u) with
  | bad e =>
    rw [h1] at hp
    cases h2 : piece g (91 :: 94 :: u) with
    | bad e' => rw [h2] at hp; exact hp
    | ok p2 l2 => rw [h2] at hp; exact hp.elim
  | ok p1 l1 =>
    rw [h1] at hp
    cases h2 : piece g (91 :: 94 :: u) with
    | bad e' => rw [h2] at hp; exact hp.elim
    | ok p2 l2 =>
      rw [h2] at hp
      obtain ⟨h3, rfl⟩ := hp
      have hl1 := piece_len hg h1
      have hb := branchF_rel hg (91 :: u).length (91 :: 94 :: u).length (add_first h3) l1 hl1 (piece_len hg h2)
      simp only
      cases h5 : branchF g (91 :: u).length (row0.add p1) l1 with
      | bad e =>
        rw [h5] at hb
        cases h6 : branchF g (91 :: 94 :: u).length (row0.add p2) l1 with
        | bad e' => rw [h6] at hb; exact hb
        | ok r2 l3 => rw [h6] at hb; exact hb.elim
      | ok r1 l3 =>
        rw [h5] at hb
        cases h6 : branchF g (91 :: 94 :: u).length (row0.add p2) l1 with
        | bad e' => rw [h6] at hb; exact hb.elim
        | ok r2 l4 =>
          rw [h6] at hb
          obtain ⟨h7, rfl⟩ := hb
          exact ⟨join_rel h7 catW cat_ne 0, rfl⟩
theorem exprF_rel {g : List UInt8 → Res Part} (hg : Short g) (n m : Nat) {r r' : Row} (h : RR r r') (l : List UInt8) (hn : l.length < n) (hm : l.length < m) : RS RR (exprF g n r l) (exprF g m r' l) := by
  induction n generalizing m r r' l with
  | zero => omega
  | succ n ih =>
    obtain ⟨m, rfl⟩ : ∃ k, m = k + 1 := ⟨m - 1, by omega⟩
    rw [exprF, exprF]
    cases hp : branch g l with
    | bad e => exact rfl
    | ok p l' =>
      have hl := branch_len hg hp
      simp only
      by_cases hh : hd l' 124 = true
      · rw [if_pos hh, if_pos hh]
        obtain ⟨t, rfl⟩ := hd_cons hh
        simp only [List.length_cons] at hl
        exact ih m (add_next h p) t (by omega) (by omega)
      · rw [if_neg hh, if_neg hh]
        exact ⟨add_next h p, rfl⟩
theorem expr_sets {g : List UInt8 → Res Part} (hg : Short g) (u : List UInt8) (h94 : hd u 94 = false) : RS SP (expr g (91 :: u)) (expr g (91 :: 94 :: u)) := by
  have hp := branch_sets hg u h94
  have key : RS RR (exprF g ((91 :: u).length + 1) row0 (91 :: u)) (exprF g ((91 :: 94 :: u).length + 1) row0 (91 :: 94 :: u)) := by
    rw [exprF, exprF]
    cases h1 : branch g (91 :: u) with
    | bad e =>
      rw [h1] at hp
      cases h2 : branch g (91 :: 94 :: u) with
      | bad e' => rw [h2] at hp; exact hp
      | ok p2 l2 => rw [h2] at hp; exact hp.elim
    | ok p1 l1 =>
      rw [h1] at hp
      cases h2 : branch g (91 :: 94 :: u) with
      | bad e' => rw [h2] at hp; exact hp.elim
      | ok p2 l2 =>
        rw [h2] at hp
        obtain ⟨h3, rfl⟩ := hp
        have hl1 := branch_len hg h1
        have hl2 := branch_len hg h2
        simp only
        by_cases hh : hd l1 124 = true
        · rw [if_pos hh, if_pos hh]
          obtain ⟨t, rfl⟩ := hd_cons hh
          simp only [List.length_cons] at hl1 hl2
          exact exprF_rel hg _ _ (add_first h3) t (by simp only [List.length_cons]; omega) (by simp only [List.length_cons]; omega)
        · rw [if_neg hh, if_neg hh]
          exact ⟨add_first h3, rfl⟩
  rw [expr, expr]
  cases h5 : exprF g ((91 :: u).length + 1) row0 (91 :: u) with
  | bad e =>
    rw [h5] at key
    cases h6 : exprF g ((91 :: 94 :: u).length + 1) row0 (91 :: 94 :: u) with
    | bad e' => rw [h6] at key; exact key
    | ok r2 l3 => rw [h6] at key; exact key.elim
  | ok r1 l3 =>
    rw [h5] at key
    cases h6 : exprF g ((91 :: 94 :: u).length + 1) row0 (91 :: 94 :: u) with
    | bad e' => rw [h6] at key; exact key.elim
    | ok r2 l4 =>
      rw [h6] at key
      obtain ⟨h7, rfl⟩ := key
      exact ⟨join_rel h7 altW alt_ne 1, rfl⟩
theorem parse_sets (u : List UInt8) (h94 : hd u 94 = false) : ∃ t t' f, parse (91 :: u) = (t, f) ∧ parse (91 :: 94 :: u) = (t', f) ∧ (f = 0 → HR t t') := by
  have key := expr_sets (groupN_short 100) u h94
  unfold parse
  cases h5 : expr (groupN 100) (91 :: u) with
  | bad e =>
    rw [h5] at key
    cases h6 : expr (groupN 100) (91 :: 94 :: u) with
    | bad e' =>
      rw [h6] at key
      have : e = e' := key
      subst this
      exact ⟨zT, zT, e, rfl, rfl, fun _ => Or.inr ⟨z_ne, z_ne⟩⟩
    | ok r2 l3 => rw [h6] at key; exact key.elim
  | ok p1 l3 =>
    rw [h5] at key
    cases h6 : expr (groupN 100) (91 :: 94 :: u) with
    | bad e' => rw [h6] at key; exact key.elim
    | ok p2 l4 =>
      rw [h6] at key
      obtain ⟨⟨h7, h8⟩, rfl⟩ := key
      simp only
      by_cases hl : (!l3.isEmpty) = true
      · rw [if_pos hl, if_pos hl]
        exact ⟨zT, zT, 1, rfl, rfl, fun h => by cases h⟩
      · rw [if_neg hl, if_neg hl, ← h7]
        by_cases hb : 2000 < p1.n
        · rw [if_pos hb, if_pos hb]
          exact ⟨zT, zT, 5, rfl, rfl, fun h => by cases h⟩
        · rw [if_neg hb, if_neg hb]
          exact ⟨p1.t, p2.t, 0, rfl, rfl, fun _ => h8⟩

theorem ofNat_eq (c k : Nat) (hc : c < 256) (hk : k < 256) : UInt8.ofNat c = UInt8.ofNat k ↔ c = k := by
  constructor
  · intro h
    have := congrArg UInt8.toNat h
    simp at this
    omega
  · intro h; rw [h]
/-- How often a byte stands among the first bytes of a set. -/
theorem tx_count (f : Nat → Bool) (k : Nat) (hk : k < 256) (c : Nat) (hc : c ≤ 256) : List.count (UInt8.ofNat k) (tx f c) = if k < c ∧ f k = true then 1 else 0 := by
  induction c with
  | zero => simp [tx]
  | succ c ih =>
    rw [tx_step, List.count_append, ih (by omega)]
    by_cases hf : f c = true
    · rw [if_pos hf]
      by_cases e : c = k
      · subst e
        simp [hf]
      · have hne : ¬ UInt8.ofNat c = UInt8.ofNat k := fun h => e ((ofNat_eq c k (by omega) hk).1 h)
        have : List.count (UInt8.ofNat k) [UInt8.ofNat c] = 0 := by simp [List.count_cons, hne]
        rw [this]
        by_cases h1 : k < c ∧ f k = true
        · rw [if_pos h1, if_pos ⟨by omega, h1.2⟩]
        · rw [if_neg h1, if_neg (fun h => h1 ⟨by omega, h.2⟩)]
    · rw [if_neg hf]
      simp only [List.count_nil, Nat.add_zero]
      by_cases h1 : k < c ∧ f k = true
      · rw [if_pos h1, if_pos ⟨by omega, h1.2⟩]
      · rw [if_neg h1, if_neg (fun h => h1 ⟨by
          have : k ≠ c := fun e => hf (by rw [← e]; exact h.2)
          omega, h.2⟩)]
theorem both_once (f : Nat → Bool) (k : Nat) (hk : k < 256) : List.count (UInt8.ofNat k) (setText f) + List.count (UInt8.ofNat k) (setText fun k => !f k) = 1 := by
  show List.count (UInt8.ofNat k) (tx f 256) + List.count (UInt8.ofNat k) (tx (fun k => !f k) 256) = 1
  rw [tx_count f k hk 256 (Nat.le_refl _), tx_count _ k hk 256 (Nat.le_refl _)]
  cases h : f k with
  | true => simp [hk, h]
  | false => simp [hk, h]
end Go.Proofs.Ythebpkcifnndnaa.sets
