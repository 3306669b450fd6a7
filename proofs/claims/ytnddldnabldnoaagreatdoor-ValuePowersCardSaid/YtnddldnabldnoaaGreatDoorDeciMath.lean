/- Plain mathematics of decimal digits with a point: doubling, halving, zeros at the end. -/
namespace Go.Proofs.YtnddldnabldnoaaGreatDoor.Deci
set_option linter.unusedVariables false

/-- The natural that digits say. -/
def val (l : List Nat) : Nat := l.foldl (fun a d => 10 * a + d) 0

theorem foldl_val (l : List Nat) : ∀ a, l.foldl (fun a d => 10 * a + d) a = a * 10 ^ l.length + val l := by
  induction l with
  | nil => intro a; simp [val]
  | cons d t ih =>
    intro a
    unfold val
    simp only [List.foldl_cons, List.length_cons]
    rw [ih, ih (10 * 0 + d)]
    rw [Nat.pow_succ]
    have : (10 * a + d) * 10 ^ t.length = a * (10 ^ t.length * 10) + d * 10 ^ t.length := by
      rw [Nat.add_mul, Nat.mul_comm (10 ^ t.length) 10, ← Nat.mul_assoc a, Nat.mul_comm a 10]
    rw [this, show 10 * 0 + d = d by omega]
    omega

theorem val_nil : val [] = 0 := rfl
theorem val_cons (d : Nat) (t : List Nat) : val (d :: t) = d * 10 ^ t.length + val t := by
  show List.foldl _ _ _ = _
  rw [List.foldl_cons, foldl_val]; simp
theorem val_append (a b : List Nat) : val (a ++ b) = val a * 10 ^ b.length + val b := by
  unfold val
  rw [List.foldl_append, foldl_val]; rfl
theorem val_snoc (a : List Nat) (d : Nat) : val (a ++ [d]) = 10 * val a + d := by
  rw [val_append]; simp [val]; omega

def Digs (l : List Nat) : Prop := ∀ d, d ∈ l → d ≤ 9

theorem val_lt (l : List Nat) (h : Digs l) : val l < 10 ^ l.length := by
  induction l with
  | nil => simp [val]
  | cons d t ih =>
    have h1 := ih (fun x hx => h x (List.mem_cons_of_mem _ hx))
    have h2 := h d (List.mem_cons_self ..)
    rw [val_cons, List.length_cons, Nat.pow_succ]
    have : d * 10 ^ t.length ≤ 9 * 10 ^ t.length := Nat.mul_le_mul_right _ h2
    omega

theorem val_ge (d : Nat) (t : List Nat) (h : 1 ≤ d) : 10 ^ t.length ≤ val (d :: t) := by
  rw [val_cons]
  have : 1 * 10 ^ t.length ≤ d * 10 ^ t.length := Nat.mul_le_mul_right _ h
  omega

/-- Twice the digits: the digits of as many places, and what is carried. -/
def dbl : List Nat → List Nat × Nat
  | [] => ([], 0)
  | d :: t => ((2 * d + (dbl t).2) % 10 :: (dbl t).1, (2 * d + (dbl t).2) / 10)

theorem dbl_len (l : List Nat) : (dbl l).1.length = l.length := by
  induction l with
  | nil => rfl
  | cons d t ih => simp [dbl, ih]

theorem dbl_digs (l : List Nat) : Digs (dbl l).1 := by
  induction l with
  | nil => intro d hd; simp [dbl] at hd
  | cons d t ih =>
    intro x hx
    simp only [dbl, List.mem_cons] at hx
    rcases hx with rfl | hx
    · omega
    · exact ih x hx

theorem dbl_carry (l : List Nat) (h : Digs l) : (dbl l).2 ≤ 1 := by
  induction l with
  | nil => simp [dbl]
  | cons d t ih =>
    have h1 := ih (fun x hx => h x (List.mem_cons_of_mem _ hx))
    have h2 := h d (List.mem_cons_self ..)
    simp only [dbl]; omega

theorem dbl_val (l : List Nat) : (dbl l).2 * 10 ^ l.length + val (dbl l).1 = 2 * val l := by
  induction l with
  | nil => simp [dbl, val]
  | cons d t ih =>
    simp only [dbl]
    rw [val_cons, val_cons, dbl_len, List.length_cons, Nat.pow_succ]
    have e := Nat.div_add_mod (2 * d + (dbl t).2) 10
    generalize (2 * d + (dbl t).2) / 10 = q at *
    generalize (2 * d + (dbl t).2) % 10 = r at *
    have e2 : (10 * q + r) * 10 ^ t.length = (2 * d + (dbl t).2) * 10 ^ t.length := by rw [e]
    rw [Nat.add_mul, Nat.add_mul] at e2
    have e3 : q * (10 ^ t.length * 10) = 10 * q * 10 ^ t.length := by
      rw [Nat.mul_comm (10 ^ t.length) 10, ← Nat.mul_assoc, Nat.mul_comm q 10]
    have e4 : 2 * d * 10 ^ t.length = 2 * (d * 10 ^ t.length) := by rw [Nat.mul_assoc]
    rw [e3]
    omega

/-- Half of digits behind a remainder: the digits, and what is left at the end. -/
def hlf : Nat → List Nat → List Nat
  | _, [] => []
  | r, d :: t => (10 * r + d) / 2 :: hlf ((10 * r + d) % 2) t
def rem : Nat → List Nat → Nat
  | r, [] => r
  | r, d :: t => rem ((10 * r + d) % 2) t

theorem hlf_len (l : List Nat) : ∀ r, (hlf r l).length = l.length := by
  induction l with
  | nil => intro r; rfl
  | cons d t ih => intro r; simp [hlf, ih]

theorem hlf_snoc (l : List Nat) (d : Nat) : ∀ r, hlf r (l ++ [d]) = hlf r l ++ [(10 * rem r l + d) / 2] ∧ rem r (l ++ [d]) = (10 * rem r l + d) % 2 := by
  induction l with
  | nil => intro r; simp [hlf, rem]
  | cons c t ih => intro r; simp [hlf, rem, ih]

theorem rem_le (l : List Nat) : ∀ r, r ≤ 1 → rem r l ≤ 1 := by
  induction l with
  | nil => intro r h; exact h
  | cons d t ih => intro r h; exact ih _ (by omega)

theorem hlf_digs (l : List Nat) (h : Digs l) : ∀ r, r ≤ 1 → Digs (hlf r l) := by
  induction l with
  | nil => intro r _ d hd; simp [hlf] at hd
  | cons d t ih =>
    intro r hr x hx
    have h2 := h d (List.mem_cons_self ..)
    simp only [hlf, List.mem_cons] at hx
    rcases hx with rfl | hx
    · omega
    · exact ih (fun x hx => h x (List.mem_cons_of_mem _ hx)) _ (by omega) x hx

theorem hlf_val (l : List Nat) : ∀ r, 2 * val (hlf r l) + rem r l = r * 10 ^ l.length + val l := by
  induction l with
  | nil => intro r; simp [hlf, rem, val]
  | cons d t ih =>
    intro r
    have h1 := ih ((10 * r + d) % 2)
    simp only [hlf, rem]
    rw [val_cons, val_cons, hlf_len, List.length_cons, Nat.pow_succ]
    have e := Nat.div_add_mod (10 * r + d) 2
    generalize (10 * r + d) / 2 = q at *
    generalize (10 * r + d) % 2 = s at *
    have e2 : (2 * q + s) * 10 ^ t.length = (10 * r + d) * 10 ^ t.length := by rw [e]
    rw [Nat.add_mul, Nat.add_mul] at e2
    have e3 : r * (10 ^ t.length * 10) = 10 * r * 10 ^ t.length := by
      rw [Nat.mul_comm (10 ^ t.length) 10, ← Nat.mul_assoc, Nat.mul_comm r 10]
    have e4 : 2 * q * 10 ^ t.length = 2 * (q * 10 ^ t.length) := by rw [Nat.mul_assoc]
    rw [e3]
    omega

/-- Digits with the point behind p of them stand for the fraction a over b. -/
def Rep (l : List Nat) (p : Int) (a b : Nat) : Prop :=
  val l * 10 ^ (p - l.length).toNat * b = a * 10 ^ (l.length - p).toNat

theorem Rep.nil {p : Int} {a b : Nat} (h : Rep [] p a b) : a = 0 := by
  unfold Rep at h
  rw [val_nil, Nat.zero_mul, Nat.zero_mul] at h
  have := Nat.pow_pos (n := ((([] : List Nat).length : Int) - p).toNat) (show 0 < 10 by omega)
  exact (Nat.mul_eq_zero.1 h.symm).resolve_right (by omega)

/-- One digit more at the end, a zero, is nothing. -/
theorem Rep.snoc0 {l : List Nat} {p : Int} {a b : Nat} : Rep (l ++ [0]) p a b ↔ Rep l p a b := by
  unfold Rep
  rw [val_snoc, List.length_append, List.length_singleton]
  by_cases h : p ≤ l.length
  · have e1 : (p - ((l.length + 1 : Nat) : Int)).toNat = 0 := by omega
    have e2 : (p - (l.length : Int)).toNat = 0 := by omega
    have e3 : (((l.length + 1 : Nat) : Int) - p).toNat = ((l.length : Int) - p).toNat + 1 := by omega
    rw [e1, e2, e3, Nat.pow_succ]
    simp only [Nat.pow_zero, Nat.mul_one, Nat.add_zero]
    rw [← Nat.mul_assoc, Nat.mul_comm _ 10, Nat.mul_assoc 10]
    constructor
    · intro h; exact Nat.eq_of_mul_eq_mul_left (by omega) h
    · intro h; rw [h]
  · have e1 : (p - ((l.length + 1 : Nat) : Int)).toNat + 1 = (p - (l.length : Int)).toNat := by omega
    have e3 : (((l.length + 1 : Nat) : Int) - p).toNat = 0 := by omega
    have e4 : ((l.length : Int) - p).toNat = 0 := by omega
    rw [e3, e4, ← e1, Nat.pow_succ, Nat.add_zero]
    rw [show val l * (10 ^ (p - ((l.length + 1 : Nat) : Int)).toNat * 10) = 10 * val l * 10 ^ (p - ((l.length + 1 : Nat) : Int)).toNat by
      rw [Nat.mul_comm (10 ^ _) 10, ← Nat.mul_assoc, Nat.mul_comm (val l) 10]]

/-- A zero at the beginning is nothing. -/
theorem Rep.cons0 {l : List Nat} {p : Int} {a b : Nat} : Rep (0 :: l) p a b ↔ Rep l (p - 1) a b := by
  unfold Rep
  rw [val_cons, List.length_cons, Nat.zero_mul, Nat.zero_add]
  rw [show p - ((l.length + 1 : Nat) : Int) = p - 1 - l.length by omega, show ((l.length + 1 : Nat) : Int) - p = l.length - (p - 1) by omega]

theorem Rep.double {l : List Nat} {p : Int} {a b : Nat} (h : Rep l p a b) : Rep ((dbl l).2 :: (dbl l).1) (p + 1) (2 * a) b := by
  unfold Rep at *
  rw [val_cons, dbl_len, dbl_val, List.length_cons, dbl_len]
  rw [show p + 1 - ((l.length + 1 : Nat) : Int) = p - l.length by omega, show ((l.length + 1 : Nat) : Int) - (p + 1) = l.length - p by omega]
  rw [Nat.mul_assoc 2, Nat.mul_assoc 2, Nat.mul_assoc 2, h]

theorem Rep.half {l : List Nat} {p : Int} {a b : Nat} (h : Rep l p a b) : Rep (hlf 0 l ++ [5 * rem 0 l]) p a (2 * b) := by
  have h2 := (Rep.snoc0 (l := l) (p := p) (a := a) (b := b)).2 h
  unfold Rep at *
  rw [val_snoc, List.length_append, List.length_singleton, hlf_len]
  rw [val_snoc, List.length_append, List.length_singleton] at h2
  have e := hlf_val l 0
  rw [← h2]
  rw [show 10 * val (hlf 0 l) + 5 * rem 0 l = 5 * val l by omega, show 10 * val l + 0 = 5 * val l * 2 by omega]
  generalize 5 * val l = x
  generalize 10 ^ (p - ((l.length + 1 : Nat) : Int)).toNat = y
  rw [Nat.mul_comm 2 b, ← Nat.mul_assoc, Nat.mul_assoc (x * y), Nat.mul_comm b 2, ← Nat.mul_assoc, Nat.mul_assoc x y 2, Nat.mul_comm y 2, ← Nat.mul_assoc]

/-- Without zeros at the end. -/
def trimD (l : List Nat) : List Nat := (l.reverse.dropWhile (· == 0)).reverse

theorem trimD_snoc0 (l : List Nat) : trimD (l ++ [0]) = trimD l := by simp [trimD]
theorem trimD_snoc (l : List Nat) (d : Nat) (h : d ≠ 0) : trimD (l ++ [d]) = l ++ [d] := by
  unfold trimD
  rw [List.reverse_append]
  simp [h]
theorem trimD_nil : trimD [] = [] := rfl

theorem Digs.append {a b : List Nat} (h1 : Digs a) (h2 : Digs b) : Digs (a ++ b) := fun d hd => (List.mem_append.1 hd).elim (h1 d) (h2 d)
theorem Digs.left {a b : List Nat} (h : Digs (a ++ b)) : Digs a := fun d hd => h d (List.mem_append.2 (Or.inl hd))
theorem Digs.one {d : Nat} (h : d ≤ 9) : Digs [d] := fun x hx => by rw [List.mem_singleton] at hx; omega

/-- No zero at the end. -/
def Tight (l : List Nat) : Prop := ∀ t d, l = t ++ [d] → d ≠ 0
/-- No zero at the beginning. -/
def Led (l : List Nat) : Prop := ∀ d t, l = d :: t → d ≠ 0

theorem snoc_cases (l : List Nat) : l = [] ∨ ∃ t d, l = t ++ [d] := by
  rcases List.eq_nil_or_concat l with h | ⟨t, d, h⟩
  · exact Or.inl h
  · exact Or.inr ⟨t, d, by rw [h]; simp⟩

/-- What is left when zeros at the end go: a front of the list. -/
theorem trimD_spec (l : List Nat) : ∃ k, l = trimD l ++ List.replicate k 0 ∧ Tight (trimD l) := by
  have h : ∀ n (l : List Nat), l.length = n → ∃ k, l = trimD l ++ List.replicate k 0 ∧ Tight (trimD l) := by
    intro n
    induction n with
    | zero =>
      intro l hl
      obtain rfl := List.eq_nil_of_length_eq_zero hl
      exact ⟨0, rfl, fun t d h => by rw [trimD_nil] at h; simp at h⟩
    | succ n ih =>
      intro l hl
      rcases snoc_cases l with rfl | ⟨t, d, rfl⟩
      · simp at hl
      · by_cases hd : d = 0
        · subst hd
          obtain ⟨k, h1, h2⟩ := ih t (by simpa using hl)
          refine ⟨k + 1, ?_, ?_⟩
          · rw [trimD_snoc0, List.replicate_succ', ← List.append_assoc, ← h1]
          · rw [trimD_snoc0]; exact h2
        · refine ⟨0, ?_, ?_⟩
          · rw [trimD_snoc _ _ hd]; simp
          · rw [trimD_snoc _ _ hd]
            intro t' d' h
            have := (List.append_inj' h rfl).2
            simp at this
            omega
  exact h _ l rfl

theorem trimD_len (l : List Nat) : (trimD l).length ≤ l.length := by
  obtain ⟨k, h, _⟩ := trimD_spec l
  have := congrArg List.length h
  rw [List.length_append] at this
  omega
theorem trimD_take (l : List Nat) : trimD l = l.take (trimD l).length := by
  obtain ⟨k, h, _⟩ := trimD_spec l
  have : l.take (trimD l).length = (trimD l ++ List.replicate k 0).take (trimD l).length := by rw [← h]
  rw [this]; simp
theorem trimD_digs {l : List Nat} (h : Digs l) : Digs (trimD l) := by
  rw [trimD_take]; exact fun d hd => h d (List.mem_of_mem_take hd)
theorem trimD_led {l : List Nat} (h : Led l) : Led (trimD l) := by
  intro d t e
  obtain ⟨k, h1, _⟩ := trimD_spec l
  rw [e] at h1
  exact h d _ h1

theorem Rep.zeros {l : List Nat} {p : Int} {a b k : Nat} : Rep (l ++ List.replicate k 0) p a b ↔ Rep l p a b := by
  induction k with
  | zero => simp
  | succ k ih => rw [List.replicate_succ', ← List.append_assoc, Rep.snoc0, ih]
theorem Rep.trim {l : List Nat} {p : Int} {a b : Nat} (h : Rep l p a b) : Rep (trimD l) p a b := by
  obtain ⟨k, h1, _⟩ := trimD_spec l
  rw [h1] at h
  exact Rep.zeros.1 h

/-- The place of the point, of no digits 0. -/
def pt (l : List Nat) (p : Int) : Int := if l = [] then 0 else p
theorem Rep.at0 {a b : Nat} {p q : Int} (h : Rep [] p a b) : Rep [] q a b := by
  have := Rep.nil h
  subst this
  simp [Rep, val]
theorem Rep.pt {l : List Nat} {p : Int} {a b : Nat} (h : Rep l p a b) : Rep l (pt l p) a b := by
  unfold Deci.pt
  by_cases e : l = []
  · rw [if_pos e]; subst e; exact h.at0
  · rw [if_neg e]; exact h

/-- Digits with a point as the document's answer keeps them, and what they stand for. -/
def Fine (l : List Nat) (p : Int) (a b : Nat) : Prop := Digs l ∧ Tight l ∧ Led l ∧ (l = [] → p = 0) ∧ Rep l p a b
theorem Fine.digs {l : List Nat} {p : Int} {a b : Nat} (h : Fine l p a b) : Digs l := h.1
theorem Fine.tight {l : List Nat} {p : Int} {a b : Nat} (h : Fine l p a b) : Tight l := h.2.1
theorem Fine.led {l : List Nat} {p : Int} {a b : Nat} (h : Fine l p a b) : Led l := h.2.2.1
theorem Fine.zero {l : List Nat} {p : Int} {a b : Nat} (h : Fine l p a b) : l = [] → p = 0 := h.2.2.2.1
theorem Fine.rep {l : List Nat} {p : Int} {a b : Nat} (h : Fine l p a b) : Rep l p a b := h.2.2.2.2
theorem Fine.make {l : List Nat} {p : Int} {a b : Nat} (h1 : Digs l) (h2 : Tight l) (h3 : Led l) (h4 : l = [] → p = 0) (h5 : Rep l p a b) : Fine l p a b := And.intro h1 (And.intro h2 (And.intro h3 (And.intro h4 h5)))

theorem pt_zero {l : List Nat} {p : Int} (h : l = []) : pt l p = 0 := if_pos h
theorem Fine.of {l : List Nat} {p : Int} {a b : Nat} (hd : Digs l) (hl : Led l) (h : Rep l p a b) : Fine (trimD l) (pt (trimD l) p) a b := by
  obtain ⟨k, _, ht⟩ := trimD_spec l
  exact Fine.make (trimD_digs hd) ht (trimD_led hl) pt_zero h.trim.pt

/-- Twice: the digits ahead of what is trimmed, and the point. -/
def dblL (l : List Nat) : List Nat := if 0 < (dbl l).2 then (dbl l).2 :: (dbl l).1 else (dbl l).1
def dblP (l : List Nat) (p : Int) : Int := if 0 < (dbl l).2 then p + 1 else p
theorem dblL_digs (l : List Nat) (h : Digs l) : Digs (dblL l) := by
  unfold dblL
  split
  · intro d hd
    rcases List.mem_cons.1 hd with rfl | hd
    · have := dbl_carry l h; omega
    · exact dbl_digs l d hd
  · exact dbl_digs l
theorem dblL_led (l : List Nat) (h : Digs l) (hl : Led l) : Led (dblL l) := by
  unfold dblL
  split
  · intro d t e
    injection e with e1 _
    omega
  · intro d t e
    cases l with
    | nil => simp [dbl] at e
    | cons c s =>
      have hc := hl c s rfl
      have hc9 := h c (List.mem_cons_self ..)
      simp only [dbl, List.cons.injEq] at e
      rename_i h0
      simp only [dbl] at h0
      have := dbl_carry s (fun x hx => h x (List.mem_cons_of_mem _ hx))
      omega
theorem Rep.dbl {l : List Nat} {p : Int} {a b : Nat} (h : Rep l p a b) : Rep (dblL l) (dblP l p) (2 * a) b := by
  have h1 := h.double
  unfold dblL dblP
  by_cases hc : 0 < (Deci.dbl l).2
  · rw [if_pos hc, if_pos hc]; exact h1
  · rw [if_neg hc, if_neg hc]
    rw [show (Deci.dbl l).2 = 0 by omega, Rep.cons0] at h1
    rw [show p = p + 1 - 1 by omega]; exact h1
theorem dblL_len (l : List Nat) : (dblL l).length ≤ l.length + 1 := by
  unfold dblL
  split <;> simp [dbl_len]

/-- Half: likewise. -/
def hlfR (l : List Nat) : List Nat := if 0 < rem 0 l then hlf 0 l ++ [5] else hlf 0 l
def hlfL (l : List Nat) : List Nat := match hlfR l with
  | 0 :: t => t
  | l => l
def hlfP (l : List Nat) (p : Int) : Int := match hlfR l with
  | 0 :: _ => p - 1
  | _ => p
theorem Rep.hlfR {l : List Nat} {p : Int} {a b : Nat} (h : Rep l p a b) : Rep (hlfR l) p a (2 * b) := by
  have h1 := h.half
  have := rem_le l 0 (by omega)
  unfold Deci.hlfR
  by_cases hr : 0 < rem 0 l
  · rw [if_pos hr]
    rw [show rem 0 l = 1 by omega] at h1
    exact h1
  · rw [if_neg hr]
    rw [show rem 0 l = 0 by omega] at h1
    exact Rep.snoc0.1 h1
theorem Rep.hlf {l : List Nat} {p : Int} {a b : Nat} (h : Rep l p a b) : Rep (hlfL l) (hlfP l p) a (2 * b) := by
  have h1 := h.hlfR
  unfold hlfL hlfP
  split
  · rename_i t e; rw [e] at h1; exact Rep.cons0.1 h1
  · exact h1
theorem hlfR_digs (l : List Nat) (h : Digs l) : Digs (hlfR l) := by
  unfold hlfR
  split
  · exact (hlf_digs l h 0 (by omega)).append (Digs.one (by omega))
  · exact hlf_digs l h 0 (by omega)
theorem hlfL_digs (l : List Nat) (h : Digs l) : Digs (hlfL l) := by
  have h1 := hlfR_digs l h
  unfold hlfL
  split
  · rename_i t e; rw [e] at h1; exact fun x hx => h1 x (List.mem_cons_of_mem _ hx)
  · exact h1
theorem hlfL_led (l : List Nat) (hl : Led l) : Led (hlfL l) := by
  unfold hlfL
  intro d t e
  cases l with
  | nil => simp [hlfR, Deci.hlf, rem] at e
  | cons c s =>
    have hc := hl c s rfl
    cases s with
    | nil =>
      have hx : c / 2 = 0 → c = 1 := by omega
      simp only [hlfR, Deci.hlf, rem, Nat.mul_zero, Nat.zero_add] at e
      by_cases h1 : 0 < c % 2
      · rw [if_pos h1] at e
        split at e
        · rename_i u e2
          simp at e2
          rw [← e2.2] at e
          injection e with e3 _
          omega
        · rename_i y hn
          simp at e
          rcases e with ⟨rfl, _⟩
          intro h0
          exact hn [5] (by simp; omega)
      · rw [if_neg h1] at e
        split at e
        · rename_i u e2
          simp at e2
          omega
        · simp at e
          omega
    | cons c2 s =>
      simp only [hlfR, Deci.hlf, rem, Nat.mul_zero, Nat.zero_add] at e
      split at e
      · rename_i u e2
        have e3 : c / 2 = 0 := by
          split at e2
          · simp at e2; omega
          · simp at e2; omega
        have e4 : t.length ≤ t.length := Nat.le_refl _
        have e5 : d = (10 * (c % 2) + c2) / 2 := by
          rw [e] at e2
          split at e2
          · simp at e2; exact e2.2.1.symm
          · simp at e2; exact e2.2.1.symm
        omega
      · rename_i hn
        have e3 : d = c / 2 := by
          split at e
          · simp at e; exact e.1.symm
          · simp at e; exact e.1.symm
        intro h0
        subst h0
        exact hn t e

theorem hlfL_len (l : List Nat) : (hlfL l).length ≤ l.length + 1 := by
  have h : (hlfR l).length ≤ l.length + 1 := by
    unfold hlfR
    split <;> simp [hlf_len]
  unfold hlfL
  split
  · rename_i t e; rw [e] at h; simp at h; omega
  · exact h

theorem Fine.double {l : List Nat} {p : Int} {a b : Nat} (h : Fine l p a b) : Fine (trimD (dblL l)) (pt (trimD (dblL l)) (dblP l p)) (2 * a) b :=
  Fine.of (dblL_digs l h.digs) (dblL_led l h.digs h.led) h.rep.dbl
theorem Fine.half {l : List Nat} {p : Int} {a b : Nat} (h : Fine l p a b) : Fine (trimD (hlfL l)) (pt (trimD (hlfL l)) (hlfP l p)) a (2 * b) :=
  Fine.of (hlfL_digs l h.digs) (hlfL_led l h.led) h.rep.hlf

/-- A whole number's digits end at the point, and no others' do. -/
theorem Fine.whole {l : List Nat} {p : Int} {a b : Nat} (h : Fine l p a b) (hb : 0 < b) : (l.length : Int) ≤ max p 0 ↔ b ∣ a := by
  have hr := h.rep
  unfold Rep at hr
  constructor
  · intro hle
    have e : ((l.length : Int) - p).toNat = 0 := by
      by_cases h0 : l = []
      · have := h.zero h0; subst h0; rw [this]; rfl
      · have : 0 < l.length := List.length_pos_iff.2 h0
        omega
    rw [e, Nat.pow_zero, Nat.mul_one] at hr
    exact ⟨val l * 10 ^ (p - l.length).toNat, by rw [← hr, Nat.mul_comm]⟩
  · rintro ⟨q, rfl⟩
    have hr2 : val l * 10 ^ (p - l.length).toNat = q * 10 ^ ((l.length : Int) - p).toNat := by
      refine Nat.eq_of_mul_eq_mul_right hb ?_
      rw [hr, Nat.mul_comm b q, Nat.mul_assoc, Nat.mul_assoc, Nat.mul_comm b]
    rcases snoc_cases l with rfl | ⟨t, d, rfl⟩
    · simp; omega
    · have hd := h.tight t d rfl
      have hd9 := h.digs d (by simp)
      by_cases hlt : (((t ++ [d]).length : Nat) : Int) ≤ max p 0
      · exact hlt
      · exfalso
        have e1 : (p - ((t ++ [d]).length : Nat)).toNat = 0 := by omega
        obtain ⟨k, e2⟩ : ∃ k, (((t ++ [d]).length : Nat) - p).toNat = k + 1 := ⟨(((t ++ [d]).length : Nat) - p).toNat - 1, by omega⟩
        rw [e1, e2, val_snoc, Nat.pow_zero, Nat.mul_one, Nat.pow_succ] at hr2
        have : (10 * val t + d) % 10 = (q * (10 ^ k * 10)) % 10 := by rw [hr2]
        rw [← Nat.mul_assoc, Nat.mul_mod_left] at this
        omega

theorem Fine.whole_val {l : List Nat} {p : Int} {q b : Nat} (h : Fine l p (q * b) b) (hb : 0 < b) : val (l ++ List.replicate (p - l.length).toNat 0) = q := by
  have hw := (h.whole hb).2 ⟨q, Nat.mul_comm _ _⟩
  have hr := h.rep
  unfold Rep at hr
  have e : ((l.length : Int) - p).toNat = 0 := by
    by_cases h0 : l = []
    · have := h.zero h0; subst h0; rw [this]; rfl
    · have : 0 < l.length := List.length_pos_iff.2 h0
      omega
  rw [e, Nat.pow_zero, Nat.mul_one] at hr
  have hz : ∀ k, val (List.replicate k 0) = 0 := by
    intro k
    induction k with
    | zero => rfl
    | succ k ih => rw [List.replicate_succ, val_cons, ih]; simp
  rw [val_append, hz, List.length_replicate, Nat.add_zero]
  exact Nat.eq_of_mul_eq_mul_right hb hr

/-- The digits of a natural; of 0 none. -/
def digs (n : Nat) : List Nat := if n = 0 then [] else digs (n / 10) ++ [n % 10]
termination_by n
decreasing_by omega
theorem digs_zero : digs 0 = [] := by rw [digs, if_pos rfl]
theorem digs_pos {n : Nat} (h : 0 < n) : digs n = digs (n / 10) ++ [n % 10] := by rw [digs, if_neg (by omega)]
theorem digs_all (n : Nat) : Digs (digs n) ∧ Led (digs n) ∧ val (digs n) = n := by
  induction n using Nat.strongRecOn with
  | _ n ih =>
    by_cases h : n = 0
    · subst h
      rw [digs_zero]
      exact ⟨fun d hd => by simp at hd, fun d t e => by simp at e, rfl⟩
    · obtain ⟨h1, h2, h3⟩ := ih (n / 10) (by omega)
      rw [digs_pos (by omega)]
      refine ⟨h1.append (Digs.one (by omega)), ?_, by rw [val_snoc, h3]; omega⟩
      intro d t e
      cases hq : digs (n / 10) with
      | nil =>
        rw [hq] at e h3
        simp [val] at e h3
        omega
      | cons c s =>
        rw [hq] at e
        simp at e
        rw [← e.1]
        exact h2 c s hq
theorem digs_len : ∀ (k n : Nat), n < 10 ^ k → (digs n).length ≤ k
  | 0, n, h => by
    have : n = 0 := by simpa using h
    subst this; rw [digs_zero]; simp
  | k + 1, n, h => by
    by_cases h0 : n = 0
    · subst h0; rw [digs_zero]; simp
    · rw [digs_pos (by omega), List.length_append]
      have := digs_len k (n / 10) (by rw [Nat.pow_succ] at h; omega)
      simp; omega
theorem digs_rep (n : Nat) : Rep (digs n) (digs n).length n 1 := by
  unfold Rep
  rw [(digs_all n).2.2]
  simp
theorem digs_fine (n : Nat) : Fine (trimD (digs n)) (pt (trimD (digs n)) (digs n).length) n 1 :=
  Fine.of (digs_all n).1 (digs_all n).2.1 (digs_rep n)

/-- Digits without a zero at the beginning are those of their number. -/
theorem digs_val : ∀ (l : List Nat), Digs l → Led l → digs (val l) = l := by
  have h : ∀ n (l : List Nat), l.length = n → Digs l → Led l → digs (val l) = l := by
    intro n
    induction n with
    | zero => intro l hl _ _; obtain rfl := List.eq_nil_of_length_eq_zero hl; rw [val_nil, digs_zero]
    | succ n ih =>
      intro l hl hd hled
      rcases snoc_cases l with rfl | ⟨t, d, rfl⟩
      · simp at hl
      · have h9 : d ≤ 9 := hd d (by simp)
        have ht := ih t (by simpa using hl) hd.left (fun x s e => hled x (s ++ [d]) (by rw [e]; rfl))
        have hpos : 0 < val (t ++ [d]) := by
          cases t with
          | nil => have := hled d [] rfl; simp [val]; omega
          | cons c s =>
            have := hled c (s ++ [d]) rfl
            have h2 := val_ge c (s ++ [d]) (by omega)
            have h3 : 0 < 10 ^ (s ++ [d]).length := Nat.pow_pos (by omega)
            rw [List.cons_append]; omega
        rw [digs_pos hpos, val_snoc, show (10 * val t + d) / 10 = val t by omega, show (10 * val t + d) % 10 = d by omega, ht]
  exact fun l => h _ l rfl

/-- Bytes of digits. -/
def txt (l : List Nat) : List UInt8 := l.map fun d => UInt8.ofNat (48 + d)

end Go.Proofs.YtnddldnabldnoaaGreatDoor.Deci
