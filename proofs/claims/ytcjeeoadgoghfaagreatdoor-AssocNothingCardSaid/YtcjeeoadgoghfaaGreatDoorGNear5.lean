/- Plain mathematics of decimal digits with a point: doubling, halving, zeros at the end. No run in this text: what strconv's decimal does when it is shifted: how many digits twice a number k times has, by the digits of a power of five; long division by a power of two. No run in this text: strconv's uscale: what it answers is the product's quotient with a mark for what is left, if no product comes too near to a multiple without being one. No run in this text: the nearest float of a fraction, as its word: that there is one, and that it rises with the fraction. No run in this text: rounding a decimal that was cut: it is right if what was cut is small and a half is never cut. No run in this text: how near a decimal that keeps its first 800 digits stays to what it stands for, shift after shift. No run in this text: a decimal (D times 10 ^ q, and a flag) that keeps its first 800 digits, shifted to and fro: how near it stays. No run in this text: one shift of the decimal with its cut and its trim; at a half nothing is lost. No run in this text: the word of the float that is nearest to a fraction: there is one at most, and it rises with the fraction. No run in this text: a row of shifts of the decimal: what it stands for, and that at a half nothing was lost on the way. No run in this text: what strconv's two shifts of a decimal leave is Cut8 of twice, or five times, so many times its digits; what RoundedInteger answers. No run in this text: what strconv's RoundedInteger answers is rndT of the decimal. No run in this text: behind a row of shifts the decimal rounds as the value does. No run in this text: floatBits' shifts: each keeps a good decimal and adds to the row of shifts; what the decimal's point says of the value. No run in this text: floatBits' two loops end, and in what they leave the value lies between a half and one. No run in this text: what floatBits answers is the word of the nearest float. No run in this text: the value's denominators are small enough for 800 digits. No run in this text: the nearest float's word is there, is one for one value, and is what the model's binary64 writes. No run in this text: binary64's product and quotient are the nearest floats of the product and of the quotient. No run in this text: powers of ten, scaled to 128 bits, and, for each, a vector that shows how near products come to multiples of 2 ^ 136. No run in this text: strconv's parseFloat64: at 19 digits and a power of ten it answers the nearest float. No run in this text: the rows of the table of powers of ten, by their rule; what is too great is infinity's word, what is too small is 0. -/
import Ieee.Arith

namespace Go.Proofs.YtcjeeoadgoghfaaGreatDoor.Deci
set_option linter.unusedVariables false

/-- The natural that digits say. -/
def val (l : List Nat) : Nat := l.foldl (fun a d => 10 * a + d) 0

theorem foldl_val (l : List Nat) : ∀ a, l.foldl (fun a d => 10 * a + d) a = a * 10 ^ l.length + val l := by
  induction l with
  | nil => intro a; simp [val]
  | cons d t ih =>
    intro a
    unfold val
    simp only [List.foldl_cons, List.length_cons]
    rw [ih, ih (10 * 0 + d)]
    rw [Nat.pow_succ]
    have : (10 * a + d) * 10 ^ t.length = a * (10 ^ t.length * 10) + d * 10 ^ t.length := by
      rw [Nat.add_mul, Nat.mul_comm (10 ^ t.length) 10, ← Nat.mul_assoc a, Nat.mul_comm a 10]
    rw [this, show 10 * 0 + d = d by omega]
    omega

theorem val_nil : val [] = 0 := rfl
theorem val_cons (d : Nat) (t : List Nat) : val (d :: t) = d * 10 ^ t.length + val t := by
  show List.foldl _ _ _ = _
  rw [List.foldl_cons, foldl_val]; simp
theorem val_append (a b : List Nat) : val (a ++ b) = val a * 10 ^ b.length + val b := by
  unfold val
  rw [List.foldl_append, foldl_val]; rfl
theorem val_snoc (a : List Nat) (d : Nat) : val (a ++ [d]) = 10 * val a + d := by
  rw [val_append]; simp [val]; omega

def Digs (l : List Nat) : Prop := ∀ d, d ∈ l → d ≤ 9

theorem val_lt (l : List Nat) (h : Digs l) : val l < 10 ^ l.length := by
  induction l with
  | nil => simp [val]
  | cons d t ih =>
    have h1 := ih (fun x hx => h x (List.mem_cons_of_mem _ hx))
    have h2 := h d (List.mem_cons_self ..)
    rw [val_cons, List.length_cons, Nat.pow_succ]
    have : d * 10 ^ t.length ≤ 9 * 10 ^ t.length := Nat.mul_le_mul_right _ h2
    omega

theorem val_ge (d : Nat) (t : List Nat) (h : 1 ≤ d) : 10 ^ t.length ≤ val (d :: t) := by
  rw [val_cons]
  have : 1 * 10 ^ t.length ≤ d * 10 ^ t.length := Nat.mul_le_mul_right _ h
  omega

/-- Twice the digits: the digits of as many places, and what is carried. -/
def dbl : List Nat → List Nat × Nat
  | [] => ([], 0)
  | d :: t => ((2 * d + (dbl t).2) % 10 :: (dbl t).1, (2 * d + (dbl t).2) / 10)

theorem dbl_len (l : List Nat) : (dbl l).1.length = l.length := by
  induction l with
  | nil => rfl
  | cons d t ih => simp [dbl, ih]

theorem dbl_digs (l : List Nat) : Digs (dbl l).1 := by
  induction l with
  | nil => intro d hd; simp [dbl] at hd
  | cons d t ih =>
    intro x hx
    simp only [dbl, List.mem_cons] at hx
    rcases hx with rfl | hx
    · omega
    · exact ih x hx

theorem dbl_carry (l : List Nat) (h : Digs l) : (dbl l).2 ≤ 1 := by
  induction l with
  | nil => simp [dbl]
  | cons d t ih =>
    have h1 := ih (fun x hx => h x (List.mem_cons_of_mem _ hx))
    have h2 := h d (List.mem_cons_self ..)
    simp only [dbl]; omega

theorem dbl_val (l : List Nat) : (dbl l).2 * 10 ^ l.length + val (dbl l).1 = 2 * val l := by
  induction l with
  | nil => simp [dbl, val]
  | cons d t ih =>
    simp only [dbl]
    rw [val_cons, val_cons, dbl_len, List.length_cons, Nat.pow_succ]
    have e := Nat.div_add_mod (2 * d + (dbl t).2) 10
    generalize (2 * d + (dbl t).2) / 10 = q at *
    generalize (2 * d + (dbl t).2) % 10 = r at *
    have e2 : (10 * q + r) * 10 ^ t.length = (2 * d + (dbl t).2) * 10 ^ t.length := by rw [e]
    rw [Nat.add_mul, Nat.add_mul] at e2
    have e3 : q * (10 ^ t.length * 10) = 10 * q * 10 ^ t.length := by
      rw [Nat.mul_comm (10 ^ t.length) 10, ← Nat.mul_assoc, Nat.mul_comm q 10]
    have e4 : 2 * d * 10 ^ t.length = 2 * (d * 10 ^ t.length) := by rw [Nat.mul_assoc]
    rw [e3]
    omega

/-- Half of digits behind a remainder: the digits, and what is left at the end. -/
def hlf : Nat → List Nat → List Nat
  | _, [] => []
  | r, d :: t => (10 * r + d) / 2 :: hlf ((10 * r + d) % 2) t
def rem : Nat → List Nat → Nat
  | r, [] => r
  | r, d :: t => rem ((10 * r + d) % 2) t

theorem hlf_len (l : List Nat) : ∀ r, (hlf r l).length = l.length := by
  induction l with
  | nil => intro r; rfl
  | cons d t ih => intro r; simp [hlf, ih]

theorem hlf_snoc (l : List Nat) (d : Nat) : ∀ r, hlf r (l ++ [d]) = hlf r l ++ [(10 * rem r l + d) / 2] ∧ rem r (l ++ [d]) = (10 * rem r l + d) % 2 := by
  induction l with
  | nil => intro r; simp [hlf, rem]
  | cons c t ih => intro r; simp [hlf, rem, ih]

theorem rem_le (l : List Nat) : ∀ r, r ≤ 1 → rem r l ≤ 1 := by
  induction l with
  | nil => intro r h; exact h
  | cons d t ih => intro r h; exact ih _ (by omega)

theorem hlf_digs (l : List Nat) (h : Digs l) : ∀ r, r ≤ 1 → Digs (hlf r l) := by
  induction l with
  | nil => intro r _ d hd; simp [hlf] at hd
  | cons d t ih =>
    intro r hr x hx
    have h2 := h d (List.mem_cons_self ..)
    simp only [hlf, List.mem_cons] at hx
    rcases hx with rfl | hx
    · omega
    · exact ih (fun x hx => h x (List.mem_cons_of_mem _ hx)) _ (by omega) x hx

theorem hlf_val (l : List Nat) : ∀ r, 2 * val (hlf r l) + rem r l = r * 10 ^ l.length + val l := by
  induction l with
  | nil => intro r; simp [hlf, rem, val]
  | cons d t ih =>
    intro r
    have h1 := ih ((10 * r + d) % 2)
    simp only [hlf, rem]
    rw [val_cons, val_cons, hlf_len, List.length_cons, Nat.pow_succ]
    have e := Nat.div_add_mod (10 * r + d) 2
    generalize (10 * r + d) / 2 = q at *
    generalize (10 * r + d) % 2 = s at *
    have e2 : (2 * q + s) * 10 ^ t.length = (10 * r + d) * 10 ^ t.length := by rw [e]
    rw [Nat.add_mul, Nat.add_mul] at e2
    have e3 : r * (10 ^ t.length * 10) = 10 * r * 10 ^ t.length := by
      rw [Nat.mul_comm (10 ^ t.length) 10, ← Nat.mul_assoc, Nat.mul_comm r 10]
    have e4 : 2 * q * 10 ^ t.length = 2 * (q * 10 ^ t.length) := by rw [Nat.mul_assoc]
    rw [e3]
    omega

/-- Digits with the point behind p of them stand for the fraction a over b. -/
def Rep (l : List Nat) (p : Int) (a b : Nat) : Prop :=
  val l * 10 ^ (p - l.length).toNat * b = a * 10 ^ (l.length - p).toNat

theorem Rep.nil {p : Int} {a b : Nat} (h : Rep [] p a b) : a = 0 := by
  unfold Rep at h
  rw [val_nil, Nat.zero_mul, Nat.zero_mul] at h
  have := Nat.pow_pos (n := ((([] : List Nat).length : Int) - p).toNat) (show 0 < 10 by omega)
  exact (Nat.mul_eq_zero.1 h.symm).resolve_right (by omega)

/-- One digit more at the end, a zero, is nothing. -/
theorem Rep.snoc0 {l : List Nat} {p : Int} {a b : Nat} : Rep (l ++ [0]) p a b ↔ Rep l p a b := by
  unfold Rep
  rw [val_snoc, List.length_append, List.length_singleton]
  by_cases h : p ≤ l.length
  · have e1 : (p - ((l.length + 1 : Nat) : Int)).toNat = 0 := by omega
    have e2 : (p - (l.length : Int)).toNat = 0 := by omega
    have e3 : (((l.length + 1 : Nat) : Int) - p).toNat = ((l.length : Int) - p).toNat + 1 := by omega
    rw [e1, e2, e3, Nat.pow_succ]
    simp only [Nat.pow_zero, Nat.mul_one, Nat.add_zero]
    rw [← Nat.mul_assoc, Nat.mul_comm _ 10, Nat.mul_assoc 10]
    constructor
    · intro h; exact Nat.eq_of_mul_eq_mul_left (by omega) h
    · intro h; rw [h]
  · have e1 : (p - ((l.length + 1 : Nat) : Int)).toNat + 1 = (p - (l.length : Int)).toNat := by omega
    have e3 : (((l.length + 1 : Nat) : Int) - p).toNat = 0 := by omega
    have e4 : ((l.length : Int) - p).toNat = 0 := by omega
    rw [e3, e4, ← e1, Nat.pow_succ, Nat.add_zero]
    rw [show val l * (10 ^ (p - ((l.length + 1 : Nat) : Int)).toNat * 10) = 10 * val l * 10 ^ (p - ((l.length + 1 : Nat) : Int)).toNat by
      rw [Nat.mul_comm (10 ^ _) 10, ← Nat.mul_assoc, Nat.mul_comm (val l) 10]]

/-- A zero at the beginning is nothing. -/
theorem Rep.cons0 {l : List Nat} {p : Int} {a b : Nat} : Rep (0 :: l) p a b ↔ Rep l (p - 1) a b := by
  unfold Rep
  rw [val_cons, List.length_cons, Nat.zero_mul, Nat.zero_add]
  rw [show p - ((l.length + 1 : Nat) : Int) = p - 1 - l.length by omega, show ((l.length + 1 : Nat) : Int) - p = l.length - (p - 1) by omega]

theorem Rep.double {l : List Nat} {p : Int} {a b : Nat} (h : Rep l p a b) : Rep ((dbl l).2 :: (dbl l).1) (p + 1) (2 * a) b := by
  unfold Rep at *
  rw [val_cons, dbl_len, dbl_val, List.length_cons, dbl_len]
  rw [show p + 1 - ((l.length + 1 : Nat) : Int) = p - l.length by omega, show ((l.length + 1 : Nat) : Int) - (p + 1) = l.length - p by omega]
  rw [Nat.mul_assoc 2, Nat.mul_assoc 2, Nat.mul_assoc 2, h]

theorem Rep.half {l : List Nat} {p : Int} {a b : Nat} (h : Rep l p a b) : Rep (hlf 0 l ++ [5 * rem 0 l]) p a (2 * b) := by
  have h2 := (Rep.snoc0 (l := l) (p := p) (a := a) (b := b)).2 h
  unfold Rep at *
  rw [val_snoc, List.length_append, List.length_singleton, hlf_len]
  rw [val_snoc, List.length_append, List.length_singleton] at h2
  have e := hlf_val l 0
  rw [← h2]
  rw [show 10 * val (hlf 0 l) + 5 * rem 0 l = 5 * val l by omega, show 10 * val l + 0 = 5 * val l * 2 by omega]
  generalize 5 * val l = x
  generalize 10 ^ (p - ((l.length + 1 : Nat) : Int)).toNat = y
  rw [Nat.mul_comm 2 b, ← Nat.mul_assoc, Nat.mul_assoc (x * y), Nat.mul_comm b 2, ← Nat.mul_assoc, Nat.mul_assoc x y 2, Nat.mul_comm y 2, ← Nat.mul_assoc]

/-- Without zeros at the end. -/
def trimD (l : List Nat) : List Nat := (l.reverse.dropWhile (· == 0)).reverse

theorem trimD_snoc0 (l : List Nat) : trimD (l ++ [0]) = trimD l := by simp [trimD]
theorem trimD_snoc (l : List Nat) (d : Nat) (h : d ≠ 0) : trimD (l ++ [d]) = l ++ [d] := by
  unfold trimD
  rw [List.reverse_append]
  simp [h]
theorem trimD_nil : trimD [] = [] := rfl

theorem Digs.append {a b : List Nat} (h1 : Digs a) (h2 : Digs b) : Digs (a ++ b) := fun d hd => (List.mem_append.1 hd).elim (h1 d) (h2 d)
theorem Digs.left {a b : List Nat} (h : Digs (a ++ b)) : Digs a := fun d hd => h d (List.mem_append.2 (Or.inl hd))
theorem Digs.one {d : Nat} (h : d ≤ 9) : Digs [d] := fun x hx => by rw [List.mem_singleton] at hx; omega

/-- No zero at the end. -/
def Tight (l : List Nat) : Prop := ∀ t d, l = t ++ [d] → d ≠ 0
/-- No zero at the beginning. -/
def Led (l : List Nat) : Prop := ∀ d t, l = d :: t → d ≠ 0

theorem snoc_cases (l : List Nat) : l = [] ∨ ∃ t d, l = t ++ [d] := by
  rcases List.eq_nil_or_concat l with h | ⟨t, d, h⟩
  · exact Or.inl h
  · exact Or.inr ⟨t, d, by rw [h]; simp⟩

/-- What is left when zeros at the end go: a front of the list. -/
theorem trimD_spec (l : List Nat) : ∃ k, l = trimD l ++ List.replicate k 0 ∧ Tight (trimD l) := by
  have h : ∀ n (l : List Nat), l.length = n → ∃ k, l = trimD l ++ List.replicate k 0 ∧ Tight (trimD l) := by
    intro n
    induction n with
    | zero =>
      intro l hl
      obtain rfl := List.eq_nil_of_length_eq_zero hl
      exact ⟨0, rfl, fun t d h => by rw [trimD_nil] at h; simp at h⟩
    | succ n ih =>
      intro l hl
      rcases snoc_cases l with rfl | ⟨t, d, rfl⟩
      · simp at hl
      · by_cases hd : d = 0
        · subst hd
          obtain ⟨k, h1, h2⟩ := ih t (by simpa using hl)
          refine ⟨k + 1, ?_, ?_⟩
          · rw [trimD_snoc0, List.replicate_succ', ← List.append_assoc, ← h1]
          · rw [trimD_snoc0]; exact h2
        · refine ⟨0, ?_, ?_⟩
          · rw [trimD_snoc _ _ hd]; simp
          · rw [trimD_snoc _ _ hd]
            intro t' d' h
            have := (List.append_inj' h rfl).2
            simp at this
            omega
  exact h _ l rfl

theorem trimD_len (l : List Nat) : (trimD l).length ≤ l.length := by
  obtain ⟨k, h, _⟩ := trimD_spec l
  have := congrArg List.length h
  rw [List.length_append] at this
  omega
theorem trimD_take (l : List Nat) : trimD l = l.take (trimD l).length := by
  obtain ⟨k, h, _⟩ := trimD_spec l
  have : l.take (trimD l).length = (trimD l ++ List.replicate k 0).take (trimD l).length := by rw [← h]
  rw [this]; simp
theorem trimD_digs {l : List Nat} (h : Digs l) : Digs (trimD l) := by
  rw [trimD_take]; exact fun d hd => h d (List.mem_of_mem_take hd)
theorem trimD_led {l : List Nat} (h : Led l) : Led (trimD l) := by
  intro d t e
  obtain ⟨k, h1, _⟩ := trimD_spec l
  rw [e] at h1
  exact h d _ h1

theorem Rep.zeros {l : List Nat} {p : Int} {a b k : Nat} : Rep (l ++ List.replicate k 0) p a b ↔ Rep l p a b := by
  induction k with
  | zero => simp
  | succ k ih => rw [List.replicate_succ', ← List.append_assoc, Rep.snoc0, ih]
theorem Rep.trim {l : List Nat} {p : Int} {a b : Nat} (h : Rep l p a b) : Rep (trimD l) p a b := by
  obtain ⟨k, h1, _⟩ := trimD_spec l
  rw [h1] at h
  exact Rep.zeros.1 h

/-- The place of the point, of no digits 0. -/
def pt (l : List Nat) (p : Int) : Int := if l = [] then 0 else p
theorem Rep.at0 {a b : Nat} {p q : Int} (h : Rep [] p a b) : Rep [] q a b := by
  have := Rep.nil h
  subst this
  simp [Rep, val]
theorem Rep.pt {l : List Nat} {p : Int} {a b : Nat} (h : Rep l p a b) : Rep l (pt l p) a b := by
  unfold Deci.pt
  by_cases e : l = []
  · rw [if_pos e]; subst e; exact h.at0
  · rw [if_neg e]; exact h

/-- Digits with a point as the document's answer keeps them, and what they stand for. -/
def Fine (l : List Nat) (p : Int) (a b : Nat) : Prop := Digs l ∧ Tight l ∧ Led l ∧ (l = [] → p = 0) ∧ Rep l p a b
theorem Fine.digs {l : List Nat} {p : Int} {a b : Nat} (h : Fine l p a b) : Digs l := h.1
theorem Fine.tight {l : List Nat} {p : Int} {a b : Nat} (h : Fine l p a b) : Tight l := h.2.1
theorem Fine.led {l : List Nat} {p : Int} {a b : Nat} (h : Fine l p a b) : Led l := h.2.2.1
theorem Fine.zero {l : List Nat} {p : Int} {a b : Nat} (h : Fine l p a b) : l = [] → p = 0 := h.2.2.2.1
theorem Fine.rep {l : List Nat} {p : Int} {a b : Nat} (h : Fine l p a b) : Rep l p a b := h.2.2.2.2
theorem Fine.make {l : List Nat} {p : Int} {a b : Nat} (h1 : Digs l) (h2 : Tight l) (h3 : Led l) (h4 : l = [] → p = 0) (h5 : Rep l p a b) : Fine l p a b := And.intro h1 (And.intro h2 (And.intro h3 (And.intro h4 h5)))

theorem pt_zero {l : List Nat} {p : Int} (h : l = []) : pt l p = 0 := if_pos h
theorem Fine.of {l : List Nat} {p : Int} {a b : Nat} (hd : Digs l) (hl : Led l) (h : Rep l p a b) : Fine (trimD l) (pt (trimD l) p) a b := by
  obtain ⟨k, _, ht⟩ := trimD_spec l
  exact Fine.make (trimD_digs hd) ht (trimD_led hl) pt_zero h.trim.pt

/-- Twice: the digits ahead of what is trimmed, and the point. -/
def dblL (l : List Nat) : List Nat := if 0 < (dbl l).2 then (dbl l).2 :: (dbl l).1 else (dbl l).1
def dblP (l : List Nat) (p : Int) : Int := if 0 < (dbl l).2 then p + 1 else p
theorem dblL_digs (l : List Nat) (h : Digs l) : Digs (dblL l) := by
  unfold dblL
  split
  · intro d hd
    rcases List.mem_cons.1 hd with rfl | hd
    · have := dbl_carry l h; omega
    · exact dbl_digs l d hd
  · exact dbl_digs l
theorem dblL_led (l : List Nat) (h : Digs l) (hl : Led l) : Led (dblL l) := by
  unfold dblL
  split
  · intro d t e
    injection e with e1 _
    omega
  · intro d t e
    cases l with
    | nil => simp [dbl] at e
    | cons c s =>
      have hc := hl c s rfl
      have hc9 := h c (List.mem_cons_self ..)
      simp only [dbl, List.cons.injEq] at e
      rename_i h0
      simp only [dbl] at h0
      have := dbl_carry s (fun x hx => h x (List.mem_cons_of_mem _ hx))
      omega
theorem Rep.dbl {l : List Nat} {p : Int} {a b : Nat} (h : Rep l p a b) : Rep (dblL l) (dblP l p) (2 * a) b := by
  have h1 := h.double
  unfold dblL dblP
  by_cases hc : 0 < (Deci.dbl l).2
  · rw [if_pos hc, if_pos hc]; exact h1
  · rw [if_neg hc, if_neg hc]
    rw [show (Deci.dbl l).2 = 0 by omega, Rep.cons0] at h1
    rw [show p = p + 1 - 1 by omega]; exact h1
theorem dblL_len (l : List Nat) : (dblL l).length ≤ l.length + 1 := by
  unfold dblL
  split <;> simp [dbl_len]

/-- Half: likewise. -/
def hlfR (l : List Nat) : List Nat := if 0 < rem 0 l then hlf 0 l ++ [5] else hlf 0 l
def hlfL (l : List Nat) : List Nat := match hlfR l with
  | 0 :: t => t
  | l => l
def hlfP (l : List Nat) (p : Int) : Int := match hlfR l with
  | 0 :: _ => p - 1
  | _ => p
theorem Rep.hlfR {l : List Nat} {p : Int} {a b : Nat} (h : Rep l p a b) : Rep (hlfR l) p a (2 * b) := by
  have h1 := h.half
  have := rem_le l 0 (by omega)
  unfold Deci.hlfR
  by_cases hr : 0 < rem 0 l
  · rw [if_pos hr]
    rw [show rem 0 l = 1 by omega] at h1
    exact h1
  · rw [if_neg hr]
    rw [show rem 0 l = 0 by omega] at h1
    exact Rep.snoc0.1 h1
theorem Rep.hlf {l : List Nat} {p : Int} {a b : Nat} (h : Rep l p a b) : Rep (hlfL l) (hlfP l p) a (2 * b) := by
  have h1 := h.hlfR
  unfold hlfL hlfP
  split
  · rename_i t e; rw [e] at h1; exact Rep.cons0.1 h1
  · exact h1
theorem hlfR_digs (l : List Nat) (h : Digs l) : Digs (hlfR l) := by
  unfold hlfR
  split
  · exact (hlf_digs l h 0 (by omega)).append (Digs.one (by omega))
  · exact hlf_digs l h 0 (by omega)
theorem hlfL_digs (l : List Nat) (h : Digs l) : Digs (hlfL l) := by
  have h1 := hlfR_digs l h
  unfold hlfL
  split
  · rename_i t e; rw [e] at h1; exact fun x hx => h1 x (List.mem_cons_of_mem _ hx)
  · exact h1
theorem hlfL_led (l : List Nat) (hl : Led l) : Led (hlfL l) := by
  unfold hlfL
  intro d t e
  cases l with
  | nil => simp [hlfR, Deci.hlf, rem] at e
  | cons c s =>
    have hc := hl c s rfl
    cases s with
    | nil =>
      have hx : c / 2 = 0 → c = 1 := by omega
      simp only [hlfR, Deci.hlf, rem, Nat.mul_zero, Nat.zero_add] at e
      by_cases h1 : 0 < c % 2
      · rw [if_pos h1] at e
        split at e
        · rename_i u e2
          simp at e2
          rw [← e2.2] at e
          injection e with e3 _
          omega
        · rename_i y hn
          simp at e
          rcases e with ⟨rfl, _⟩
          intro h0
          exact hn [5] (by simp; omega)
      · rw [if_neg h1] at e
        split at e
        · rename_i u e2
          simp at e2
          omega
        · simp at e
          omega
    | cons c2 s =>
      simp only [hlfR, Deci.hlf, rem, Nat.mul_zero, Nat.zero_add] at e
      split at e
      · rename_i u e2
        have e3 : c / 2 = 0 := by
          split at e2
          · simp at e2; omega
          · simp at e2; omega
        have e4 : t.length ≤ t.length := Nat.le_refl _
        have e5 : d = (10 * (c % 2) + c2) / 2 := by
          rw [e] at e2
          split at e2
          · simp at e2; exact e2.2.1.symm
          · simp at e2; exact e2.2.1.symm
        omega
      · rename_i hn
        have e3 : d = c / 2 := by
          split at e
          · simp at e; exact e.1.symm
          · simp at e; exact e.1.symm
        intro h0
        subst h0
        exact hn t e

theorem hlfL_len (l : List Nat) : (hlfL l).length ≤ l.length + 1 := by
  have h : (hlfR l).length ≤ l.length + 1 := by
    unfold hlfR
    split <;> simp [hlf_len]
  unfold hlfL
  split
  · rename_i t e; rw [e] at h; simp at h; omega
  · exact h

theorem Fine.double {l : List Nat} {p : Int} {a b : Nat} (h : Fine l p a b) : Fine (trimD (dblL l)) (pt (trimD (dblL l)) (dblP l p)) (2 * a) b :=
  Fine.of (dblL_digs l h.digs) (dblL_led l h.digs h.led) h.rep.dbl
theorem Fine.half {l : List Nat} {p : Int} {a b : Nat} (h : Fine l p a b) : Fine (trimD (hlfL l)) (pt (trimD (hlfL l)) (hlfP l p)) a (2 * b) :=
  Fine.of (hlfL_digs l h.digs) (hlfL_led l h.led) h.rep.hlf

/-- A whole number's digits end at the point, and no others' do. -/
theorem Fine.whole {l : List Nat} {p : Int} {a b : Nat} (h : Fine l p a b) (hb : 0 < b) : (l.length : Int) ≤ max p 0 ↔ b ∣ a := by
  have hr := h.rep
  unfold Rep at hr
  constructor
  · intro hle
    have e : ((l.length : Int) - p).toNat = 0 := by
      by_cases h0 : l = []
      · have := h.zero h0; subst h0; rw [this]; rfl
      · have : 0 < l.length := List.length_pos_iff.2 h0
        omega
    rw [e, Nat.pow_zero, Nat.mul_one] at hr
    exact ⟨val l * 10 ^ (p - l.length).toNat, by rw [← hr, Nat.mul_comm]⟩
  · rintro ⟨q, rfl⟩
    have hr2 : val l * 10 ^ (p - l.length).toNat = q * 10 ^ ((l.length : Int) - p).toNat := by
      refine Nat.eq_of_mul_eq_mul_right hb ?_
      rw [hr, Nat.mul_comm b q, Nat.mul_assoc, Nat.mul_assoc, Nat.mul_comm b]
    rcases snoc_cases l with rfl | ⟨t, d, rfl⟩
    · simp; omega
    · have hd := h.tight t d rfl
      have hd9 := h.digs d (by simp)
      by_cases hlt : (((t ++ [d]).length : Nat) : Int) ≤ max p 0
      · exact hlt
      · exfalso
        have e1 : (p - ((t ++ [d]).length : Nat)).toNat = 0 := by omega
        obtain ⟨k, e2⟩ : ∃ k, (((t ++ [d]).length : Nat) - p).toNat = k + 1 := ⟨(((t ++ [d]).length : Nat) - p).toNat - 1, by omega⟩
        rw [e1, e2, val_snoc, Nat.pow_zero, Nat.mul_one, Nat.pow_succ] at hr2
        have : (10 * val t + d) % 10 = (q * (10 ^ k * 10)) % 10 := by rw [hr2]
        rw [← Nat.mul_assoc, Nat.mul_mod_left] at this
        omega

theorem Fine.whole_val {l : List Nat} {p : Int} {q b : Nat} (h : Fine l p (q * b) b) (hb : 0 < b) : val (l ++ List.replicate (p - l.length).toNat 0) = q := by
  have hw := (h.whole hb).2 ⟨q, Nat.mul_comm _ _⟩
  have hr := h.rep
  unfold Rep at hr
  have e : ((l.length : Int) - p).toNat = 0 := by
    by_cases h0 : l = []
    · have := h.zero h0; subst h0; rw [this]; rfl
    · have : 0 < l.length := List.length_pos_iff.2 h0
      omega
  rw [e, Nat.pow_zero, Nat.mul_one] at hr
  have hz : ∀ k, val (List.replicate k 0) = 0 := by
    intro k
    induction k with
    | zero => rfl
    | succ k ih => rw [List.replicate_succ, val_cons, ih]; simp
  rw [val_append, hz, List.length_replicate, Nat.add_zero]
  exact Nat.eq_of_mul_eq_mul_right hb hr

/-- The digits of a natural; of 0 none. -/
def digs (n : Nat) : List Nat := if n = 0 then [] else digs (n / 10) ++ [n % 10]
termination_by n
decreasing_by omega
theorem digs_zero : digs 0 = [] := by rw [digs, if_pos rfl]
theorem digs_pos {n : Nat} (h : 0 < n) : digs n = digs (n / 10) ++ [n % 10] := by rw [digs, if_neg (by omega)]
theorem digs_all (n : Nat) : Digs (digs n) ∧ Led (digs n) ∧ val (digs n) = n := by
  induction n using Nat.strongRecOn with
  | _ n ih =>
    by_cases h : n = 0
    · subst h
      rw [digs_zero]
      exact ⟨fun d hd => by simp at hd, fun d t e => by simp at e, rfl⟩
    · obtain ⟨h1, h2, h3⟩ := ih (n / 10) (by omega)
      rw [digs_pos (by omega)]
      refine ⟨h1.append (Digs.one (by omega)), ?_, by rw [val_snoc, h3]; omega⟩
      intro d t e
      cases hq : digs (n / 10) with
      | nil =>
        rw [hq] at e h3
        simp [val] at e h3
        omega
      | cons c s =>
        rw [hq] at e
        simp at e
        rw [← e.1]
        exact h2 c s hq
theorem digs_len : ∀ (k n : Nat), n < 10 ^ k → (digs n).length ≤ k
  | 0, n, h => by
    have : n = 0 := by simpa using h
    subst this; rw [digs_zero]; simp
  | k + 1, n, h => by
    by_cases h0 : n = 0
    · subst h0; rw [digs_zero]; simp
    · rw [digs_pos (by omega), List.length_append]
      have := digs_len k (n / 10) (by rw [Nat.pow_succ] at h; omega)
      simp; omega
theorem digs_rep (n : Nat) : Rep (digs n) (digs n).length n 1 := by
  unfold Rep
  rw [(digs_all n).2.2]
  simp
theorem digs_fine (n : Nat) : Fine (trimD (digs n)) (pt (trimD (digs n)) (digs n).length) n 1 :=
  Fine.of (digs_all n).1 (digs_all n).2.1 (digs_rep n)

/-- Digits without a zero at the beginning are those of their number. -/
theorem digs_val : ∀ (l : List Nat), Digs l → Led l → digs (val l) = l := by
  have h : ∀ n (l : List Nat), l.length = n → Digs l → Led l → digs (val l) = l := by
    intro n
    induction n with
    | zero => intro l hl _ _; obtain rfl := List.eq_nil_of_length_eq_zero hl; rw [val_nil, digs_zero]
    | succ n ih =>
      intro l hl hd hled
      rcases snoc_cases l with rfl | ⟨t, d, rfl⟩
      · simp at hl
      · have h9 : d ≤ 9 := hd d (by simp)
        have ht := ih t (by simpa using hl) hd.left (fun x s e => hled x (s ++ [d]) (by rw [e]; rfl))
        have hpos : 0 < val (t ++ [d]) := by
          cases t with
          | nil => have := hled d [] rfl; simp [val]; omega
          | cons c s =>
            have := hled c (s ++ [d]) rfl
            have h2 := val_ge c (s ++ [d]) (by omega)
            have h3 : 0 < 10 ^ (s ++ [d]).length := Nat.pow_pos (by omega)
            rw [List.cons_append]; omega
        rw [digs_pos hpos, val_snoc, show (10 * val t + d) / 10 = val t by omega, show (10 * val t + d) % 10 = d by omega, ht]
  exact fun l => h _ l rfl

/-- Bytes of digits. -/
def txt (l : List Nat) : List UInt8 := l.map fun d => UInt8.ofNat (48 + d)

end Go.Proofs.YtcjeeoadgoghfaaGreatDoor.Deci

namespace Go.Proofs.YtcjeeoadgoghfaaGreatDoor.Deci
set_option linter.unusedVariables false

/-- Do these digits begin below those? -/
def less : List Nat → List Nat → Bool
  | _, [] => false
  | [], _ :: _ => true
  | b :: bs, s :: ss => if b = s then less bs ss else decide (b < s)

theorem val_pos {l : List Nat} (hd : Tight l) (hne : l ≠ []) : 0 < val l := by
  rcases snoc_cases l with rfl | ⟨t, d, rfl⟩
  · exact absurd rfl hne
  · have := hd t d rfl
    rw [val_snoc]
    omega
theorem Tight.tail {d : Nat} {t : List Nat} (h : Tight (d :: t)) : Tight t := by
  intro u x hu
  exact h (d :: u) x (by rw [hu]; rfl)
theorem less_iff : ∀ (c l : List Nat), Digs l → Digs c → Tight c → (less l c = true ↔ val l * 10 ^ c.length < val c * 10 ^ l.length) := by
  intro c
  induction c with
  | nil => intro l _ _ _; cases l <;> simp [less, val_nil]
  | cons s ss ih =>
    intro l hl hc ht
    cases l with
    | nil =>
      have := val_pos ht (by simp)
      simp [less, val_nil, this]
    | cons b bs =>
      have hl2 : Digs bs := fun x hx => hl x (List.mem_cons_of_mem _ hx)
      have hc2 : Digs ss := fun x hx => hc x (List.mem_cons_of_mem _ hx)
      have i := ih bs hl2 hc2 ht.tail
      have h1 := val_lt bs hl2
      have h2 := val_lt ss hc2
      rw [val_cons, val_cons, List.length_cons, List.length_cons, Nat.pow_succ, Nat.pow_succ]
      obtain ⟨X, hX⟩ : ∃ X, 10 ^ bs.length = X := ⟨_, rfl⟩
      obtain ⟨Y, hY⟩ : ∃ Y, 10 ^ ss.length = Y := ⟨_, rfl⟩
      rw [hX] at h1 i ⊢
      rw [hY] at h2 i ⊢
      generalize val bs = u at *
      generalize val ss = v at *
      have hu : u * Y < X * Y := by
        rcases Nat.eq_zero_or_pos Y with h | h
        · omega
        · exact Nat.mul_lt_mul_of_pos_right h1 h
      have hv : v * X < X * Y := by
        rcases Nat.eq_zero_or_pos X with h | h
        · omega
        · rw [Nat.mul_comm X Y]; exact Nat.mul_lt_mul_of_pos_right h2 h
      have e1 : (b * X + u) * (Y * 10) = 10 * (b * (X * Y)) + 10 * (u * Y) := by
        rw [Nat.add_mul]
        have a1 : b * X * (Y * 10) = 10 * (b * (X * Y)) := by ac_rfl
        have a2 : u * (Y * 10) = 10 * (u * Y) := by ac_rfl
        rw [a1, a2]
      have e2 : (s * Y + v) * (X * 10) = 10 * (s * (X * Y)) + 10 * (v * X) := by
        rw [Nat.add_mul]
        have a1 : s * Y * (X * 10) = 10 * (s * (X * Y)) := by ac_rfl
        have a2 : v * (X * 10) = 10 * (v * X) := by ac_rfl
        rw [a1, a2]
      rw [e1, e2]
      unfold less
      by_cases hbs : b = s
      · subst hbs
        rw [if_pos rfl, i]
        omega
      · rw [if_neg hbs, decide_eq_true_eq]
        rcases Nat.lt_or_gt_of_ne hbs with h | h
        · have h3 : (b + 1) * (X * Y) ≤ s * (X * Y) := Nat.mul_le_mul_right _ h
          rw [Nat.add_mul, Nat.one_mul] at h3
          constructor
          · intro _; omega
          · intro _; exact h
        · have h3 : (s + 1) * (X * Y) ≤ b * (X * Y) := Nat.mul_le_mul_right _ h
          rw [Nat.add_mul, Nat.one_mul] at h3
          constructor
          · intro h4; omega
          · intro h4; omega

/-- How many digits a number has. -/
theorem digs_length {n k : Nat} (h1 : 10 ^ k ≤ n) (h2 : n < 10 ^ (k + 1)) : (digs n).length = k + 1 := by
  have h3 := digs_len (k + 1) n h2
  obtain ⟨hd, hl, hv⟩ := digs_all n
  have h4 := val_lt (digs n) hd
  rw [hv] at h4
  have h5 : 10 ^ k < 10 ^ (digs n).length := Nat.lt_of_le_of_lt h1 h4
  have h6 := (Nat.pow_lt_pow_iff_right (by omega : 1 < 10)).1 h5
  omega
theorem digs_bound {n : Nat} (h : 0 < n) : 10 ^ ((digs n).length - 1) ≤ n ∧ n < 10 ^ (digs n).length := by
  obtain ⟨hd, hl, hv⟩ := digs_all n
  have h4 := val_lt (digs n) hd
  rw [hv] at h4
  refine ⟨?_, h4⟩
  cases hc : digs n with
  | nil => rw [hc, val_nil] at hv; omega
  | cons d t =>
    have h5 := val_ge d t (by have := hl d t hc; omega)
    rw [← hc, hv] at h5
    simpa using h5

/-- The digits of two to the k, how many; and those of five to the k. -/
def cutD (k : Nat) : Nat := (digs (2 ^ k)).length
def cutS (k : Nat) : List Nat := digs (5 ^ k)
theorem two_five (k : Nat) : 2 ^ k * 5 ^ k = 10 ^ k := by rw [← Nat.mul_pow]
theorem two_mod (k : Nat) : 2 ^ k % 5 ≠ 0 := by
  induction k with
  | zero => decide
  | succ k ih => rw [Nat.pow_succ]; omega
theorem ten_mod (m : Nat) (hm : 0 < m) : 10 ^ m % 5 = 0 := by
  obtain ⟨n, rfl⟩ : ∃ n, m = n + 1 := ⟨m - 1, by omega⟩
  rw [Nat.pow_succ]
  omega
theorem pow_odd (k m : Nat) (hm : 0 < m) : 2 ^ k ≠ 10 ^ m := by
  intro e
  have h1 := two_mod k
  have h2 := ten_mod m hm
  rw [e] at h1
  exact h1 h2
theorem five_mod (k : Nat) (hk : 0 < k) : 5 ^ k % 10 = 5 := by
  induction k with
  | zero => omega
  | succ k ih =>
    cases k with
    | zero => decide
    | succ k =>
      have := ih (by omega)
      rw [Nat.pow_succ]
      omega
theorem digs_tight {n : Nat} (h : n % 10 ≠ 0) : Tight (digs n) := by
  intro t d e
  rw [digs_pos (by omega)] at e
  have h2 := (List.append_inj' e rfl).2
  cases h2
  exact h
theorem cutD_pos (k : Nat) : 0 < cutD k := by
  have h := digs_bound (n := 2 ^ k) (Nat.pow_pos (by omega))
  unfold cutD
  cases hc : (digs (2 ^ k)).length with
  | zero =>
    rw [hc] at h
    have : 0 < 2 ^ k := Nat.pow_pos (by omega)
    have h2 := h.2
    simp at h2
  | succ n => omega
theorem cutD_le (k : Nat) (hk : 0 < k) : cutD k ≤ k := digs_len k _ (Nat.pow_lt_pow_left (by omega) (by omega))
theorem cutS_len (k : Nat) (hk : 0 < k) : (cutS k).length = k - cutD k + 1 := by
  have hb := digs_bound (n := 2 ^ k) (Nat.pow_pos (by omega))
  have h1 := cutD_pos k
  have h2 := cutD_le k hk
  have h3 := two_five k
  unfold cutS
  change 10 ^ (cutD k - 1) ≤ 2 ^ k ∧ 2 ^ k < 10 ^ cutD k at hb
  obtain ⟨b1, b2⟩ := hb
  have hF : 0 < 5 ^ k := Nat.pow_pos (by omega)
  apply digs_length
  · have e1 : 10 ^ (k - cutD k) * 10 ^ cutD k = 10 ^ k := by rw [← Nat.pow_add]; congr 1; omega
    have e2 : 10 ^ (k - cutD k) * 10 ^ cutD k < 5 ^ k * 10 ^ cutD k := by
      rw [e1, ← h3, Nat.mul_comm (2 ^ k)]
      exact Nat.mul_lt_mul_of_pos_left b2 hF
    exact Nat.le_of_lt (Nat.lt_of_mul_lt_mul_right e2)
  · have b3 : 10 ^ (cutD k - 1) < 2 ^ k := by
      rcases Nat.lt_or_ge (10 ^ (cutD k - 1)) (2 ^ k) with h | h
      · exact h
      · exfalso
        have e : 2 ^ k = 10 ^ (cutD k - 1) := by omega
        by_cases hd : cutD k = 1
        · rw [hd] at e
          simp at e
          omega
        · exact pow_odd k _ (by omega) e
    have e1 : 10 ^ (k - cutD k + 1) * 10 ^ (cutD k - 1) = 10 ^ k := by rw [← Nat.pow_add]; congr 1; omega
    have e2 : 5 ^ k * 10 ^ (cutD k - 1) < 10 ^ (k - cutD k + 1) * 10 ^ (cutD k - 1) := by
      rw [e1, ← h3, Nat.mul_comm (2 ^ k)]
      exact Nat.mul_lt_mul_of_pos_left b3 hF
    exact Nat.lt_of_mul_lt_mul_right e2

/-- How many digits there are behind a shift to the left. -/
theorem shl_len (l : List Nat) (k : Nat) (hk : 0 < k) (hd : Digs l) (hl : Led l) (hne : l ≠ []) :
    (digs (val l * 2 ^ k)).length + (if less l (cutS k) then 1 else 0) = l.length + cutD k := by
  have hS := digs_all (5 ^ k)
  have hiff := less_iff (cutS k) l hd hS.1 (digs_tight (by rw [five_mod k hk]; omega))
  have hv : val (cutS k) = 5 ^ k := hS.2.2
  rw [hv, cutS_len k hk] at hiff
  have h1 := cutD_pos k
  have h2 := cutD_le k hk
  have h3 := two_five k
  have hb := digs_bound (n := 2 ^ k) (Nat.pow_pos (by omega))
  change 10 ^ (cutD k - 1) ≤ 2 ^ k ∧ 2 ^ k < 10 ^ cutD k at hb
  obtain ⟨b1, b2⟩ := hb
  have hvl := val_lt l hd
  have hn : 0 < l.length := List.length_pos_iff.2 hne
  have hvg : 10 ^ (l.length - 1) ≤ val l := by
    cases l with
    | nil => exact absurd rfl hne
    | cons d t =>
      have := val_ge d t (by have := hl d t rfl; omega)
      simpa using this
  have hP : 0 < 2 ^ k := Nat.pow_pos (by omega)
  -- twice k times: below a power of ten just if the digits begin below those of five to the k
  have key : less l (cutS k) = true ↔ val l * 2 ^ k < 10 ^ (l.length + cutD k - 1) := by
    rw [hiff]
    have e1 : 10 ^ (l.length + cutD k - 1) * 10 ^ (k - cutD k + 1) = 10 ^ l.length * 10 ^ k := by
      rw [← Nat.pow_add, ← Nat.pow_add]
      congr 1
      omega
    have hQ : 0 < 10 ^ (k - cutD k + 1) := Nat.pow_pos (by omega)
    constructor
    · intro h
      have h4 : val l * 10 ^ (k - cutD k + 1) * 2 ^ k < 5 ^ k * 10 ^ l.length * 2 ^ k := Nat.mul_lt_mul_of_pos_right h hP
      have e2 : 5 ^ k * 10 ^ l.length * 2 ^ k = 10 ^ l.length * 10 ^ k := by rw [← h3]; ac_rfl
      have e3 : val l * 10 ^ (k - cutD k + 1) * 2 ^ k = val l * 2 ^ k * 10 ^ (k - cutD k + 1) := by ac_rfl
      rw [e2, e3, ← e1] at h4
      exact Nat.lt_of_mul_lt_mul_right h4
    · intro h
      have h4 : val l * 2 ^ k * 10 ^ (k - cutD k + 1) < 10 ^ (l.length + cutD k - 1) * 10 ^ (k - cutD k + 1) := Nat.mul_lt_mul_of_pos_right h hQ
      have e2 : 5 ^ k * 10 ^ l.length * 2 ^ k = 10 ^ l.length * 10 ^ k := by rw [← h3]; ac_rfl
      have e3 : val l * 10 ^ (k - cutD k + 1) * 2 ^ k = val l * 2 ^ k * 10 ^ (k - cutD k + 1) := by ac_rfl
      rw [e1, ← e3, ← e2] at h4
      exact Nat.lt_of_mul_lt_mul_right h4
  by_cases hless : less l (cutS k) = true
  · rw [if_pos hless]
    have hlt := key.1 hless
    have hge : 10 ^ (l.length - 1 + (cutD k - 1)) ≤ val l * 2 ^ k := by
      rw [Nat.pow_add]
      exact Nat.mul_le_mul hvg b1
    have := digs_length (n := val l * 2 ^ k) (k := l.length - 1 + (cutD k - 1)) hge (by rw [show l.length - 1 + (cutD k - 1) + 1 = l.length + cutD k - 1 by omega]; exact hlt)
    omega
  · rw [if_neg hless]
    have hge : 10 ^ (l.length + cutD k - 1) ≤ val l * 2 ^ k := by
      rcases Nat.lt_or_ge (val l * 2 ^ k) (10 ^ (l.length + cutD k - 1)) with h | h
      · exact absurd (key.2 h) hless
      · exact h
    have hlt : val l * 2 ^ k < 10 ^ (l.length + cutD k - 1 + 1) := by
      rw [show l.length + cutD k - 1 + 1 = l.length + cutD k by omega, Nat.pow_add]
      exact Nat.mul_lt_mul'' hvl b2
    have := digs_length hge hlt
    omega

/-- Digits times 2 ^ k, from the right: as many digits, and what is carried. -/
def mulp (k : Nat) : List Nat → List Nat × Nat
  | [] => ([], 0)
  | d :: t => ((d * 2 ^ k + (mulp k t).2) % 10 :: (mulp k t).1, (d * 2 ^ k + (mulp k t).2) / 10)
theorem mulp_len (k : Nat) (l : List Nat) : (mulp k l).1.length = l.length := by
  induction l with
  | nil => rfl
  | cons d t ih => simp [mulp, ih]
theorem mulp_digs (k : Nat) (l : List Nat) : Digs (mulp k l).1 := by
  induction l with
  | nil => intro d hd; simp [mulp] at hd
  | cons d t ih =>
    intro x hx
    simp only [mulp, List.mem_cons] at hx
    rcases hx with rfl | hx
    · omega
    · exact ih x hx
theorem mulp_carry (k : Nat) (l : List Nat) (h : Digs l) : (mulp k l).2 < 2 ^ k := by
  have hP : 0 < 2 ^ k := Nat.pow_pos (by omega)
  induction l with
  | nil => exact hP
  | cons d t ih =>
    have h1 := ih (fun x hx => h x (List.mem_cons_of_mem _ hx))
    have h2 := h d (List.mem_cons_self ..)
    have h3 : d * 2 ^ k ≤ 9 * 2 ^ k := Nat.mul_le_mul_right _ h2
    simp only [mulp]
    omega
theorem mulp_val (k : Nat) (l : List Nat) : (mulp k l).2 * 10 ^ l.length + val (mulp k l).1 = val l * 2 ^ k := by
  induction l with
  | nil => simp [mulp, val]
  | cons d t ih =>
    simp only [mulp]
    rw [val_cons, val_cons, mulp_len, List.length_cons, Nat.pow_succ]
    have e := Nat.div_add_mod (d * 2 ^ k + (mulp k t).2) 10
    generalize (d * 2 ^ k + (mulp k t).2) / 10 = q at *
    generalize (d * 2 ^ k + (mulp k t).2) % 10 = r at *
    have e2 : (10 * q + r) * 10 ^ t.length = (d * 2 ^ k + (mulp k t).2) * 10 ^ t.length := by rw [e]
    rw [Nat.add_mul, Nat.add_mul] at e2
    have e3 : q * (10 ^ t.length * 10) = 10 * q * 10 ^ t.length := by ac_rfl
    have e4 : (d * 10 ^ t.length + val t) * 2 ^ k = d * 2 ^ k * 10 ^ t.length + val t * 2 ^ k := by rw [Nat.add_mul]; congr 1; ac_rfl
    rw [e3, e4]
    omega
/-- What the shift writes are the digits of the product. -/
theorem mulp_all (k : Nat) (l : List Nat) (hd : Digs l) (hl : Led l) : digs (val l * 2 ^ k) = digs (mulp k l).2 ++ (mulp k l).1 := by
  obtain ⟨gd, gl, gv⟩ := digs_all (mulp k l).2
  have hv : val (digs (mulp k l).2 ++ (mulp k l).1) = val l * 2 ^ k := by rw [val_append, gv, mulp_len, mulp_val]
  rw [← hv]
  refine digs_val _ (gd.append (mulp_digs k l)) (fun d t e => ?_)
  cases hc : digs (mulp k l).2 with
  | cons x y =>
    rw [hc] at e
    cases e
    exact gl _ _ hc
  | nil =>
    rw [hc, val_nil] at gv
    rw [hc, List.nil_append] at e
    cases l with
    | nil => cases e
    | cons c u =>
      have h1 := mulp_val k (c :: u)
      rw [← gv, e, Nat.zero_mul, Nat.zero_add] at h1
      have h2 := val_ge c u (by have := hl c u rfl; omega)
      have hP : 0 < 2 ^ k := Nat.pow_pos (by omega)
      have h3 : val (c :: u) * 1 ≤ val (c :: u) * 2 ^ k := Nat.mul_le_mul_left _ hP
      have h4 : t.length = u.length := by
        have := congrArg List.length e
        rw [mulp_len] at this
        simpa using this.symm
      rintro rfl
      have h5 := val_lt t (fun x hx => mulp_digs k (c :: u) x (by rw [e]; exact List.mem_cons_of_mem _ hx))
      rw [val_cons, Nat.zero_mul, Nat.zero_add] at h1
      rw [h4] at h5
      omega
/-- If it has no more digits, its first one is twice the first one at least. -/
theorem first_grows (k : Nat) (hk : 0 < k) (d : Nat) (t : List Nat) (hd : Digs (d :: t)) (hl : d ≠ 0) (hlen : (digs (val (d :: t) * 2 ^ k)).length = t.length + 1) :
    ∃ d' t', digs (val (d :: t) * 2 ^ k) = d' :: t' ∧ 2 * d ≤ d' := by
  obtain ⟨gd, gl, gv⟩ := digs_all (val (d :: t) * 2 ^ k)
  cases hc : digs (val (d :: t) * 2 ^ k) with
  | nil => rw [hc] at hlen; cases hlen
  | cons d' t' =>
    refine ⟨d', t', rfl, ?_⟩
    rw [hc] at gv gd hlen
    have h1 : t'.length = t.length := by simpa using hlen
    have h2 := val_lt t' (fun x hx => gd x (List.mem_cons_of_mem _ hx))
    have hP : 2 ^ 1 ≤ 2 ^ k := Nat.pow_le_pow_right (by omega) hk
    have h3 : val (d :: t) * 2 ^ 1 ≤ val (d :: t) * 2 ^ k := Nat.mul_le_mul_left _ hP
    rw [val_cons, h1] at gv
    rw [h1] at h2
    rw [val_cons] at h3 gv
    have h4 : 2 * d * 10 ^ t.length < (d' + 1) * 10 ^ t.length := by
      rw [Nat.add_mul, Nat.one_mul]
      have e : 2 * d * 10 ^ t.length = d * 10 ^ t.length * 2 := by ac_rfl
      omega
    have := Nat.lt_of_mul_lt_mul_right h4
    omega

/-- Long division by 2 ^ k: n is what is at hand, t the digits that follow: the digits put down, and what is left. -/
def rstep (k : Nat) : Nat → List Nat → List Nat × Nat
  | n, [] => ([], n)
  | n, c :: t => (n / 2 ^ k :: (rstep k (n % 2 ^ k * 10 + c) t).1, (rstep k (n % 2 ^ k * 10 + c) t).2)
theorem rstep_len (k : Nat) : ∀ (t : List Nat) (n : Nat), (rstep k n t).1.length = t.length
  | [], n => rfl
  | c :: t, n => by simp [rstep, rstep_len k t]
theorem rstep_snoc (k : Nat) : ∀ (t : List Nat) (n c : Nat), rstep k n (t ++ [c]) = ((rstep k n t).1 ++ [(rstep k n t).2 / 2 ^ k], (rstep k n t).2 % 2 ^ k * 10 + c)
  | [], n, c => rfl
  | d :: t, n, c => by simp [rstep, rstep_snoc k t]
theorem rstep_lt (k : Nat) : ∀ (t : List Nat) (n : Nat), Digs t → n < 10 * 2 ^ k → (rstep k n t).2 < 10 * 2 ^ k
  | [], n, _, h => h
  | c :: t, n, hd, h => by
    have h1 := hd c (List.mem_cons_self ..)
    have h2 : n % 2 ^ k < 2 ^ k := Nat.mod_lt _ (Nat.pow_pos (by omega))
    exact rstep_lt k t _ (fun x hx => hd x (List.mem_cons_of_mem _ hx)) (by omega)
theorem rstep_digs (k : Nat) : ∀ (t : List Nat) (n : Nat), Digs t → n < 10 * 2 ^ k → Digs (rstep k n t).1
  | [], n, _, h => by intro d hd; simp [rstep] at hd
  | c :: t, n, hd, h => by
    have h1 := hd c (List.mem_cons_self ..)
    have hP : 0 < 2 ^ k := Nat.pow_pos (by omega)
    have h2 : n % 2 ^ k < 2 ^ k := Nat.mod_lt _ hP
    have ih := rstep_digs k t (n % 2 ^ k * 10 + c) (fun x hx => hd x (List.mem_cons_of_mem _ hx)) (by omega)
    intro x hx
    simp only [rstep, List.mem_cons] at hx
    rcases hx with rfl | hx
    · have := (Nat.div_lt_iff_lt_mul hP).2 h
      omega
    · exact ih x hx
theorem rstep_val (k : Nat) : ∀ (t : List Nat) (n : Nat), val (rstep k n t).1 * (10 * 2 ^ k) + (rstep k n t).2 = n * 10 ^ t.length + val t
  | [], n => by simp [rstep, val_nil]
  | c :: t, n => by
    have ih := rstep_val k t (n % 2 ^ k * 10 + c)
    simp only [rstep]
    rw [val_cons, val_cons, rstep_len, List.length_cons, Nat.pow_succ, Nat.add_mul]
    have e := Nat.div_add_mod n (2 ^ k)
    generalize n / 2 ^ k = q at *
    generalize n % 2 ^ k = r at *
    generalize 10 ^ t.length = X at *
    generalize 2 ^ k = P at *
    have e1 : q * X * (10 * P) = 10 * (P * q * X) := by ac_rfl
    have e2 : n * (X * 10) = 10 * (P * q * X) + 10 * (r * X) := by
      rw [← e]
      have : (P * q + r) * (X * 10) = 10 * ((P * q + r) * X) := by ac_rfl
      rw [this, Nat.add_mul, Nat.mul_add]
    have e3 : (r * 10 + c) * X = 10 * (r * X) + c * X := by
      rw [Nat.add_mul]
      congr 1
      ac_rfl
    rw [e3] at ih
    rw [e1, e2]
    omega
/-- With zeros behind, nothing is left in the end. -/
theorem rstep_end (k : Nat) : ∀ (m j n : Nat), j ≤ k → 2 ^ j ∣ n → k < j + m → (rstep k n (List.replicate m 0)).2 = 0
  | 0, j, n, hj, hd, hm => by omega
  | m + 1, j, n, hj, hd, hm => by
    rw [List.replicate_succ]
    simp only [rstep, Nat.add_zero]
    by_cases hjk : j = k
    · subst hjk
      rw [Nat.mod_eq_zero_of_dvd hd, Nat.zero_mul]
      exact rstep_zero j m
    · refine rstep_end k m (j + 1) _ (by omega) ?_ (by omega)
      have h1 : 2 ^ j ∣ n % 2 ^ k := (Nat.dvd_mod_iff (Nat.pow_dvd_pow 2 hj)).2 hd
      obtain ⟨q, hq⟩ := h1
      rw [hq, Nat.pow_succ]
      exact ⟨q * 5, by rw [show (10 : Nat) = 2 * 5 from rfl]; ac_rfl⟩ where
      rstep_zero (k : Nat) : ∀ m, (rstep k 0 (List.replicate m 0)).2 = 0
  | 0 => rfl
  | m + 1 => by
    rw [List.replicate_succ]
    simp only [rstep, Nat.zero_mod, Nat.zero_mul, Nat.add_zero]
    exact rstep_zero k m
end Go.Proofs.YtcjeeoadgoghfaaGreatDoor.Deci

namespace Go.Proofs.YtcjeeoadgoghfaaGreatDoor.Usc
set_option linter.unusedVariables false

/-- q, or'ed with 1 if c. -/
def orb (q : Nat) (c : Bool) : Nat := if c then (if q % 2 = 1 then q else q + 1) else q
/-- The unrounded quotient of A and B. -/
def unr (A B : Nat) : Nat := orb (A / B) (decide (A % B ≠ 0))

/-- What uscale reckons. -/
def usc (x pmHi pmLo s : Nat) : Nat :=
  if x * pmHi / 2 ^ 64 % 2 ^ s ≠ 0 then orb (x * pmHi / 2 ^ 64 / 2 ^ s) true
  else if x * pmHi % 2 ^ 64 < x * pmLo / 2 ^ 64 then orb ((x * pmHi / 2 ^ 64 - 1) / 2 ^ s) (decide (1 < 2 ^ 64 + x * pmHi % 2 ^ 64 - x * pmLo / 2 ^ 64))
  else orb (x * pmHi / 2 ^ 64 / 2 ^ s) (decide (1 < x * pmHi % 2 ^ 64 - x * pmLo / 2 ^ 64))

theorem unr_in {A C q S : Nat} (hC : 0 < C) (h1 : q * C < A) (h2 : A < (q + 1) * C) : unr A (C * S) = orb (q / S) true := by
  have hdiv : A / C = q := Nat.div_eq_of_lt_le (Nat.le_of_lt h1) h2
  unfold unr
  rw [← Nat.div_div_eq_div_mul, hdiv]
  have hne : A % (C * S) ≠ 0 := by
    intro h
    obtain ⟨m, hm⟩ := Nat.dvd_of_mod_eq_zero h
    rw [hm] at h1 h2
    have e : C * S * m = (S * m) * C := by ac_rfl
    rw [e] at h1 h2
    have g1 := Nat.lt_of_mul_lt_mul_right h1
    have g2 := Nat.lt_of_mul_lt_mul_right h2
    omega
  rw [decide_eq_true hne]
theorem unr_two {A C q S : Nat} (hC : 0 < C) (hS : 0 < S) (hq : q % S ≠ 0) (h1 : q * C < A + C) (h2 : A < (q + 1) * C) (h3 : (q - 1) * C < A) : unr A (C * S) = orb (q / S) true := by
  have hq1 : 1 ≤ q := by
    rcases Nat.eq_zero_or_pos q with h | h
    · rw [h, Nat.zero_mod] at hq; exact absurd rfl hq
    · exact h
  have hne : A % (C * S) ≠ 0 := by
    intro h
    obtain ⟨m, hm⟩ := Nat.dvd_of_mod_eq_zero h
    have e : C * S * m = (S * m) * C := by ac_rfl
    rw [hm, e] at h2 h3
    have g1 := Nat.lt_of_mul_lt_mul_right h3
    have g2 := Nat.lt_of_mul_lt_mul_right h2
    have g3 : S * m = q := by omega
    rw [← g3, Nat.mul_mod_right] at hq
    exact hq rfl
  unfold unr
  rw [← Nat.div_div_eq_div_mul, decide_eq_true hne]
  rcases Nat.lt_or_ge A (q * C) with h | h
  · have hdiv : A / C = q - 1 := Nat.div_eq_of_lt_le (Nat.le_of_lt h3) (by rw [Nat.sub_add_cancel hq1]; exact h)
    rw [hdiv]
    have e : (q - 1) / S = q / S := by
      have d := Nat.div_add_mod q S
      have m := Nat.mod_lt q hS
      apply Nat.div_eq_of_lt_le
      · rw [Nat.mul_comm]; omega
      · rw [Nat.add_mul, Nat.one_mul, Nat.mul_comm]; omega
    rw [e]
  · have hdiv : A / C = q := Nat.div_eq_of_lt_le h h2
    rw [hdiv]

theorem usc_right (x pmHi pmLo s N D : Nat) (hx : x < 2 ^ 64) (hx0 : 0 < x) (hlo : pmLo < 2 ^ 64) (hD : 0 < D)
    (hN2 : N + pmLo * D ≤ pmHi * 2 ^ 64 * D) (hN1 : pmHi * 2 ^ 64 * D < N + pmLo * D + D)
    (cert : ∀ k, k * (2 ^ 64 * (2 ^ 64 * D) * 2 ^ s) < x * N + 2 * (2 ^ 64 * D) → x * N ≤ k * (2 ^ 64 * (2 ^ 64 * D) * 2 ^ s) + 2 ^ 64 * D → x * N = k * (2 ^ 64 * (2 ^ 64 * D) * 2 ^ s)) :
    usc x pmHi pmLo s = unr (x * N) (2 ^ 64 * (2 ^ 64 * D) * 2 ^ s) := by
  unfold usc
  generalize hP : (2 : Nat) ^ 64 = P at *
  have hP2 : 2 ≤ P := by rw [← hP]; decide
  generalize hS : (2 : Nat) ^ s = S at *
  have hS0 : 0 < S := by rw [← hS]; exact Nat.pow_pos (by omega)
  -- the product's two words
  have ea := Nat.div_add_mod (x * pmHi) P
  have ma := Nat.mod_lt (x * pmHi) (show 0 < P by omega)
  have eb := Nat.div_add_mod (x * pmLo) P
  have mb := Nat.mod_lt (x * pmLo) (show 0 < P by omega)
  have hm2 : x * pmLo / P ≤ P - 2 := by
    have h1 : x * pmLo ≤ (P - 1) * (P - 1) := Nat.mul_le_mul (by omega) (by omega)
    have h2 : (P - 1) * (P - 1) < (P - 2 + 1) * P := by
      have e : P - 2 + 1 = P - 1 := by omega
      rw [e]
      exact Nat.mul_lt_mul_of_pos_left (by omega) (by omega)
    have h3 := (Nat.div_lt_iff_lt_mul (show 0 < P by omega)).2 (Nat.lt_of_le_of_lt h1 h2)
    omega
  generalize hhi : x * pmHi / P = hi at *
  generalize hmid : x * pmHi % P = mid at *
  generalize hmid2 : x * pmLo / P = mid2 at *
  generalize hlo2 : x * pmLo % P = lo2 at *
  obtain ⟨W, hW⟩ : ∃ W, P * D = W := ⟨_, rfl⟩
  have hW0 : 0 < W := by rw [← hW]; exact Nat.mul_pos (by omega) hD
  obtain ⟨X, hX⟩ : ∃ X, x * N = X := ⟨_, rfl⟩
  rw [hW, hX] at cert
  rw [hW, hX]
  have hC0 : 0 < P * W := Nat.mul_pos (by omega) hW0
  -- bounds of X
  have up : X + mid2 * W + lo2 * D ≤ hi * (P * W) + mid * W := by
    have h1 : x * (N + pmLo * D) ≤ x * (pmHi * P * D) := Nat.mul_le_mul_left _ hN2
    have e1 : x * (N + pmLo * D) = X + (P * mid2 + lo2) * D := by rw [Nat.mul_add, hX, ← Nat.mul_assoc, eb]
    have e2 : x * (pmHi * P * D) = (P * hi + mid) * W := by rw [ea, ← hW]; ac_rfl
    rw [e1, e2, Nat.add_mul, Nat.add_mul] at h1
    have e3 : P * mid2 * D = mid2 * W := by rw [← hW]; ac_rfl
    have e4 : P * hi * W = hi * (P * W) := by ac_rfl
    rw [e3, e4] at h1
    omega
  have low : hi * (P * W) + mid * W < X + mid2 * W + lo2 * D + x * D := by
    have h1 : x * (pmHi * P * D) < x * (N + pmLo * D + D) := Nat.mul_lt_mul_of_pos_left hN1 hx0
    have e1 : x * (N + pmLo * D + D) = X + (P * mid2 + lo2) * D + x * D := by rw [Nat.mul_add, Nat.mul_add, hX, ← Nat.mul_assoc, eb]
    have e2 : x * (pmHi * P * D) = (P * hi + mid) * W := by rw [ea, ← hW]; ac_rfl
    rw [e1, e2, Nat.add_mul, Nat.add_mul] at h1
    have e3 : P * mid2 * D = mid2 * W := by rw [← hW]; ac_rfl
    have e4 : P * hi * W = hi * (P * W) := by ac_rfl
    rw [e3, e4] at h1
    omega
  have hl : lo2 * D < W := by rw [← hW]; exact Nat.mul_lt_mul_of_pos_right mb hD
  have hxD : x * D < W := by rw [← hW]; exact Nat.mul_lt_mul_of_pos_right hx hD
  have hmw : mid * W + W ≤ P * W := by
    have : (mid + 1) * W ≤ P * W := Nat.mul_le_mul_right _ ma
    rwa [Nat.add_mul, Nat.one_mul] at this
  have hmw2 : mid2 * W + 2 * W ≤ P * W := by
    have : (mid2 + 2) * W ≤ P * W := Nat.mul_le_mul_right _ (by omega)
    rwa [Nat.add_mul] at this
  obtain ⟨C, hC⟩ : ∃ C, P * W = C := ⟨_, rfl⟩
  rw [hC] at up low hmw hmw2 hC0 cert ⊢
  by_cases hmod : hi % S ≠ 0
  · rw [if_pos hmod]
    have h1 : 1 ≤ hi := by
      rcases Nat.eq_zero_or_pos hi with h | h
      · rw [h, Nat.zero_mod] at hmod; exact absurd rfl hmod
      · exact h
    have e : hi * C = (hi - 1) * C + C := by
      conv => lhs; rw [← Nat.sub_add_cancel h1]
      rw [Nat.add_mul, Nat.one_mul]
    refine (unr_two hC0 hS0 hmod ?_ ?_ ?_).symm
    · omega
    · rw [Nat.add_mul, Nat.one_mul]; omega
    · omega
  · rw [if_neg hmod]
    have hmod0 : hi % S = 0 := by omega
    by_cases hlt : mid < mid2
    · rw [if_pos hlt, decide_eq_true (show 1 < P + mid - mid2 by omega)]
      have hmm : mid * W + W ≤ mid2 * W := by
        have : (mid + 1) * W ≤ mid2 * W := Nat.mul_le_mul_right _ hlt
        rwa [Nat.add_mul, Nat.one_mul] at this
      have h1 : 1 ≤ hi := by
        rcases Nat.eq_zero_or_pos hi with h | h
        · rw [h, Nat.zero_mul] at up; omega
        · exact h
      have e : hi * C = (hi - 1) * C + C := by
        conv => lhs; rw [← Nat.sub_add_cancel h1]
        rw [Nat.add_mul, Nat.one_mul]
      refine (unr_in hC0 ?_ ?_).symm
      · omega
      · rw [Nat.sub_add_cancel h1]; omega
    · rw [if_neg hlt]
      obtain ⟨d, hd⟩ : ∃ d, mid = mid2 + d := ⟨mid - mid2, by omega⟩
      have ed : mid * W = mid2 * W + d * W := by rw [hd, Nat.add_mul]
      rw [show mid - mid2 = d by omega]
      by_cases h2 : 1 < d
      · rw [decide_eq_true h2]
        have h3 : 2 * W ≤ d * W := Nat.mul_le_mul_right _ h2
        refine (unr_in hC0 ?_ ?_).symm
        · omega
        · rw [Nat.add_mul, Nat.one_mul]; omega
      · rw [decide_eq_false h2]
        have h3 : d * W ≤ 1 * W := Nat.mul_le_mul_right _ (by omega)
        have ek : hi / S * (C * S) = hi * C := by
          have := Nat.div_add_mod hi S
          rw [hmod0, Nat.add_zero] at this
          conv => rhs; rw [← this]
          ac_rfl
        have hex := cert (hi / S) (by rw [ek]; omega) (by rw [ek]; omega)
        rw [ek] at hex
        unfold unr
        rw [hex, ← Nat.div_div_eq_div_mul, Nat.mul_div_cancel _ hC0]
        rw [← ek, Nat.mul_mod_left]
        rfl

/-- One vector (x1, z) of the lattice that is short shows that no product of 64 bits comes too near to a multiple of B: what it is parallel to is too far away, too. -/
theorem near_none (x k x1 k1 N B W : Nat) (hx63 : 2 ^ 63 ≤ x) (hx : x < 2 ^ 64) (hx1 : 0 < x1) (hB : 0 < B)
    (h1 : k * B < x * N + 2 * W) (h2 : x * N ≤ k * B + W)
    (c1 : (2 : Int) ^ 64 * ((x1 : Int) * N - k1 * B).natAbs + x1 * (2 * W : Nat) ≤ B) (c2 : Nat.Coprime x1 k1)
    (c3 : (x1 : Int) * N - k1 * B = 0 ∨ 2 ^ 64 ≤ x1 ∨ ((x1 : Int) * N - k1 * B < 0 ∧ 2 * W ≤ ((2 ^ 63 + x1 - 1) / x1) * ((x1 : Int) * N - k1 * B).natAbs) ∨ (0 < (x1 : Int) * N - k1 * B ∧ W < ((2 ^ 63 + x1 - 1) / x1) * ((x1 : Int) * N - k1 * B).natAbs)) : x * N = k * B := by
  generalize hz : (x1 : Int) * N - k1 * B = z at c1 c3
  obtain ⟨y, hy⟩ : ∃ y : Int, (x : Int) * N - k * B = y := ⟨_, rfl⟩
  have hyT : -(2 * (W : Int)) < y ∧ y ≤ W := by
    have g1 : ((k * B : Nat) : Int) < ((x * N + 2 * W : Nat) : Int) := by exact_mod_cast h1
    have g2 : ((x * N : Nat) : Int) ≤ ((k * B + W : Nat) : Int) := by exact_mod_cast h2
    rw [Int.natCast_add, Int.natCast_mul, Int.natCast_mul] at g1 g2
    omega
  have key : (x : Int) * z - x1 * y = B * ((x1 : Int) * k - x * k1) := by
    rw [← hz, ← hy, Int.mul_sub, Int.mul_sub, Int.mul_sub]
    have a1 : (x : Int) * (x1 * N) = x1 * (x * N) := by ac_rfl
    have a2 : (x : Int) * (k1 * B) = B * (x * k1) := by ac_rfl
    have a3 : (x1 : Int) * (k * B) = B * (x1 * k) := by ac_rfl
    rw [a1, a2, a3]
    omega
  have zero : (x1 : Int) * k - x * k1 = 0 := by
    by_cases hW : W = 0 ∧ y = 0
    · have b1 : ((x : Int) * z).natAbs ≤ 2 ^ 64 * z.natAbs := by
        rw [Int.natAbs_mul, Int.natAbs_natCast]
        exact Nat.mul_le_mul_right _ (Nat.le_of_lt hx)
      by_cases hz0 : z = 0
      · rw [hz0, hW.2] at key
        simp only [Int.mul_zero, Int.sub_self] at key
        rcases Int.mul_eq_zero.1 key.symm with h | h
        · omega
        · exact h
      · have b1 : ((x : Int) * z).natAbs < 2 ^ 64 * z.natAbs := by
          rw [Int.natAbs_mul, Int.natAbs_natCast]
          exact Nat.mul_lt_mul_of_pos_right hx (by omega)
        have b3 : 2 ^ 64 * z.natAbs + x1 * (2 * W) ≤ B := by exact_mod_cast c1
        rw [hW.2, Int.mul_zero, Int.sub_zero] at key
        rw [key, Int.natAbs_mul, Int.natAbs_natCast] at b1
        have : ((x1 : Int) * k - x * k1).natAbs < 1 := by
          apply Nat.lt_of_mul_lt_mul_left (a := B)
          rw [Nat.mul_one]
          omega
        omega
    · have hyn : y.natAbs < 2 * W := by omega
      have small : ((x : Int) * z - x1 * y).natAbs < B := by
        have b1 : ((x : Int) * z).natAbs ≤ 2 ^ 64 * z.natAbs := by
          rw [Int.natAbs_mul, Int.natAbs_natCast]
          exact Nat.mul_le_mul_right _ (Nat.le_of_lt hx)
        have b2 : ((x1 : Int) * y).natAbs < x1 * (2 * W) := by
          rw [Int.natAbs_mul, Int.natAbs_natCast]
          exact Nat.mul_lt_mul_of_pos_left hyn hx1
        have b3 : 2 ^ 64 * z.natAbs + x1 * (2 * W) ≤ B := by exact_mod_cast c1
        omega
      rw [key, Int.natAbs_mul, Int.natAbs_natCast] at small
      have : ((x1 : Int) * k - x * k1).natAbs < 1 := by
        apply Nat.lt_of_mul_lt_mul_left (a := B)
        rw [Nat.mul_one]
        exact small
      omega
  have par : x1 * k = x * k1 := by
    have : (x1 : Int) * k = x * k1 := by omega
    exact_mod_cast this
  have dvd : x1 ∣ x := c2.dvd_of_dvd_mul_right (⟨k, par.symm⟩ : x1 ∣ x * k1)
  have fin : y = 0 → x * N = k * B := by
    intro h
    rw [h] at hy
    have : (x : Int) * N = k * B := by omega
    exact_mod_cast this
  obtain ⟨t, rfl⟩ := dvd
  have ht : (2 ^ 63 + x1 - 1) / x1 ≤ t := by
    have h3 : 2 ^ 63 + x1 - 1 < (t + 1) * x1 := by
      rw [Nat.add_mul, Nat.one_mul, Nat.mul_comm t]
      omega
    have := (Nat.div_lt_iff_lt_mul hx1).2 h3
    omega
  rw [zero, Int.mul_zero] at key
  have e : y = t * z := by
    have : (x1 : Int) * y = x1 * (t * z) := by
      have a : ((x1 * t : Nat) : Int) * z = x1 * (t * z) := by rw [Int.natCast_mul]; ac_rfl
      omega
    exact Int.eq_of_mul_eq_mul_left (by omega) this
  rcases c3 with h | h | ⟨h, h'⟩ | ⟨h, h'⟩
  · apply fin
    rw [e, h, Int.mul_zero]
  · exfalso
    have ht0 : 0 < t := by
      rcases Nat.eq_zero_or_pos t with h | h
      · rw [h, Nat.mul_zero] at hx63; omega
      · exact h
    have : x1 * 1 ≤ x1 * t := Nat.mul_le_mul_left _ ht0
    omega
  · exfalso
    have h5 : (2 ^ 63 + x1 - 1) / x1 * z.natAbs ≤ t * z.natAbs := Nat.mul_le_mul_right _ ht
    have h6 : y.natAbs = t * z.natAbs := by rw [e, Int.natAbs_mul, Int.natAbs_natCast]
    have h7 : y ≤ 0 := by
      rw [e]
      have : (t : Int) * (-z) ≥ 0 := Int.mul_nonneg (by omega) (by omega)
      rw [Int.mul_neg] at this
      omega
    omega
  · exfalso
    have h5 : (2 ^ 63 + x1 - 1) / x1 * z.natAbs ≤ t * z.natAbs := Nat.mul_le_mul_right _ ht
    have h6 : y.natAbs = t * z.natAbs := by rw [e, Int.natAbs_mul, Int.natAbs_natCast]
    have h7 : 0 ≤ y := by
      rw [e]
      exact Int.mul_nonneg (by omega) (by omega)
    omega
end Go.Proofs.YtcjeeoadgoghfaaGreatDoor.Usc

namespace Go.Proofs.YtcjeeoadgoghfaaGreatDoor.Usc
set_option linter.unusedVariables false

/-- The nearest natural, of two the even one. -/
def rnd (a b : Nat) : Nat := if 2 * (a % b) < b then a / b else if b < 2 * (a % b) then a / b + 1 else a / b + a / b % 2

theorem rnd_le (a b : Nat) : a / b ≤ rnd a b ∧ rnd a b ≤ a / b + 1 := by
  unfold rnd
  split
  · omega
  · split <;> omega
/-- Where it rounds: twice the distance. -/
theorem rnd_spec (a b : Nat) (hb : 0 < b) : 2 * (rnd a b * b) ≤ 2 * a + b ∧ 2 * a ≤ 2 * (rnd a b * b) + b ∧ (2 * a = 2 * (rnd a b * b) + b → rnd a b % 2 = 0) ∧ (2 * (rnd a b * b) = 2 * a + b → rnd a b % 2 = 0) := by
  have e := Nat.div_add_mod a b
  have m := Nat.mod_lt a hb
  unfold rnd
  generalize a / b = q at *
  generalize a % b = r at *
  have eb : b * q = q * b := Nat.mul_comm _ _
  rw [eb] at e
  have e1 : (q + 1) * b = q * b + b := by rw [Nat.add_mul, Nat.one_mul]
  split
  · exact ⟨by omega, by omega, by omega, by omega⟩
  · split
    · rw [e1]
      exact ⟨by omega, by omega, by omega, by omega⟩
    · rcases Nat.mod_two_eq_zero_or_one q with h | h
      · rw [h, Nat.add_zero]
        exact ⟨by omega, by omega, fun _ => h, by omega⟩
      · rw [h, e1]
        exact ⟨by omega, by omega, by omega, fun _ => by omega⟩
/-- A natural that is as near is it. -/
theorem rnd_uniq {a b m : Nat} (hb : 0 < b) (h1 : 2 * (m * b) ≤ 2 * a + b) (h2 : 2 * a ≤ 2 * (m * b) + b) (h3 : 2 * a = 2 * (m * b) + b → m % 2 = 0) (h4 : 2 * (m * b) = 2 * a + b → m % 2 = 0) : rnd a b = m := by
  obtain ⟨g1, g2, g3, g4⟩ := rnd_spec a b hb
  generalize rnd a b = n at *
  rcases Nat.lt_trichotomy n m with h | h | h
  · exfalso
    have k : (n + 1) * b ≤ m * b := Nat.mul_le_mul_right _ h
    rw [Nat.add_mul, Nat.one_mul] at k
    have k1 := g3 (by omega)
    have k2 := h4 (by omega)
    have k3 : (n + 2) * b ≤ m * b := Nat.mul_le_mul_right _ (by omega)
    rw [Nat.add_mul] at k3
    omega
  · exact h
  · exfalso
    have k : (m + 1) * b ≤ n * b := Nat.mul_le_mul_right _ h
    rw [Nat.add_mul, Nat.one_mul] at k
    have k1 := g4 (by omega)
    have k2 := h3 (by omega)
    have k3 : (m + 2) * b ≤ n * b := Nat.mul_le_mul_right _ (by omega)
    rw [Nat.add_mul] at k3
    omega
theorem rnd_mono {a b c d : Nat} (hb : 0 < b) (hd : 0 < d) (h : a * d ≤ c * b) : rnd a b ≤ rnd c d := by
  obtain ⟨g1, g2, g3, g4⟩ := rnd_spec a b hb
  obtain ⟨k1, k2, k3, k4⟩ := rnd_spec c d hd
  generalize rnd a b = n at *
  generalize rnd c d = m at *
  rcases Nat.lt_or_ge m n with hlt | hge
  · exfalso
    have j : (m + 1) * (b * d) ≤ n * (b * d) := Nat.mul_le_mul_right _ hlt
    have a1 : 2 * (n * b) * d ≤ (2 * a + b) * d := Nat.mul_le_mul_right _ g1
    have a2 : 2 * c * b ≤ (2 * (m * d) + d) * b := Nat.mul_le_mul_right _ k2
    have e1 : 2 * (n * b) * d = 2 * (n * (b * d)) := by ac_rfl
    have e2 : (2 * a + b) * d = 2 * (a * d) + b * d := by rw [Nat.add_mul]; congr 1; ac_rfl
    have e3 : 2 * c * b = 2 * (c * b) := by ac_rfl
    have e4 : (2 * (m * d) + d) * b = 2 * (m * (b * d)) + b * d := by rw [Nat.add_mul]; congr 1 <;> ac_rfl
    rw [e1, e2] at a1
    rw [e3, e4] at a2
    rw [Nat.add_mul, Nat.one_mul] at j
    have hbd : 0 < b * d := Nat.mul_pos hb hd
    have x1 : 2 * (n * (b * d)) = 2 * (a * d) + b * d := by omega
    have x2 : 2 * (c * b) = 2 * (m * (b * d)) + b * d := by omega
    have y1 := g4 (by
      have : 2 * (n * b) * d = (2 * a + b) * d := by rw [e1, e2]; exact x1
      exact Nat.eq_of_mul_eq_mul_right hd this)
    have y2 := k3 (by
      have : 2 * c * b = (2 * (m * d) + d) * b := by rw [e3, e4]; exact x2
      exact Nat.eq_of_mul_eq_mul_right hb this)
    have j2 : (m + 2) * (b * d) ≤ n * (b * d) := Nat.mul_le_mul_right _ (by omega)
    rw [Nat.add_mul] at j2
    omega
  · exact hge
theorem rnd_scale (a b k : Nat) (hb : 0 < b) (hk : 0 < k) : rnd (a * k) (b * k) = rnd a b := by
  apply Nat.le_antisymm
  · exact rnd_mono (Nat.mul_pos hb hk) hb (by rw [Nat.mul_assoc, Nat.mul_comm k b]; exact Nat.le_refl _)
  · exact rnd_mono hb (Nat.mul_pos hb hk) (by rw [Nat.mul_assoc, Nat.mul_comm b k]; exact Nat.le_of_eq (by ac_rfl))
theorem rnd_lt {a b n : Nat} (hb : 0 < b) (h : a < n * b) : rnd a b ≤ n := by
  have := (Nat.div_lt_iff_lt_mul hb).2 h
  have := rnd_le a b
  omega
theorem rnd_ge {a b n : Nat} (hb : 0 < b) (h : n * b ≤ a) : n ≤ rnd a b := by
  have := (Nat.le_div_iff_mul_le hb).2 h
  have := rnd_le a b
  omega

/-- The unrounded quotient of four times a fraction says how it is rounded. -/
def urnd (u : Nat) : Nat := (u + 1 + u / 4 % 2) / 4
theorem unr_rnd (a b : Nat) (hb : 0 < b) : urnd (unr (4 * a) b) = rnd a b := by
  have e := Nat.div_add_mod a b
  have m := Nat.mod_lt a hb
  have e4 := Nat.div_add_mod (4 * a) b
  have m4 := Nat.mod_lt (4 * a) hb
  unfold unr
  generalize hQ : 4 * a / b = Q at *
  generalize hR : 4 * a % b = R at *
  symm
  -- the quotient's four cases
  obtain ⟨q, j, hq, hj⟩ : ∃ q j, Q = 4 * q + j ∧ j < 4 := ⟨Q / 4, Q % 4, by omega, by omega⟩
  have eq4 : b * Q = 4 * (q * b) + j * b := by rw [hq, Nat.mul_add]; congr 1 <;> ac_rfl
  have ex : 4 * (q * b) + j * b + R = 4 * a := by omega
  have hjb : j = 0 ∧ j * b = 0 ∨ j = 1 ∧ j * b = b ∨ j = 2 ∧ j * b = 2 * b ∨ j = 3 ∧ j * b = 3 * b := by
    match j, hj with
    | 0, _ => exact .inl ⟨rfl, Nat.zero_mul _⟩
    | 1, _ => exact .inr (.inl ⟨rfl, Nat.one_mul _⟩)
    | 2, _ => exact .inr (.inr (.inl ⟨rfl, rfl⟩))
    | 3, _ => exact .inr (.inr (.inr ⟨rfl, rfl⟩))
  have e1 : (q + 1) * b = q * b + b := by rw [Nat.add_mul, Nat.one_mul]
  by_cases hR0 : R ≠ 0
  · rw [decide_eq_true hR0]
    unfold orb urnd
    rcases hjb with ⟨h, hb'⟩ | ⟨h, hb'⟩ | ⟨h, hb'⟩ | ⟨h, hb'⟩
    · rw [if_pos rfl, if_neg (by omega), show (Q + 1 + 1 + (Q + 1) / 4 % 2) / 4 = q by omega]
      exact rnd_uniq hb (by omega) (by omega) (by omega) (by omega)
    · rw [if_pos rfl, if_pos (by omega), show (Q + 1 + Q / 4 % 2) / 4 = q by omega]
      exact rnd_uniq hb (by omega) (by omega) (by omega) (by omega)
    · rw [if_pos rfl, if_neg (by omega), show (Q + 1 + 1 + (Q + 1) / 4 % 2) / 4 = q + 1 by omega]
      exact rnd_uniq hb (by omega) (by omega) (by omega) (by omega)
    · rw [if_pos rfl, if_pos (by omega), show (Q + 1 + Q / 4 % 2) / 4 = q + 1 by omega]
      exact rnd_uniq hb (by omega) (by omega) (by omega) (by omega)
  · have hR1 : R = 0 := by omega
    rw [decide_eq_false hR0]
    unfold orb urnd
    rw [if_neg (by decide)]
    rcases hjb with ⟨h, hb'⟩ | ⟨h, hb'⟩ | ⟨h, hb'⟩ | ⟨h, hb'⟩
    · rw [show (Q + 1 + Q / 4 % 2) / 4 = q by omega]
      exact rnd_uniq hb (by omega) (by omega) (by omega) (by omega)
    · rw [show (Q + 1 + Q / 4 % 2) / 4 = q by omega]
      exact rnd_uniq hb (by omega) (by omega) (by omega) (by omega)
    · rcases Nat.mod_two_eq_zero_or_one q with h2 | h2
      · rw [show (Q + 1 + Q / 4 % 2) / 4 = q by omega]
        exact rnd_uniq hb (by omega) (by omega) (fun _ => h2) (by omega)
      · rw [show (Q + 1 + Q / 4 % 2) / 4 = q + 1 by omega]
        exact rnd_uniq hb (by omega) (by omega) (by omega) (fun _ => by omega)
    · rw [show (Q + 1 + Q / 4 % 2) / 4 = q + 1 by omega]
      exact rnd_uniq hb (by omega) (by omega) (by omega) (by omega)
end Go.Proofs.YtcjeeoadgoghfaaGreatDoor.Usc

namespace Go.Proofs.YtcjeeoadgoghfaaGreatDoor.Usc
set_option linter.unusedVariables false

/-- How strconv's decimal is rounded: at exactly a half it goes up if digits were cut. -/
def rndT (n m : Nat) (tr : Bool) : Nat := if 2 * (n % m) < m then n / m else if m < 2 * (n % m) then n / m + 1 else if tr then n / m + 1 else n / m + n / m % 2
theorem round_cut {n m a b : Nat} (hm : 0 < m) (hb : 0 < b) (tr : Bool) (hf : tr = false → n * b = a * m) (ht : tr = true → n * b < a * m)
    (gap : ∀ k, 2 * n < (2 * k + 1) * m → 2 * a < (2 * k + 1) * b) : rndT n m tr = rnd a b := by
  cases tr with
  | false =>
    rw [← Nat.le_antisymm (rnd_mono hm hb (Nat.le_of_eq (hf rfl))) (rnd_mono hb hm (Nat.le_of_eq (hf rfl).symm))]
    rfl
  | true =>
    have lt := ht rfl
    have e := Nat.div_add_mod n m
    have r := Nat.mod_lt n hm
    unfold rndT
    generalize hq : n / m = q at *
    generalize hr : n % m = w at *
    rw [Nat.mul_comm m q] at e
    have e1 : (2 * q + 1) * m = 2 * (q * m) + m := by rw [Nat.add_mul, Nat.one_mul, Nat.mul_assoc]
    have e2 : (2 * q + 1) * b = 2 * (q * b) + b := by rw [Nat.add_mul, Nat.one_mul, Nat.mul_assoc]
    have e3 : (2 * (q + 1) + 1) * m = 2 * (q * m) + 3 * m := by rw [show 2 * (q + 1) + 1 = 2 * q + 3 by omega, Nat.add_mul, Nat.mul_assoc]
    have e4 : (2 * (q + 1) + 1) * b = 2 * (q * b) + 3 * b := by rw [show 2 * (q + 1) + 1 = 2 * q + 3 by omega, Nat.add_mul, Nat.mul_assoc]
    have e5 : (q + 1) * b = q * b + b := by rw [Nat.add_mul, Nat.one_mul]
    have low : q * b ≤ a := by
      apply Nat.le_of_mul_le_mul_right (c := m) _ hm
      have g : q * m * b ≤ n * b := Nat.mul_le_mul_right _ (by omega)
      rw [show q * b * m = q * m * b by ac_rfl]
      omega
    by_cases h : 2 * w < m
    · rw [if_pos h]
      have g := gap q (by omega)
      symm
      exact rnd_uniq hb (by omega) (by omega) (by omega) (by omega)
    · rw [if_neg h]
      have up : 2 * (q * b) + b < 2 * a := by
        apply Nat.lt_of_mul_lt_mul_right (a := m)
        have g : (2 * (q * m) + m) * b ≤ 2 * n * b := Nat.mul_le_mul_right _ (by omega)
        have g1 : (2 * (q * b) + b) * m = (2 * (q * m) + m) * b := by rw [Nat.add_mul, Nat.add_mul]; congr 1 <;> ac_rfl
        rw [g1]
        have g2 : 2 * n * b = 2 * (n * b) := Nat.mul_assoc _ _ _
        have g3 : 2 * a * m = 2 * (a * m) := Nat.mul_assoc _ _ _
        omega
      have g := gap (q + 1) (by omega)
      have res : rnd a b = q + 1 := rnd_uniq hb (by omega) (by omega) (by omega) (by omega)
      rw [res]
      split
      · rfl
      · rfl
/-- Small cuts, and no cut at a half, leave no half between. -/
theorem gap_of {n m a b : Nat} (hm : 0 < m) (hb : 0 < b) (close : 2 * (a * m) ≤ 2 * (n * b) + m) (half : ∀ k, 2 * a = (2 * k + 1) * b → n * b = a * m) (k : Nat) (h : 2 * n < (2 * k + 1) * m) : 2 * a < (2 * k + 1) * b := by
  rcases Nat.lt_trichotomy (2 * a) ((2 * k + 1) * b) with g | g | g
  · exact g
  · exfalso
    have e := half k g
    have h2 := Nat.mul_lt_mul_of_pos_right h hb
    have e1 : 2 * n * b = 2 * a * m := by rw [Nat.mul_assoc, e, Nat.mul_assoc]
    rw [e1, g] at h2
    rw [show (2 * k + 1) * b * m = (2 * k + 1) * m * b by ac_rfl] at h2
    omega
  · exfalso
    have h2 := Nat.mul_lt_mul_of_pos_right h hb
    have h3 : ((2 * k + 1) * b + 1) * m ≤ 2 * a * m := Nat.mul_le_mul_right _ g
    rw [Nat.add_mul, Nat.one_mul] at h3
    rw [show (2 * k + 1) * m * b = (2 * k + 1) * b * m by ac_rfl] at h2
    have e1 : 2 * n * b = 2 * (n * b) := Nat.mul_assoc _ _ _
    have e2 : 2 * a * m = 2 * (a * m) := Nat.mul_assoc _ _ _
    omega
end Go.Proofs.YtcjeeoadgoghfaaGreatDoor.Usc

namespace Go.Proofs.YtcjeeoadgoghfaaGreatDoor.Usc
set_option linter.unusedVariables false

/-- n / m is not above a / b, and below it by j parts of X at most (X: 10 ^ 798). -/
def App (X j n m a b : Nat) : Prop := n * b ≤ a * m ∧ a * m * X ≤ n * b * (X + j)
theorem App.exact (X n m a b : Nat) (h : n * b = a * m) : App X 0 n m a b := ⟨Nat.le_of_eq h, by rw [h]; exact Nat.le_refl _⟩
/-- Both sides times r / s, the fractions written otherwise. -/
theorem App.scale {X j n m a b : Nat} (r s u w : Nat) (h : App X j n m a b) : App X j (n * r * u) (m * s * u) (a * r * w) (b * s * w) := by
  obtain ⟨h1, h2⟩ := h
  have e1 : n * r * u * (b * s * w) = n * b * (r * s * u * w) := by ac_rfl
  have e2 : a * r * w * (m * s * u) = a * m * (r * s * u * w) := by ac_rfl
  constructor
  · rw [e1, e2]
    exact Nat.mul_le_mul_right _ h1
  · rw [e1, e2]
    have g := Nat.mul_le_mul_right (r * s * u * w) h2
    have e3 : a * m * X * (r * s * u * w) = a * m * (r * s * u * w) * X := by ac_rfl
    have e4 : n * b * (X + j) * (r * s * u * w) = n * b * (r * s * u * w) * (X + j) := by ac_rfl
    rw [e3, e4] at g
    exact g
/-- The same value, the fractions written otherwise. -/
theorem App.congr {X j n m a b n' m' a' b' : Nat} (hm : 0 < m) (hb : 0 < b) (h : App X j n m a b) (e1 : n' * m = n * m') (e2 : a' * b = a * b') : App X j n' m' a' b' := by
  obtain ⟨h1, h2⟩ := h
  have p : 0 < m * b := Nat.mul_pos hm hb
  have f1 : n' * b' * (m * b) = n * b * (m' * b') := by
    have : n' * b' * (m * b) = n' * m * (b' * b) := by ac_rfl
    rw [this, e1]; ac_rfl
  have f2 : a' * m' * (m * b) = a * m * (m' * b') := by
    have : a' * m' * (m * b) = a' * b * (m' * m) := by ac_rfl
    rw [this, e2]; ac_rfl
  constructor
  · apply Nat.le_of_mul_le_mul_right (c := m * b) _ p
    rw [f1, f2]
    exact Nat.mul_le_mul_right _ h1
  · apply Nat.le_of_mul_le_mul_right (c := m * b) _ p
    have g := Nat.mul_le_mul_right (m' * b') h2
    have e3 : a' * m' * X * (m * b) = a * m * X * (m' * b') := by
      have : a' * m' * X * (m * b) = a' * m' * (m * b) * X := by ac_rfl
      rw [this, f2]; ac_rfl
    have e4 : n' * b' * (X + j) * (m * b) = n * b * (X + j) * (m' * b') := by
      have : n' * b' * (X + j) * (m * b) = n' * b' * (m * b) * (X + j) := by ac_rfl
      rw [this, f1]; ac_rfl
    rw [e3, e4]
    exact g
/-- What is cut behind the first 800 digits is one part more. -/
theorem App.cut {X j P n m a b : Nat} (hX : 0 < X) (hj : j ≤ X) (h : App X j P m a b) (h1 : n ≤ P) (h2 : P * (10 * X) ≤ n * (10 * X + 1)) : App X (j + 1) n m a b := by
  obtain ⟨g1, g2⟩ := h
  refine ⟨Nat.le_trans (Nat.mul_le_mul_right _ h1) g1, ?_⟩
  apply Nat.le_of_mul_le_mul_right (c := 10 * X) _ (by omega)
  have s1 := Nat.mul_le_mul_right (10 * X) g2
  have s2 := Nat.mul_le_mul_right (b * (X + j)) h2
  have e1 : P * b * (X + j) * (10 * X) = P * (10 * X) * (b * (X + j)) := by ac_rfl
  rw [e1] at s1
  refine Nat.le_trans s1 (Nat.le_trans s2 ?_)
  have e2 : n * (10 * X + 1) * (b * (X + j)) = n * b * ((10 * X + 1) * (X + j)) := by ac_rfl
  have e3 : n * b * (X + (j + 1)) * (10 * X) = n * b * (10 * X * (X + j) + 10 * X) := by
    have : 10 * X * (X + j) + 10 * X = 10 * X * (X + (j + 1)) := by
      rw [show X + (j + 1) = X + j + 1 by omega, Nat.mul_add (10 * X) (X + j) 1, Nat.mul_one]
    rw [this]; ac_rfl
  rw [e2, e3]
  apply Nat.mul_le_mul_left
  rw [Nat.add_mul, Nat.one_mul]
  omega
/-- A decimal of 800 digits or more, cut to its first 800 (10 X = 10 ^ 799). -/
theorem cut_small {X P t : Nat} (hn : 10 * X ≤ P / 10 ^ t) : P / 10 ^ t * 10 ^ t ≤ P ∧ P * (10 * X) ≤ P / 10 ^ t * 10 ^ t * (10 * X + 1) := by
  have e := Nat.div_add_mod P (10 ^ t)
  have r := Nat.mod_lt P (show 0 < 10 ^ t from Nat.pow_pos (by omega))
  generalize P / 10 ^ t = q at *
  generalize P % 10 ^ t = w at *
  generalize 10 ^ t = z at *
  rw [Nat.mul_comm z q] at e
  refine ⟨by omega, ?_⟩
  have g : z * (10 * X) ≤ z * q := Nat.mul_le_mul_left _ hn
  have g2 : w * (10 * X) ≤ z * (10 * X) := Nat.mul_le_mul_right _ (Nat.le_of_lt r)
  rw [← e, Nat.add_mul, Nat.mul_add, Nat.mul_one]
  have c : z * q = q * z := Nat.mul_comm _ _
  omega
/-- Near enough to be rounded as the whole value is. -/
theorem App.close {X j n m a b : Nat} (hX : 0 < X) (h : App X j n m a b) (hn : n < 2 ^ 54 * m) (hs : 2 * (j * 2 ^ 54 * b) ≤ X) : 2 * (a * m) ≤ 2 * (n * b) + m := by
  obtain ⟨g1, g2⟩ := h
  apply Nat.le_of_mul_le_mul_right (c := X) _ hX
  have s1 : 2 * (n * b * j) ≤ m * X := by
    have t1 : 2 * (n * b * j) ≤ 2 * (2 ^ 54 * m * (b * j)) := by
      apply Nat.mul_le_mul_left
      rw [Nat.mul_assoc]
      exact Nat.mul_le_mul_right _ (Nat.le_of_lt hn)
    have t2 := Nat.mul_le_mul_left m hs
    have e : m * (2 * (j * 2 ^ 54 * b)) = 2 * (2 ^ 54 * m * (b * j)) := by ac_rfl
    rw [e] at t2
    omega
  rw [Nat.mul_add] at g2
  rw [Nat.mul_assoc, Nat.add_mul, Nat.mul_assoc 2 (n * b) X]
  omega
/-- How the flag goes: it is set where anything is lost. -/
theorem strict_scale {n m a b : Nat} (r s u w : Nat) (hp : 0 < r * s * u * w) (h : n * b < a * m) : n * r * u * (b * s * w) < a * r * w * (m * s * u) := by
  have e1 : n * r * u * (b * s * w) = n * b * (r * s * u * w) := by ac_rfl
  have e2 : a * r * w * (m * s * u) = a * m * (r * s * u * w) := by ac_rfl
  rw [e1, e2]
  exact Nat.mul_lt_mul_of_pos_right h hp
/-- THE SLOW PATH ROUNDS RIGHT: what is near enough, with the flag set where anything was lost, and nothing lost at a half. -/
theorem slow_round {X j n m a b : Nat} (hX : 0 < X) (hm : 0 < m) (hb : 0 < b) (tr : Bool) (h : App X j n m a b) (hf : tr = false → n * b = a * m) (ht : tr = true → n * b < a * m)
    (hn : n < 2 ^ 54 * m) (hs : 2 * (j * 2 ^ 54 * b) ≤ X) (half : ∀ k, 2 * a = (2 * k + 1) * b → tr = false) : rndT n m tr = rnd a b :=
  round_cut hm hb tr hf ht (gap_of hm hb (h.close hX hn hs) (fun k e => hf (half k e)))
theorem half_gen (c z Z D C p : Nat) (hp : 0 < p) (hc : c < D) (hz : z ≤ Z) (h : p ^ Z * D ≤ C) : c * p ^ z < C := by
  refine Nat.lt_of_lt_of_le (Nat.mul_lt_mul_of_pos_right hc (Nat.pow_pos hp)) (Nat.le_trans ?_ h)
  rw [Nat.mul_comm]
  exact Nat.mul_le_mul_right _ (Nat.pow_le_pow_right hp hz)
/-- A half, shifted, has few digits: c 2 ^ z is a whole number of 10 ^ -y with at most 800 digits. -/
theorem half_digits (c z : Nat) (hc : c < 2 ^ 55) (hz : z ≤ 1100) : c * 5 ^ z < 10 ^ 786 ∧ c * 2 ^ z < 10 ^ 786 :=
  ⟨half_gen c z 1100 _ _ 5 (by decide) hc hz (by decide +kernel), half_gen c z 1100 _ _ 2 (by decide) hc hz (by decide +kernel)⟩
end Go.Proofs.YtcjeeoadgoghfaaGreatDoor.Usc

namespace Go.Proofs.YtcjeeoadgoghfaaGreatDoor.Usc
set_option linter.unusedVariables false

/-- D times 10 ^ q, as a fraction. -/
def tenN (D : Nat) (q : Int) : Nat := D * 10 ^ q.toNat
def tenD (q : Int) : Nat := 10 ^ (-q).toNat
theorem tenD_pos (q : Int) : 0 < tenD q := Nat.pow_pos (by omega)
/-- The decimal stands for a / b, after j cuts. -/
def Inv (X j D : Nat) (q : Int) (tr : Bool) (a b : Nat) : Prop := App X j (tenN D q) (tenD q) a b ∧ (tr = false → tenN D q * b = a * tenD q) ∧ (tr = true → tenN D q * b < a * tenD q)

/-- Written otherwise: the same. -/
theorem Inv.congr {X j D D' a b a' b' : Nat} {q q' : Int} {tr : Bool} (hb : 0 < b) (hb' : 0 < b') (h : Inv X j D q tr a b) (e1 : tenN D' q' * tenD q = tenN D q * tenD q') (e2 : a' * b = a * b') : Inv X j D' q' tr a' b' := by
  obtain ⟨h1, h2, h3⟩ := h
  have p := tenD_pos q
  have p' := tenD_pos q'
  unfold Inv
  generalize tenN D q = n at *
  generalize tenN D' q' = n' at *
  generalize tenD q = m at *
  generalize tenD q' = m' at *
  have f1 : n' * b' * (m * b) = n * b * (m' * b') := by
    have : n' * b' * (m * b) = n' * m * (b' * b) := by ac_rfl
    rw [this, e1]; ac_rfl
  have f2 : a' * m' * (m * b) = a * m * (m' * b') := by
    have : a' * m' * (m * b) = a' * b * (m' * m) := by ac_rfl
    rw [this, e2]; ac_rfl
  refine ⟨h1.congr p hb e1 e2, ?_, ?_⟩
  · intro t
    have := h2 t
    apply Nat.eq_of_mul_eq_mul_right (Nat.mul_pos p hb)
    rw [f1, f2, this]
  · intro t
    have := h3 t
    apply Nat.lt_of_mul_lt_mul_right (a := m * b)
    rw [f1, f2]
    exact Nat.mul_lt_mul_of_pos_right this (Nat.mul_pos p' hb')
/-- Zeros at the end taken off, or put. -/
theorem ten_trim (D z : Nat) (q : Int) : tenN (D * 10 ^ z) q * tenD (q + z) = tenN D (q + z) * tenD q := by
  unfold tenN tenD
  rw [Nat.mul_assoc, Nat.mul_assoc, Nat.mul_assoc, ← Nat.pow_add, ← Nat.pow_add, ← Nat.pow_add]
  congr 2
  omega
theorem Inv.trim {X j D z a b : Nat} {q : Int} {tr : Bool} (hb : 0 < b) (h : Inv X j (D * 10 ^ z) q tr a b) : Inv X j D (q + z) tr a b :=
  h.congr hb hb (ten_trim D z q).symm rfl
/-- A shift to the left, exact. -/
theorem Inv.left {X j D a b : Nat} {q : Int} {tr : Bool} (k : Nat) (h : Inv X j D q tr a b) : Inv X j (D * 2 ^ k) q tr (a * 2 ^ k) b := by
  obtain ⟨h1, h2, h3⟩ := h
  have hp : 0 < 2 ^ k := Nat.pow_pos (by omega)
  have e1 : tenN (D * 2 ^ k) q = tenN D q * 2 ^ k := by unfold tenN; ac_rfl
  unfold Inv
  rw [e1]
  generalize tenN D q = n at *
  generalize tenD q = m at *
  have f1 : n * 2 ^ k * b = n * b * 2 ^ k := by ac_rfl
  have f2 : a * 2 ^ k * m = a * m * 2 ^ k := by ac_rfl
  refine ⟨?_, ?_, ?_⟩
  · have g := h1.scale (2 ^ k) 1 1 1
    simp only [Nat.mul_one] at g
    exact g
  · intro t; rw [f1, f2, h2 t]
  · intro t; rw [f1, f2]; exact Nat.mul_lt_mul_of_pos_right (h3 t) hp
/-- A shift to the right, exact: times 5 ^ k, k places down. -/
theorem Inv.right {X j D a b : Nat} {q : Int} {tr : Bool} (k : Nat) (h : Inv X j D q tr a b) : Inv X j (D * 5 ^ k) (q - k) tr a (b * 2 ^ k) := by
  obtain ⟨h1, h2, h3⟩ := h
  have hp : 0 < 2 ^ k := Nat.pow_pos (by omega)
  have hm := tenD_pos q
  have hm' := tenD_pos (q - k)
  -- n' / m' = n / (m 2 ^ k)
  have e : tenN (D * 5 ^ k) (q - k) * (tenD q * 2 ^ k) = tenN D q * tenD (q - k) := by
    unfold tenN tenD
    have t : 5 ^ k * 10 ^ (q - k).toNat * 10 ^ (-q).toNat * 2 ^ k = 10 ^ q.toNat * 10 ^ (-(q - k)).toNat := by
      have t1 : 5 ^ k * 10 ^ (q - k).toNat * 10 ^ (-q).toNat * 2 ^ k = (5 ^ k * 2 ^ k) * (10 ^ (q - k).toNat * 10 ^ (-q).toNat) := by ac_rfl
      rw [t1, ← Nat.mul_pow, ← Nat.pow_add, ← Nat.pow_add, ← Nat.pow_add]
      congr 1
      omega
    have u1 : D * 5 ^ k * 10 ^ (q - k).toNat * (10 ^ (-q).toNat * 2 ^ k) = D * (5 ^ k * 10 ^ (q - k).toNat * 10 ^ (-q).toNat * 2 ^ k) := by ac_rfl
    rw [u1, t, Nat.mul_assoc]
  generalize hn : tenN D q = n at *
  generalize hn' : tenN (D * 5 ^ k) (q - k) = n' at *
  generalize tenD q = m at *
  generalize hmm : tenD (q - k) = m' at *
  unfold Inv
  rw [hn', hmm]
  have f1 : n' * (b * 2 ^ k) * m = n * b * m' := by
    have : n' * (b * 2 ^ k) * m = n' * (m * 2 ^ k) * b := by ac_rfl
    rw [this, e]; ac_rfl
  have f2 : a * m' * m = a * m * m' := by ac_rfl
  obtain ⟨g1, g2⟩ := h1
  refine ⟨⟨?_, ?_⟩, ?_, ?_⟩
  · apply Nat.le_of_mul_le_mul_right (c := m) _ hm
    rw [f1, f2]
    exact Nat.mul_le_mul_right _ g1
  · apply Nat.le_of_mul_le_mul_right (c := m) _ hm
    have e3 : a * m' * X * m = a * m * X * m' := by ac_rfl
    have e4 : n' * (b * 2 ^ k) * (X + j) * m = n * b * (X + j) * m' := by
      have : n' * (b * 2 ^ k) * (X + j) * m = n' * (b * 2 ^ k) * m * (X + j) := by ac_rfl
      rw [this, f1]; ac_rfl
    rw [e3, e4]
    exact Nat.mul_le_mul_right _ g2
  · intro t
    apply Nat.eq_of_mul_eq_mul_right hm
    rw [f1, f2, h2 t]
  · intro t
    apply Nat.lt_of_mul_lt_mul_right (a := m)
    rw [f1, f2]
    exact Nat.mul_lt_mul_of_pos_right (h3 t) hm'
/-- The last t digits cut off; the flag is set if they were not all 0. -/
theorem Inv.cut {X j D t a b : Nat} {q : Int} {tr : Bool} (hX : 0 < X) (hj : j ≤ X) (hb : 0 < b) (hlong : t = 0 ∨ 10 * X ≤ D / 10 ^ t) (h : Inv X j D q tr a b) :
    Inv X (j + 1) (D / 10 ^ t) (q + t) (tr || (D % 10 ^ t != 0)) a b := by
  obtain ⟨h1, h2, h3⟩ := h
  have hm := tenD_pos q
  -- the cut decimal with its zeros back
  have small : D / 10 ^ t * 10 ^ t ≤ D ∧ D * (10 * X) ≤ D / 10 ^ t * 10 ^ t * (10 * X + 1) := by
    rcases hlong with h | h
    · subst h
      rw [Nat.pow_zero, Nat.div_one, Nat.mul_one]
      exact ⟨Nat.le_refl _, Nat.mul_le_mul_left _ (by omega)⟩
    · exact cut_small h
  have e := Nat.div_add_mod D (10 ^ t)
  rw [Nat.mul_comm] at e
  have key : Inv X (j + 1) (D / 10 ^ t * 10 ^ t) q (tr || (D % 10 ^ t != 0)) a b := by
    obtain ⟨s1, s2⟩ := small
    generalize hE : D / 10 ^ t * 10 ^ t = E at *
    have p : 0 < 10 ^ q.toNat := Nat.pow_pos (by omega)
    have l1 : tenN E q ≤ tenN D q := Nat.mul_le_mul_right _ s1
    have l2 : tenN D q * (10 * X) ≤ tenN E q * (10 * X + 1) := by
      unfold tenN
      have g := Nat.mul_le_mul_right (10 ^ q.toNat) s2
      have u1 : D * (10 * X) * 10 ^ q.toNat = D * 10 ^ q.toNat * (10 * X) := by ac_rfl
      have u2 : E * (10 * X + 1) * 10 ^ q.toNat = E * 10 ^ q.toNat * (10 * X + 1) := by ac_rfl
      rw [u1, u2] at g
      exact g
    refine ⟨h1.cut hX hj l1 l2, ?_, ?_⟩
    · intro hf
      rw [Bool.or_eq_false_iff] at hf
      have hz : D % 10 ^ t = 0 := by
        have := hf.2
        simpa using this
      have : E = D := by omega
      rw [this]
      exact h2 hf.1
    · intro hf
      cases htr : tr with
      | true => exact Nat.lt_of_le_of_lt (Nat.mul_le_mul_right _ l1) (h3 htr)
      | false =>
        rw [htr, Bool.false_or] at hf
        have hz : D % 10 ^ t ≠ 0 := by simpa using hf
        have lt : E < D := by omega
        have l3 : tenN E q < tenN D q := Nat.mul_lt_mul_of_pos_right lt p
        rw [← h2 htr]
        exact Nat.mul_lt_mul_of_pos_right l3 hb
  exact key.trim hb
end Go.Proofs.YtcjeeoadgoghfaaGreatDoor.Usc

namespace Go.Proofs.YtcjeeoadgoghfaaGreatDoor.Usc
set_option linter.unusedVariables false

/-- D, q, tr cut to 800 digits and trimmed: D', q', tr'. -/
def Cut8 (D : Nat) (q : Int) (tr : Bool) (D' : Nat) (q' : Int) (tr' : Bool) : Prop :=
  ∃ t z : Nat, (t = 0 ∨ 10 ^ 799 ≤ D / 10 ^ t) ∧ D / 10 ^ t = D' * 10 ^ z ∧ q' = q + t + z ∧ tr' = (tr || (D % 10 ^ t != 0))
theorem ten_s (j k : Nat) (h : j = k + 1) : (10 : Nat) ^ j = 10 * 10 ^ k := by rw [h, Nat.pow_succ']
theorem ten_799 : (10 : Nat) ^ 799 = 10 * 10 ^ 798 := ten_s 799 798 rfl
theorem Inv.cut8 {j D D' a b : Nat} {q q' : Int} {tr tr' : Bool} (hj : j ≤ 10 ^ 798) (hb : 0 < b) (h : Inv (10 ^ 798) j D q tr a b) (c : Cut8 D q tr D' q' tr') : Inv (10 ^ 798) (j + 1) D' q' tr' a b := by
  obtain ⟨t, z, h1, h2, rfl, rfl⟩ := c
  rw [ten_799] at h1
  have g := h.cut (Nat.pow_pos (by decide)) hj hb h1
  rw [h2] at g
  exact g.trim hb

/-- A half, shifted, as a decimal: few digits, and zeros behind them. -/
theorem half_exact (D c : Nat) (q w : Int) (hw : w ≤ 1100) (hw' : -1100 ≤ w) (hc : c < 2 ^ 55)
    (h : tenN D q * 2 ^ (-w).toNat = c * 2 ^ w.toNat * tenD q) : ∃ E z : Nat, D = E * 10 ^ z ∧ E < 10 ^ 786 := by
  have ten : ∀ n : Nat, (10 : Nat) ^ n = 5 ^ n * 2 ^ n := fun n => by rw [← Nat.mul_pow]
  unfold tenN tenD at h
  rcases Int.lt_or_le w 0 with h0 | h0
  · have hz : w.toNat = 0 := by omega
    rw [hz, Nat.pow_zero, Nat.mul_one] at h
    obtain ⟨m, hm⟩ : ∃ m : Nat, (-w).toNat = m := ⟨_, rfl⟩
    have hm1 : m ≤ 1100 := by omega
    rw [hm] at h
    have hd := half_digits c
    rcases Int.lt_or_le q 0 with hq | hq
    · rw [show q.toNat = 0 by omega, Nat.pow_zero, Nat.mul_one] at h
      obtain ⟨n, hn⟩ : ∃ n : Nat, (-q).toNat = n := ⟨_, rfl⟩
      rw [hn] at h
      rcases Nat.lt_or_ge m n with hlt | hge
      · obtain ⟨r, rfl⟩ : ∃ r, n = m + r := ⟨n - m, by omega⟩
        refine ⟨c * 5 ^ m, r, ?_, (hd m hc hm1).1⟩
        apply Nat.eq_of_mul_eq_mul_right (show 0 < 2 ^ m from Nat.two_pow_pos m)
        rw [h, Nat.pow_add, ten m]
        ac_rfl
      · obtain ⟨r, rfl⟩ : ∃ r, m = n + r := ⟨m - n, by omega⟩
        refine ⟨D, 0, by rw [Nat.pow_zero, Nat.mul_one], ?_⟩
        have e : D * 2 ^ r = c * 5 ^ n := by
          apply Nat.eq_of_mul_eq_mul_right (show 0 < 2 ^ n from Nat.two_pow_pos n)
          rw [Nat.pow_add, ten n] at h
          have e1 : D * 2 ^ r * 2 ^ n = D * (2 ^ n * 2 ^ r) := by ac_rfl
          rw [e1, h]
          ac_rfl
        have g := (hd n hc (by omega)).1
        rw [← e] at g
        refine Nat.lt_of_le_of_lt ?_ g
        exact Nat.le_mul_of_pos_right _ (Nat.two_pow_pos r)
    · rw [show (-q).toNat = 0 by omega, Nat.pow_zero, Nat.mul_one] at h
      refine ⟨D, 0, by rw [Nat.pow_zero, Nat.mul_one], ?_⟩
      have g := (hd 0 hc (by omega)).1
      rw [Nat.pow_zero, Nat.mul_one, ← h, Nat.mul_assoc] at g
      exact Nat.lt_of_le_of_lt (Nat.le_mul_of_pos_right _ (Nat.mul_pos (Nat.pow_pos (by decide)) (Nat.two_pow_pos m))) g
  · have hz : (-w).toNat = 0 := by omega
    rw [hz, Nat.pow_zero, Nat.mul_one] at h
    obtain ⟨m, hm⟩ : ∃ m : Nat, w.toNat = m := ⟨_, rfl⟩
    rw [hm] at h
    have g := (half_digits c m hc (by omega)).2
    rcases Int.lt_or_le q 0 with hq | hq
    · rw [show q.toNat = 0 by omega, Nat.pow_zero, Nat.mul_one] at h
      exact ⟨c * 2 ^ m, (-q).toNat, h, g⟩
    · rw [show (-q).toNat = 0 by omega, Nat.pow_zero, Nat.mul_one] at h
      refine ⟨D, 0, by rw [Nat.pow_zero, Nat.mul_one], ?_⟩
      rw [← h] at g
      exact Nat.lt_of_le_of_lt (Nat.le_mul_of_pos_right _ (Nat.pow_pos (by decide))) g
/-- What is cut off such a decimal is zeros. -/
theorem no_loss {E z t A B : Nat} (hAB : A ≤ B) (hE : E < 10 ^ A) (h : t = 0 ∨ 10 ^ B ≤ E * 10 ^ z / 10 ^ t) : E * 10 ^ z % 10 ^ t = 0 := by
  rcases h with h | h
  · rw [h, Nat.pow_zero, Nat.mod_one]
  · have hp : 0 < 10 ^ t := Nat.pow_pos (by decide)
    have h1 := (Nat.le_div_iff_mul_le hp).1 h
    have hzt : t ≤ z := by
      rcases Nat.lt_or_ge z t with hlt | hge
      · exfalso
        have a1 : 10 ^ z ≤ 10 ^ t := Nat.pow_le_pow_right (by decide) (by omega)
        have a2 : E * 10 ^ z < 10 ^ A * 10 ^ t := Nat.lt_of_lt_of_le (Nat.mul_lt_mul_of_pos_right hE (Nat.pow_pos (by decide))) (Nat.mul_le_mul_left _ a1)
        have a3 : (10 : Nat) ^ A * 10 ^ t ≤ 10 ^ B * 10 ^ t := Nat.mul_le_mul_right _ (Nat.pow_le_pow_right (by decide) hAB)
        exact absurd (Nat.lt_of_lt_of_le a2 a3) (Nat.not_lt.2 h1)
      · exact hge
    obtain ⟨r, rfl⟩ : ∃ r, z = r + t := ⟨z - t, by omega⟩
    rw [Nat.pow_add, ← Nat.mul_assoc, Nat.mul_mod_left]
/-- At a half the flag stays as it is. -/
theorem Cut8.exact {D D' c : Nat} {q q' w : Int} {tr tr' : Bool} (hw : w ≤ 1100) (hw' : -1100 ≤ w) (hc : c < 2 ^ 55)
    (h : tenN D q * 2 ^ (-w).toNat = c * 2 ^ w.toNat * tenD q) (s : Cut8 D q tr D' q' tr') : tr' = tr := by
  obtain ⟨E, z, rfl, hE⟩ := half_exact D c q w hw hw' hc h
  obtain ⟨t, z', h1, h2, h3, rfl⟩ := s
  rw [no_loss (show 786 ≤ 799 by decide) hE h1]
  cases tr <;> rfl
end Go.Proofs.YtcjeeoadgoghfaaGreatDoor.Usc

namespace Go.Proofs.YtcjeeoadgoghfaaGreatDoor.Usc
set_option linter.unusedVariables false

/-- a / b times 2 ^ f, as a fraction. -/
def numF (f : Int) (a : Nat) : Nat := a * 2 ^ f.toNat
def denF (f : Int) (b : Nat) : Nat := b * 2 ^ (-f).toNat
theorem denF_pos (f : Int) {b : Nat} (hb : 0 < b) : 0 < denF f b := Nat.mul_pos hb (Nat.pow_pos (by omega))
theorem scale_up (f1 f2 : Int) (h : f1 ≤ f2) (a b : Nat) : numF f2 a * denF f1 b = 2 ^ (f2 - f1).toNat * numF f1 a * denF f2 b := by
  unfold numF denF
  have e : 2 ^ f2.toNat * 2 ^ (-f1).toNat = 2 ^ (f2 - f1).toNat * 2 ^ f1.toNat * 2 ^ (-f2).toNat := by
    rw [← Nat.pow_add, ← Nat.pow_add, ← Nat.pow_add]
    congr 1
    omega
  have e1 : a * 2 ^ f2.toNat * (b * 2 ^ (-f1).toNat) = a * b * (2 ^ f2.toNat * 2 ^ (-f1).toNat) := by ac_rfl
  have e2 : 2 ^ (f2 - f1).toNat * (a * 2 ^ f1.toNat) * (b * 2 ^ (-f2).toNat) = a * b * (2 ^ (f2 - f1).toNat * 2 ^ f1.toNat * 2 ^ (-f2).toNat) := by ac_rfl
  rw [e1, e2, e]
theorem rnd_eq {a b c d : Nat} (hb : 0 < b) (hd : 0 < d) (h : a * d = c * b) : rnd a b = rnd c d :=
  Nat.le_antisymm (rnd_mono hb hd (Nat.le_of_eq h)) (rnd_mono hd hb (Nat.le_of_eq h.symm))

/-- The word of m times 2 ^ -f. -/
def packF (m : Nat) (f : Int) : Nat := if m < 2 ^ 52 then m else if f < -971 then 2047 * 2 ^ 52 else (1075 - f).toNat * 2 ^ 52 + (m - 2 ^ 52)
def finF (m : Nat) (f : Int) : Nat := if m = 2 ^ 53 then packF (2 ^ 52) (f - 1) else packF m f
/-- x is the word of the float that is nearest to a / b. -/
def NB (a b x : Nat) : Prop := ∃ f : Int, f ≤ 1074 ∧ numF f a < 2 ^ 53 * denF f b ∧ (f = 1074 ∨ 2 ^ 52 * denF f b ≤ numF f a) ∧ x = finF (rnd (numF f a) (denF f b)) f

theorem packF_mono {m n : Nat} {f g : Int} (hf : f ≤ 1074) (hm : m ≤ n) (hn : n < 2 ^ 53) (hg : g ≤ f) (h : g = f ∨ 2 ^ 52 ≤ m) : packF m f ≤ packF n g := by
  unfold packF
  have e53 : (2 : Nat) ^ 53 = 2 * 2 ^ 52 := by decide
  have hX0 : 0 < (2 : Nat) ^ 52 := by decide
  rw [e53] at hn
  generalize (2 : Nat) ^ 52 = X at *
  by_cases h1 : m < X
  · rw [if_pos h1]
    rcases h with h | h
    · split
      · exact hm
      · have hq : 2047 * X = 2 * X + 2045 * X := by rw [← Nat.add_mul]
        split
        · omega
        · have h3 : 1 ≤ (1075 - g).toNat := by omega
          have h4 : 1 * X ≤ (1075 - g).toNat * X := Nat.mul_le_mul_right _ h3
          omega
    · omega
  · rw [if_neg h1, if_neg (show ¬ n < X by omega)]
    by_cases h2 : f < -971
    · rw [if_pos h2, if_pos (by omega)]
      exact Nat.le_refl _
    · rw [if_neg h2]
      split
      · have h3 : (1075 - f).toNat ≤ 2046 := by omega
        have h4 : (1075 - f).toNat * X ≤ 2046 * X := Nat.mul_le_mul_right _ h3
        have hq : 2047 * X = 2046 * X + X := by rw [show 2047 = 2046 + 1 from rfl, Nat.add_mul, Nat.one_mul]
        omega
      · by_cases hfg : g = f
        · subst hfg
          omega
        · have h3 : (1075 - f).toNat + 1 ≤ (1075 - g).toNat := by omega
          have h4 : ((1075 - f).toNat + 1) * X ≤ (1075 - g).toNat * X := Nat.mul_le_mul_right _ h3
          rw [Nat.add_mul, Nat.one_mul] at h4
          omega
theorem packF_top {f : Int} (hf : f ≤ 1074) : packF (2 ^ 53 - 1) f ≤ packF (2 ^ 52) (f - 1) := by
  unfold packF
  have a : ¬ (2 ^ 53 - 1 : Nat) < 2 ^ 52 := by decide
  have b : ¬ (2 ^ 52 : Nat) < 2 ^ 52 := by decide
  rw [if_neg a, if_neg b]
  have e52 : (2 : Nat) ^ 52 = 4503599627370496 := by decide
  have e53 : (2 : Nat) ^ 53 = 9007199254740992 := by decide
  rw [e52, e53]
  clear a b e52 e53
  by_cases h : f < -971
  · rw [if_pos h, if_pos (by omega)]
    exact Nat.le_refl _
  · rw [if_neg h]
    split <;> omega
theorem lt53 {m : Nat} (h : m ≤ 2 ^ 53) (hne : m ≠ 2 ^ 53) : m ≤ 2 ^ 53 - 1 ∧ m < 2 ^ 53 := by
  have : 0 < (2 : Nat) ^ 53 := by decide
  generalize (2 : Nat) ^ 53 = Y at *
  omega
theorem NB_mono {a b c d x y : Nat} (hb : 0 < b) (hd : 0 < d) (h : a * d ≤ c * b) (hx : NB a b x) (hy : NB c d y) : x ≤ y := by
  obtain ⟨f, f1, f2, f3, rfl⟩ := hx
  obtain ⟨g, g1, g2, g3, rfl⟩ := hy
  have hbf := denF_pos f hb
  have hdg := denF_pos g hd
  have mle : rnd (numF f a) (denF f b) ≤ 2 ^ 53 := rnd_lt hbf f2
  have nle : rnd (numF g c) (denF g d) ≤ 2 ^ 53 := rnd_lt hdg g2
  have cross : ∀ k : Int, numF k a * denF k d ≤ numF k c * denF k b := by
    intro k
    unfold numF denF
    have e1 : a * 2 ^ k.toNat * (d * 2 ^ (-k).toNat) = a * d * (2 ^ k.toNat * 2 ^ (-k).toNat) := by ac_rfl
    have e2 : c * 2 ^ k.toNat * (b * 2 ^ (-k).toNat) = c * b * (2 ^ k.toNat * 2 ^ (-k).toNat) := by ac_rfl
    rw [e1, e2]
    exact Nat.mul_le_mul_right _ h
  have hgf : g ≤ f := by
    rcases Int.lt_or_le f g with hlt | hle
    · exfalso
      have hf52 : 2 ^ 52 * denF f b ≤ numF f a := by
        rcases f3 with h | h
        · omega
        · exact h
      -- at g the fraction a / b is 2 ^ 53 at least
      have s := scale_up f g (by omega) a b
      have hk : 1 ≤ (g - f).toNat := by omega
      have p : 2 ^ 1 ≤ 2 ^ (g - f).toNat := Nat.pow_le_pow_right (by omega) hk
      have hbg := denF_pos g hb
      have t1 : 2 ^ 53 * denF f b * denF g b ≤ numF g a * denF f b := by
        rw [s]
        have q1 : 2 ^ 1 * (2 ^ 52 * denF f b) ≤ 2 ^ (g - f).toNat * numF f a := Nat.mul_le_mul p hf52
        have q2 := Nat.mul_le_mul_right (denF g b) q1
        have e : 2 ^ 1 * (2 ^ 52 * denF f b) * denF g b = 2 ^ 53 * denF f b * denF g b := by rw [← Nat.mul_assoc (2 ^ 1)]
        rw [e] at q2
        exact q2
      have t2 : 2 ^ 53 * denF g b ≤ numF g a := by
        apply Nat.le_of_mul_le_mul_right (c := denF f b) _ hbf
        have e : 2 ^ 53 * denF g b * denF f b = 2 ^ 53 * denF f b * denF g b := by ac_rfl
        rw [e]
        exact t1
      have t3 := cross g
      have t4 : 2 ^ 53 * denF g b * denF g d ≤ numF g a * denF g d := Nat.mul_le_mul_right _ t2
      have t5 : numF g c * denF g b < 2 ^ 53 * denF g d * denF g b := Nat.mul_lt_mul_of_pos_right g2 hbg
      have e : 2 ^ 53 * denF g b * denF g d = 2 ^ 53 * denF g d * denF g b := by ac_rfl
      omega
    · exact hle
  by_cases hfg : g = f
  · subst hfg
    have hr := rnd_mono hbf hdg (cross g)
    unfold finF
    by_cases h1 : rnd (numF g a) (denF g b) = 2 ^ 53
    · rw [if_pos h1, if_pos (Nat.le_antisymm nle (by rw [← h1]; exact hr))]
      exact Nat.le_refl _
    · rw [if_neg h1]
      split
      · rename_i h2
        have p1 : packF (rnd (numF g a) (denF g b)) g ≤ packF (2 ^ 53 - 1) g := packF_mono g1 (lt53 mle h1).1 (by decide) (Int.le_refl _) (.inl rfl)
        have p2 := packF_top g1
        exact Nat.le_trans p1 p2
      · rename_i h2
        exact packF_mono g1 hr (lt53 nle h2).2 (Int.le_refl _) (.inl rfl)
  · have hlt : g < f := by omega
    have hg52 : 2 ^ 52 ≤ rnd (numF g c) (denF g d) := by
      rcases g3 with h | h
      · omega
      · exact rnd_ge hdg h
    have top : finF (rnd (numF f a) (denF f b)) f ≤ packF (2 ^ 52) (f - 1) := by
      unfold finF
      split
      · exact Nat.le_refl _
      · rename_i h1
        have p1 : packF (rnd (numF f a) (denF f b)) f ≤ packF (2 ^ 53 - 1) f := packF_mono f1 (lt53 mle h1).1 (by decide) (Int.le_refl _) (.inl rfl)
        have p2 := packF_top f1
        exact Nat.le_trans p1 p2
    refine Nat.le_trans top ?_
    unfold finF
    split
    · exact packF_mono (by omega) (Nat.le_refl _) (by decide) (by omega) (.inr (Nat.le_refl _))
    · rename_i h1
      exact packF_mono (by omega) hg52 (lt53 nle h1).2 (by omega) (.inr (Nat.le_refl _))
theorem NB_one {a b x y : Nat} (hb : 0 < b) (hx : NB a b x) (hy : NB a b y) : x = y :=
  Nat.le_antisymm (NB_mono hb hb (Nat.le_refl _) hx hy) (NB_mono hb hb (Nat.le_refl _) hy hx)
end Go.Proofs.YtcjeeoadgoghfaaGreatDoor.Usc

namespace Go.Proofs.YtcjeeoadgoghfaaGreatDoor.Usc
set_option linter.unusedVariables false

/-- From a0 / b0 by j shifts to D 10 ^ q: e is the sum of the shifts, never below lo or above hi on the way. -/
inductive Run (a0 b0 : Nat) (lo hi : Int) : Nat → Int → Nat → Int → Bool → Prop
  | start (D : Nat) (q : Int) : tenN D q * b0 = a0 * tenD q → Run a0 b0 lo hi 0 0 D q false
  | left {j : Nat} {e : Int} {D : Nat} {q : Int} {tr : Bool} (k D' : Nat) (q' : Int) (tr' : Bool) : Run a0 b0 lo hi j e D q tr → lo ≤ e + k → e + k ≤ hi →
      Cut8 (D * 2 ^ k) q tr D' q' tr' → Run a0 b0 lo hi (j + 1) (e + k) D' q' tr'
  | right {j : Nat} {e : Int} {D : Nat} {q : Int} {tr : Bool} (k D' : Nat) (q' : Int) (tr' : Bool) : Run a0 b0 lo hi j e D q tr → lo ≤ e - k → e - k ≤ hi →
      Cut8 (D * 5 ^ k) (q - k) tr D' q' tr' → Run a0 b0 lo hi (j + 1) (e - k) D' q' tr'

/-- A shift to the left, with the exponent. -/
theorem Inv.up {X j D a0 b0 : Nat} {q e : Int} {tr : Bool} (k : Nat) (hb : 0 < b0) (h : Inv X j D q tr (numF e a0) (denF e b0)) : Inv X j (D * 2 ^ k) q tr (numF (e + k) a0) (denF (e + k) b0) := by
  refine (h.left k).congr (denF_pos e hb) (denF_pos (e + k) hb) rfl ?_
  have s := scale_up e (e + k) (by omega) a0 b0
  rw [show (e + (k : Int) - e).toNat = k by omega] at s
  rw [s]
  ac_rfl
theorem Inv.down {X j D a0 b0 : Nat} {q e : Int} {tr : Bool} (k : Nat) (hb : 0 < b0) (h : Inv X j D q tr (numF e a0) (denF e b0)) : Inv X j (D * 5 ^ k) (q - k) tr (numF (e - k) a0) (denF (e - k) b0) := by
  refine (h.right k).congr (Nat.mul_pos (denF_pos e hb) (Nat.two_pow_pos k)) (denF_pos (e - k) hb) rfl ?_
  have s := scale_up (e - k) e (by omega) a0 b0
  rw [show (e - (e - (k : Int))).toNat = k by omega] at s
  rw [s]
  ac_rfl
theorem Run.inv {a0 b0 j D : Nat} {lo hi e q : Int} {tr : Bool} (hb : 0 < b0) (h : Run a0 b0 lo hi j e D q tr) (hj : j ≤ 10 ^ 798) : Inv (10 ^ 798) j D q tr (numF e a0) (denF e b0) := by
  induction h with
  | start D q h =>
    have e1 : numF 0 a0 = a0 := Nat.mul_one a0
    have e2 : denF 0 b0 = b0 := Nat.mul_one b0
    rw [e1, e2]
    exact ⟨App.exact _ _ _ _ _ h, fun _ => h, by simp⟩
  | left k D' q' tr' r _ _ c ih => exact ((ih (Nat.le_of_succ_le hj)).up k hb).cut8 (Nat.le_of_succ_le hj) (denF_pos _ hb) c
  | right k D' q' tr' r _ _ c ih => exact ((ih (Nat.le_of_succ_le hj)).down k hb).cut8 (Nat.le_of_succ_le hj) (denF_pos _ hb) c

/-- A half at f is c 2 ^ w elsewhere. -/
theorem half_else {a0 b0 c D : Nat} {f g w q : Int} (hb : 0 < b0) (hw : g = f + 1 + w) (hh : 2 * numF f a0 = c * denF f b0) (h : tenN D q * denF g b0 = numF g a0 * tenD q) :
    tenN D q * 2 ^ (-w).toNat = c * 2 ^ w.toNat * tenD q := by
  have key : numF g a0 * 2 ^ (-w).toNat = c * 2 ^ w.toNat * denF g b0 := by
    unfold numF denF at *
    apply Nat.eq_of_mul_eq_mul_right (Nat.two_pow_pos (f.toNat + 1))
    have ex : 2 ^ g.toNat * 2 ^ (-w).toNat * 2 ^ (-f).toNat = 2 ^ w.toNat * 2 ^ (-g).toNat * 2 ^ (f.toNat + 1) := by
      rw [← Nat.pow_add, ← Nat.pow_add, ← Nat.pow_add, ← Nat.pow_add]
      congr 1
      omega
    have l : a0 * 2 ^ g.toNat * 2 ^ (-w).toNat * 2 ^ (f.toNat + 1) = 2 * (a0 * 2 ^ f.toNat) * (2 ^ g.toNat * 2 ^ (-w).toNat) := by
      rw [Nat.pow_succ]; ac_rfl
    rw [l, hh]
    have l2 : c * (b0 * 2 ^ (-f).toNat) * (2 ^ g.toNat * 2 ^ (-w).toNat) = c * b0 * (2 ^ g.toNat * 2 ^ (-w).toNat * 2 ^ (-f).toNat) := by ac_rfl
    rw [l2, ex]
    ac_rfl
  have p := denF_pos g hb
  apply Nat.eq_of_mul_eq_mul_right p
  have e1 : tenN D q * 2 ^ (-w).toNat * denF g b0 = tenN D q * denF g b0 * 2 ^ (-w).toNat := by ac_rfl
  rw [e1, h]
  have e2 : numF g a0 * tenD q * 2 ^ (-w).toNat = numF g a0 * 2 ^ (-w).toNat * tenD q := by ac_rfl
  rw [e2, key]
  ac_rfl
/-- If the value is a half at f, no shift on the way has lost anything. -/
theorem Run.half {a0 b0 c j D : Nat} {lo hi e f q : Int} {tr : Bool} (hb : 0 < b0) (hc : c < 2 ^ 55) (hh : 2 * numF f a0 = c * denF f b0) (hlo : f + 1 - 1100 ≤ lo) (hhi : hi ≤ f + 1 + 1100)
    (h : Run a0 b0 lo hi j e D q tr) (hj : j ≤ 10 ^ 798) : tr = false := by
  induction h with
  | start D q h => rfl
  | @left j e D q tr k D' q' tr' r l1 l2 c8 ih =>
    have t := ih (Nat.le_of_succ_le hj)
    have I := ((r.inv hb (Nat.le_of_succ_le hj)).up k hb).2.1 t
    rw [← t]
    exact c8.exact (w := e + k - f - 1) (by omega) (by omega) hc (half_else hb (by omega) hh I)
  | @right j e D q tr k D' q' tr' r l1 l2 c8 ih =>
    have t := ih (Nat.le_of_succ_le hj)
    have I := ((r.inv hb (Nat.le_of_succ_le hj)).down k hb).2.1 t
    rw [← t]
    exact c8.exact (w := e - k - f - 1) (by omega) (by omega) hc (half_else hb (by omega) hh I)
end Go.Proofs.YtcjeeoadgoghfaaGreatDoor.Usc

namespace Go.Proofs.YtcjeeoadgoghfaaGreatDoor.Usc
set_option linter.unusedVariables false
open Go.Proofs.YtcjeeoadgoghfaaGreatDoor.Deci

/-- 800 digits at most, without zeros behind them; and whether a digit that is none was left out. -/
def cut8 (R : List Nat) : List Nat := trimD (R.take 800)
def cutT (tr : Bool) (R : List Nat) : Bool := tr || (R.drop 800).any (fun d => d != 0)

theorem val_zero : ∀ l : List Nat, (val l != 0) = l.any (fun d => d != 0)
  | [] => rfl
  | d :: t => by
    have ih := val_zero t
    rw [val_cons, List.any_cons, ← ih]
    have hp : 0 < 10 ^ t.length := Nat.pow_pos (by decide)
    rw [Bool.eq_iff_iff]
    simp only [bne_iff_ne, Bool.or_eq_true, ne_eq]
    have hm : d * 10 ^ t.length = 0 ↔ d = 0 := by
      rw [Nat.mul_eq_zero]
      constructor
      · rintro (h | h)
        · exact h
        · omega
      · intro h; exact Or.inl h
    omega
theorem val_zeros (l : List Nat) (z : Nat) : val (l ++ List.replicate z 0) = val l * 10 ^ z := by
  have h : val (List.replicate z 0) = 0 := by
    induction z with
    | zero => rfl
    | succ z ih => rw [List.replicate_succ, val_cons, ih]; simp
  rw [val_append, h, List.length_replicate, Nat.add_zero]

theorem cut_list (R : List Nat) (q : Int) (tr : Bool) (hd : Digs R) (hl : Led R) : Cut8 (val R) q tr (val (cut8 R)) (q + ((R.length : Int) - ((cut8 R).length : Int))) (cutT tr R) := by
  obtain ⟨z, hz, _⟩ := trimD_spec (R.take 800)
  have e : R = R.take 800 ++ R.drop 800 := (List.take_append_drop 800 R).symm
  have hdl : (R.drop 800).length = R.length - 800 := List.length_drop
  have hv : val R = val (R.take 800) * 10 ^ (R.length - 800) + val (R.drop 800) := by
    conv => lhs; rw [e]
    rw [val_append, hdl]
  have hlt : val (R.drop 800) < 10 ^ (R.length - 800) := by
    rw [← hdl]
    exact val_lt _ (fun d h => hd d (List.mem_of_mem_drop h))
  have hp : 0 < 10 ^ (R.length - 800) := Nat.pow_pos (by decide)
  have hdiv : val R / 10 ^ (R.length - 800) = val (R.take 800) := by
    rw [hv, Nat.mul_comm, Nat.mul_add_div hp, Nat.div_eq_of_lt hlt, Nat.add_zero]
  have hmod : val R % 10 ^ (R.length - 800) = val (R.drop 800) := by
    rw [hv, Nat.mul_comm, Nat.mul_add_mod, Nat.mod_eq_of_lt hlt]
  have hlen := congrArg List.length hz
  rw [List.length_append, List.length_replicate, List.length_take] at hlen
  have hz' : val (R.take 800) = val (cut8 R) * 10 ^ z := by
    conv => lhs; rw [hz]
    rw [val_zeros]
    rfl
  change _ = (cut8 R).length + z at hlen
  refine ⟨R.length - 800, z, ?_, by rw [hdiv, hz'], by omega, ?_⟩
  · by_cases h0 : R.length ≤ 800
    · left; omega
    · right
      rw [hdiv]
      cases R with
      | nil => simp at h0
      | cons d t =>
        have h1 : d ≠ 0 := hl d t rfl
        have h2 := val_ge d (t.take 799) (by omega)
        simp only [List.length_cons] at h0
        rw [List.take_succ_cons]
        rw [List.length_take, show min 799 t.length = 799 by omega] at h2
        exact h2
  · rw [hmod, val_zero]
    rfl

/-- With zeros behind: the same. -/
theorem Cut8.scale {D D' : Nat} {q q' : Int} {tr tr' : Bool} (j : Nat) (h : Cut8 D q tr D' q' tr') : Cut8 (D * 10 ^ j) (q - j) tr D' q' tr' := by
  obtain ⟨t, z, h1, h2, rfl, rfl⟩ := h
  have hp : 0 < 10 ^ j := Nat.pow_pos (by decide)
  by_cases ht : t = 0
  · subst ht
    refine ⟨0, z + j, Or.inl rfl, ?_, by omega, ?_⟩
    · rw [Nat.pow_zero, Nat.div_one] at h2 ⊢
      rw [h2, Nat.pow_add, Nat.mul_assoc]
    · rw [Nat.pow_zero, Nat.mod_one, Nat.mod_one]
  · refine ⟨t + j, z, ?_, ?_, by omega, ?_⟩
    · right
      rw [Nat.pow_add, Nat.mul_div_mul_right _ _ hp]
      exact h1.resolve_left ht
    · rw [Nat.pow_add, Nat.mul_div_mul_right _ _ hp, h2]
    · rw [Nat.pow_add, Nat.mul_mod_mul_right]
      congr 1
      rw [Bool.eq_iff_iff]
      simp only [bne_iff_ne, ne_eq, Nat.mul_eq_zero]
      omega

/-- leftShift: R are the digits of the product. -/
theorem shl_cut (l : List Nat) (k : Nat) (q : Int) (tr : Bool) : Cut8 (val l * 2 ^ k) q tr (val (cut8 (digs (val l * 2 ^ k)))) (q + (((digs (val l * 2 ^ k)).length : Int) - ((cut8 (digs (val l * 2 ^ k))).length : Int))) (cutT tr (digs (val l * 2 ^ k))) := by
  obtain ⟨hd, hl, hv⟩ := digs_all (val l * 2 ^ k)
  have := cut_list (digs (val l * 2 ^ k)) q tr hd hl
  rw [hv] at this
  exact this
/-- rightShift: W is what is put down, till nothing is left; a zeros were read behind l. -/
theorem shr_cut (l W : List Nat) (k a : Nat) (q : Int) (tr : Bool) (hd : Digs W) (hl : Led W) (h : val W * (10 * 2 ^ k) = val l * 10 ^ a) (ha : a ≤ k + 1) :
    Cut8 (val l * 5 ^ k) (q - k) tr (val (cut8 W)) (q - a + 1 + ((W.length : Int) - ((cut8 W).length : Int))) (cutT tr W) := by
  have c := (cut_list W (q - a + 1) tr hd hl).scale (k + 1 - a)
  have e : val W * 10 ^ (k + 1 - a) = val l * 5 ^ k := by
    have hp : 0 < 2 ^ k * 10 ^ a := Nat.mul_pos (Nat.two_pow_pos k) (Nat.pow_pos (by decide))
    apply Nat.eq_of_mul_eq_mul_right hp
    have e1 : val W * 10 ^ (k + 1 - a) * (2 ^ k * 10 ^ a) = val W * 2 ^ k * (10 ^ (k + 1 - a) * 10 ^ a) := by ac_rfl
    have e2 : (10 : Nat) ^ (k + 1 - a) * 10 ^ a = 10 * 10 ^ k := by rw [← Nat.pow_add, show k + 1 - a + a = k + 1 by omega, Nat.pow_succ']
    have e3 : val W * 2 ^ k * (10 * 10 ^ k) = val W * (10 * 2 ^ k) * 10 ^ k := by ac_rfl
    rw [e1, e2, e3, h, ← two_five k]
    ac_rfl
  rw [e, show q - (a : Int) + 1 - ((k + 1 - a : Nat) : Int) = q - k by omega] at c
  exact c
/-- Behind k + 1 zeros nothing is left. -/
theorem shr_done {w n v k a : Nat} (h : w * (10 * 2 ^ k) + n = v * 10 ^ a) (hn : n < 10 * 2 ^ k) (ha : k + 1 ≤ a) : n = 0 := by
  obtain ⟨r, rfl⟩ : ∃ r, a = k + 1 + r := ⟨a - (k + 1), by omega⟩
  have e : v * 10 ^ (k + 1 + r) = v * 10 ^ r * 5 ^ k * (10 * 2 ^ k) := by
    rw [Nat.pow_add, Nat.pow_succ', ← two_five k]
    ac_rfl
  rw [e] at h
  have h1 := congrArg (· % (10 * 2 ^ k)) h
  simp only [Nat.mul_mod_left] at h1
  rw [Nat.mul_comm, Nat.mul_add_mod, Nat.mod_eq_of_lt hn] at h1
  exact h1
/-- How many zeros are read till the first digit can be put down. -/
theorem shr_first {v k a : Nat} (hv : 0 < v) (h : v * 10 ^ a < 2 ^ k) : a < k := by
  rcases Nat.lt_or_ge a k with h1 | h1
  · exact h1
  · exfalso
    have h2 : 2 ^ k ≤ 10 ^ a := Nat.le_trans (Nat.pow_le_pow_left (by decide) k) (Nat.pow_le_pow_right (by decide) h1)
    have h3 : 1 * 10 ^ a ≤ v * 10 ^ a := Nat.mul_le_mul_right _ hv
    omega

end Go.Proofs.YtcjeeoadgoghfaaGreatDoor.Usc

namespace Go.Proofs.YtcjeeoadgoghfaaGreatDoor.Usc
set_option linter.unusedVariables false
open Go.Proofs.YtcjeeoadgoghfaaGreatDoor.Deci

/-- Is it to be rounded up at place p, as strconv does it? -/
def upR (l : List Nat) (p : Nat) (tr : Bool) : Bool :=
  match l.drop p with
  | [] => false
  | d :: t => if d = 5 ∧ t = [] then (tr || (decide (0 < p) && decide ((l.getD (p - 1) 0) % 2 ≠ 0))) else decide (5 ≤ d)
/-- The whole part: the digits ahead of the point, with zeros where there are none. -/
def whole (l : List Nat) (p : Nat) : Nat := val (l.take p) * 10 ^ (p - l.length)
/-- What RoundedInteger answers. -/
def rInt (l : List Nat) (dp : Int) (tr : Bool) : Nat := if dp < 0 then 0 else whole l dp.toNat + (if upR l dp.toNat tr then 1 else 0)

theorem val_mod2 (l : List Nat) (d : Nat) : val (l ++ [d]) % 2 = d % 2 := by
  rw [val_snoc]; omega
theorem last_mod2 (l : List Nat) (p : Nat) (h0 : 0 < p) (h : p ≤ l.length) : val (l.take p) % 2 = l.getD (p - 1) 0 % 2 := by
  obtain ⟨j, rfl⟩ : ∃ j, p = j + 1 := ⟨p - 1, by omega⟩
  rw [List.take_succ_eq_append_getElem (by omega), val_mod2, Nat.add_sub_cancel, List.getD_eq_getElem?_getD, List.getElem?_eq_getElem (by omega)]
  rfl
theorem upR_cons {l t : List Nat} {p d : Nat} (tr : Bool) (h : l.drop p = d :: t) : upR l p tr = if d = 5 ∧ t = [] then (tr || (decide (0 < p) && decide ((l.getD (p - 1) 0) % 2 ≠ 0))) else decide (5 ≤ d) := by
  unfold upR
  rw [h]
theorem ifc {a b : Prop} [Decidable a] [Decidable b] (h : a ↔ b) : (if a then 1 else 0 : Nat) = if b then 1 else 0 := by
  by_cases hb : b
  · rw [if_pos hb, if_pos (h.2 hb)]
  · rw [if_neg hb, if_neg (fun e => hb (h.1 e))]
theorem rndT_eq (n m : Nat) (tr : Bool) : rndT n m tr = n / m + (if m < 2 * (n % m) ∨ (2 * (n % m) = m ∧ (tr = true ∨ n / m % 2 = 1)) then 1 else 0) := by
  unfold rndT
  generalize n / m = q
  generalize n % m = w
  by_cases h1 : 2 * w < m
  · rw [if_pos h1, if_neg (by omega)]; rfl
  · rw [if_neg h1]
    by_cases h2 : m < 2 * w
    · rw [if_pos h2, if_pos (Or.inl h2)]
    · rw [if_neg h2]
      cases tr with
      | true => rw [if_pos rfl, if_pos (Or.inr ⟨by omega, Or.inl rfl⟩)]
      | false =>
        rw [if_neg (by decide)]
        rcases (show q % 2 = 0 ∨ q % 2 = 1 by omega) with h3 | h3
        · rw [h3, if_neg (by rintro (h4 | ⟨_, h4 | h4⟩); exact h2 h4; cases h4; omega)]
        · rw [h3, if_pos (Or.inr ⟨by omega, Or.inr rfl⟩)]
theorem rInt_round (l : List Nat) (dp : Int) (tr : Bool) (hd : Digs l) (ht : Tight l) : rInt l dp tr = rndT (tenN (val l) (dp - l.length)) (tenD (dp - l.length)) tr := by
  unfold rInt
  by_cases hneg : dp < 0
  · rw [if_pos hneg]
    have hlt := val_lt l hd
    unfold tenN tenD
    rw [show (dp - (l.length : Int)).toNat = 0 by omega, Nat.pow_zero, Nat.mul_one]
    obtain ⟨m, hm⟩ : ∃ m, (-(dp - (l.length : Int))).toNat = l.length + 1 + m := ⟨(-(dp - (l.length : Int))).toNat - (l.length + 1), by omega⟩
    rw [hm]
    have h1 : 10 ^ l.length * 10 ≤ 10 ^ (l.length + 1 + m) := by
      rw [← Nat.pow_succ]
      exact Nat.pow_le_pow_right (by decide) (by omega)
    unfold rndT
    rw [Nat.mod_eq_of_lt (by omega), Nat.div_eq_of_lt (by omega), if_pos (by omega)]
  · rw [if_neg hneg]
    obtain ⟨p, rfl⟩ : ∃ p : Nat, dp = p := ⟨dp.toNat, by omega⟩
    rw [Int.toNat_natCast]
    rcases Nat.lt_or_ge p l.length with hp | hp
    · have hq : ((p : Int) - (l.length : Int)).toNat = 0 := by omega
      have hq2 : (-((p : Int) - (l.length : Int))).toNat = l.length - p := by omega
      unfold tenN tenD whole
      rw [hq, hq2, Nat.pow_zero, Nat.mul_one, show p - l.length = 0 by omega, Nat.pow_zero, Nat.mul_one]
      have e : l = l.take p ++ l.drop p := (List.take_append_drop p l).symm
      have hdl : (l.drop p).length = l.length - p := List.length_drop
      have hv : val l = val (l.take p) * 10 ^ (l.length - p) + val (l.drop p) := by
        conv => lhs; rw [e]
        rw [val_append, hdl]
      have hdd : Digs (l.drop p) := fun d h => hd d (List.mem_of_mem_drop h)
      have hlt : val (l.drop p) < 10 ^ (l.length - p) := by rw [← hdl]; exact val_lt _ hdd
      have hpp : 0 < 10 ^ (l.length - p) := Nat.pow_pos (by decide)
      have hdiv : val l / 10 ^ (l.length - p) = val (l.take p) := by
        rw [hv, Nat.mul_comm, Nat.mul_add_div hpp, Nat.div_eq_of_lt hlt, Nat.add_zero]
      have hmod : val l % 10 ^ (l.length - p) = val (l.drop p) := by
        rw [hv, Nat.mul_comm, Nat.mul_add_mod, Nat.mod_eq_of_lt hlt]
      rw [rndT_eq, hdiv, hmod]
      congr 1
      refine ifc ?_
      cases hc : l.drop p with
      | nil => rw [hc] at hdl; simp at hdl; omega
      | cons d t =>
        rw [upR_cons tr hc]
        rw [hc] at hdl hdd
        have hm : 10 ^ (l.length - p) = 10 * 10 ^ t.length := by
          rw [← hdl, List.length_cons, Nat.pow_succ']
        have hd9 := hdd d (by simp)
        have hvt := val_lt t (fun x hx => hdd x (by simp [hx]))
        rw [hm, val_cons]
        have hX : 0 < 10 ^ t.length := Nat.pow_pos (by decide)
        by_cases h5 : d = 5 ∧ t = []
        · rw [if_pos h5]
          obtain ⟨rfl, rfl⟩ := h5
          simp only [List.length_nil, Nat.pow_zero, Nat.mul_one, val_nil, Nat.add_zero, Bool.or_eq_true, Bool.and_eq_true, decide_eq_true_eq]
          have h10 : ¬ (10 : Nat) < 2 * 5 := by decide
          have h11 : 2 * 5 = (10 : Nat) := rfl
          by_cases h0 : 0 < p
          · rw [last_mod2 l p h0 (by omega)]
            have h2 : l.getD (p - 1) 0 % 2 ≠ 0 ↔ l.getD (p - 1) 0 % 2 = 1 := by omega
            rw [h2]
            constructor
            · rintro (h | ⟨_, h⟩)
              · exact Or.inr ⟨trivial, Or.inl h⟩
              · exact Or.inr ⟨trivial, Or.inr h⟩
            · rintro (h | ⟨_, h | h⟩)
              · exact absurd h h10
              · exact Or.inl h
              · exact Or.inr ⟨h0, h⟩
          · have hp0 : p = 0 := by omega
            rw [hp0, List.take_zero, val_nil]
            constructor
            · rintro (h | ⟨h, _⟩)
              · exact Or.inr ⟨trivial, Or.inl h⟩
              · exact absurd h (by decide)
            · rintro (h | ⟨_, h | h⟩)
              · exact absurd h h10
              · exact Or.inl h
              · exact absurd h (by decide)
        · rw [if_neg h5, decide_eq_true_eq]
          constructor
          · intro hge
            left
            rcases Nat.lt_or_ge 5 d with h6 | h6
            · have := Nat.mul_le_mul_right (10 ^ t.length) (show 6 ≤ d by omega)
              omega
            · obtain rfl : d = 5 := by omega
              have htn : t ≠ [] := fun e => h5 ⟨rfl, e⟩
              have htt : Tight t := by
                intro u x hu
                have h7 : l = (l.take p ++ 5 :: u) ++ [x] := by
                  conv => lhs; rw [e, hc, hu]
                  simp
                exact ht _ _ h7
              have := val_pos htt htn
              omega
          · intro h
            rcases Nat.lt_or_ge d 5 with h6 | h6
            · exfalso
              have := Nat.mul_le_mul_right (10 ^ t.length) (show d ≤ 4 by omega)
              omega
            · exact h6
    · unfold tenN tenD whole
      rw [show ((p : Int) - (l.length : Int)).toNat = p - l.length by omega, show (-((p : Int) - (l.length : Int))).toNat = 0 by omega, Nat.pow_zero, List.take_of_length_le hp]
      have hu : upR l p tr = false := by
        unfold upR
        rw [List.drop_eq_nil_of_le hp]
      rw [hu, rndT_eq, Nat.mod_one, Nat.div_one]
      rfl
end Go.Proofs.YtcjeeoadgoghfaaGreatDoor.Usc

namespace Go.Proofs.YtcjeeoadgoghfaaGreatDoor.Usc
set_option linter.unusedVariables false

theorem run_round {a0 b0 j D a b : Nat} {lo hi f q : Int} {tr : Bool} (hb0 : 0 < b0) (hb : 0 < b) (h : Run a0 b0 lo hi j f D q tr) (hj : j ≤ 10 ^ 798)
    (hlo : f + 1 - 1100 ≤ lo) (hhi : hi ≤ f + 1 + 1100) (red : numF f a0 * b = a * denF f b0) (hT : numF f a0 < 2 ^ 54 * denF f b0) (hs : 2 * (j * 2 ^ 54 * b) ≤ 10 ^ 798) :
    rndT (tenN D q) (tenD q) tr = rnd (numF f a0) (denF f b0) := by
  have hd := denF_pos f hb0
  have I := h.inv hb0 hj
  have I2 : Inv (10 ^ 798) j D q tr a b := I.congr hd hb rfl (by rw [← red])
  have hm := tenD_pos q
  rw [rnd_eq hd hb red]
  refine slow_round (Nat.pow_pos (by decide)) hm hb tr I2.1 I2.2.1 I2.2.2 ?_ hs ?_
  · have g := I.1.1
    apply Nat.lt_of_mul_lt_mul_right (a := denF f b0)
    refine Nat.lt_of_le_of_lt g ?_
    rw [show 2 ^ 54 * tenD q * denF f b0 = 2 ^ 54 * denF f b0 * tenD q by ac_rfl]
    exact Nat.mul_lt_mul_of_pos_right hT hm
  · intro k e
    have hh : 2 * numF f a0 = (2 * k + 1) * denF f b0 := by
      apply Nat.eq_of_mul_eq_mul_right hb
      rw [Nat.mul_assoc, red, ← Nat.mul_assoc, e]
      ac_rfl
    have hc : 2 * k + 1 < 2 ^ 55 := by
      have e55 : (2 : Nat) ^ 55 = 2 * 2 ^ 54 := by decide
      apply Nat.lt_of_mul_lt_mul_right (a := denF f b0)
      rw [← hh, e55, Nat.mul_assoc]
      exact Nat.mul_lt_mul_of_pos_left hT (by decide)
    exact h.half hb0 hc hh hlo hhi hj
/-- The value in digits: D0 10 ^ q0 at the exponent f, reduced. -/
theorem red_ten (D0 : Nat) (q0 f : Int) (hq : q0 ≤ 0) : numF f (tenN D0 q0) * (5 ^ (-q0).toNat * 2 ^ (-q0 - f).toNat) = D0 * 2 ^ (f + q0).toNat * denF f (tenD q0) := by
  unfold numF denF tenN tenD
  rw [show q0.toNat = 0 by omega, Nat.pow_zero, Nat.mul_one]
  obtain ⟨n, hn⟩ : ∃ n : Nat, (-q0).toNat = n := ⟨_, rfl⟩
  rw [hn]
  have t : (10 : Nat) ^ n = 5 ^ n * 2 ^ n := by rw [← Nat.mul_pow]
  rw [t]
  have e : 2 ^ f.toNat * 2 ^ (-q0 - f).toNat = 2 ^ (f + q0).toNat * 2 ^ n * 2 ^ (-f).toNat := by
    rw [← Nat.pow_add, ← Nat.pow_add, ← Nat.pow_add]
    congr 1
    omega
  have e1 : D0 * 2 ^ f.toNat * (5 ^ n * 2 ^ (-q0 - f).toNat) = D0 * 5 ^ n * (2 ^ f.toNat * 2 ^ (-q0 - f).toNat) := by ac_rfl
  rw [e1, e]
  ac_rfl
end Go.Proofs.YtcjeeoadgoghfaaGreatDoor.Usc

namespace Go.Proofs.YtcjeeoadgoghfaaGreatDoor.Usc
set_option linter.unusedVariables false
open Go.Proofs.YtcjeeoadgoghfaaGreatDoor.Deci

/-- A decimal as strconv holds it: digits, none at the ends zero, 800 at most. -/
def Good (l : List Nat) : Prop := Digs l ∧ Led l ∧ Tight l ∧ l ≠ [] ∧ l.length ≤ 800
theorem cut8_good {R : List Nat} (hd : Digs R) (hl : Led R) (hne : R ≠ []) : Good (cut8 R) := by
  have hd1 : Digs (R.take 800) := fun d h => hd d (List.mem_of_mem_take h)
  have hl1 : Led (R.take 800) := by
    intro d t e
    cases R with
    | nil => exact absurd rfl hne
    | cons c u =>
      rw [List.take_succ_cons] at e
      cases e
      exact hl _ _ rfl
  obtain ⟨z, hz, ht⟩ := trimD_spec (R.take 800)
  refine ⟨trimD_digs hd1, trimD_led hl1, ht, ?_, ?_⟩
  · intro e
    have e2 : trimD (R.take 800) = [] := e
    rw [e2, List.nil_append] at hz
    cases R with
    | nil => exact hne rfl
    | cons c u =>
      rw [List.take_succ_cons] at hz
      cases z with
      | zero => cases hz
      | succ z =>
        rw [List.replicate_succ] at hz
        exact hl c u rfl (List.cons.inj hz).1
  · have := trimD_len (R.take 800)
    rw [List.length_take] at this
    show (trimD (R.take 800)).length ≤ 800
    omega
theorem good_digs {v : Nat} (h : 0 < v) : Good (cut8 (digs v)) := by
  obtain ⟨h1, h2, h3⟩ := digs_all v
  refine cut8_good h1 h2 (fun e => ?_)
  rw [e, val_nil] at h3
  omega
theorem Good.pos {l : List Nat} (h : Good l) : 0 < val l := val_pos h.2.2.1 h.2.2.2.1
/-- Digits of the code's form, but perhaps with zeros behind them. -/
def Fair (l : List Nat) : Prop := Digs l ∧ Led l ∧ l ≠ [] ∧ l.length ≤ 800
theorem Good.fair {l : List Nat} (h : Good l) : Fair l := ⟨h.1, h.2.1, h.2.2.2.1, h.2.2.2.2⟩
theorem Fair.pos {l : List Nat} (h : Fair l) : 0 < val l := by
  obtain ⟨hd, hl, hne, _⟩ := h
  cases l with
  | nil => exact absurd rfl hne
  | cons d t =>
    have := val_ge d t (by have := hl d t rfl; omega)
    exact Nat.lt_of_lt_of_le (Nat.pow_pos (by decide)) this

/-- The point behind a shift: so many digits more. -/
def ptS (v : Nat) (l : List Nat) (dp : Int) : Int := dp + (((digs v).length : Int) - (l.length : Int))
theorem Run.widen {a0 b0 j D : Nat} {lo hi lo' hi' e q : Int} {tr : Bool} (h : Run a0 b0 lo hi j e D q tr) (h1 : lo' ≤ lo) (h2 : hi ≤ hi') : Run a0 b0 lo' hi' j e D q tr := by
  induction h with
  | start D q h => exact .start D q h
  | left k D' q' tr' _ g1 g2 c ih => exact .left k D' q' tr' ih (by omega) (by omega) c
  | right k D' q' tr' _ g1 g2 c ih => exact .right k D' q' tr' ih (by omega) (by omega) c
theorem Run.shl {a0 b0 j : Nat} {lo hi e dp : Int} {l : List Nat} {tr : Bool} (k : Nat) (h : Run a0 b0 lo hi j e (val l) (dp - l.length) tr) (h1 : lo ≤ e + k) (h2 : e + k ≤ hi) :
    Run a0 b0 lo hi (j + 1) (e + k) (val (cut8 (digs (val l * 2 ^ k)))) (ptS (val l * 2 ^ k) l dp - (cut8 (digs (val l * 2 ^ k))).length) (cutT tr (digs (val l * 2 ^ k))) := by
  have c := shl_cut l k (dp - l.length) tr
  have r := Run.left k _ _ _ h h1 h2 c
  rw [show dp - (l.length : Int) + (((digs (val l * 2 ^ k)).length : Int) - ((cut8 (digs (val l * 2 ^ k))).length : Int)) = ptS (val l * 2 ^ k) l dp - (cut8 (digs (val l * 2 ^ k))).length by unfold ptS; omega] at r
  exact r
theorem Run.shr {a0 b0 j : Nat} {lo hi e dp : Int} {l : List Nat} {tr : Bool} (k : Nat) (h : Run a0 b0 lo hi j e (val l) (dp - l.length) tr) (h1 : lo ≤ e - k) (h2 : e - k ≤ hi) :
    Run a0 b0 lo hi (j + 1) (e - k) (val (cut8 (digs (val l * 5 ^ k)))) (ptS (val l * 5 ^ k) l (dp - k) - (cut8 (digs (val l * 5 ^ k))).length) (cutT tr (digs (val l * 5 ^ k))) := by
  obtain ⟨hd, hl, hv⟩ := digs_all (val l * 5 ^ k)
  have c := cut_list (digs (val l * 5 ^ k)) (dp - l.length - k) tr hd hl
  rw [hv] at c
  have r := Run.right k _ _ _ h h1 h2 c
  rw [show dp - (l.length : Int) - (k : Int) + (((digs (val l * 5 ^ k)).length : Int) - ((cut8 (digs (val l * 5 ^ k))).length : Int)) = ptS (val l * 5 ^ k) l (dp - k) - (cut8 (digs (val l * 5 ^ k))).length by unfold ptS; omega] at r
  exact r

/-- What is put down by rightShift is the product by five, but for zeros. -/
theorem shr_same {l W : List Nat} {k a : Nat} (hd : Digs W) (hl : Led W) (hW : W ≠ []) (h : val W * (10 * 2 ^ k) = val l * 10 ^ a) (ha : a ≤ k + 1) :
    digs (val l * 5 ^ k) = W ++ List.replicate (k + 1 - a) 0 := by
  have e : val W * 10 ^ (k + 1 - a) = val l * 5 ^ k := by
    have hp : 0 < 2 ^ k * 10 ^ a := Nat.mul_pos (Nat.two_pow_pos k) (Nat.pow_pos (by decide))
    apply Nat.eq_of_mul_eq_mul_right hp
    have e1 : val W * 10 ^ (k + 1 - a) * (2 ^ k * 10 ^ a) = val W * 2 ^ k * (10 ^ (k + 1 - a) * 10 ^ a) := by ac_rfl
    have e2 : (10 : Nat) ^ (k + 1 - a) * 10 ^ a = 10 * 10 ^ k := by rw [← Nat.pow_add, show k + 1 - a + a = k + 1 by omega, Nat.pow_succ']
    have e3 : val W * 2 ^ k * (10 * 10 ^ k) = val W * (10 * 2 ^ k) * 10 ^ k := by ac_rfl
    rw [e1, e2, e3, h, ← two_five k]
    ac_rfl
  rw [← e, ← val_zeros]
  refine digs_val _ (hd.append (fun d h => ?_)) (fun d t e2 => ?_)
  · rw [List.mem_replicate] at h
    omega
  · cases W with
    | nil => exact absurd rfl hW
    | cons c u =>
      rw [List.cons_append] at e2
      cases e2
      exact hl _ _ rfl

/-- What the point says of the value. -/
theorem point_ge {l : List Nat} {dp : Int} (h : Fair l) (hp : 0 < dp) : tenD (dp - l.length) ≤ tenN (val l) (dp - l.length) := by
  obtain ⟨hd, hl, hne, _⟩ := h
  have hlen := List.length_pos_iff.2 hne
  have hv : 10 ^ (l.length - 1) ≤ val l := by
    cases l with
    | nil => exact absurd rfl hne
    | cons d t =>
      have := val_ge d t (by have := hl d t rfl; omega)
      simpa using this
  unfold tenN tenD
  rcases Int.lt_or_le (dp - l.length) 0 with h | h
  · rw [show (dp - (l.length : Int)).toNat = 0 by omega, Nat.pow_zero, Nat.mul_one]
    exact Nat.le_trans (Nat.pow_le_pow_right (by decide) (by omega)) hv
  · rw [show (-(dp - (l.length : Int))).toNat = 0 by omega, Nat.pow_zero]
    exact Nat.mul_pos (Nat.lt_of_lt_of_le (Nat.pow_pos (by decide)) hv) (Nat.pow_pos (by decide))
theorem point_lt {l : List Nat} {dp : Int} (h : Fair l) (hp : dp ≤ 0) : tenN (val l) (dp - l.length) < tenD (dp - l.length) := by
  obtain ⟨hd, hl, hne, _⟩ := h
  have hv := val_lt l hd
  unfold tenN tenD
  rw [show (dp - (l.length : Int)).toNat = 0 by omega, Nat.pow_zero, Nat.mul_one]
  exact Nat.lt_of_lt_of_le hv (Nat.pow_le_pow_right (by decide) (by omega))
theorem dig_ge {l : List Nat} (h : Fair l) (h5 : 5 ≤ l.getD 0 0) : tenD (0 - l.length) ≤ 2 * tenN (val l) (0 - l.length) := by
  obtain ⟨hd, hl, hne, _⟩ := h
  cases l with
  | nil => exact absurd rfl hne
  | cons d t =>
    have h5' : 5 ≤ d := h5
    unfold tenN tenD
    rw [show ((0 : Int) - ((d :: t).length : Int)).toNat = 0 by simp; omega, show (-((0 : Int) - ((d :: t).length : Int))).toNat = t.length + 1 by simp, Nat.pow_zero, Nat.mul_one, Nat.pow_succ, val_cons]
    have := Nat.mul_le_mul_right (10 ^ t.length) h5'
    omega
theorem dig_lt {l : List Nat} {dp : Int} (h : Fair l) (hp : dp < 0 ∨ (dp = 0 ∧ l.getD 0 0 < 5)) : 2 * tenN (val l) (dp - l.length) < tenD (dp - l.length) := by
  obtain ⟨hd, hl, hne, _⟩ := h
  rcases hp with hp | ⟨rfl, h5⟩
  · have hv := val_lt l hd
    unfold tenN tenD
    rw [show (dp - (l.length : Int)).toNat = 0 by omega, Nat.pow_zero, Nat.mul_one]
    have : 10 ^ (l.length + 1) ≤ 10 ^ (-(dp - (l.length : Int))).toNat := Nat.pow_le_pow_right (by decide) (by omega)
    rw [Nat.pow_succ] at this
    omega
  · cases l with
    | nil => exact absurd rfl hne
    | cons d t =>
      have h5' : d < 5 := h5
      have hvt := val_lt t (fun x hx => hd x (by simp [hx]))
      unfold tenN tenD
      rw [show ((0 : Int) - ((d :: t).length : Int)).toNat = 0 by simp; omega, show (-((0 : Int) - ((d :: t).length : Int))).toNat = t.length + 1 by simp, Nat.pow_zero, Nat.mul_one, Nat.pow_succ, val_cons]
      have := Nat.mul_le_mul_right (10 ^ t.length) (show d ≤ 4 by omega)
      omega
end Go.Proofs.YtcjeeoadgoghfaaGreatDoor.Usc

namespace Go.Proofs.YtcjeeoadgoghfaaGreatDoor.Usc
set_option linter.unusedVariables false
open Go.Proofs.YtcjeeoadgoghfaaGreatDoor.Deci

/-- What is told of the decimal is told of the value: below K halves. -/
theorem App.half_cmp {X j n m a b K : Nat} (hX : 0 < X) (hb : 0 < b) (h : App X j n m a b) (hK : K ≤ 2 ^ 55) (hn : 2 * n < K * m) (hs : 2 * (j * 2 ^ 54 * b) ≤ X) (ex : 2 * a = K * b → n * b = a * m) : 2 * a < K * b := by
  have hn2 : n < 2 ^ 54 * m := by
    have h1 : K * m ≤ 2 ^ 55 * m := Nat.mul_le_mul_right _ hK
    rw [show (2 : Nat) ^ 55 = 2 * 2 ^ 54 by decide, Nat.mul_assoc] at h1
    generalize 2 ^ 54 * m = z at *
    omega
  have c := h.close hX hn2 hs
  rcases Nat.lt_trichotomy (2 * a) (K * b) with g | g | g
  · exact g
  · exfalso
    have e := ex g
    have h1 : 2 * n * b < K * m * b := Nat.mul_lt_mul_of_pos_right hn hb
    have h2 : 2 * n * b = 2 * a * m := by rw [Nat.mul_assoc, e, Nat.mul_assoc]
    rw [h2, g, show K * m * b = K * b * m by ac_rfl] at h1
    exact Nat.lt_irrefl _ h1
  · exfalso
    have h1 : (2 * n + 1) * b ≤ K * m * b := Nat.mul_le_mul_right _ hn
    have h2 : (K * b + 1) * m ≤ 2 * a * m := Nat.mul_le_mul_right _ g
    rw [Nat.add_mul, Nat.one_mul, Nat.mul_assoc] at h1 h2
    rw [Nat.mul_assoc 2 a m] at h2
    rw [show K * m * b = K * (b * m) by ac_rfl] at h1
    generalize K * (b * m) = z at *
    generalize n * b = y at *
    generalize a * m = x at *
    omega

theorem pow_low : 5 * 10 ^ 331 ≤ 4 * 2 ^ 1100 := by decide +kernel
theorem pow_high : 10 ^ 310 ≤ 2 ^ 1030 := by decide +kernel
theorem two_more (x k : Nat) : 2 ^ x ≤ 2 ^ (x + k) := Nat.pow_le_pow_right (by omega) (by omega)
theorem left_end' {X j n m a0 b0 T P E : Nat} {e : Int} (hTP : 5 * T ≤ 4 * P) (hP : ∀ k, P ≤ 2 ^ (E + k)) (hm : 0 < m) (hX : 4 * j ≤ X) (hX0 : 0 < X) (ha : 0 < a0) (h : App X j n m (numF e a0) (denF e b0)) (hn : n < m) (hb0 : 0 < b0) (hx : b0 ≤ a0 * T) : e < E := by
  rcases Int.lt_or_le e E with g | g
  · exact g
  · exfalso
    obtain ⟨k, rfl⟩ : ∃ k : Nat, e = ((E + k : Nat) : Int) := ⟨(e - E).toNat, by omega⟩
    have h2 := h.2
    have e1 : numF ((E + k : Nat) : Int) a0 = a0 * 2 ^ (E + k) := by unfold numF; rw [Int.toNat_natCast]
    have e2 : denF ((E + k : Nat) : Int) b0 = b0 := by unfold denF; rw [show (-((E + k : Nat) : Int)).toNat = 0 by omega, Nat.pow_zero, Nat.mul_one]
    rw [e1, e2] at h2
    have h8 : P * X ≤ 2 ^ (E + k) * X := Nat.mul_le_mul_right _ (hP k)
    generalize 2 ^ (E + k) = Q at *
    have h3 : n * b0 * (X + j) < m * b0 * (X + j) := Nat.mul_lt_mul_of_pos_right (Nat.mul_lt_mul_of_pos_right hn hb0) (by omega)
    have h4 : a0 * Q * m * X < m * b0 * (X + j) := Nat.lt_of_le_of_lt h2 h3
    have h5 : m * b0 * (X + j) ≤ m * (a0 * T) * (X + j) := Nat.mul_le_mul_right _ (Nat.mul_le_mul_left _ hx)
    have h6 : a0 * m * (Q * X) < a0 * m * (T * (X + j)) := by
      have l : a0 * Q * m * X = a0 * m * (Q * X) := by ac_rfl
      have r : m * (a0 * T) * (X + j) = a0 * m * (T * (X + j)) := by ac_rfl
      rw [← l, ← r]
      exact Nat.lt_of_lt_of_le h4 h5
    have h7 := Nat.lt_of_mul_lt_mul_left h6
    have h9 : 4 * (T * (X + j)) ≤ T * (5 * X) := by
      rw [← Nat.mul_assoc, Nat.mul_comm 4, Nat.mul_assoc]
      exact Nat.mul_le_mul_left _ (by omega)
    have h10 : 5 * T * X ≤ 4 * P * X := Nat.mul_le_mul_right _ hTP
    have e3 : T * (5 * X) = 5 * T * X := by ac_rfl
    have e4 : 4 * P * X = 4 * (P * X) := Nat.mul_assoc _ _ _
    rw [e3] at h9
    rw [e4] at h10
    generalize T * (X + j) = u at *
    generalize Q * X = v at *
    generalize P * X = y at *
    generalize 5 * T * X = z at *
    omega
/-- Below one, the shifts to the left add up to 1099 at most. -/
theorem left_end {X j n m a0 b0 : Nat} {e : Int} (hm : 0 < m) (hX : 4 * j ≤ X) (hX0 : 0 < X) (ha : 0 < a0) (h : App X j n m (numF e a0) (denF e b0)) (hn : n < m) (hb0 : 0 < b0) (hx : b0 ≤ a0 * 10 ^ 331) : e < ((1100 : Nat) : Int) :=
  left_end' pow_low (two_more 1100) hm hX hX0 ha h hn hb0 hx
theorem right_end' {X j n m a0 b0 T P E : Nat} {e : Int} (hTP : T ≤ P) (hP : ∀ k, P ≤ 2 ^ (E + k)) (hm : 0 < m) (hb0 : 0 < b0) (h : App X j n m (numF e a0) (denF e b0)) (hn : m ≤ n) (hx : a0 < T * b0) : denF e b0 ≤ numF e a0 ∧ -(E : Int) < e := by
  have h1 : denF e b0 ≤ numF e a0 := by
    have h2 : m * denF e b0 ≤ n * denF e b0 := Nat.mul_le_mul_right _ hn
    have h3 := Nat.le_trans h2 h.1
    rw [Nat.mul_comm (numF e a0)] at h3
    exact Nat.le_of_mul_le_mul_left h3 hm
  refine ⟨h1, ?_⟩
  rcases Int.lt_or_le (-(E : Int)) e with g | g
  · exact g
  · exfalso
    obtain ⟨k, hk⟩ : ∃ k : Nat, (-e).toNat = E + k := ⟨(-e).toNat - E, by omega⟩
    unfold denF numF at h1
    rw [hk, show e.toNat = 0 by omega, Nat.pow_zero, Nat.mul_one] at h1
    have h2 : b0 * P ≤ b0 * 2 ^ (E + k) := Nat.mul_le_mul_left _ (hP k)
    have h3 : b0 * T ≤ b0 * P := Nat.mul_le_mul_left _ hTP
    rw [Nat.mul_comm T] at hx
    exact absurd (Nat.lt_of_le_of_lt (Nat.le_trans h3 (Nat.le_trans h2 h1)) hx) (Nat.lt_irrefl _)
/-- From one on, the shifts to the right add up to 1029 at most. -/
theorem right_end {X j n m a0 b0 : Nat} {e : Int} (hm : 0 < m) (hb0 : 0 < b0) (h : App X j n m (numF e a0) (denF e b0)) (hn : m ≤ n) (hx : a0 < 10 ^ 310 * b0) : denF e b0 ≤ numF e a0 ∧ -((1030 : Nat) : Int) < e :=
  right_end' pow_high (two_more 1030) hm hb0 h hn hx

/-- How far floatBits shifts at a point. -/
def stepN (d : Nat) : Nat := if 9 ≤ d then 27 else [1, 3, 6, 9, 13, 16, 19, 23, 26].getD d 0
theorem stepN_le (d : Nat) : 1 ≤ stepN d ∧ stepN d ≤ 27 := by
  unfold stepN
  by_cases h : 9 ≤ d
  · rw [if_pos h]; omega
  · rw [if_neg h]
    have : ∀ i : Fin 9, 1 ≤ [1, 3, 6, 9, 13, 16, 19, 23, 26].getD i.val 0 ∧ [1, 3, 6, 9, 13, 16, 19, 23, 26].getD i.val 0 ≤ 27 := by decide
    exact this ⟨d, by omega⟩
theorem stepN_pow (d : Nat) (h : 0 < d) : 2 ^ stepN d ≤ 10 ^ d := by
  unfold stepN
  by_cases h9 : 9 ≤ d
  · rw [if_pos h9]
    exact Nat.le_trans (by decide : 2 ^ 27 ≤ 10 ^ 9) (Nat.pow_le_pow_right (by decide) h9)
  · rw [if_neg h9]
    have : ∀ i : Fin 9, 0 < i.val → 2 ^ [1, 3, 6, 9, 13, 16, 19, 23, 26].getD i.val 0 ≤ 10 ^ i.val := by decide
    exact this ⟨d, by omega⟩ h
/-- Behind a shift to the left in the second loop the point isn't above 0. -/
theorem left_point {l : List Nat} {dp : Int} (h : Fair l) (hp : dp < 0 ∨ (dp = 0 ∧ l.getD 0 0 < 5)) : ptS (val l * 2 ^ stepN (-dp).toNat) l dp ≤ 0 := by
  obtain ⟨hd, hl, hne, _⟩ := h
  unfold ptS
  rcases hp with hp | ⟨rfl, h5⟩
  · obtain ⟨c, hc⟩ : ∃ c : Nat, (-dp).toNat = c := ⟨_, rfl⟩
    have hv := val_lt l hd
    have hs := stepN_pow c (by omega)
    rw [hc]
    have h1 : val l * 2 ^ stepN c < 10 ^ (l.length + c) := by
      rw [Nat.pow_add]
      exact Nat.lt_of_lt_of_le (Nat.mul_lt_mul_of_pos_right hv (Nat.two_pow_pos _)) (Nat.mul_le_mul_left _ hs)
    have := digs_len (l.length + c) _ h1
    omega
  · cases l with
    | nil => exact absurd rfl hne
    | cons d t =>
      have h5' : d < 5 := h5
      have hvt := val_lt t (fun x hx => hd x (by simp [hx]))
      have h1 : val (d :: t) * 2 ^ stepN (-(0 : Int)).toNat < 10 ^ (d :: t).length := by
        rw [show stepN (-(0 : Int)).toNat = 1 from rfl, List.length_cons, Nat.pow_succ, val_cons]
        have := Nat.mul_le_mul_right (10 ^ t.length) (show d ≤ 4 by omega)
        omega
      have := digs_len (d :: t).length _ h1
      omega
end Go.Proofs.YtcjeeoadgoghfaaGreatDoor.Usc

namespace Go.Proofs.YtcjeeoadgoghfaaGreatDoor.Usc
set_option linter.unusedVariables false
open Go.Proofs.YtcjeeoadgoghfaaGreatDoor.Deci

theorem run_cmp {a0 b0 j D a b K : Nat} {lo hi e q : Int} {tr : Bool} (hb0 : 0 < b0) (hb : 0 < b) (h : Run a0 b0 lo hi j e D q tr) (hj : j ≤ 10 ^ 798)
    (hlo : e + 1 - 1100 ≤ lo) (hhi : hi ≤ e + 1 + 1100) (red : numF e a0 * b = a * denF e b0) (hK : K < 2 ^ 55) (hs : 2 * (j * 2 ^ 54 * b) ≤ 10 ^ 798)
    (hn : 2 * tenN D q < K * tenD q) : 2 * numF e a0 < K * denF e b0 := by
  have hd := denF_pos e hb0
  have I := h.inv hb0 hj
  have I2 : Inv (10 ^ 798) j D q tr a b := I.congr hd hb rfl (by rw [← red])
  have key : 2 * a < K * b := by
    refine App.half_cmp (Nat.pow_pos (by decide)) hb I2.1 (Nat.le_of_lt hK) hn hs (fun ex => ?_)
    refine I2.2.1 (h.half hb0 hK ?_ hlo hhi hj)
    apply Nat.eq_of_mul_eq_mul_right hb
    rw [Nat.mul_assoc, red, ← Nat.mul_assoc, ex]
    ac_rfl
  apply Nat.lt_of_mul_lt_mul_right (a := b)
  rw [Nat.mul_assoc, red, ← Nat.mul_assoc, show K * denF e b0 * b = K * b * denF e b0 by ac_rfl]
  exact Nat.mul_lt_mul_of_pos_right key hd

/-- The last exponent. -/
def lastF (e : Int) : Int := if e ≤ 1021 then e + 53 else 1074
theorem lastF_le (e : Int) : lastF e ≤ 1074 := by unfold lastF; split <;> omega
theorem last_lt {a0 b0 : Nat} {e : Int} (hb : 0 < b0) (h : numF e a0 < denF e b0) : numF (lastF e) a0 < 2 ^ 53 * denF (lastF e) b0 := by
  have he := denF_pos e hb
  have hf := denF_pos (lastF e) hb
  rcases Int.le_total e (lastF e) with g | g
  · have s := scale_up e (lastF e) g a0 b0
    have hle : (lastF e - e).toNat ≤ 53 := by unfold lastF; split <;> omega
    have hp : 2 ^ (lastF e - e).toNat ≤ 2 ^ 53 := Nat.pow_le_pow_right (by decide) hle
    apply Nat.lt_of_mul_lt_mul_right (a := denF e b0)
    rw [s, show 2 ^ 53 * denF (lastF e) b0 * denF e b0 = 2 ^ 53 * denF e b0 * denF (lastF e) b0 by ac_rfl]
    refine Nat.mul_lt_mul_of_pos_right ?_ hf
    refine Nat.lt_of_lt_of_le (Nat.mul_lt_mul_of_pos_left h (Nat.two_pow_pos _)) (Nat.mul_le_mul_right _ hp)
  · have s := scale_up (lastF e) e g a0 b0
    have h1 : numF e a0 * denF (lastF e) b0 < denF e b0 * denF (lastF e) b0 := Nat.mul_lt_mul_of_pos_right h hf
    rw [s] at h1
    have h2 : 1 * numF (lastF e) a0 ≤ 2 ^ (e - lastF e).toNat * numF (lastF e) a0 := Nat.mul_le_mul_right _ (Nat.two_pow_pos _)
    have h3 : numF (lastF e) a0 * denF e b0 < denF e b0 * denF (lastF e) b0 := Nat.lt_of_le_of_lt (Nat.mul_le_mul_right _ (by rw [Nat.one_mul] at h2; exact h2)) h1
    rw [Nat.mul_comm (denF e b0)] at h3
    have h4 := Nat.lt_of_mul_lt_mul_right h3
    have h5 : 1 * denF (lastF e) b0 ≤ 2 ^ 53 * denF (lastF e) b0 := Nat.mul_le_mul_right _ (by decide)
    rw [Nat.one_mul] at h5
    exact Nat.lt_of_lt_of_le h4 h5
theorem last_ge {a0 b0 : Nat} {e : Int} (hb : 0 < b0) (h : denF e b0 ≤ 2 * numF e a0) : lastF e = 1074 ∨ 2 ^ 52 * denF (lastF e) b0 ≤ numF (lastF e) a0 := by
  by_cases g : e ≤ 1021
  · right
    have he := denF_pos e hb
    have e1 : lastF e = e + 53 := if_pos g
    rw [e1]
    have s := scale_up e (e + 53) (by omega) a0 b0
    rw [show (e + 53 - e).toNat = 53 by omega] at s
    apply Nat.le_of_mul_le_mul_right (c := denF e b0) _ he
    rw [s, show 2 ^ 52 * denF (e + 53) b0 * denF e b0 = 2 ^ 52 * denF e b0 * denF (e + 53) b0 by ac_rfl, show (2 : Nat) ^ 53 = 2 ^ 52 * 2 by decide, Nat.mul_assoc (2 ^ 52) 2]
    exact Nat.mul_le_mul_right _ (Nat.mul_le_mul_left _ h)
  · left
    exact if_neg g

/-- How strconv puts the word together. -/
def bitsF (m : Nat) (f : Int) : Nat :=
  if f < -971 then 2047 * 2 ^ 52 else if m = 2 ^ 53 then (if f - 1 < -971 then 2047 * 2 ^ 52 else (1075 - (f - 1)).toNat * 2 ^ 52) else if m < 2 ^ 52 then m else (1075 - f).toNat * 2 ^ 52 + (m - 2 ^ 52)
theorem bitsF_fin {m : Nat} {f : Int} (h : f = 1074 ∨ 2 ^ 52 ≤ m) : bitsF m f = finF m f := by
  unfold bitsF finF packF
  by_cases h1 : f < -971
  · rw [if_pos h1]
    have hm : 2 ^ 52 ≤ m := by
      rcases h with h | h
      · omega
      · exact h
    by_cases h2 : m = 2 ^ 53
    · rw [if_pos h2, if_neg (Nat.lt_irrefl _), if_pos (by omega)]
    · rw [if_neg h2, if_neg (Nat.not_lt.2 hm), if_pos h1]
  · rw [if_neg h1]
    by_cases h2 : m = 2 ^ 53
    · rw [if_pos h2, if_pos h2, if_neg (Nat.lt_irrefl _), Nat.sub_self, Nat.add_zero]
    · rw [if_neg h2, if_neg h2, if_neg h1]

/-- The end: the decimal lies between a half and one at e; it is shifted to the last exponent and rounded. -/
theorem fb_right {a0 b0 j : Nat} {lo hi e dp : Int} {l : List Nat} {tr : Bool} {a b : Nat} (hb0 : 0 < b0) (hb : 0 < b)
    (hge : denF e b0 ≤ 2 * numF e a0) (hlt : numF e a0 < denF e b0)
    (h : Run a0 b0 lo hi j (lastF e) (val l) (dp - l.length) tr) (hg : Good l) (hj : j ≤ 10 ^ 798)
    (hlo : lastF e + 1 - 1100 ≤ lo) (hhi : hi ≤ lastF e + 1 + 1100) (red : numF (lastF e) a0 * b = a * denF (lastF e) b0) (hs : 2 * (j * 2 ^ 54 * b) ≤ 10 ^ 798) :
    NB a0 b0 (bitsF (rInt l dp tr) (lastF e)) ∧ rInt l dp tr ≤ 2 ^ 53 := by
  have hd := denF_pos (lastF e) hb0
  have hl := last_lt hb0 hlt
  have hT : numF (lastF e) a0 < 2 ^ 54 * denF (lastF e) b0 := Nat.lt_of_lt_of_le hl (Nat.mul_le_mul_right _ (by decide))
  have hr := run_round hb0 hb h hj hlo hhi red hT hs
  rw [rInt_round l dp tr hg.1 hg.2.2.1, hr]
  have h3 := last_ge hb0 hge
  refine ⟨⟨lastF e, lastF_le e, hl, h3, ?_⟩, rnd_lt hd hl⟩
  refine bitsF_fin ?_
  rcases h3 with h3 | h3
  · exact .inl h3
  · exact .inr (rnd_ge hd h3)
end Go.Proofs.YtcjeeoadgoghfaaGreatDoor.Usc

namespace Go.Proofs.YtcjeeoadgoghfaaGreatDoor.Usc
set_option linter.unusedVariables false
open Go.Proofs.YtcjeeoadgoghfaaGreatDoor.Deci

theorem five_pow : 5 ^ 1030 ≤ 10 ^ 721 := by decide +kernel
theorem two_pow_b : 2 ^ 1100 ≤ 10 ^ 721 := by decide +kernel
theorem ten_700 : 2 * 10 ^ 700 ≤ 10 ^ 721 := by decide +kernel
theorem ten_798 : 2 * (10 ^ 10 * 2 ^ 54 * 10 ^ 721) ≤ 10 ^ 798 := by decide +kernel
theorem room {j b : Nat} (hj : j ≤ 10 ^ 10) (hb : b ≤ 10 ^ 721) : 2 * (j * 2 ^ 54 * b) ≤ 10 ^ 798 :=
  Nat.le_trans (Nat.mul_le_mul_left _ (Nat.mul_le_mul (Nat.mul_le_mul_right _ hj) hb)) ten_798
theorem dbl_le {x T : Nat} (h : x < T) : 2 * x ≤ 2 * T := Nat.mul_le_mul_left _ (Nat.le_of_lt h)
theorem pow_mono (x a b : Nat) (hx : 0 < x) (h : a ≤ b) : x ^ a ≤ x ^ b := Nat.pow_le_pow_right hx h

/-- A reduced form of the value at e, with a small denominator; and at each greater exponent. -/
theorem red_at {D0 : Nat} {q0 e : Int} (hD : D0 < 10 ^ 700) (hq : -1030 ≤ q0) (he : -1100 ≤ e) (hge : denF e (tenD q0) ≤ 2 * numF e (tenN D0 q0)) (f : Int) (hf : e ≤ f ∨ 1030 ≤ f) :
    ∃ a b, 0 < b ∧ b ≤ 10 ^ 721 ∧ numF f (tenN D0 q0) * b = a * denF f (tenD q0) := by
  rcases Int.lt_or_le 0 q0 with h | h
  · refine ⟨numF f (tenN D0 q0), denF f (tenD q0), denF_pos f (tenD_pos q0), ?_, rfl⟩
    unfold denF tenD
    rw [show (-q0).toNat = 0 by omega, Nat.pow_zero, Nat.one_mul]
    exact Nat.le_trans (pow_mono 2 _ 1100 (by decide) (by omega)) two_pow_b
  · refine ⟨D0 * 2 ^ (f + q0).toNat, 5 ^ (-q0).toNat * 2 ^ (-q0 - f).toNat, Nat.mul_pos (Nat.pow_pos (by decide)) (Nat.two_pow_pos _), ?_, red_ten D0 q0 f h⟩
    obtain ⟨n, hn⟩ : ∃ n : Nat, (-q0).toNat = n := ⟨_, rfl⟩
    have hn2 : n ≤ 1030 := by omega
    have h5 : 5 ^ n ≤ 10 ^ 721 := Nat.le_trans (pow_mono 5 n 1030 (by decide) hn2) five_pow
    rw [hn]
    by_cases hz : (-q0 - f).toNat = 0
    · rw [hz, Nat.pow_zero, Nat.mul_one]
      exact h5
    · have hef : e ≤ f := by omega
      have hle : (-q0 - f).toNat ≤ (-q0 - e).toNat := by omega
      refine Nat.le_trans (Nat.mul_le_mul_left _ (pow_mono 2 _ _ (by decide) hle)) ?_
      -- at e
      have key : 5 ^ n * 2 ^ (-q0 - e).toNat ≤ 2 * D0 := by
        unfold denF numF tenD tenN at hge
        rw [hn, show q0.toNat = 0 by omega, Nat.pow_zero, Nat.mul_one] at hge
        have t : (10 : Nat) ^ n = 5 ^ n * 2 ^ n := by rw [← Nat.mul_pow]
        rw [t] at hge
        rcases Int.lt_or_le e 0 with g | g
        · rw [show e.toNat = 0 by omega, Nat.pow_zero, Nat.mul_one, Nat.mul_assoc, ← Nat.pow_add, show n + (-e).toNat = (-q0 - e).toNat by omega] at hge
          exact hge
        · rw [show (-e).toNat = 0 by omega, Nat.pow_zero, Nat.mul_one] at hge
          apply Nat.le_of_mul_le_mul_right (c := 2 ^ e.toNat) _ (Nat.two_pow_pos _)
          rw [Nat.mul_assoc, ← Nat.pow_add, show (-q0 - e).toNat + e.toNat = n by omega, Nat.mul_assoc]
          exact hge
      have kd := dbl_le hD
      exact Nat.le_trans key (Nat.le_trans kd ten_700)

/-- Behind the loops: the value lies between a half and one, as the decimal does. -/
theorem fb_half {D0 j : Nat} {q0 lo hi e : Int} {l : List Nat} {tr : Bool} (hD : D0 < 10 ^ 700) (hq : -1030 ≤ q0) (he : -1100 ≤ e)
    (h : Run (tenN D0 q0) (tenD q0) lo hi j e (val l) (0 - l.length) tr) (hg : Fair l) (h5 : 5 ≤ l.getD 0 0) (hj : j ≤ 10 ^ 10) (hlo : e + 1 - 1100 ≤ lo) (hhi : hi ≤ e + 1 + 1100) :
    denF e (tenD q0) ≤ 2 * numF e (tenN D0 q0) ∧ numF e (tenN D0 q0) < denF e (tenD q0) := by
  have hb0 := tenD_pos q0
  have hj2 : j ≤ 10 ^ 798 := Nat.le_trans hj (pow_mono 10 10 798 (by decide) (by decide))
  have I := h.inv hb0 hj2
  have hm := tenD_pos (0 - (l.length : Int))
  have h1 : denF e (tenD q0) ≤ 2 * numF e (tenN D0 q0) := by
    have g := dig_ge hg h5
    have g2 := I.1.1
    apply Nat.le_of_mul_le_mul_right (c := tenD (0 - (l.length : Int))) _ hm
    have g3 : denF e (tenD q0) * tenD (0 - (l.length : Int)) ≤ denF e (tenD q0) * (2 * tenN (val l) (0 - (l.length : Int))) := Nat.mul_le_mul_left _ g
    refine Nat.le_trans g3 ?_
    rw [show denF e (tenD q0) * (2 * tenN (val l) (0 - (l.length : Int))) = 2 * (tenN (val l) (0 - (l.length : Int)) * denF e (tenD q0)) by ac_rfl, Nat.mul_assoc]
    exact Nat.mul_le_mul_left _ g2
  refine ⟨h1, ?_⟩
  obtain ⟨a, b, hb, hb2, red⟩ := red_at hD hq he h1 e (Or.inl (Int.le_refl _))
  have hn : 2 * tenN (val l) (0 - (l.length : Int)) < 2 * tenD (0 - (l.length : Int)) := Nat.mul_lt_mul_of_pos_left (point_lt hg (Int.le_refl _)) (by decide)
  have c := run_cmp hb0 hb h hj2 hlo hhi red (K := 2) (by decide) (room hj hb2) hn
  exact Nat.lt_of_mul_lt_mul_left c
/-- The whole: behind the last shift. -/
theorem fb_all {D0 j j' : Nat} {q0 lo hi lo' hi' e dp : Int} {l l' : List Nat} {tr tr' : Bool} (hD : D0 < 10 ^ 700) (hq : -1030 ≤ q0) (he : -1100 ≤ e)
    (h : Run (tenN D0 q0) (tenD q0) lo hi j e (val l) (0 - l.length) tr) (hg : Fair l) (h5 : 5 ≤ l.getD 0 0) (hj : j ≤ 10 ^ 10) (hlo : e + 1 - 1100 ≤ lo) (hhi : hi ≤ e + 1 + 1100)
    (h' : Run (tenN D0 q0) (tenD q0) lo' hi' j' (lastF e) (val l') (dp - l'.length) tr') (hg' : Good l') (hj' : j' ≤ 10 ^ 10) (hlo' : lastF e + 1 - 1100 ≤ lo') (hhi' : hi' ≤ lastF e + 1 + 1100) :
    NB (tenN D0 q0) (tenD q0) (bitsF (rInt l' dp tr') (lastF e)) ∧ rInt l' dp tr' ≤ 2 ^ 53 := by
  obtain ⟨g1, g2⟩ := fb_half hD hq he h hg h5 hj hlo hhi
  have hb0 := tenD_pos q0
  obtain ⟨a, b, hb, hb2, red⟩ := red_at hD hq he g1 (lastF e) (by unfold lastF; split <;> omega)
  exact fb_right hb0 hb g1 g2 h' hg' (Nat.le_trans hj' (pow_mono 10 10 798 (by decide) (by decide))) hlo' hhi' red (room hj' hb2)
end Go.Proofs.YtcjeeoadgoghfaaGreatDoor.Usc

namespace Go.Proofs.YtcjeeoadgoghfaaGreatDoor.Usc
set_option linter.unusedVariables false
open Ieee

theorem pow_grow (a : Nat) : a < 2 ^ a := Nat.lt_two_pow_self
/-- There is one. -/
theorem NB_ex (a b : Nat) (hb : 0 < b) : ∃ x, NB a b x := by
  have step : ∀ n : Nat, (numF (1074 - n) a < 2 ^ 53 * denF (1074 - n) b) → ∃ f : Int, f ≤ 1074 ∧ numF f a < 2 ^ 53 * denF f b ∧ (f = 1074 ∨ 2 ^ 52 * denF f b ≤ numF f a) := by
    intro n
    induction n with
    | zero => intro h; exact ⟨1074, Int.le_refl _, h, .inl rfl⟩
    | succ n ih =>
      intro h
      by_cases h2 : numF (1074 - n) a < 2 ^ 53 * denF (1074 - n) b
      · exact ih h2
      · refine ⟨1074 - ((n + 1 : Nat) : Int), by omega, h, .inr ?_⟩
        have up := scale_up (1074 - ((n + 1 : Nat) : Int)) (1074 - n) (by omega) a b
        rw [show (1074 - (n : Int) - (1074 - ((n + 1 : Nat) : Int))).toNat = 1 by omega, Nat.pow_one] at up
        have p1 := denF_pos (1074 - n) hb
        have h3 : 2 ^ 53 * denF (1074 - n) b ≤ numF (1074 - n) a := by omega
        generalize numF (1074 - ((n + 1 : Nat) : Int)) a = A' at *
        generalize denF (1074 - ((n + 1 : Nat) : Int)) b = B' at *
        generalize numF (1074 - n) a = A at *
        generalize denF (1074 - n) b = B at *
        have h4 := Nat.mul_le_mul_right B' h3
        rw [up] at h4
        apply Nat.le_of_mul_le_mul_right (c := B) _ p1
        have e : 2 ^ 53 * B * B' = 2 * (2 ^ 52 * B' * B) := by
          rw [show (2 : Nat) ^ 53 = 2 * 2 ^ 52 by decide]; ac_rfl
        rw [e, Nat.mul_assoc 2 A' B] at h4
        exact Nat.le_of_mul_le_mul_left h4 (by decide)
  obtain ⟨f, h⟩ := step (1074 + a) (by
    unfold numF denF
    rw [show (1074 - ((1074 + a : Nat) : Int)).toNat = 0 by omega, show (-(1074 - ((1074 + a : Nat) : Int))).toNat = a by omega]
    have g := pow_grow a
    have g2 : 1 * (1 * 2 ^ a) ≤ 2 ^ 53 * (b * 2 ^ a) := Nat.mul_le_mul (by decide) (Nat.mul_le_mul_right _ hb)
    omega)
  exact ⟨_, f, h.1, h.2.1, h.2.2, rfl⟩
theorem NB_congr {a b c d x : Nat} (hb : 0 < b) (hd : 0 < d) (h : a * d = c * b) (hx : NB a b x) : NB c d x := by
  obtain ⟨y, hy⟩ := NB_ex c d hd
  have h1 := NB_mono hb hd (Nat.le_of_eq h) hx hy
  have h2 := NB_mono hd hb (Nat.le_of_eq h.symm) hy hx
  rw [show x = y by omega]
  exact hy
/-- What lies between two of one word has that word. -/
theorem NB_squeeze {a b c d p q x : Nat} (hb : 0 < b) (hd : 0 < d) (hq : 0 < q) (h1 : a * q ≤ p * b) (h2 : p * d ≤ c * q) (hx : NB a b x) (hy : NB c d x) : NB p q x := by
  obtain ⟨y, hz⟩ := NB_ex p q hq
  have g1 := NB_mono hb hq h1 hx hz
  have g2 := NB_mono hq hd h2 hz hy
  rw [show x = y by omega]
  exact hz

theorem cut_rnd (neg : Bool) (n k : Nat) : Toward.even.cut neg n k = rnd n (2 ^ k) := by
  have form : ∀ gap : Nat, 0 < gap → n / gap + (decide (gap < 2 * (n % gap)) || (gap == 2 * (n % gap) && n / gap % 2 == 1)).toNat = rnd n gap := by
    intro g hg
    unfold rnd
    generalize n / g = q
    generalize n % g = r
    by_cases h1 : 2 * r < g
    · rw [if_pos h1, decide_eq_false (by omega), beq_false_of_ne (by omega)]
      rfl
    · rw [if_neg h1]
      by_cases h2 : g < 2 * r
      · rw [if_pos h2, decide_eq_true h2]
        rfl
      · have h3 : g = 2 * r := by omega
        rw [if_neg h2, decide_eq_false h2, h3, beq_self_eq_true]
        rcases Nat.mod_two_eq_zero_or_one q with h | h <;> rw [h] <;> rfl
  have h0 := form (1 <<< min k (n.log2 + 2)) (by rw [Nat.one_shiftLeft]; exact Nat.pow_pos (by omega))
  have e : Toward.even.cut neg n k = rnd n (1 <<< min k (n.log2 + 2)) := by
    rw [← h0]
    rfl
  rw [e, Nat.one_shiftLeft]
  by_cases hk : k ≤ n.log2 + 2
  · rw [Nat.min_eq_left hk]
  · rw [Nat.min_eq_right (by omega)]
    have hn : n < 2 ^ (n.log2 + 1) := Nat.lt_log2_self
    have small : ∀ j, n.log2 + 2 ≤ j → rnd n (2 ^ j) = 0 := by
      intro j hj
      have hp : 2 ^ (n.log2 + 2) ≤ 2 ^ j := Nat.pow_le_pow_right (by omega) hj
      rw [Nat.pow_succ] at hp
      exact rnd_uniq (Nat.pow_pos (by omega)) (by omega) (by omega) (fun _ => rfl) (fun _ => rfl)
    rw [small _ (Nat.le_refl _), small _ (by omega)]

theorem word_fin (kept : Nat) (f : Int) (hf : f ≤ 1074) (hk : kept ≤ 2 ^ 53) (h : f = 1074 ∨ 2 ^ 52 ≤ kept) :
    min ((-f + 1074).toNat * 2 ^ 52 + kept) (2047 * 2 ^ 52) = finF kept f := by
  unfold finF packF
  have e53 : (2 : Nat) ^ 53 = 2 * 2 ^ 52 := by decide
  have hX0 : 0 < (2 : Nat) ^ 52 := by decide
  rw [e53] at hk ⊢
  clear e53
  generalize (2 : Nat) ^ 52 = X at *
  obtain ⟨k, hkk⟩ : ∃ k, (-f + 1074).toNat = k := ⟨_, rfl⟩
  rw [hkk]
  have big : 2045 < k → 2046 * X ≤ k * X := fun g => Nat.mul_le_mul_right _ g
  have small : k ≤ 2045 → k * X ≤ 2045 * X := fun g => Nat.mul_le_mul_right _ g
  by_cases h1 : kept = 2 * X
  · rw [if_pos h1, if_neg (Nat.lt_irrefl _), h1]
    by_cases h2 : f - 1 < -971
    · rw [if_pos h2]
      have h3 : 2045 * X ≤ k * X := Nat.mul_le_mul_right _ (by omega)
      exact Nat.min_eq_right (by omega)
    · rw [if_neg h2, show (1075 - (f - 1)).toNat = k + 2 by omega, Nat.add_mul, Nat.sub_self, Nat.add_zero]
      have h3 := small (by omega)
      exact Nat.min_eq_left (by omega)
  · rw [if_neg h1]
    by_cases h2 : kept < X
    · rw [if_pos h2, show k = 0 by omega, Nat.zero_mul, Nat.zero_add]
      exact Nat.min_eq_left (by omega)
    · rw [if_neg h2]
      by_cases h3 : f < -971
      · rw [if_pos h3]
        have h4 := big (by omega)
        exact Nat.min_eq_right (by omega)
      · rw [if_neg h3, show (1075 - f).toNat = k + 1 by omega, Nat.add_mul, Nat.one_mul]
        have h4 := small (by omega)
        rw [Nat.min_eq_left (by omega)]
        omega

theorem d_least : Format.leastPlace double = -1074 := by decide
theorem d_binade : Format.binade double = 2 ^ 52 := rfl
theorem d_infRung : Format.infRung double = 2047 * 2 ^ 52 := by decide
theorem d_fraction : Format.fractionBits double = 52 := rfl
theorem d_word (r : Nat) : double.word false r = r := if_neg (by decide)

/-- The model's nearest word is the nearest float's. -/
theorem nearest_NB (mag : Nat) (place : Int) (hm : 0 < mag) : NB (mag * 2 ^ place.toNat) (2 ^ (-place).toNat) (double.nearest false mag place) := by
  obtain ⟨f, hf⟩ : ∃ f : Int, -(max (place + (mag.log2 : Int) - ((52 : Nat) : Int)) (-1074)) = f := ⟨_, rfl⟩
  have hb : 0 < 2 ^ (-place).toNat := Nat.pow_pos (by omega)
  have l1 : mag < 2 ^ (mag.log2 + 1) := Nat.lt_log2_self
  have l0 : 2 ^ mag.log2 ≤ mag := Nat.log2_self_le (by omega)
  have up : numF f (mag * 2 ^ place.toNat) < 2 ^ 53 * denF f (2 ^ (-place).toNat) := by
    unfold numF denF
    rw [Nat.mul_assoc, ← Nat.pow_add, ← Nat.pow_add, ← Nat.pow_add]
    refine Nat.lt_of_lt_of_le (Nat.mul_lt_mul_of_pos_right l1 (Nat.pow_pos (by omega))) ?_
    rw [← Nat.pow_add]
    exact Nat.pow_le_pow_right (by omega) (by omega)
  have low : f = 1074 ∨ 2 ^ 52 * denF f (2 ^ (-place).toNat) ≤ numF f (mag * 2 ^ place.toNat) := by
    by_cases h : f = 1074
    · exact .inl h
    · right
      unfold numF denF
      rw [Nat.mul_assoc, ← Nat.pow_add, ← Nat.pow_add, ← Nat.pow_add]
      refine Nat.le_trans ?_ (Nat.mul_le_mul_right _ l0)
      rw [← Nat.pow_add]
      exact Nat.pow_le_pow_right (by omega) (by omega)
  have hdn := denF_pos f hb
  refine ⟨f, by omega, up, low, ?_⟩
  have e : double.nearest false mag place = min ((-f + 1074).toNat * 2 ^ 52 + rnd (numF f (mag * 2 ^ place.toNat)) (denF f (2 ^ (-place).toNat))) (2047 * 2 ^ 52) := by
    unfold Format.nearest
    rw [if_neg (by omega), d_fraction, d_least, d_binade, d_infRung, d_word]
    rw [show max (place + (mag.log2 : Int) - ((52 : Nat) : Int)) (-1074) = -f by omega, cut_rnd, Nat.shiftLeft_eq]
    rw [show -f - -1074 = -f + 1074 by omega]
    congr 2
    apply rnd_eq (Nat.pow_pos (by omega)) hdn
    unfold numF denF
    rw [Nat.mul_assoc, Nat.mul_assoc, Nat.mul_assoc, ← Nat.pow_add, ← Nat.pow_add, ← Nat.pow_add, ← Nat.pow_add]
    congr 2
    omega
  rw [e]
  apply word_fin
  · omega
  · exact rnd_lt hdn up
  · rcases low with h | h
    · exact .inl h
    · exact .inr (rnd_ge hdn h)
end Go.Proofs.YtcjeeoadgoghfaaGreatDoor.Usc

namespace Go.Proofs.YtcjeeoadgoghfaaGreatDoor.Usc
set_option linter.unusedVariables false
open Ieee

theorem mul_near (x y m n : Nat) (i j : Int) (hx : double.read x = .number false m i) (hy : double.read y = .number false n j) (hm : 0 < m) (hn : 0 < n) :
    ∃ w, double.mul x y = some w ∧ NB (m * n * 2 ^ (i + j).toNat) (2 ^ (-(i + j)).toNat) w := by
  refine ⟨double.nearest false (m * n) (i + j), ?_, nearest_NB (m * n) (i + j) (Nat.mul_pos hm hn)⟩
  unfold Format.mul
  rw [hx, hy]
  rfl

/-- One digit more that says whether anything is left over is enough. -/
theorem rnd_sticky (mm n T : Nat) (hn : 0 < n) (hT : 0 < T) : rnd (2 * (mm / n) + (mm % n != 0).toNat) (2 * (2 * T)) = rnd mm (n * (2 * T)) := by
  have e := Nat.div_add_mod mm n
  have r := Nat.mod_lt mm hn
  generalize hQ : mm / n = Q at *
  generalize hR : mm % n = R at *
  symm
  obtain ⟨s1, s2, s3, s4⟩ := rnd_spec (2 * Q + (R != 0).toNat) (2 * (2 * T)) (by omega)
  obtain ⟨k, hk⟩ : ∃ k, rnd (2 * Q + (R != 0).toNat) (2 * (2 * T)) = k := ⟨_, rfl⟩
  rw [hk] at s1 s2 s3 s4 ⊢
  have ek : k * (2 * (2 * T)) = 4 * (k * T) := by ac_rfl
  rw [ek] at s1 s2 s3 s4
  have g1 : k * (n * (2 * T)) = 2 * (k * T * n) := by ac_rfl
  have g2 : n * (2 * T) = 2 * (T * n) := by ac_rfl
  have g3 : n * Q = Q * n := Nat.mul_comm _ _
  rw [g3] at e
  have hpos : 0 < n * (2 * T) := Nat.mul_pos hn (by omega)
  -- sums of products with n
  have up : ∀ a b : Nat, a ≤ b → a * n ≤ b * n := fun a b h => Nat.mul_le_mul_right n h
  rcases Nat.eq_zero_or_pos R with h0 | h0
  · have hs : (R != 0).toNat = 0 := by rw [h0]; rfl
    rw [hs] at s1 s2 s3 s4
    have a1 := up (2 * (k * T)) (Q + T) (by omega)
    have a2 := up Q (2 * (k * T) + T) (by omega)
    simp only [Nat.add_mul, Nat.mul_assoc] at a1 a2
    have c1 : ∀ a b : Nat, a * n = b * n → a = b := fun a b h => Nat.eq_of_mul_eq_mul_right hn h
    refine rnd_uniq hpos ?_ ?_ ?_ ?_
    · rw [g1, g2]; simp only [Nat.mul_assoc]; omega
    · rw [g1, g2]; simp only [Nat.mul_assoc]; omega
    · rw [g1, g2]
      intro h
      apply s3
      have := c1 Q (2 * (k * T) + T) (by simp only [Nat.add_mul, Nat.mul_assoc]; simp only [Nat.mul_assoc] at h; omega)
      omega
    · rw [g1, g2]
      intro h
      apply s4
      have := c1 (2 * (k * T)) (Q + T) (by simp only [Nat.add_mul, Nat.mul_assoc]; simp only [Nat.mul_assoc] at h; omega)
      omega
  · have hs : (R != 0).toNat = 1 := by
      have : (R != 0) = true := by simp; omega
      rw [this]; rfl
    rw [hs] at s1 s2 s3 s4
    have a1 := up (2 * (k * T)) (Q + T) (by omega)
    have a2 := up (Q + 1) (2 * (k * T) + T) (by omega)
    simp only [Nat.add_mul, Nat.mul_assoc, Nat.one_mul] at a1 a2
    refine rnd_uniq hpos ?_ ?_ ?_ ?_
    · rw [g1, g2]; simp only [Nat.mul_assoc]; omega
    · rw [g1, g2]; simp only [Nat.mul_assoc]; omega
    · rw [g1, g2]
      intro h
      simp only [Nat.mul_assoc] at h
      omega
    · rw [g1, g2]
      intro h
      simp only [Nat.mul_assoc] at h
      omega

theorem lt_ratio {A B C D k : Nat} (hB : 0 < B) (hD : 0 < D) (h : A * D = C * B) : A < k * B ↔ C < k * D := by
  constructor
  · intro g
    have := Nat.mul_lt_mul_of_pos_right g hD
    rw [h] at this
    apply Nat.lt_of_mul_lt_mul_right (a := B)
    rw [show k * D * B = k * B * D by ac_rfl]
    exact this
  · intro g
    have := Nat.mul_lt_mul_of_pos_right g hB
    rw [← h] at this
    apply Nat.lt_of_mul_lt_mul_right (a := D)
    rw [show k * B * D = k * D * B by ac_rfl]
    exact this
theorem ge_ratio {A B C D k : Nat} (hB : 0 < B) (hD : 0 < D) (h : A * D = C * B) : k * B ≤ A ↔ k * D ≤ C := by
  have := lt_ratio (k := k) hB hD h
  omega

theorem div_near (x y m n : Nat) (i j : Int) (hx : double.read x = .number false m i) (hy : double.read y = .number false n j) (hm : 0 < m) (hn : 0 < n) :
    ∃ w, double.div x y = some w ∧ NB (m * 2 ^ (i - j).toNat) (n * 2 ^ (-(i - j)).toNat) w := by
  obtain ⟨more, hmore⟩ : ∃ more, 52 + 2 + n.log2 - m.log2 = more := ⟨_, rfl⟩
  obtain ⟨q, hq⟩ : ∃ q, 2 * (m * 2 ^ more / n) + (m * 2 ^ more % n != 0).toNat = q := ⟨_, rfl⟩
  have hn1 : n < 2 ^ (n.log2 + 1) := Nat.lt_log2_self
  have hm0 : 2 ^ m.log2 ≤ m := Nat.log2_self_le (by omega)
  -- the quotient is long
  have hQ : 2 ^ 53 ≤ m * 2 ^ more / n := by
    rw [Nat.le_div_iff_mul_le hn]
    have h1 : 2 ^ 53 * n ≤ 2 ^ 53 * 2 ^ (n.log2 + 1) := Nat.mul_le_mul_left _ (Nat.le_of_lt hn1)
    have h2 : 2 ^ m.log2 * 2 ^ more ≤ m * 2 ^ more := Nat.mul_le_mul_right _ hm0
    rw [← Nat.pow_add] at h1 h2
    refine Nat.le_trans h1 (Nat.le_trans ?_ h2)
    exact Nat.pow_le_pow_right (by omega) (by omega)
  have hq54 : 2 ^ 54 ≤ q := by
    have e : (2 : Nat) ^ 54 = 2 * 2 ^ 53 := by decide
    rw [e, ← hq]
    generalize (2 : Nat) ^ 53 = Y at *
    omega
  have hq0 : 0 < q := Nat.lt_of_lt_of_le (by decide) hq54
  refine ⟨double.nearest false q (i - j - more - 1), ?_, ?_⟩
  · unfold Format.div
    rw [hx, hy]
    show (if n = 0 then _ else _ : Option Datum).map double.write = _
    rw [if_neg (by omega)]
    rw [← hq, ← hmore, ← Nat.shiftLeft_eq]
    rfl
  · obtain ⟨f, f1, f2, f3, f4⟩ := nearest_NB q (i - j - more - 1) hq0
    rw [f4]
    obtain ⟨p, hp⟩ : ∃ p : Int, i - j - (more : Int) - 1 = p := ⟨_, rfl⟩
    rw [hp] at f2 f3 ⊢
    have hb : 0 < 2 ^ (-p).toNat := Nat.pow_pos (by omega)
    have hdn := denF_pos f hb
    have hB2 : 0 < n * 2 ^ (-(i - j)).toNat := Nat.mul_pos hn (Nat.pow_pos (by omega))
    have hdn2 := denF_pos f hB2
    have ht : p + f ≤ -2 := by
      rcases Int.lt_or_le (-2) (p + f) with h | h
      · exfalso
        unfold numF denF at f2
        rw [Nat.mul_assoc, ← Nat.pow_add, ← Nat.pow_add, ← Nat.pow_add] at f2
        have h1 : 2 ^ 54 * 2 ^ (p.toNat + f.toNat) ≤ q * 2 ^ (p.toNat + f.toNat) := Nat.mul_le_mul_right _ hq54
        rw [← Nat.pow_add] at h1
        have h2 := Nat.lt_of_le_of_lt h1 f2
        have h3 := (Nat.pow_lt_pow_iff_right (by omega : 1 < 2)).1 h2
        omega
      · exact h
    obtain ⟨t, htt⟩ : ∃ t : Nat, (-(p + f)).toNat = t + 2 := ⟨(-(p + f)).toNat - 2, by omega⟩
    have hT : 0 < 2 ^ t := Nat.pow_pos (by omega)
    have r1 : numF f (q * 2 ^ p.toNat) * (2 * (2 * 2 ^ t)) = q * denF f (2 ^ (-p).toNat) := by
      have e : 2 * (2 * 2 ^ t) = 2 ^ (t + 2) := by rw [Nat.pow_add, Nat.mul_comm (2 ^ t)]; rw [← Nat.mul_assoc]
      rw [e]
      unfold numF denF
      rw [Nat.mul_assoc, Nat.mul_assoc, ← Nat.pow_add, ← Nat.pow_add, ← Nat.pow_add]
      congr 2
      omega
    have r2 : numF f (m * 2 ^ (i - j).toNat) * (n * (2 * 2 ^ t)) = m * 2 ^ more * denF f (n * 2 ^ (-(i - j)).toNat) := by
      have e : 2 * 2 ^ t = 2 ^ (t + 1) := by rw [Nat.pow_add, Nat.mul_comm (2 ^ t)]
      rw [e]
      unfold numF denF
      have e1 : 2 ^ (i - j).toNat * 2 ^ f.toNat * 2 ^ (t + 1) = 2 ^ more * 2 ^ (-(i - j)).toNat * 2 ^ (-f).toNat := by
        rw [← Nat.pow_add, ← Nat.pow_add, ← Nat.pow_add, ← Nat.pow_add]
        congr 1
        omega
      generalize 2 ^ (i - j).toNat = a1 at *
      generalize 2 ^ f.toNat = a2 at *
      generalize 2 ^ (t + 1) = a3 at *
      generalize 2 ^ more = a4 at *
      generalize 2 ^ (-(i - j)).toNat = a5 at *
      generalize 2 ^ (-f).toNat = a6 at *
      have u1 : m * a1 * a2 * (n * a3) = m * n * (a1 * a2 * a3) := by ac_rfl
      have u2 : m * a4 * (n * a5 * a6) = m * n * (a4 * a5 * a6) := by ac_rfl
      rw [u1, u2, e1]
    have hT4 : 0 < 2 * (2 * 2 ^ t) := by omega
    have hnT : 0 < n * (2 * 2 ^ t) := Nat.mul_pos hn (by omega)
    have st := rnd_sticky (m * 2 ^ more) n (2 ^ t) hn hT
    rw [hq] at st
    have same : rnd (numF f (q * 2 ^ p.toNat)) (denF f (2 ^ (-p).toNat)) = rnd (numF f (m * 2 ^ (i - j).toNat)) (denF f (n * 2 ^ (-(i - j)).toNat)) := by
      rw [rnd_eq hdn hT4 r1, st, ← rnd_eq hdn2 hnT r2]
    have q53 : ∀ k : Nat, q < 2 * k ↔ m * 2 ^ more < k * n := by
      intro k
      rw [← Nat.div_lt_iff_lt_mul hn, ← hq]
      cases (m * 2 ^ more % n != 0) <;> simp only [Bool.toNat_false, Bool.toNat_true] <;> omega
    refine ⟨f, f1, ?_, ?_, by rw [same]⟩
    · rw [lt_ratio hdn2 hnT r2]
      have := (lt_ratio hdn hT4 r1).1 f2
      have e : 2 ^ 53 * (2 * (2 * 2 ^ t)) = 2 * (2 ^ 53 * (2 * 2 ^ t)) := by ac_rfl
      rw [e, q53] at this
      rw [show 2 ^ 53 * (n * (2 * 2 ^ t)) = 2 ^ 53 * (2 * 2 ^ t) * n by ac_rfl]
      exact this
    · rcases f3 with h | h
      · exact .inl h
      · right
        rw [ge_ratio hdn2 hnT r2]
        have := (ge_ratio hdn hT4 r1).1 h
        have e : 2 ^ 52 * (2 * (2 * 2 ^ t)) = 2 * (2 ^ 52 * (2 * 2 ^ t)) := by ac_rfl
        rw [e] at this
        have g := q53 (2 ^ 52 * (2 * 2 ^ t))
        rw [show 2 ^ 52 * (n * (2 * 2 ^ t)) = 2 ^ 52 * (2 * 2 ^ t) * n by ac_rfl]
        omega
end Go.Proofs.YtcjeeoadgoghfaaGreatDoor.Usc

namespace Go.Proofs.YtcjeeoadgoghfaaGreatDoor.Usc
set_option linter.unusedVariables false

/-- The exponent of two by which 10 ^ p is scaled, p = i - 348. -/
def lpOf (p : Int) : Int := p * 108853 / 32768
def e2Of (p : Int) : Int := 127 - lpOf p + p
/-- 10 ^ p, scaled, as a fraction. -/
def numP (i : Nat) : Nat := 5 ^ (i - 348) * 2 ^ (e2Of ((i : Int) - 348)).toNat
def denP (i : Nat) : Nat := 5 ^ (348 - i) * 2 ^ (-(e2Of ((i : Int) - 348))).toNat
/-- Is the vector (x1, k1) good for the fraction? -/
def goodV (N D x1 k1 : Nat) : Bool :=
  let W := 2 ^ 64 * D
  let B := 2 ^ 64 * W * 2 ^ 8
  let up := x1 * N
  let dn := k1 * B
  let z := if dn ≤ up then up - dn else dn - up
  let t := (2 ^ 63 + x1 - 1) / x1
  decide (0 < x1) && decide (2 ^ 64 * z + x1 * (2 * W) ≤ B) && (Nat.gcd x1 k1 == 1) && (z == 0 || decide (2 ^ 64 ≤ x1) || (decide (up < dn) && decide (2 * W ≤ t * z)) || (decide (dn < up) && decide (W < t * z)))
def vecs : List (Nat × Nat) := [
  (4943020887555831205,18898505783596806), (3954416710044664964,9449252891798403), (14081626789031790351,42060834256381894), (14776042809490538153,55168757921782428),
  (9976691318428319375,23280999321973471), (7981353054742655500,23280999321973471), (6385082443794124400,23280999321973471), (10216131910070599040,23280999321973471),
  (8172905528056479232,23280999321973471), (17050216769059818406,60710674385828901), (7383611277981415316,16431756636904837), (4041478753872014814,11242566956172703),
  (6590775389677379459,22917735723759814), (10669650006965962891,23188111855893819), (3138690310348710989,8526556863376429), (14185362564200450093,48169892762464239),
  (7956986877608028629,16887443080500392), (15470241648802934797,41041418897671039), (4596699283999568193,15243383486179147), (11456853462242434199,23745463875272006),
  (1330157138340789661,3446103066278143), (14014255582359078971,45384270532704547), (5155969102859263364,10435797644015877), (8957082149802152775,22661670127233071),
  (7165665719841722220,22661670127233071), (11465065151746755552,22661670127233071), (17219873576084080695,42545669109697691), (13775898860867264556,42545669109697691),
  (5437786923735678329,20992666747458079), (9933161703946675979,23966959850128797), (2740562055609079739,8265613546726001), (3013517663060997253,11361069332527494),
  (4987602821586727033,11752150599973438), (11804272211119013451,34767600215612884), (11804272211119013451,43459500269516105), (10341018956762565943,23795172846148010),
  (12932064072632702899,37196612484754259), (6722820397231566957,24171136150031071), (5490236264838532521,12337200052590442), (4608898166789022911,12945913427681468),
  (15236835457246284109,53498348629918674), (7298542007632161301,16016282790069044), (7298542007632161301,20020353487586305), (8409365533674358482,28834264160984363),
  (5934278141038372834,12717260211119877), (10094204441053226539,27040067353215942), (7875577081045304563,26371089465309197), (9850265440848918812,20614539458865329),
  (13288587801878379423,34762783708650205), (1044498958460691833,3415495679283822), (4177995833842767332,8538739198209555), (3291409054817244929,8408482389467942),
  (13925893254746366575,44470174566560728), (2785178650949273315,5558771820820091), (2228142920759418652,5558771820820091), (8912571683037674608,27793859104100455),
  (9838157730118219477,38350374549473718), (973387741389544210,2371492298672131), (778710193111635368,2371492298672131), (4538763491708805201,17277998222726798),
  (6923837976097232773,16473382627227484), (6923837976097232773,20591728284034355), (1803401189052482957,6704220152224953), (8785192521172255541,20412077848774544),
  (13056771449346424590,37921171709586139), (10445417159477139672,37921171709586139), (4510211791451832695,10233705436256024), (902042358290366539,2558426359064006),
  (1804084716580733078,6396065897660015), (8807665845448990765,19516271407015499), (7046132676359192612,19516271407015499), (9011913273405478405,31201325858219789),
  (5189284040889700227,11229062673660373), (7843338111335386270,21215194265940081), (6274670489068309016,21215194265940081), (5092627806072006534,10761629676229049),
  (6547524733076249173,17295107544798444), (6547524733076249173,21618884430998055), (4947157655833868562,10209204430636603), (10272185937965742597,26497752215996024),
  (10272185937965742597,33122190269995030), (16217922621295403753,32683715161177652), (12539188338136754198,31587527389134207), (1471493713263459822,4633558281168929),
  (3397032250664895875,6685530990800801), (2717625800531916700,6685530990800801), (2174100640425533360,6685530990800801), (1739280512340426688,6685530990800801),
  (10437535069964351834,25075190460478917), (347670902875906167,1044058061690636), (347670902875906167,1305072577113295), (13165349183943862894,30887212673608993),
  (3189343281390222446,9353143889793867), (8136548626828745359,29826794797023721), (13500602554418204063,30931396751800046), (12021938714823917847,34429514776763654),
  (8396094300569779681,30056867245559144), (8396094300569779681,18785542028474465), (14807491948039702123,41413119059912174), (10472252491303707065,36610575306208119),
  (16755603986085931304,36610575306208119), (13161199241474011439,35946113636825538), (15078215105267035367,51477379043321663), (16560245435286023298,35335665783846377),
  (940800559026823970,2509308682420919), (752640447221459176,2509308682420919), (7696610811404988645,16037847492096122), (3078644324561995458,8018923746048061),
  (12314577298247981832,40094618730240305), (3549441005075543930,7222816116485383), (2839552804060435144,7222816116485383), (15302016830903096458,48653635540310047),
  (5726426170895102995,11379686700209816), (1145285234179020599,2844921675052454), (2290570468358041198,7112304187631135), (9162281873432164792,35561520938155675),
  (11380435702440633161,27606769259850016), (11380435702440633161,34508461574812520), (11380435702440633161,43135576968515650), (9267645054857736570,21954630463696033),
  (7414116043886189256,21954630463696033), (11780937423765287789,43607040630955966), (4630726723053500095,10712872472466429), (3704581378442800076,10712872472466429),
  (5905397629491570159,21346464431880464), (5905397629491570159,13341540269925290), (16333989579023789579,46127414572557743), (3819679239585126275,13483534362970483),
  (6111486783336202040,13483534362970483), (4889189426668961632,13483534362970483), (4345544743100783551,14980321060434238), (10428584838352952303,22468924829926771),
  (12515024351112470983,33705333195795889), (3615290913634952013,12170829778785812), (7230581827269904026,15213537223482265), (3703926975465263093,9741579630179156),
  (14248437106147061460,46842947226873857), (10544510130681798367,21666232930718695), (1767206204442019353,4538937891320557), (4547754454772996117,14600711962266837),
  (1008428145198032518,2023494373583987), (15762928029511226596,39537021466043073), (10630678362578645610,33330209799297697), (4949160152575839167,9698143229289650),
  (5813802121535165357,14240569092326436), (5813802121535165357,17800711365408045), (7862637540082247119,30092299861606892), (15725275080164494238,37615374827008615),
  (7025586358186323042,21006791844299851), (5587551396247165391,20883760286342903), (13443041041295089981,31402535153237447), (1748515218436821274,5105597986001087),
  (10404729789348707730,37976769445046537), (16647567662957932368,37976769445046537), (607011483106478481,1730908653680054), (9323844507855648149,33233974136745497),
  (10703004222941594994,23843662694009089), (6454829883539554973,17974718042298834), (12909659767079109946,44936795105747085), (12872422059701138233,28004484773805824),
  (12872422059701138233,35005605967257280), (4955535454539180805,16845268189800103), (7928856727262689288,16845268189800103), (10894995926725758655,28933731341339864),
  (2178999185345151731,7233432835334966), (8715996741380606924,18083582088337415), (1610726199551357355,4177333401401794), (644290479820542942,2088666700700897),
  (10917429531052419251,22120138579718326), (8612187254057188965,21811770686540987), (6889749803245751172,21811770686540987), (2533168801920759346,5012237254225637),
  (2725314160483765657,6740530454527866), (10048761236137499399,31067051885515724), (13727267568273473867,53049540606090714), (6764958008109694533,16339646289985003),
  (3901093563222548879,11778064418652062), (10043714100331001477,37904599620299492), (15854421319572125043,37396243954596724), (9728174032700752346,28682627548076003),
  (2666020155706026399,9825644425245526), (6500609922920713997,14973790031448261), (1767549829187607279,5089314757807742), (7219386184135449293,25983516873553233),
  (12228200452814757745,27506809849803837), (9782560362251806196,27506809849803837), (6948150079585311585,24421193937189661), (11117040127336498536,24421193937189661),
  (8015733891653065457,22010556505459836), (8015733891653065457,27513195631824795), (12046465730168521259,25842671799157638), (1890154148382781937,5068564755900112),
  (17006160190210295690,57003832364043927), (11714774003785454615,24542099966475001), (9371819203028363692,24542099966475001), (8072396760826080134,26424107740099329),
  (6170446709459169517,12623926440792062), (12340893418918339034,31559816101980155), (6877217696560247642,21984199039431107), (4004025637960986321,7999719187668976),
  (4004025637960986321,9999648984586220), (4004025637960986321,12499561230732775), (16546207434005712405,64566373837918783), (4235620355014267601,10330110705433358),
  (9742448686760802419,29700659242601052), (9742448686760802419,37125824053251315), (12622461780079309613,30062981997208865), (13720451475030076849,40847587110382137),
  (3731397078090803162,13886074327448957), (9374887321663566211,21804899652137617), (1365085953537523939,3968789332092264), (1365085953537523939,4960986665115330),
  (12382079838719871453,28124297231567204), (12382079838719871453,35155371539459005), (15470690376846214997,54905746374410277), (13623051591213308326,30217777830721187),
  (2608804448857667161,7233353033235209), (11420202162742180093,39580560546710286), (3780093371247662878,8188242446410451), (1165996830973975447,3157152418635207),
  (15827488647109242640,53569821906593083), (3540120128040361843,7488696130801857), (2940724290250740539,7775933378546878), (10957495927315911919,36217590428735118),
  (9088157235327549630,18774314330367377), (7270525788262039704,18774314330367377), (1251659114976716003,4040120746318741), (14695611838880120083,29646673343250563),
  (6814712519365326445,17184854074539496), (1362942503873065289,4296213518634874), (5451770015492261156,10740533796587185), (9668989894351778262,23811099983132773),
  (10162809949004875882,31283992233083561), (5278932996363676989,20312553772761023), (1479483528589505842,3558021189022661), (5554681572821496849,16698119945626133),
  (13185934758156981830,49548366837134813), (9790769669827295515,22994039487719907), (7832615735861836412,22994039487719907), (88439532113775841,324537511202807),
  (6389907933648755307,14655245002127398), (3550938257425170493,10180089973588531), (7527276733854740813,26974685580109553), (4346205952711084557,9734391931006526),
  (7571702928033049285,21198352277992884), (1514340585606609857,5299588069498221), (18160049857826648233,39720582213626969), (13318974851666564711,36414921747093003),
  (4118524906071872009,14075385290379044), (8237049812143744018,17594231612973805), (2099245051594481081,5604950269283667), (12047676983860646025,40208877891389174),
  (9638141587088516820,20104438945694587), (7710513269670813456,20104438945694587), (5961090311065069271,19428728674909566), (17520334089668519934,35689550858054293),
  (15623125943290992789,39781087011610508), (15623125943290992789,49726358764513135), (9778613303868468131,19452526463518652), (9778613303868468131,24315658079398315),
  (7089831646306092837,22037112624634199), (7871042307410919273,30581658079999634), (108090467904820519,262479986931023), (12896321001990968290,39145752554258123),
  (10317056801592774632,39145752554258123), (6231979565185843107,14778653367032425), (7539204280836061195,22348293500542092), (1507840856167212239,5587073375135523),
  (12062726849337697912,27935366875677615), (15115421011606313047,43756154465888061), (12673265681791420939,45858247211069034), (16440089111940046857,37180317685921724),
  (17538325425016481405,49580062077309568), (3507665085003296281,12395015519327392), (3507665085003296281,7746884699579620), (3507665085003296281,9683605874474525),
  (14030660340013185124,48418029372372625), (14080742485759389757,30369285315996422), (2976411363539732777,8024389162053231), (7418143812427595569,24999095194037687),
  (6832015378288343563,14389903924047402), (5974820216218612557,15730550231940161), (11097554454021395005,36522152858424908), (4439021781608558002,9130538214606227),
  (10622021244877778431,27310288072514148), (10622021244877778431,34137860090642685), (16462465958459242132,33067703563708373), (6984562408392599371,17537123525855104),
  (6984562408392599371,21921404407318880), (6984562408392599371,13700877754574300), (6984562408392599371,17126097193217875), (8298677754506653829,25435373307728789),
  (12669441133200558927,48539655104731826), (10743996180570534341,25726759746569508), (10743996180570534341,32158449683211885), (11002771711837610557,41166256312393752),
  (11002771711837610557,25728910195246095), (8765924639986206157,25622826428118292), (8765924639986206157,32028533035147865), (10197506765971104973,23286988804937079),
  (251030048381617111,716564114705057), (8810683538569088467,31437569378962784), (8810683538569088467,19648480861851740), (8810683538569088467,24560601077314675),
  (13114472948156555659,45697268692165946), (5573329417113950893,12137636644388029), (13835576008793615063,37664020415894738), (615981462106152391,2096076299049019),
  (6642997035308520329,14128092216397252), (6642997035308520329,17660115270496565), (8703372741147379,28921916763211), (15983228399349726733,33195866642875291),
  (2140380717503854102,5556746037781891), (12358506575979010566,40105646794148641), (10460014722997213487,21215430307205655), (3994889085164598869,10128247093308212),
  (15095557321833928361,47839730749506056), (15095557321833928361,29899831718441285), (5896783085721656606,14599727769591267), (13255802474611474010,41024721590449423),
  (10604641979689179208,41024721590449423), (7450580596923828125,18014398509481984), (1490116119384765625,4503599627370496), (298023223876953125,1125899906842624),
  (59604644775390625,140737488355328), (11920928955078125,35184372088832), (2384185791015625,8796093022208), (476837158203125,1099511627776),
  (95367431640625,274877906944), (19073486328125,68719476736), (3814697265625,8589934592), (762939453125,2147483648),
  (152587890625,536870912), (30517578125,67108864), (6103515625,16777216), (1220703125,4194304),
  (244140625,524288), (48828125,131072), (9765625,32768), (1953125,4096),
  (390625,1024), (78125,256), (15625,32), (3125,8),
  (625,2), (500,1), (400,1), (320,1),
  (512,1), (2048,5), (8192,25), (32768,125),
  (262144,625), (1048576,3125), (4194304,15625), (33554432,78125),
  (134217728,390625), (536870912,1953125), (4294967296,9765625), (17179869184,48828125),
  (68719476736,244140625), (549755813888,1220703125), (2199023255552,6103515625), (8796093022208,30517578125),
  (70368744177664,152587890625), (281474976710656,762939453125), (1125899906842624,3814697265625), (9007199254740992,19073486328125),
  (36028797018963968,95367431640625), (144115188075855872,476837158203125), (1152921504606846976,2384185791015625), (4611686018427387904,11920928955078125),
  (18446744073709551616,59604644775390625), (13991122804113152581,28254847488796269), (15009550522878043789,37889432359801871), (5446136629611347657,17184977086370072),
  (5446136629611347657,10740610678981295), (7202841595437629673,17756375441064017), (5832681969203104382,17973338976921229), (2297868441254741431,8851067278549857),
  (7883161393119121509,18978020729306893), (8406486341879059195,25297349645167491), (6725189073503247356,25297349645167491), (6477987557504884013,15229675557088119),
  (9464705006104218967,27814268167187334), (17967474373362407223,66002076951349156), (10010936112940619765,22983982123446344), (2002187222588123953,5745995530861586),
  (4004374445176247906,14364988827153965), (10024193995532838030,22475020243254749), (8019355196426270424,22475020243254749), (9213773431031191298,32278116398852023),
  (3241899323151325739,7098232098480651), (14093657625019640929,38573087473944866), (3269155657969663375,11184235359257022), (2615324526375730700,5592117679628511),
  (2092259621100584560,5592117679628511), (1673807696880467648,5592117679628511), (15129914451893539795,31592735479480436), (3025982890378707959,7898183869870109),
  (12103931561514831836,39490919349350545), (786365723404097297,1603523677628015), (4533805307344187917,11556429698847052), (16525611975952477901,52653637530806948),
  (6288322939696136407,12522345512273198), (4416837465187391351,10994418810276246), (13594786675663731332,42300282590959241), (13118675501134836469,51023573793040473),
  (11214230803019257017,27260285006503850), (14227352338296308989,43230972150747739), (3280443707096882018,12459870182755943), (114186633253824165,271066727930479),
  (91349306603059332,271066727930479), (5463380801872200659,20264805673851943), (3351107926405767861,7768718832651028), (3351107926405767861,9710898540813785),
  (14411210743433945523,52201319851951013), (7618860460644046007,17248488819488584), (7618860460644046007,21560611024360730), (15255135794961809879,53963130493396941),
  (6965949469487146,15400733123779), (12213164370279781193,33751982749699229), (7322325862592278999,25294736145869698), (11212705630439921887,24208703945783921),
  (1739525376380259866,4694635736338759), (3963224639261890795,13369951564987916), (1585289855704756318,3342487891246979), (6341159422819025272,16712439456234895),
  (3998523778266022813,13172884109748252), (7997047556532045626,16466105137185315), (579945552184410289,1492651564312544), (579945552184410289,1865814455390680),
  (579945552184410289,1166134034619175), (7831730237743217983,19684708214824879), (10674942613399035848,33538746256553883), (11637750841355304091,22852322642424177),
  (9047848338570566063,22208366576940829), (7762983339883807270,23818256740649199), (6210386671907045816,23818256740649199), (3249694333198548151,7789576765292991),
  (14486190741529240717,43404580265074233), (5893637190527366161,22073681502421223), (8052770278906972877,18850232102263437), (11040373560625180433,32304659903592388),
  (11040373560625180433,40380824879490485), (15306120703649493322,34989405947431907), (3763971288109001958,10755429308642731), (11492102305297794266,41047900107129201),
  (6538883098464855203,14597384637918172), (6538883098464855203,18246730797397715), (14249573113123889250,49704230955369629), (3103065017742987931,6764915827959717),
  (16782655206341921611,45734318001476868), (14591562867838862592,49704230955369629), (2191092338503059019,4664791591547785), (7386254617452229213,19656484705741474),
  (9789510569809118153,32565111609048854), (7866905807923607001,16355941892219528), (7866905807923607001,20444927365274410), (5922372650699841355,19239215777772937),
  (9475796241119746168,19239215777772937), (5618349199866322405,14259043490989642), (2247339679946528962,7129521745494821), (8643988913946659879,17139016489060851),
  (5324541270703778315,13196656304133739), (4259633016563022652,13196656304133739), (3294503067078758649,12758265941015482), (7474313439916587973,18090603622794109),
  (7120190517612959703,21541868930230258), (14240381035225919406,53854672325575645), (9628308719246660445,22757879943742561), (7702646975397328356,22757879943742561),
  (2844904250625471197,10506776046269091), (2179251629442203009,5030245924353646), (12154645883220592043,35069870483291608), (12154645883220592043,43837338104114510),
  (14649411523008171571,33021900233173442), (6921507328261761559,19502602894497107), (1706860212246211693,6011735474860571), (6561321989957136263,14443527612133406),
  (13122643979914272526,36108819030333515), (829937656239290033,2854614196029519), (11660027902666424067,25065799315484276), (11660027902666424067,31332249144355345),
  (8654256025465779962,29069109891122539), (5529436763613147623,11608147225806204), (5529436763613147623,14510184032257755), (3778591184626843489,12394583710677878),
  (8091380584855667499,16588407076487459), (9282298129345216582,23787433176591077), (451862795138702025,1447466981583008), (90372559027740405,180933372697876),
  (18074511805548081,45233343174469), (72298047222192324,226166715872345), (578384377777538592,1130833579361725), (9889554299577120559,24169567238865607),
  (12792880163936606418,39081434806702723), (15587371538023660298,59523035153609051), (4440296120107365493,10597517251579843), (4465008182852902065,13320620958125608),
  (893001636570580413,3330155239531402), (3572006546282321652,8325388098828505), (15435156905088165941,44969007592845778), (2628179093034081455,9571218348859818),
  (2102543274427265164,4785609174429909), (9299437776150998265,26458120553256554), (3719775110460399306,13229060276628277), (16271639669264887,36167929443327),
  (5954894504670491867,16545367328146178), (11909789009340983734,41363418320365445), (8818450791606492727,19141883451120058), (8128592138429072677,22055541133653366),
  (8680479060971008717,29441239597313414), (9121988599004557549,19336681338444237), (13182351236699935816,34929736316395061), (14347631394665850535,47521774793982959),
  (1791594352930488769,3708789146974962), (8107527480827851081,20979295536760258), (15838594934013343760,51230563940957921), (6147207959784158303,12427117578694879),
  (13975609544695978349,35316143561044721), (17478279606597884343,55209169035936221), (4910752227244997517,9694838247453452), (4910752227244997517,12118547809316815),
  (7974268783123931482,24598206400153811), (11046911076841568620,42595472723368943), (14050069875386794223,33859542498778239), (12690051039333321606,38227507611073591),
  (9427043261954714171,35497529415888996), (1014581625656829621,2387754310975363), (11109535589214291081,32681995249652093), (13801523312829614137,50751594849042746),
  (7067485020350439717,16243050143107973), (1680254386367100181,4827116041341223), (4645835384460091665,16683475647879049), (7433336615136146664,16683475647879049),
  (2929965044609604187,8220063714615236), (2929965044609604187,10275079643269045), (10638849645745492403,23318330116239707), (3402148477556107555,9321076049777727),
  (2721718782044886044,9321076049777727), (8919337533903126829,19091296282978933), (996852469070058427,2667127150012041), (8531063483820583261,28531592866244738),
  (111248746252023169,232540170765541), (6802601037806061975,17774110498711576), (1360520207561212395,4443527624677894), (1088416166048969916,2221763812338947),
  (4353664664195879664,11108819061694735), (17263184687152886435,55060968721169629), (7056747844491786795,14067196297357436), (1411349568898357359,3516799074339359),
  (5645398275593429436,17583995371696795), (7185620434951919351,27976749890529796), (14371240869903838702,34970937363162245), (4394350632958684507,13366500684258484),
  (15036366885700182315,57171020548248868), (6014546754280072926,14292755137062217), (9115067677621205539,27075903575211379), (5977247735799634466,22193936055049853),
  (2928945438331115697,6797111170593218), (11511934614897929479,33394228833196674), (9250317119603650245,33542060588139028), (3700126847841460098,8385515147034757),
  (14800507391365840392,41927575735173785), (5205256810712505345,18432121394660296), (1041051362142501069,2304015174332537), (4164205448570004276,11520075871662685),
  (12602004937641717106,43578557425208837), (3824356918065196843,8265547743845099), (3916540893494438105,10580980161979008), (783308178698887621,2645245040494752),
  (783308178698887621,1653278150309220), (783308178698887621,2066597687886525), (3133232714795550484,10332988439432625), (7555784487484408317,15573738225568417),
  (3502015446175999111,9022800992898677), (7886836644563854374,25400144074573027), (9723204186605896995,19571438963468209), (7778563349284717596,19571438963468209),
  (1368324189886658611,4303505699266819), (6496515517405105799,12770087564575983), (6087228014261717257,14956947797515511), (3089751210734108570,9489797215166691),
  (2471800968587286856,9489797215166691), (5092077246936020273,12218515237344617), (7247688393519585631,21738670383739333), (8422274833660567597,31577146834485271),
  (5993034052309126131,14043334490337529), (290964818776830667,852263694678384), (290964818776830667,1065329618347980), (15609854807186047109,35720900756393911),
  (3005585033926477155,8597309683364734), (1202234013570590862,4298654841682367), (9617872108564726896,21493274208411835), (13019936790796959122,36369930435494903),
  (2780483939598982759,9708765208033301), (11763471783729948314,25671966656825619), (1304654383439798287,3559009241288794), (2609308766879596574,8897523103221985),
  (13745683153247571161,29294763563916934), (12863430330386455197,34268135852942177), (5851174390443474850,19484386528425079), (9361879024709559760,19484386528425079),
  (7489503219767647808,19484386528425079), (6385821102928598747,20766365107907427), (4714438355228398497,9581945941777246), (9428876710456796994,23954864854443115),
  (3644753396700270337,11574758283362051), (1933257463055265281,3837191676436386), (8956650421163493685,22221810274641452), (1791330084232698737,5555452568660363),
  (7165320336930794948,27777262843301815), (4246719317866303658,10289337493582653), (8916480948369489722,27004575433940279), (9723520580679062213,36810983296671972),
  (11030401989560055127,26099082376094729), (13874305094726885681,41035067434653656), (9915854776233807378,36659292721048939), (1191480891548145815,2753093893597601),
  (953184713238516652,2753093893597601), (11909651082034247699,42998470303601412), (4095599566857295333,9241691629856527), (7889481038884480026,22253198124822619),
  (11773877939360697911,41511988746587736), (11773877939360697911,25944992966617335), (7326803620481698475,20181739332213796), (1465360724096339695,5045434833053449),
  (2344577158554143512,5045434833053449), (9378308634216574048,25227174165267245), (4499054460863230815,15127785148955653), (7198487137381169304,15127785148955653),
  (13081474438843665449,34363771679665824), (7337389513007343234,24093268225279529), (13081474438843665449,26846696624738925), (1556375423002219962,3992625125218087),
  (7878427994641240115,25263513781550263), (7955668698345352359,15944499487937524), (11675521572809857819,29249638653534644), (11675521572809857819,36562048316918305),
  (549574934819008943,1075625679510011), (13259932915398394790,32440354009866941), (10607946332318715832,32440354009866941), (485028632235571473,1854093624925538),
  (15323616782109002323,36610493559366908), (13810985048841030572,41245727621680753), (5826920366190006579,21752211142722347), (2891099526406815247,6745395013668417),
  (14527051733436277971,42367402709156872), (11086353942308980369,40415979672682441), (16209035077458032037,36931891427817592), (16209035077458032037,46164864284771990),
  (501525759083174641,1785490969446324), (1003051518166349282,2231863711807905), (15701100886902999655,43670136416540124), (3140220177380599931,10917534104135031),
  (395514463400174067,859422747239483), (10206910352977989406,27723546633957319), (7303043032444662211,24795242521737331), (4979949176018000455,10567431190731173),
  (3983959340814400364,10567431190731173), (14206631219949798238,47103768207077037), (5855573102310699617,12134278785930436), (5855573102310699617,15167848482413045),
  (1086214502788498863,3517063298038682), (10020645665370218705,20278709339780812), (2004129133074043741,5069677334945203), (8016516532296174964,25348386674726015),
  (2967348663906497063,5864260136276494), (9935713677605618591,24544473975099634), (11536120217522668377,35622504286078742), (14870243072598095899,57397470683433599),
  (1640399472489448171,3957348753970407), (6561597889957792684,19786743769852035), (293952592036109679,1108031289909584), (293952592036109679,692519556193490),
  (15986381444272286557,47077666955762547), (3314857325668901183,12202241461561568), (3314857325668901183,7626400913475980), (3314857325668901183,9533001141844975),
  (7433199248931463845,26720869846685618), (5946559399145171076,13360434923342809), (15959446901371137754,44821117857026207), (15176767831850183099,53278765226321779),
  (14550624576233419375,31925412218970622), (5820249830493367750,15962706109485311), (4656199864394694200,15962706109485311), (7449919783031510720,15962706109485311),
  (5959935826425208576,15962706109485311), (12577888310013994445,42109751769573819), (8862766300335551253,18544890033415859), (11594955038543176946,30327320901494839),
  (16166317045389180307,52855000644791621), (13356879832710310873,27293550000758394), (976071180946195665,2493139108376681), (780856944756956532,2493139108376681)]
def allGood : Nat → List (Nat × Nat) → Bool
  | _, [] => true
  | i, v :: t => goodV (numP i) (denP i) v.1 v.2 && allGood (i + 1) t
set_option maxRecDepth 100000 in
theorem vecs_good : allGood 0 vecs = true := by decide +kernel
theorem vecs_len : vecs.length = 696 := by decide +kernel
end Go.Proofs.YtcjeeoadgoghfaaGreatDoor.Usc

namespace Go.Proofs.YtcjeeoadgoghfaaGreatDoor.Usc
set_option linter.unusedVariables false

theorem unr_scale (A B k : Nat) (hB : 0 < B) (hk : 0 < k) : unr (A * k) (B * k) = unr A B := by
  unfold unr
  rw [Nat.mul_div_mul_right _ _ hk, Nat.mul_mod_mul_right]
  congr 1
  rw [decide_eq_decide]
  constructor
  · intro h h2; rw [h2, Nat.zero_mul] at h; exact h rfl
  · intro h h2
    rcases Nat.mul_eq_zero.1 h2 with h3 | h3
    · exact h h3
    · omega
theorem unr_ratio {A B C D : Nat} (hB : 0 < B) (hD : 0 < D) (h : A * D = C * B) : unr A B = unr C D := by
  rw [← unr_scale A B D hB hD, ← unr_scale C D B hD hB, h, Nat.mul_comm B D]
theorem unr_ge (A B k : Nat) (hB : 0 < B) : 2 * k ≤ unr A B ↔ 2 * k * B ≤ A := by
  rw [← Nat.le_div_iff_mul_le hB]
  unfold unr orb
  generalize A / B = q
  split
  · split <;> omega
  · exact Iff.rfl
/-- Half of an unrounded number. -/
def halfU (u : Nat) : Nat := orb (u / 2) (decide (u % 2 = 1))
theorem unr_half (A B : Nat) (hB : 0 < B) : halfU (unr A B) = unr A (B * 2) := by
  have e := Nat.div_add_mod A B
  have m := Nat.mod_lt A hB
  have hd : A / (B * 2) = A / B / 2 := (Nat.div_div_eq_div_mul A B 2).symm
  have hm : (A % (B * 2) ≠ 0) ↔ (A % B ≠ 0 ∨ A / B % 2 = 1) := by
    rw [Nat.mod_mul]
    have h2 := Nat.mod_two_eq_zero_or_one (A / B)
    rcases h2 with h | h
    · rw [h, Nat.mul_zero, Nat.add_zero]
      constructor
      · intro h; exact .inl h
      · rintro (h | h)
        · exact h
        · cases h
    · rw [h, Nat.mul_one]
      constructor
      · intro _; exact .inr rfl
      · intro _; omega
  unfold halfU unr
  rw [hd]
  generalize A / B = q at *
  by_cases h1 : A % B ≠ 0
  · rw [decide_eq_true h1, decide_eq_true (hm.2 (.inl h1))]
    have o : ∀ n, orb n true = if n % 2 = 1 then n else n + 1 := fun n => if_pos rfl
    have odd : orb q true % 2 = 1 ∧ orb q true / 2 = q / 2 := by
      rw [o]
      rcases Nat.mod_two_eq_zero_or_one q with h | h
      · rw [if_neg (by omega)]; omega
      · rw [if_pos h]; omega
    rw [odd.2, decide_eq_true odd.1]
  · rw [decide_eq_false h1]
    have e1 : orb q false = q := rfl
    rw [e1]
    congr 1
    rw [decide_eq_decide, hm]
    constructor
    · intro h; exact .inr h
    · rintro (h | h)
      · exact absurd h h1
      · exact h

/-- d times 10 ^ (i - 348), as a fraction. -/
def valN (d i : Nat) : Nat := d * 10 ^ (i - 348)
def valD (i : Nat) : Nat := 10 ^ (348 - i)
theorem valD_pos (i : Nat) : 0 < valD i := Nat.pow_pos (by omega)
theorem denP_pos (i : Nat) : 0 < denP i := Nat.mul_pos (Nat.pow_pos (by omega)) (Nat.pow_pos (by omega))

theorem ratio_pure (d a a' b b' j k f f' g g' D5 P5 : Nat) (e : j + a + b' + f' = b + f + a' + k) :
    d * 2 ^ j * (P5 * 2 ^ a) * (2 ^ b' * D5 * 2 ^ f') = d * (2 ^ b * P5) * 2 ^ f * (D5 * 2 ^ a' * 2 ^ k) := by
  have e0 : 2 ^ j * 2 ^ a * 2 ^ b' * 2 ^ f' = 2 ^ b * 2 ^ f * 2 ^ a' * 2 ^ k := by
    rw [← Nat.pow_add, ← Nat.pow_add, ← Nat.pow_add, ← Nat.pow_add, ← Nat.pow_add, ← Nat.pow_add, e]
  generalize 2 ^ j = x1 at *
  generalize 2 ^ a = x2 at *
  generalize 2 ^ b' = x3 at *
  generalize 2 ^ f' = x4 at *
  generalize 2 ^ b = x5 at *
  generalize 2 ^ f = x6 at *
  generalize 2 ^ a' = x7 at *
  generalize 2 ^ k = x8 at *
  have e1 : d * x1 * (P5 * x2) * (x3 * D5 * x4) = d * P5 * D5 * (x1 * x2 * x3 * x4) := by ac_rfl
  have e2 : d * (x5 * P5) * x6 * (D5 * x7 * x8) = d * P5 * D5 * (x5 * x6 * x7 * x8) := by ac_rfl
  rw [e1, e2, e0]
/-- The power's fraction is the power, scaled: times d 2 ^ j over 2 ^ k it is d 10 ^ p 2 ^ f. -/
theorem ratio (d i j k : Nat) (f : Int) (h : (j : Int) + (127 - lpOf ((i : Int) - 348)) = f + k) :
    d * 2 ^ j * numP i * denF f (valD i) = numF f (valN d i) * (denP i * 2 ^ k) := by
  have t : ∀ n : Nat, (10 : Nat) ^ n = 2 ^ n * 5 ^ n := fun n => by rw [← Nat.mul_pow]
  have r := ratio_pure d (e2Of ((i : Int) - 348)).toNat (-(e2Of ((i : Int) - 348))).toNat (i - 348) (348 - i) j k f.toNat (-f).toNat 0 0 (5 ^ (348 - i)) (5 ^ (i - 348)) (by
    have e : e2Of ((i : Int) - 348) = 127 - lpOf ((i : Int) - 348) + ((i : Int) - 348) := rfl
    rw [e]
    generalize lpOf ((i : Int) - 348) = l at *
    omega)
  have t1 : valN d i = d * (2 ^ (i - 348) * 5 ^ (i - 348)) := by
    have : valN d i = d * 10 ^ (i - 348) := rfl
    rw [this, t]
  have t2 : valD i = 2 ^ (348 - i) * 5 ^ (348 - i) := t _
  have t3 : numP i = 5 ^ (i - 348) * 2 ^ (e2Of ((i : Int) - 348)).toNat := rfl
  have t4 : denP i = 5 ^ (348 - i) * 2 ^ (-(e2Of ((i : Int) - 348))).toNat := rfl
  have t5 : denF f (valD i) = valD i * 2 ^ (-f).toNat := rfl
  have t6 : numF f (valN d i) = valN d i * 2 ^ f.toNat := rfl
  rw [t5, t6, t1, t2, t3, t4]
  exact r

/-- A vector that is good rules near products out. -/
theorem good_none {N D x1 k1 : Nat} (hg : goodV N D x1 k1 = true) (hD : 0 < D) {x k : Nat} (hx63 : 2 ^ 63 ≤ x) (hx : x < 2 ^ 64)
    (h1 : k * (2 ^ 64 * (2 ^ 64 * D) * 2 ^ 8) < x * N + 2 * (2 ^ 64 * D)) (h2 : x * N ≤ k * (2 ^ 64 * (2 ^ 64 * D) * 2 ^ 8) + 2 ^ 64 * D) :
    x * N = k * (2 ^ 64 * (2 ^ 64 * D) * 2 ^ 8) := by
  unfold goodV at hg
  simp only [Bool.and_eq_true, Bool.or_eq_true, decide_eq_true_eq, beq_iff_eq] at hg
  obtain ⟨⟨⟨g1, g2⟩, g3⟩, g4⟩ := hg
  have hB : 0 < 2 ^ 64 * (2 ^ 64 * D) * 2 ^ 8 := Nat.mul_pos (Nat.mul_pos (by decide) (Nat.mul_pos (by decide) hD)) (by decide)
  generalize hW : 2 ^ 64 * D = W at *
  generalize hBB : 2 ^ 64 * W * 2 ^ 8 = B at *
  have hz : ((x1 : Int) * N - k1 * B).natAbs = (if k1 * B ≤ x1 * N then x1 * N - k1 * B else k1 * B - x1 * N) := by
    rw [← Int.natCast_mul, ← Int.natCast_mul]
    generalize x1 * N = up
    generalize k1 * B = dn
    split <;> omega
  have hs : (x1 : Int) * N - k1 * B < 0 ↔ x1 * N < k1 * B := by
    rw [← Int.natCast_mul, ← Int.natCast_mul]
    generalize x1 * N = up
    generalize k1 * B = dn
    omega
  have hs2 : 0 < (x1 : Int) * N - k1 * B ↔ k1 * B < x1 * N := by
    rw [← Int.natCast_mul, ← Int.natCast_mul]
    generalize x1 * N = up
    generalize k1 * B = dn
    omega
  refine near_none x k x1 k1 N B W hx63 hx g1 hB h1 h2 ?_ g3 ?_
  · rw [hz]
    exact_mod_cast g2
  · rw [hz, hs, hs2]
    rcases g4 with ((h | h) | ⟨h, h'⟩) | ⟨h, h'⟩
    · exact .inl (Int.natAbs_eq_zero.1 (hz.trans h))
    · exact .inr (.inl h)
    · exact .inr (.inr (.inl ⟨h, h'⟩))
    · exact .inr (.inr (.inr ⟨h, h'⟩))
theorem allGood_get : ∀ (l : List (Nat × Nat)) (i j : Nat), allGood i l = true → j < l.length → ∃ v : Nat × Nat, goodV (numP (i + j)) (denP (i + j)) v.1 v.2 = true
  | [], _, _, _, h => absurd h (Nat.not_lt_zero _)
  | v :: t, i, 0, hg, _ => by
    unfold allGood at hg
    rw [Bool.and_eq_true] at hg
    exact ⟨v, hg.1⟩
  | v :: t, i, j + 1, hg, h => by
    unfold allGood at hg
    rw [Bool.and_eq_true] at hg
    obtain ⟨w, hw⟩ := allGood_get t (i + 1) j hg.2 (Nat.lt_of_succ_lt_succ h)
    rw [show i + 1 + j = i + (j + 1) by omega] at hw
    exact ⟨w, hw⟩
theorem row_none {i : Nat} (hi : i < 696) (s : Nat) (hs : 8 ≤ s) {x : Nat} (hx63 : 2 ^ 63 ≤ x) (hx : x < 2 ^ 64) (k : Nat)
    (h1 : k * (2 ^ 64 * (2 ^ 64 * denP i) * 2 ^ s) < x * numP i + 2 * (2 ^ 64 * denP i)) (h2 : x * numP i ≤ k * (2 ^ 64 * (2 ^ 64 * denP i) * 2 ^ s) + 2 ^ 64 * denP i) :
    x * numP i = k * (2 ^ 64 * (2 ^ 64 * denP i) * 2 ^ s) := by
  obtain ⟨v, hv⟩ := allGood_get vecs 0 i vecs_good (by rw [vecs_len]; exact hi)
  rw [Nat.zero_add] at hv
  have e : ∀ C : Nat, k * (C * 2 ^ s) = k * 2 ^ (s - 8) * (C * 2 ^ 8) := by
    intro C
    have : (2 : Nat) ^ s = 2 ^ (s - 8) * 2 ^ 8 := by rw [← Nat.pow_add]; congr 1; omega
    rw [this]
    ac_rfl
  rw [e] at h1 h2 ⊢
  exact good_none hv (denP_pos i) hx63 hx h1 h2

set_option maxRecDepth 100000 in
theorem bnd_good : (List.range 696).all (fun i => decide (2 ^ 127 * denP i ≤ numP i) && decide (numP i ≤ (2 ^ 128 - 2 ^ 117) * denP i)) = true := by decide +kernel
theorem bnd {i : Nat} (hi : i < 696) : 2 ^ 127 * denP i ≤ numP i ∧ numP i ≤ (2 ^ 128 - 2 ^ 117) * denP i := by
  have := List.all_eq_true.1 bnd_good i (List.mem_range.2 hi)
  rw [Bool.and_eq_true, decide_eq_true_eq, decide_eq_true_eq] at this
  exact this

theorem lin_up {A B x N D K X Y : Nat} (hD : 0 < D) (h : A * (D * K) = x * N * B) (hx : x ≤ X) (hN : N ≤ Y * D) : A * K ≤ X * Y * B := by
  apply Nat.le_of_mul_le_mul_right (c := D) _ hD
  have e1 : A * K * D = A * (D * K) := by ac_rfl
  rw [e1, h]
  have e2 : X * Y * B * D = X * (Y * D) * B := by ac_rfl
  rw [e2]
  exact Nat.mul_le_mul_right _ (Nat.mul_le_mul hx hN)
theorem lin_low {A B x N D K X Y : Nat} (hD : 0 < D) (h : A * (D * K) = x * N * B) (hx : X ≤ x) (hN : Y * D ≤ N) : X * Y * B ≤ A * K := by
  apply Nat.le_of_mul_le_mul_right (c := D) _ hD
  have e1 : A * K * D = A * (D * K) := by ac_rfl
  rw [e1, h]
  have e2 : X * Y * B * D = X * (Y * D) * B := by ac_rfl
  rw [e2]
  exact Nat.mul_le_mul_right _ (Nat.mul_le_mul hx hN)

/-- What parseFloat64 reckons, without the sign: b is d's length in bits, row i of the table is hi, lo. -/
def parF (d b i hi lo : Nat) : Nat :=
  let f : Int := if 53 - (b : Int) - lpOf ((i : Int) - 348) < 1074 then 53 - (b : Int) - lpOf ((i : Int) - 348) else 1074
  let s := (61 - (b : Int) - lpOf ((i : Int) - 348) - f).toNat
  if 64 ≤ s then 0
  else
    let u := usc (d * 2 ^ (64 - b)) hi lo s
    if 2 ^ 55 - 2 ≤ u then packF (urnd (halfU u)) (f - 1) else packF (urnd u) f
theorem half_le {A B A' B' : Nat} (hB : 0 < B) (hB' : 0 < B') (h : A * B' = 2 * A' * B) (c k : Nat) : c * A ≤ 2 * k * B ↔ c * A' ≤ k * B' := by
  have e1 : c * A * B' = 2 * (c * A' * B) := by rw [Nat.mul_assoc, h]; ac_rfl
  have e2 : 2 * k * B * B' = 2 * (k * B' * B) := by ac_rfl
  constructor
  · intro g
    have := Nat.mul_le_mul_right B' g
    rw [e1, e2] at this
    exact Nat.le_of_mul_le_mul_right (Nat.le_of_mul_le_mul_left this (by decide)) hB
  · intro g
    have := Nat.mul_le_mul_left 2 (Nat.mul_le_mul_right B g)
    rw [← e1, ← e2] at this
    exact Nat.le_of_mul_le_mul_right this hB'
theorem half_ge {A B A' B' : Nat} (hB : 0 < B) (hB' : 0 < B') (h : A * B' = 2 * A' * B) (c k : Nat) : 2 * k * B ≤ c * A ↔ k * B' ≤ c * A' := by
  have e1 : c * A * B' = 2 * (c * A' * B) := by rw [Nat.mul_assoc, h]; ac_rfl
  have e2 : 2 * k * B * B' = 2 * (k * B' * B) := by ac_rfl
  constructor
  · intro g
    have := Nat.mul_le_mul_right B' g
    rw [e1, e2] at this
    exact Nat.le_of_mul_le_mul_right (Nat.le_of_mul_le_mul_left this (by decide)) hB
  · intro g
    have := Nat.mul_le_mul_left 2 (Nat.mul_le_mul_right B g)
    rw [← e1, ← e2] at this
    exact Nat.le_of_mul_le_mul_right this hB'
/-- From the unrounded number of four times the fraction to its nearest float. -/
theorem fin_right (A B a b : Nat) (f : Int) (hb : 0 < b) (hf : f ≤ 1074) (hA : numF f a = A) (hB : denF f b = B) (h52 : f = 1074 ∨ 2 ^ 52 * B ≤ A)
    (h54 : A ≤ (2 ^ 54 - 2) * B) : NB a b (if 2 ^ 55 - 2 ≤ unr (4 * A) B then packF (urnd (halfU (unr (4 * A) B))) (f - 1) else packF (urnd (unr (4 * A) B)) f) := by
  have hB0 : 0 < B := by rw [← hB]; exact denF_pos f hb
  obtain ⟨A', hA'⟩ : ∃ A', numF (f - 1) a = A' := ⟨_, rfl⟩
  obtain ⟨B', hB'⟩ : ∃ B', denF (f - 1) b = B' := ⟨_, rfl⟩
  have hB0' : 0 < B' := by rw [← hB']; exact denF_pos (f - 1) hb
  have up := scale_up (f - 1) f (by omega) a b
  rw [show (f - (f - 1)).toNat = 1 by omega, hA, hB, hA', hB', Nat.pow_one] at up
  have hh : halfU (unr (4 * A) B) = unr (4 * A') B' := by
    rw [unr_half _ _ hB0]
    apply unr_ratio (Nat.mul_pos hB0 (by decide)) hB0'
    rw [Nat.mul_assoc, up]
    ac_rfl
  rw [hh, unr_rnd _ _ hB0, unr_rnd _ _ hB0']
  have n55 : (2 : Nat) ^ 55 - 2 = 2 * (2 ^ 54 - 1) := by decide
  rw [n55]
  have ge := unr_ge (4 * A) B (2 ^ 54 - 1) hB0
  by_cases hbig : 2 * (2 ^ 54 - 1) ≤ unr (4 * A) B
  · rw [if_pos hbig]
    have h4 := ge.1 hbig
    rcases Nat.lt_or_ge A (2 ^ 53 * B) with hlt | hge
    · refine ⟨f, hf, by rw [hA, hB]; exact hlt, by rw [hA, hB]; exact h52, ?_⟩
      rw [hA, hB]
      have r1 : rnd A B = 2 ^ 53 := rnd_uniq hB0 (by omega) (by omega) (fun _ => by decide) (fun _ => by decide)
      have g1 : (2 ^ 54 - 1) * B' ≤ 4 * A' := (half_ge hB0 hB0' up 4 (2 ^ 54 - 1)).1 h4
      have g2 : 1 * A' ≤ 2 ^ 52 * B' := (half_le hB0 hB0' up 1 (2 ^ 52)).1 (by omega)
      have r2 : rnd A' B' = 2 ^ 52 := rnd_uniq hB0' (by omega) (by omega) (fun _ => by decide) (fun _ => by decide)
      rw [r1, r2]
      unfold finF
      rw [if_pos rfl]
    · have g1 : 2 ^ 52 * B' ≤ 1 * A' := (half_ge hB0 hB0' up 1 (2 ^ 52)).1 (by omega)
      have g2 : 1 * A' ≤ (2 ^ 53 - 1) * B' := (half_le hB0 hB0' up 1 (2 ^ 53 - 1)).1 (by omega)
      refine ⟨f - 1, by omega, by rw [hA', hB']; omega, by rw [hA', hB']; exact .inr (by omega), ?_⟩
      rw [hA', hB']
      have r1 : rnd A' B' ≠ 2 ^ 53 := by
        intro h
        have := (rnd_spec A' B' hB0').1
        rw [h] at this
        omega
      unfold finF
      rw [if_neg r1]
  · rw [if_neg hbig]
    have h4 : 4 * A < 2 * (2 ^ 54 - 1) * B := by
      rcases Nat.lt_or_ge (4 * A) (2 * (2 ^ 54 - 1) * B) with h | h
      · exact h
      · exact absurd (ge.2 h) hbig
    refine ⟨f, hf, by rw [hA, hB]; omega, by rw [hA, hB]; exact h52, ?_⟩
    rw [hA, hB]
    have r1 : rnd A B ≠ 2 ^ 53 := by
      intro h
      have := (rnd_spec A B hB0).1
      rw [h] at this
      omega
    unfold finF
    rw [if_neg r1]

/-- PARSEFLOAT64 IS RIGHT: of d and a power of ten it makes the nearest float, if the table's row is the power, rounded up. -/
theorem parF_right (d b i hi lo : Nat) (hi6 : i < 696) (hb1 : 1 ≤ b) (hb64 : b ≤ 64) (hd1 : 2 ^ (b - 1) ≤ d) (hd2 : d < 2 ^ b) (hlo : lo < 2 ^ 64)
    (hN2 : numP i + lo * denP i ≤ hi * 2 ^ 64 * denP i) (hN1 : hi * 2 ^ 64 * denP i < numP i + lo * denP i + denP i) :
    NB (valN d i) (valD i) (parF d b i hi lo) := by
  unfold parF
  have hv := valD_pos i
  have hD := denP_pos i
  have hx1 : 2 ^ 63 ≤ d * 2 ^ (64 - b) := by
    have e : (2 : Nat) ^ 63 = 2 ^ (b - 1) * 2 ^ (64 - b) := by rw [← Nat.pow_add]; congr 1; omega
    rw [e]
    exact Nat.mul_le_mul_right _ hd1
  have hx2 : d * 2 ^ (64 - b) < 2 ^ 64 := by
    have e : (2 : Nat) ^ 64 = 2 ^ b * 2 ^ (64 - b) := by rw [← Nat.pow_add]; congr 1; omega
    rw [e]
    exact Nat.mul_lt_mul_of_pos_right hd2 (Nat.pow_pos (by omega))
  obtain ⟨bn1, bn2⟩ := bnd hi6
  have rat := ratio d i (64 - b)
  generalize hl : lpOf ((i : Int) - 348) = l at *
  obtain ⟨f, hf⟩ : ∃ f : Int, (if 53 - (b : Int) - l < 1074 then 53 - (b : Int) - l else 1074) = f := ⟨_, rfl⟩
  have hf2 : f = 53 - (b : Int) - l ∧ f < 1074 ∨ f = 1074 ∧ 1074 ≤ 53 - (b : Int) - l := by
    rw [← hf]
    split <;> omega
  rw [hf]
  obtain ⟨s, hs⟩ : ∃ s : Nat, (61 - (b : Int) - l - f).toNat = s := ⟨_, rfl⟩
  have hs8 : 8 ≤ s := by omega
  have hsf : (f < 1074 ∧ s = 8) ∨ f = 1074 := by omega
  have R := rat (s + 130) f (by omega)
  obtain ⟨A, hA⟩ : ∃ A, numF f (valN d i) = A := ⟨_, rfl⟩
  obtain ⟨B, hB⟩ : ∃ B, denF f (valD i) = B := ⟨_, rfl⟩
  have hB0 : 0 < B := by rw [← hB]; exact denF_pos f hv
  rw [hA, hB] at R
  show NB (valN d i) (valD i) (if 64 ≤ (61 - (b : Int) - l - f).toNat then 0 else _)
  rw [hs]
  generalize d * 2 ^ (64 - b) = x at *
  have upper := lin_up hD R.symm (Nat.le_of_lt hx2) bn2
  have lower := lin_low hD R.symm hx1 bn1
  rw [Nat.pow_add] at upper lower
  by_cases h64 : 64 ≤ s
  · rw [if_pos h64]
    have hf1074 : f = 1074 := by omega
    have p64 : 2 ^ 64 ≤ 2 ^ s := Nat.pow_le_pow_right (by omega) h64
    have h4 : 4 * A < B := by
      have t : A * (2 ^ 64 * 2 ^ 130) ≤ A * (2 ^ s * 2 ^ 130) := Nat.mul_le_mul_left _ (Nat.mul_le_mul_right _ p64)
      have t2 := Nat.le_trans t upper
      omega
    refine ⟨f, by omega, by rw [hA, hB]; omega, .inl hf1074, ?_⟩
    rw [hA, hB]
    have r0 : rnd A B = 0 := rnd_uniq hB0 (by omega) (by omega) (fun _ => rfl) (fun _ => rfl)
    rw [r0]
    unfold finF packF
    rw [if_neg (by decide), if_pos (by decide)]
  · rw [if_neg h64]
    have hu : usc x hi lo s = unr (4 * A) B := by
      rw [usc_right x hi lo s (numP i) (denP i) hx2 (by omega) hlo hD hN2 hN1 (fun k h1 h2 => row_none hi6 s hs8 hx1 hx2 k h1 h2)]
      apply unr_ratio (Nat.mul_pos (Nat.mul_pos (by decide) (Nat.mul_pos (by decide) hD)) (Nat.pow_pos (by decide))) hB0
      rw [R, Nat.pow_add]
      have e : (2 : Nat) ^ 130 = 4 * (2 ^ 64 * 2 ^ 64) := by decide
      rw [e]
      ac_rfl
    show NB (valN d i) (valD i) (if 2 ^ 55 - 2 ≤ usc x hi lo s then _ else _)
    rw [hu]
    have p8 : 2 ^ 8 ≤ 2 ^ s := Nat.pow_le_pow_right (by omega) hs8
    refine fin_right A B _ _ f hv (by omega) hA hB ?_ ?_
    · rcases hsf with ⟨_, h⟩ | h
      · right
        rw [h] at lower
        omega
      · exact .inl h
    · have t : A * (2 ^ 8 * 2 ^ 130) ≤ A * (2 ^ s * 2 ^ 130) := Nat.mul_le_mul_left _ (Nat.mul_le_mul_right _ p8)
      have t2 := Nat.le_trans t upper
      omega
end Go.Proofs.YtcjeeoadgoghfaaGreatDoor.Usc

namespace Go.Proofs.YtcjeeoadgoghfaaGreatDoor.Usc
set_option linter.unusedVariables false

/-- The row of a power of ten: the power, scaled to 128 bits and rounded up, is hi 2 ^ 64 - lo. -/
def pmOf (i : Nat) : Nat := (numP i + denP i - 1) / denP i
def rowHi (i : Nat) : Nat := (pmOf i + (2 ^ 64 - 1)) / 2 ^ 64
def rowLo (i : Nat) : Nat := rowHi i * 2 ^ 64 - pmOf i
theorem row_good (i : Nat) : rowLo i < 2 ^ 64 ∧ numP i + rowLo i * denP i ≤ rowHi i * 2 ^ 64 * denP i ∧ rowHi i * 2 ^ 64 * denP i < numP i + rowLo i * denP i + denP i := by
  have hD := denP_pos i
  have e := Nat.div_add_mod (numP i + denP i - 1) (denP i)
  have m := Nat.mod_lt (numP i + denP i - 1) hD
  have e2 := Nat.div_add_mod (pmOf i + (2 ^ 64 - 1)) (2 ^ 64)
  have m2 := Nat.mod_lt (pmOf i + (2 ^ 64 - 1)) (show 0 < 2 ^ 64 by decide)
  have d1 : (numP i + denP i - 1) / denP i = pmOf i := rfl
  have d2 : (pmOf i + (2 ^ 64 - 1)) / 2 ^ 64 = rowHi i := rfl
  have d3 : rowLo i = rowHi i * 2 ^ 64 - pmOf i := rfl
  rw [d1] at e
  rw [d2] at e2
  have hP : 0 < (2 : Nat) ^ 64 := by decide
  generalize (2 : Nat) ^ 64 = P at *
  generalize rowHi i = hi at *
  generalize pmOf i = pm at *
  have c : P * hi = hi * P := Nat.mul_comm _ _
  have h1 : pm ≤ hi * P := by omega
  have d4 : hi * P = pm + rowLo i := by omega
  rw [d4, Nat.add_mul]
  have c2 : denP i * pm = pm * denP i := Nat.mul_comm _ _
  generalize rowLo i * denP i = z
  refine ⟨by omega, by omega, by omega⟩

theorem parF_table (d b i : Nat) (hi6 : i < 696) (hb1 : 1 ≤ b) (hb64 : b ≤ 64) (hd1 : 2 ^ (b - 1) ≤ d) (hd2 : d < 2 ^ b) : NB (valN d i) (valD i) (parF d b i (rowHi i) (rowLo i)) := by
  obtain ⟨h1, h2, h3⟩ := row_good i
  exact parF_right d b i _ _ hi6 hb1 hb64 hd1 hd2 h1 h2 h3

theorem numF_nat (k a : Nat) : numF (k : Int) a = a * 2 ^ k := by unfold numF; rw [Int.toNat_natCast]
theorem numF_neg (k a : Nat) : numF (-(k : Int)) a = a := by unfold numF; rw [show (-(k : Int)).toNat = 0 by omega, Nat.pow_zero, Nat.mul_one]
theorem two_a (j k l : Nat) (h : j = k + l) : (2 : Nat) ^ j = 2 ^ k * 2 ^ l := by rw [h, Nat.pow_add]
theorem two_s (j k : Nat) (h : j = k + 1) : (2 : Nat) ^ j = 2 * 2 ^ k := by rw [h, Nat.pow_succ']
theorem denF_neg (k : Nat) : denF (-(k : Int)) 1 = 2 ^ k := by unfold denF; rw [Int.neg_neg, Int.toNat_natCast, Nat.one_mul]
theorem rnd_mul (m b : Nat) (hb : 0 < b) : rnd (m * b) b = m := by
  unfold rnd
  rw [Nat.mul_mod_left, if_pos (by omega), Nat.mul_div_cancel _ hb]
theorem two_p (k : Nat) : 0 < (2 : Nat) ^ k := Nat.two_pow_pos k
theorem NB_le_inf {a b x : Nat} (hb : 0 < b) (hx : NB a b x) : x ≤ 2047 * 2 ^ 52 := by
  obtain ⟨f, f1, f2, f3, rfl⟩ := hx
  have hdn := denF_pos f hb
  rw [← word_fin _ f f1 (rnd_lt hdn f2) (by
    rcases f3 with h | h
    · exact .inl h
    · exact .inr (rnd_ge hdn h))]
  exact Nat.min_le_right _ _
/-- From 2 ^ 1024 on it is infinity's word. -/
theorem NB_inf {a b : Nat} (hb : 0 < b) (h : 2 ^ 1024 * b ≤ a) : NB a b (2047 * 2 ^ 52) := by
  obtain ⟨x, hx⟩ := NB_ex a b hb
  have top : NB (2 ^ 1024) 1 (2047 * 2 ^ 52) := by
    have h1 := numF_neg 972 (2 ^ 1024)
    rw [show -((972 : Nat) : Int) = -972 by decide] at h1
    have h2 : denF (-972) 1 = 2 ^ 972 := denF_neg 972
    have e : (2 : Nat) ^ 1024 = 2 ^ 52 * 2 ^ 972 := two_a 1024 52 972 rfl
    have hY := two_p 972
    generalize (2 : Nat) ^ 972 = Y at *
    refine ⟨-972, by decide, ?_, .inr ?_, ?_⟩
    · rw [h1, h2, e]
      exact Nat.mul_lt_mul_of_pos_right (by decide) hY
    · rw [h1, h2, e]
      exact Nat.le_refl _
    · rw [h1, h2, e]
      have : rnd (2 ^ 52 * Y) Y = 2 ^ 52 := rnd_mul _ _ hY
      rw [this]
      unfold finF packF
      rw [if_neg (by decide), if_neg (Nat.lt_irrefl _), if_pos (by decide)]
  have g := NB_mono (by decide) hb (by rw [Nat.mul_one]; exact h) top hx
  have := NB_le_inf hb hx
  rw [show 2047 * 2 ^ 52 = x by omega]
  exact hx
/-- Below 2 ^ -1075 it is 0. -/
theorem NB_zero {a b : Nat} (hb : 0 < b) (h : a * 2 ^ 1075 < b) : NB a b 0 := by
  have h1 : numF 1074 a = a * 2 ^ 1074 := numF_nat 1074 a
  have h2 : denF 1074 b = b := by unfold denF; rw [show (-(1074) : Int).toNat = 0 by decide, Nat.pow_zero, Nat.mul_one]
  have e0 : ∀ y z : Nat, y = 2 * z → a * y = 2 * (a * z) := fun y z h => by rw [h]; ac_rfl
  have e := e0 (2 ^ 1075) (2 ^ 1074) (two_s 1075 1074 rfl)
  rw [e] at h
  refine ⟨1074, Int.le_refl _, ?_, .inl rfl, ?_⟩
  · rw [h1, h2]
    generalize a * 2 ^ 1074 = z at *
    omega
  · rw [h1, h2]
    generalize a * 2 ^ 1074 = z at *
    have : rnd z b = 0 := rnd_uniq hb (by omega) (by omega) (fun _ => rfl) (fun _ => rfl)
    rw [this]
    unfold finF packF
    rw [if_neg (by decide), if_pos (by decide)]
end Go.Proofs.YtcjeeoadgoghfaaGreatDoor.Usc
