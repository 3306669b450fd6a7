/- What is replaced in a text, as functions of what is found: the matches that count, what a match is replaced by, the text that comes of it. -/
import Derived.Test.YtacbpdnpepgngaaProg

namespace Go.Proofs.Ytacbpdnpepgngaa.wrd
set_option linter.unusedVariables false set_option linter.unusedSimpArgs false

/-- What is found from a place on: where it begins and where it ends. -/
abbrev Fd := Nat → Option (Nat × Nat)
def Fits (f : Fd) (n : Nat) : Prop := ∀ p i e, f p = some (i, e) → p ≤ i ∧ i ≤ e ∧ e ≤ n

/-- What is gone through behind a match. -/
def nxt (i e : Nat) : Nat := if i < e then e else e + 1
/-- The end of the last one that isn't empty, and 1. -/
def lst (la i e : Nat) : Nat := if i < e then e + 1 else la
/-- The matches that count, from a place on. -/
def hits (f : Fd) : Nat → Nat → Nat → List (Nat × Nat)
  | 0, _, _ => []
  | k + 1, p, la => match f p with
    | none => []
    | some (i, e) => if la ≤ e then (i, e) :: hits f k (nxt i e) (lst la i e) else hits f k (nxt i e) (lst la i e)

theorem hits_none {f : Fd} {k p la : Nat} (h : f p = none) : hits f k p la = [] := by
  cases k with
  | zero => rfl
  | succ k => unfold hits; rw [h]
theorem hits_some {f : Fd} {k p la i e : Nat} (h : f p = some (i, e)) (hk : 0 < k) : hits f k p la = if la ≤ e then (i, e) :: hits f (k - 1) (nxt i e) (lst la i e) else hits f (k - 1) (nxt i e) (lst la i e) := by
  cases k with
  | zero => omega
  | succ k => conv => lhs; unfold hits
              rw [h]; rfl
/-- More rounds change nothing where there are enough. -/
theorem hits_more {f : Fd} {n : Nat} (hf : Fits f n) : ∀ (k k' p la : Nat), n + 2 ≤ k + p → n + 2 ≤ k' + p → (n < p → f p = none) → (∀ q, n < q → f q = none) → hits f k p la = hits f k' p la := by
  intro k
  induction k with
  | zero =>
    intro k' p la h1 h2 h3 h4
    rw [hits_none (h4 p (by omega)), hits_none (h4 p (by omega))]
  | succ k ih =>
    intro k' p la h1 h2 h3 h4
    cases hp : f p with
    | none => rw [hits_none hp, hits_none hp]
    | some x =>
      obtain ⟨i, e⟩ := x
      obtain ⟨g1, g2, g3⟩ := hf p i e hp
      have hk' : 0 < k' := by omega
      have hn : p < nxt i e := by unfold nxt; split <;> omega
      rw [hits_some hp (Nat.succ_pos k), hits_some hp hk']
      have := ih (k' - 1) (nxt i e) (lst la i e) (by omega) (by omega) (fun h => h4 _ h) h4
      rw [show k.succ - 1 = k from rfl, this]
/-- The matches rise. -/
def Rise (n : Nat) : Nat → List (Nat × Nat) → Prop
  | _, [] => True
  | d, (i, e) :: r => d ≤ i ∧ i ≤ e ∧ e ≤ n ∧ Rise n e r
theorem Rise.low {n : Nat} : ∀ {l : List (Nat × Nat)} {d d' : Nat}, Rise n d l → d' ≤ d → Rise n d' l
  | [], _, _, _, _ => trivial
  | (i, e) :: r, _, _, ⟨h1, h2, h3, h4⟩, h => ⟨Nat.le_trans h h1, h2, h3, h4⟩
theorem hits_rise {f : Fd} {n : Nat} (hf : Fits f n) : ∀ (k p la d : Nat), d ≤ p → Rise n d (hits f k p la) := by
  intro k
  induction k with
  | zero => intros; exact trivial
  | succ k ih =>
    intro p la d hd
    cases hp : f p with
    | none => rw [hits_none hp]; exact trivial
    | some x =>
      obtain ⟨i, e⟩ := x
      obtain ⟨g1, g2, g3⟩ := hf p i e hp
      have hn : e ≤ nxt i e := by unfold nxt; split <;> omega
      rw [hits_some hp (Nat.succ_pos k), show k.succ - 1 = k from rfl]
      split
      · exact ⟨by omega, g2, g3, ih _ _ _ hn⟩
      · exact ih _ _ _ (by omega)
theorem hits_len {f : Fd} : ∀ (k p la : Nat), (hits f k p la).length ≤ k := by
  intro k
  induction k with
  | zero => intros; exact Nat.le_refl _
  | succ k ih =>
    intro p la
    unfold hits
    cases f p with
    | none => exact Nat.zero_le _
    | some x =>
      obtain ⟨i, e⟩ := x
      show (if la ≤ e then (i, e) :: hits f k (nxt i e) (lst la i e) else hits f k (nxt i e) (lst la i e)).length ≤ k + 1
      split
      · exact Nat.succ_le_succ (ih _ _)
      · exact Nat.le_succ_of_le (ih _ _)

/-- Where the last one ends. -/
def dn : Nat → List (Nat × Nat) → Nat
  | d, [] => d
  | _, (_, e) :: r => dn e r
theorem dn_app (d : Nat) (l r : List (Nat × Nat)) : dn d (l ++ r) = dn (dn d l) r := by
  induction l generalizing d with
  | nil => rfl
  | cons x l ih => exact ih _
theorem rise_app {n : Nat} : ∀ {l r : List (Nat × Nat)} {d : Nat}, Rise n d (l ++ r) → Rise n d l ∧ Rise n (dn d l) r
  | [], _, _, h => ⟨trivial, h⟩
  | (i, e) :: l, r, _, ⟨h1, h2, h3, h4⟩ => ⟨⟨h1, h2, h3, (rise_app h4).1⟩, (rise_app h4).2⟩
theorem rise_dn {n : Nat} : ∀ {l : List (Nat × Nat)} {d : Nat}, Rise n d l → d ≤ n → d ≤ dn d l ∧ dn d l ≤ n
  | [], _, _, h => ⟨Nat.le_refl _, h⟩
  | (i, e) :: l, _, ⟨h1, h2, h3, h4⟩, _ => by
    have := rise_dn h4 h3
    exact ⟨Nat.le_trans (Nat.le_trans h1 h2) this.1, this.2⟩

/-- The bytes from a place up to another one. -/
def mid (s : List UInt8) (i e : Nat) : List UInt8 := (s.drop i).take (e - i)
theorem mid_len {s : List UInt8} {i e : Nat} (h : e ≤ s.length) : (mid s i e).length = e - i := by
  unfold mid
  rw [List.length_take, List.length_drop]
  omega
theorem mid_mid {s : List UInt8} {a b c : Nat} (h : a ≤ b) (k : b ≤ c) : mid s a b ++ mid s b c = mid s a c := by
  unfold mid
  have e1 : c - a = (b - a) + (c - b) := by omega
  rw [e1, List.take_add, List.drop_drop]
  have e2 : a + (b - a) = b := by omega
  rw [e2]
theorem mid_drop {s : List UInt8} {a b : Nat} (h : a ≤ b) : mid s a b ++ s.drop b = s.drop a := by
  unfold mid
  have e2 : s.drop b = (s.drop a).drop (b - a) := by
    rw [List.drop_drop]
    have : a + (b - a) = b := by omega
    rw [this]
  rw [e2, List.take_append_drop]
theorem mid_self (s : List UInt8) (a : Nat) : mid s a a = [] := by unfold mid; simp

/-- What stands up to the last match's end, replaced. -/
def txt (by_ : List UInt8 → List UInt8) (s : List UInt8) : Nat → List (Nat × Nat) → List UInt8
  | _, [] => []
  | d, (i, e) :: r => mid s d i ++ (by_ (mid s i e) ++ txt by_ s e r)
theorem txt_app (by_ : List UInt8 → List UInt8) (s : List UInt8) (l r : List (Nat × Nat)) : ∀ d, txt by_ s d (l ++ r) = txt by_ s d l ++ txt by_ s (dn d l) r := by
  induction l with
  | nil => intro d; rfl
  | cons x l ih =>
    intro d
    obtain ⟨i, e⟩ := x
    show mid s d i ++ (by_ (mid s i e) ++ txt by_ s e (l ++ r)) = (mid s d i ++ (by_ (mid s i e) ++ txt by_ s e l)) ++ txt by_ s (dn e l) r
    rw [ih e]
    simp only [List.append_assoc]
theorem txt_snoc (by_ : List UInt8 → List UInt8) (s : List UInt8) (l : List (Nat × Nat)) (i e d : Nat) : txt by_ s d (l ++ [(i, e)]) = txt by_ s d l ++ (mid s (dn d l) i ++ by_ (mid s i e)) := by
  rw [txt_app]
  show _ ++ (mid s (dn d l) i ++ (by_ (mid s i e) ++ [])) = _
  rw [List.append_nil]
theorem dn_snoc (l : List (Nat × Nat)) (i e d : Nat) : dn d (l ++ [(i, e)]) = e := by rw [dn_app]; rfl
/-- The whole. -/
def whl (by_ : List UInt8 → List UInt8) (s : List UInt8) (H : List (Nat × Nat)) : List UInt8 := txt by_ s 0 H ++ s.drop (dn 0 H)
theorem whl_pre (by_ : List UInt8 → List UInt8) (s : List UInt8) (l r : List (Nat × Nat)) : (txt by_ s 0 l).length ≤ (whl by_ s (l ++ r)).length := by
  unfold whl
  rw [txt_app]
  simp only [List.length_append]
  omega
theorem whl_mid (by_ : List UInt8 → List UInt8) (s : List UInt8) (l r : List (Nat × Nat)) (i e : Nat) : (txt by_ s 0 l ++ mid s (dn 0 l) i).length ≤ (whl by_ s (l ++ (i, e) :: r)).length := by
  unfold whl
  rw [txt_app]
  show _ ≤ ((txt by_ s 0 l ++ (mid s (dn 0 l) i ++ (by_ (mid s i e) ++ txt by_ s e r))) ++ _).length
  simp only [List.length_append]
  omega
theorem txt_len {by_ : List UInt8 → List UInt8} {s : List UInt8} {m : Nat} (hb : ∀ l : List UInt8, l.length ≤ s.length → (by_ l).length ≤ m) : ∀ (l : List (Nat × Nat)) (d : Nat), Rise s.length d l → (txt by_ s d l).length + d ≤ l.length * m + dn d l := by
  intro l
  induction l with
  | nil => intro d _; show 0 + d ≤ 0 * m + d; omega
  | cons x l ih =>
    intro d h
    obtain ⟨i, e⟩ := x
    obtain ⟨h1, h2, h3, h4⟩ := h
    have := ih e h4
    have hb' := hb (mid s i e) (by rw [mid_len h3]; omega)
    show (mid s d i ++ (by_ (mid s i e) ++ txt by_ s e l)).length + d ≤ (l.length + 1) * m + dn e l
    rw [List.length_append, List.length_append, mid_len (Nat.le_trans h2 h3), Nat.succ_mul]
    omega

/-- What a match is replaced by. -/
def byF (m : List UInt8) : List UInt8 → List UInt8
  | [] => []
  | c :: t => if c = 38 then m ++ byF m t else if c = 92 then (match t with
    | [] => [92]
    | b :: t' => if b = 38 ∨ b = 92 then b :: byF m t' else 92 :: byF m (b :: t')) else c :: byF m t
theorem byF_nil (m : List UInt8) : byF m [] = [] := rfl
theorem byF_amp (m t : List UInt8) : byF m (38 :: t) = m ++ byF m t := by rw [byF.eq_def]; dsimp only; rfl
theorem byF_esc (m t : List UInt8) {b : UInt8} (h : b = 38 ∨ b = 92) : byF m (92 :: b :: t) = b :: byF m t := by
  rw [byF.eq_def]
  dsimp only
  have e : ¬ (92 : UInt8) = 38 := by decide
  rw [if_neg e, if_pos rfl]
  show (if b = 38 ∨ b = 92 then _ else _) = _
  rw [if_pos h]
theorem byF_sla (m t : List UInt8) (h : ∀ b t', t = b :: t' → ¬ (b = 38 ∨ b = 92)) : byF m (92 :: t) = 92 :: byF m t := by
  rw [byF.eq_def]
  dsimp only
  have e : ¬ (92 : UInt8) = 38 := by decide
  rw [if_neg e, if_pos rfl]
  cases t with
  | nil => rfl
  | cons b t' => show (if b = 38 ∨ b = 92 then _ else _) = _; rw [if_neg (h b t' rfl)]
theorem byF_oth (m t : List UInt8) {c : UInt8} (h : c ≠ 38) (k : c ≠ 92) : byF m (c :: t) = c :: byF m t := by
  rw [byF.eq_def]
  dsimp only
  rw [if_neg h, if_neg k]

/-- Does a \ stand there that isn't itself? -/
def esc : List UInt8 → Bool
  | 92 :: b :: _ => b == 38 || b == 92
  | _ => false
/-- What it is replaced by, in parts. -/
def parts : List UInt8 → List UInt8 → List (List UInt8)
  | [], cur => [cur]
  | c :: t, cur => if c = 38 then cur :: parts t [] else if c = 92 then (match t with
    | [] => [cur ++ [92]]
    | b :: t' => if b = 38 ∨ b = 92 then parts t' (cur ++ [b]) else parts (b :: t') (cur ++ [92])) else parts t (cur ++ [c])
/-- The parts, with m between. -/
def joinP (m : List UInt8) : List (List UInt8) → List UInt8
  | [] => []
  | [a] => a
  | a :: b :: r => a ++ (m ++ joinP m (b :: r))
theorem parts_ne : ∀ (l cur : List UInt8), parts l cur ≠ [] := by
  intro l
  induction h : l.length using Nat.strongRecOn generalizing l with
  | _ n ih =>
    intro cur
    cases l with
    | nil => intro e; cases e
    | cons c t =>
      rw [parts.eq_def]
      dsimp only
      split
      · intro e; cases e
      · split
        · cases t with
          | nil => intro e; cases e
          | cons b t' =>
            show (if b = 38 ∨ b = 92 then _ else _) ≠ _
            split
            · exact ih t'.length (by rw [← h]; simp; omega) t' rfl _
            · exact ih (b :: t').length (by rw [← h]; simp) (b :: t') rfl _
        · exact ih t.length (by rw [← h]; simp) t rfl _
theorem join_cons (m a : List UInt8) {r : List (List UInt8)} (h : r ≠ []) : joinP m (a :: r) = a ++ (m ++ joinP m r) := by
  cases r with
  | nil => exact absurd rfl h
  | cons b r => rfl
theorem join_parts (m : List UInt8) : ∀ (l cur : List UInt8), joinP m (parts l cur) = cur ++ byF m l := by
  intro l
  induction h : l.length using Nat.strongRecOn generalizing l with
  | _ n ih =>
    intro cur
    cases l with
    | nil => show cur = cur ++ []; rw [List.append_nil]
    | cons c t =>
      rw [parts.eq_def, byF.eq_def]
      dsimp only
      split
      · rw [join_cons _ _ (parts_ne _ _), ih t.length (by rw [← h]; simp) t rfl]
        rfl
      · split
        · rename_i h92
          cases t with
          | nil => rfl
          | cons b t' =>
            show joinP m (if b = 38 ∨ b = 92 then _ else _) = cur ++ (if b = 38 ∨ b = 92 then _ else _)
            split
            · rw [ih t'.length (by rw [← h]; simp; omega) t' rfl, List.append_assoc]; rfl
            · rw [ih (b :: t').length (by rw [← h]; simp) (b :: t') rfl, List.append_assoc]; rfl
        · rw [ih t.length (by rw [← h]; simp) t rfl, List.append_assoc]; rfl
theorem byF_len (m : List UInt8) : ∀ (l : List UInt8), (byF m l).length ≤ l.length * (m.length + 1) := by
  intro l
  induction h : l.length using Nat.strongRecOn generalizing l with
  | _ n ih =>
    cases l with
    | nil => exact Nat.zero_le _
    | cons c t =>
      subst h
      rw [byF.eq_def, List.length_cons, Nat.succ_mul]
      dsimp only
      split
      · have := ih t.length (by simp) t rfl
        rw [List.length_append]; omega
      · split
        · cases t with
          | nil => show 1 ≤ _; omega
          | cons b t' =>
            show (if b = 38 ∨ b = 92 then b :: byF m t' else 92 :: byF m (b :: t')).length ≤ _
            split
            · have := ih t'.length (by simp; omega) t' rfl
              simp only [List.length_cons, Nat.succ_mul]
              omega
            · have := ih (b :: t').length (by simp) (b :: t') rfl
              rw [List.length_cons]; omega
        · have := ih t.length (by simp) t rfl
          rw [List.length_cons]; omega
end Go.Proofs.Ytacbpdnpepgngaa.wrd
