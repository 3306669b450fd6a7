/- What the lexer answers, as functions on lists of bytes. The parser, as functions on lists of tokens. No reading lengthens what is left; each reading of a node fails or takes a token. No reading changes of what kind the item is. Readings leave the count of loops as it was, and no > sends behind them. What reads tokens without a fault reads them the same with more tokens behind, an nl first, and no else behind ends. With more tokens behind: statements, items. -/
import Derived.Test.YtgbibfhacjjaeaaGreatFrm

namespace Go.Proofs.YtgbibfhacjjaeaaGreat.lexs
set_option linter.unusedVariables false set_option linter.unusedSimpArgs false

def isL (c : UInt8) : Bool := decide (97 ≤ c ∧ c ≤ 122 ∨ 65 ≤ c ∧ c ≤ 90 ∨ c = 95)
def isD (c : UInt8) : Bool := decide (48 ≤ c ∧ c ≤ 57)
def isO (c : UInt8) : Bool := decide (48 ≤ c ∧ c ≤ 55)
def isN (c : UInt8) : Bool := isL c || isD c
def nl (c : UInt8) : Bool := decide (c ≠ 10)
/-- How many bytes at the beginning are digits. -/
def dg (l : List UInt8) : Nat := (l.takeWhile isD).length

structure Tok where
  k : List UInt8
  t : List UInt8
deriving DecidableEq

def kNl : List UInt8 := [110, 108]
def kNum : List UInt8 := [110, 117, 109]
def kStr : List UInt8 := [115, 116, 114]
def kEre : List UInt8 := [101, 114, 101]
def kOp : List UInt8 := [111, 112]
def kName : List UInt8 := [110, 97, 109, 101]
def kFunc : List UInt8 := [102, 117, 110, 99]
def kWord : List UInt8 := [119, 111, 114, 100]
def kBuilt : List UInt8 := [98, 117, 105, 108, 116]
def kBarred : List UInt8 := [98, 97, 114, 114, 101, 100]

/-- What stands between tokens: one part of it. -/
def gp (l : List UInt8) : Nat := match l with
  | [] => 0
  | c :: t => if c = 32 ∨ c = 9 then 1 else if c = 92 then (if t.head? = some 10 then 2 else 0) else if c = 35 then (l.takeWhile nl).length else 0
theorem gp_le (l : List UInt8) : gp l ≤ l.length := by
  cases l with
  | nil => simp [gp]
  | cons c t =>
    simp only [gp]
    split
    · simp
    · split
      · split
        · cases t with
          | nil => simp at *
          | cons d t => simp
        · omega
      · split
        · have : ∀ (p : UInt8 → Bool) (l : List UInt8), (l.takeWhile p).length ≤ l.length := fun p l => by
            induction l with
            | nil => simp
            | cons c t ih => rw [List.takeWhile_cons]; split <;> simp; exact ih
          exact this _ _
        · omega
/-- All of it. -/
def gap (l : List UInt8) : Nat := if h : gp l = 0 then 0 else gp l + gap (l.drop (gp l))
termination_by l.length
decreasing_by
  have := gp_le l
  rw [List.length_drop]
  omega
theorem gap_eq (l : List UInt8) : gap l = if gp l = 0 then 0 else gp l + gap (l.drop (gp l)) := by
  rw [gap]
  split <;> simp [*]
theorem gap_le (l : List UInt8) : gap l ≤ l.length := by
  rw [gap_eq]
  split
  · omega
  · have h1 := gp_le l
    have h2 := gap_le (l.drop (gp l))
    rw [List.length_drop] at h2
    omega
termination_by l.length
decreasing_by
  have := gp_le l
  rw [List.length_drop]
  omega

/-- The e, the sign and the digits at the beginning. -/
def sg (l : List UInt8) : Nat := match l with
  | [] => 0
  | c :: _ => if c = 43 ∨ c = 45 then 1 else 0
def pw (l : List UInt8) : Nat := match l with
  | [] => 0
  | c :: t => if c = 101 ∨ c = 69 then (if dg (t.drop (sg t)) = 0 then 0 else 1 + sg t + dg (t.drop (sg t))) else 0
/-- A num's size. -/
def nm (l : List UInt8) : Nat :=
  let a := dg l
  let r := l.drop a
  if r.head? = some 46 then
    (let b := dg r.tail
     if a + b = 0 then 0 else a + 1 + b + pw (l.drop (a + 1 + b)))
  else (if a = 0 then 0 else a + pw r)

def ops2 : List (List UInt8) := [[62, 62], [33, 126], [43, 61], [45, 61], [42, 61], [47, 61], [37, 61], [94, 61], [61, 61], [60, 61], [62, 61], [33, 61], [43, 43], [45, 45], [38, 38], [124, 124]]
def ops1 : List UInt8 := [123, 125, 40, 41, 91, 93, 59, 44, 43, 45, 42, 47, 37, 94, 33, 62, 60, 63, 58, 126, 36, 61]
def opS (l : List UInt8) : Nat := match l with
  | [] => 0
  | c :: t => if (1 < l.length ∧ ops2.contains (l.take 2) = true) then 2 else if ops1.contains c then 1 else 0

def wordsL : List (List UInt8) := ["BEGIN", "END", "function", "delete", "in", "if", "else", "while", "do", "for", "break", "continue", "next", "exit", "return", "print", "printf"].map (·.toUTF8.data.toList)
def builtsL : List (List UInt8) := ["length", "substr", "index", "split", "sub", "gsub", "match", "sprintf", "tolower", "toupper", "int"].map (·.toUTF8.data.toList)
def barredL : List (List UInt8) := ["getline", "system", "close", "fflush", "nextfile", "rand", "srand", "sin", "cos", "atan2", "exp", "log", "sqrt", "func", "ENVIRON", "ARGV", "ARGC"].map (·.toUTF8.data.toList)
def kindL (l : List UInt8) : List UInt8 := if wordsL.contains l then kWord else if builtsL.contains l then kBuilt else if barredL.contains l then kBarred else kName

def bare (k l : List UInt8) (n : Nat) : Option (Tok × Nat) := if n = 0 then none else some (⟨k, l.take n⟩, n)
/-- A name's size (of what begins with a letter). -/
def ns (l : List UInt8) : Nat := 1 + (l.tail.takeWhile isN).length
def readName (l : List UInt8) : Option (Tok × Nat) :=
  let k := kindL (l.take (ns l))
  if k = kBarred then none
  else bare (if k = kName ∧ (l.drop (ns l)).head? = some 40 then kFunc else k) l (ns l)

/-- What stands between two quotes, behind the first one. -/
def qt (q : UInt8) : List UInt8 → Option (List UInt8)
  | [] => none
  | c :: t => if c = q then some [] else if c = 92 then (match t with
      | [] => none
      | d :: t' => (qt q t').map (fun r => c :: d :: r)) else (qt q t).map (fun r => c :: r)
/-- Each backslash has a byte behind it. -/
inductive Pair : List UInt8 → Prop
  | nil : Pair []
  | one (c : UInt8) (t : List UInt8) : c ≠ 92 → Pair t → Pair (c :: t)
  | two (d : UInt8) (t : List UInt8) : Pair t → Pair (92 :: d :: t)
theorem qt_cons {q c : UInt8} {t : List UInt8} : qt q (c :: t) = if c = q then some [] else if c = 92 then (match t with
      | [] => none
      | d :: t' => (qt q t').map (fun r => c :: d :: r)) else (qt q t).map (fun r => c :: r) := by
  cases t <;> rw [qt.eq_def]
theorem qt_ind {q : UInt8} {M : List UInt8 → List UInt8 → Prop} (h0 : ∀ t, M (q :: t) []) (h1 : ∀ c t r, c ≠ q → c ≠ 92 → qt q t = some r → M t r → M (c :: t) (c :: r)) (h2 : ∀ d t r, 92 ≠ q → qt q t = some r → M t r → M (92 :: d :: t) (92 :: d :: r)) :
    ∀ (n : Nat) (l r : List UInt8), l.length ≤ n → qt q l = some r → M l r := by
  intro n
  induction n with
  | zero =>
    intro l r hl h
    cases l with
    | nil => cases h
    | cons c t => simp at hl
  | succ n ih =>
    intro l r hl h
    cases l with
    | nil => cases h
    | cons c t =>
      rw [qt_cons] at h
      by_cases e1 : c = q
      · rw [if_pos e1] at h
        cases h
        subst e1
        exact h0 t
      · rw [if_neg e1] at h
        by_cases e2 : c = 92
        · rw [if_pos e2] at h
          cases t with
          | nil => cases h
          | cons d t' =>
            simp only at h
            cases hq : qt q t' with
            | none => rw [hq] at h; cases h
            | some r' =>
              rw [hq] at h
              cases h
              subst e2
              exact h2 d t' r' e1 hq (ih t' r' (by simp only [List.length_cons] at hl; omega) hq)
        · rw [if_neg e2] at h
          cases hq : qt q t with
          | none => rw [hq] at h; cases h
          | some r' =>
            rw [hq] at h
            cases h
            exact h1 c t r' e1 e2 hq (ih t r' (by simp only [List.length_cons] at hl; omega) hq)
theorem qt_pair (q : UInt8) (l r : List UInt8) (h : qt q l = some r) : Pair r :=
  qt_ind (M := fun _ r => Pair r) (fun _ => .nil) (fun c t r _ h2 _ ih => .one c r h2 ih) (fun d t r _ _ ih => .two d r ih) l.length l r (Nat.le_refl _) h

/-- The digits of base 8, three at most; their number. -/
def oc (l : List UInt8) : List UInt8 := (l.take 3).takeWhile isO
def ocV (l : List UInt8) : UInt8 := l.foldl (fun n c => n * 8 + (c - 48)) 0
/-- What a backslash's rest stands for, and its size. -/
def esc (l : List UInt8) : List UInt8 × Nat :=
  if (oc l).length ≠ 0 then ([ocV (oc l)], (oc l).length) else match l with
  | [] => ([92], 0)
  | d :: _ => (if d = 34 ∨ d = 92 ∨ d = 47 then [d] else if d = 97 then [7] else if d = 98 then [8] else if d = 102 then [12] else if d = 110 then [10] else if d = 114 then [13] else if d = 116 then [9] else if d = 118 then [11] else if d = 10 then [] else [92, d], 1)
def mStr (l : List UInt8) : Option (List UInt8) := match l with
  | [] => some []
  | c :: t => if c = 10 then none else if c = 92 then (mStr (t.drop (esc t).2)).map (fun r => (esc t).1 ++ r) else (mStr t).map (fun r => c :: r)
termination_by l.length
decreasing_by
  all_goals simp only [List.length_drop, List.length_cons]; omega
def mEre : List UInt8 → List UInt8
  | [] => []
  | c :: t => if c = 92 then (match t with
      | [] => [92]
      | d :: t' => if d = 47 then d :: mEre t' else 92 :: d :: mEre t') else c :: mEre t
def readStr (l : List UInt8) : Option (Tok × Nat) := match qt 34 l.tail with
  | none => none
  | some r => match mStr r with
    | none => none
    | some t => some (⟨kStr, t⟩, r.length + 2)
def readEre (l : List UInt8) : Option (Tok × Nat) := match qt 47 l.tail with
  | none => none
  | some r => if r.contains 10 then none else some (⟨kEre, mEre r⟩, r.length + 2)

/-- Does a token end an operand? -/
def ends (t : Tok) : Bool := if t.k = kNum ∨ t.k = kStr ∨ t.k = kEre ∨ t.k = kName then true else if t.k = kBuilt then decide (t.t = [108, 101, 110, 103, 116, 104]) else if t.k = kOp then decide (t.t = [41] ∨ t.t = [93] ∨ t.t = [36] ∨ t.t = [43, 43] ∨ t.t = [45, 45]) else false

/-- The token that a text begins with. -/
def readTok (l : List UInt8) (b : Bool) : Option (Tok × Nat) := match l with
  | [] => none
  | c :: _ => if c = 10 then some (⟨kNl, []⟩, 1) else if c = 34 then readStr l else if c = 47 ∧ b = false then readEre l else if isL c then readName l else if c = 46 ∨ isD c = true then bare kNum l (nm l) else bare kOp l (opS l)

/-- All tokens of a text whose first byte is of a token. -/
def lexF (l : List UInt8) (b : Bool) : Option (List Tok) := if h0 : l = [] then some [] else match readTok l b with
  | none => none
  | some (t, k) => if hk : 0 < k then (lexF ((l.drop k).drop (gap (l.drop k))) (ends t)).map (fun r => t :: r) else none
termination_by l.length
decreasing_by
  have : 0 < l.length := List.length_pos_iff.2 h0
  simp only [List.length_drop]
  omega
def lexL (l : List UInt8) : Option (List Tok) := if l.length > 65536 then none else match lexF (l.drop (gap l)) false with
  | none => none
  | some r => if r.length > 20000 then none else some r

theorem tw_len (p : UInt8 → Bool) (l : List UInt8) : (l.takeWhile p).length ≤ l.length := by
  induction l with
  | nil => simp
  | cons c t ih => rw [List.takeWhile_cons]; split <;> simp; exact ih
theorem dg_le (l : List UInt8) : dg l ≤ l.length := tw_len _ _
theorem sg_le (l : List UInt8) : sg l ≤ l.length := by
  cases l with
  | nil => simp [sg]
  | cons c t => simp only [sg, List.length_cons]; split <;> omega
theorem pw_le (l : List UInt8) : pw l ≤ l.length := by
  cases l with
  | nil => simp [pw]
  | cons c t =>
    simp only [pw]
    have h1 := sg_le t
    have h2 := dg_le (t.drop (sg t))
    rw [List.length_drop] at h2
    simp only [List.length_cons]
    split
    · split <;> omega
    · omega
theorem nm_le (l : List UInt8) : nm l ≤ l.length := by
  unfold nm
  have h1 := dg_le l
  have h2 := dg_le (l.drop (dg l)).tail
  have h3 := pw_le (l.drop (dg l + 1 + dg (l.drop (dg l)).tail))
  have h4 := pw_le (l.drop (dg l))
  simp only [List.length_tail, List.length_drop] at h2 h3 h4
  simp only
  split
  · rename_i h
    have : 0 < (l.drop (dg l)).length := by
      cases hh : l.drop (dg l) with
      | nil => rw [hh] at h; cases h
      | cons x y => simp
    rw [List.length_drop] at this
    split <;> omega
  · split <;> omega
theorem opS_le (l : List UInt8) : opS l ≤ l.length := by
  cases l with
  | nil => simp [opS]
  | cons c t =>
    simp only [opS]
    split
    · rename_i h; have := h.1; omega
    · split <;> simp
theorem ns_le (l : List UInt8) (h : l ≠ []) : ns l ≤ l.length := by
  cases l with
  | nil => exact absurd rfl h
  | cons c t => have := tw_len isN t; simp only [ns, List.tail_cons, List.length_cons]; omega
theorem qt_le (q : UInt8) (l r : List UInt8) (h : qt q l = some r) : r.length + 1 ≤ l.length :=
  qt_ind (M := fun l r => r.length + 1 ≤ l.length) (fun _ => by simp) (fun c t r _ _ _ ih => by simp only [List.length_cons]; omega) (fun d t r _ _ ih => by simp only [List.length_cons]; omega) l.length l r (Nat.le_refl _) h
theorem bare_le {k l : List UInt8} {n m : Nat} {t : Tok} (h : bare k l n = some (t, m)) (hn : n ≤ l.length) : 0 < m ∧ m ≤ l.length := by
  unfold bare at h
  split at h
  · cases h
  · cases h; omega
theorem readTok_le {l : List UInt8} {b : Bool} {t : Tok} {k : Nat} (h : readTok l b = some (t, k)) : 0 < k ∧ k ≤ l.length := by
  cases l with
  | nil => cases h
  | cons c l =>
    simp only [readTok] at h
    split at h
    · cases h; simp
    · split at h
      · unfold readStr at h
        split at h
        · cases h
        · rename_i r hr
          have := qt_le _ _ _ hr
          simp only [List.tail_cons] at this
          split at h
          · cases h
          · cases h; simp only [List.length_cons]; omega
      · split at h
        · unfold readEre at h
          split at h
          · cases h
          · rename_i r hr
            have := qt_le _ _ _ hr
            simp only [List.tail_cons] at this
            split at h
            · cases h
            · cases h; simp only [List.length_cons]; omega
        · split at h
          · unfold readName at h
            simp only at h
            split at h
            · cases h
            · exact bare_le h (ns_le _ (by simp))
          · split at h
            · exact bare_le h (nm_le _)
            · exact bare_le h (opS_le _)
theorem lexF_nil (b : Bool) : lexF [] b = some [] := by rw [lexF]; simp
theorem lexF_none {l : List UInt8} {b : Bool} (h0 : l ≠ []) (h : readTok l b = none) : lexF l b = none := by
  rw [lexF, dif_neg h0, h]
theorem lexF_some {l : List UInt8} {b : Bool} {t : Tok} {k : Nat} (h0 : l ≠ []) (h : readTok l b = some (t, k)) : lexF l b = (lexF ((l.drop k).drop (gap (l.drop k))) (ends t)).map (fun r => t :: r) := by
  rw [lexF, dif_neg h0, h]
  simp only
  rw [dif_pos (readTok_le h).1]
end Go.Proofs.YtgbibfhacjjaeaaGreat.lexs

namespace Go.Proofs.YtgbibfhacjjaeaaGreat.syn
set_option linter.unusedVariables false set_option linter.unusedSimpArgs false
open Go.Proofs.YtgbibfhacjjaeaaGreat.lexs (Tok kNl kNum kStr kEre kOp kName kFunc kWord kBuilt)

abbrev B := List UInt8
def w_num : B := [110, 117, 109]
def w_str : B := [115, 116, 114]
def w_ere : B := [101, 114, 101]
def w_name : B := [110, 97, 109, 101]
def w_func : B := [102, 117, 110, 99]
def w_built : B := [98, 117, 105, 108, 116]
def w_op : B := [111, 112]
def w_nl : B := [110, 108]
def w_word : B := [119, 111, 114, 100]
def w_bin : B := [98, 105, 110]
def w_in : B := [105, 110]
def w_cat : B := [99, 97, 116]
def w_unary : B := [117, 110, 97, 114, 121]
def w_pre : B := [112, 114, 101]
def w_post : B := [112, 111, 115, 116]
def w_elem : B := [101, 108, 101, 109]
def w_var : B := [118, 97, 114]
def w_call : B := [99, 97, 108, 108]
def w_group : B := [103, 114, 111, 117, 112]
def w_field : B := [102, 105, 101, 108, 100]
def w_cond : B := [99, 111, 110, 100]
def w_assign : B := [97, 115, 115, 105, 103, 110]
def w_none : B := [110, 111, 110, 101]
def w_expr : B := [101, 120, 112, 114]
def w_print : B := [112, 114, 105, 110, 116]
def w_printf : B := [112, 114, 105, 110, 116, 102]
def w_delete : B := [100, 101, 108, 101, 116, 101]
def w_exit : B := [101, 120, 105, 116]
def w_return : B := [114, 101, 116, 117, 114, 110]
def w_next : B := [110, 101, 120, 116]
def w_break : B := [98, 114, 101, 97, 107]
def w_continue : B := [99, 111, 110, 116, 105, 110, 117, 101]
def w_block : B := [98, 108, 111, 99, 107]
def w_if : B := [105, 102]
def w_while : B := [119, 104, 105, 108, 101]
def w_for : B := [102, 111, 114]
def w_forin : B := [102, 111, 114, 105, 110]
def w_do : B := [100, 111]
def w_rule : B := [114, 117, 108, 101]
def w_range : B := [114, 97, 110, 103, 101]
def w_params : B := [112, 97, 114, 97, 109, 115]
def w_BEGIN : B := [66, 69, 71, 73, 78]
def w_END : B := [69, 78, 68]
def w_function : B := [102, 117, 110, 99, 116, 105, 111, 110]
def w_length : B := [108, 101, 110, 103, 116, 104]
def w_split : B := [115, 112, 108, 105, 116]
def w_sub : B := [115, 117, 98]
def w_gsub : B := [103, 115, 117, 98]
def w_substr : B := [115, 117, 98, 115, 116, 114]
def w_index : B := [105, 110, 100, 101, 120]
def w_match : B := [109, 97, 116, 99, 104]
def w_sprintf : B := [115, 112, 114, 105, 110, 116, 102]
def w_else : B := [101, 108, 115, 101]
def o_lpar : B := [40]
def o_rpar : B := [41]
def o_lbr : B := [91]
def o_rbr : B := [93]
def o_lbrace : B := [123]
def o_rbrace : B := [125]
def o_semi : B := [59]
def o_comma : B := [44]
def o_plus : B := [43]
def o_minus : B := [45]
def o_star : B := [42]
def o_slash : B := [47]
def o_pct : B := [37]
def o_hat : B := [94]
def o_bang : B := [33]
def o_gt : B := [62]
def o_gtgt : B := [62, 62]
def o_lt : B := [60]
def o_le : B := [60, 61]
def o_eqeq : B := [61, 61]
def o_ne : B := [33, 61]
def o_ge : B := [62, 61]
def o_tilde : B := [126]
def o_ntilde : B := [33, 126]
def o_oror : B := [124, 124]
def o_andand : B := [38, 38]
def o_inc : B := [43, 43]
def o_dec : B := [45, 45]
def o_dollar : B := [36]
def o_quest : B := [63]
def o_colon : B := [58]
def o_eq : B := [61]
def o_pluseq : B := [43, 61]
def o_minuseq : B := [45, 61]
def o_stareq : B := [42, 61]
def o_slasheq : B := [47, 61]
def o_pcteq : B := [37, 61]
def o_hateq : B := [94, 61]

/-- Trees, one behind the other. -/
inductive Fo where
  | nil
  | cons (op tx : B) (kids rest : Fo)
structure Nd where
  op : B
  tx : B
  kids : Fo
namespace Fo
def len : Fo → Nat
  | .nil => 0
  | .cons _ _ _ r => r.len + 1
def snoc : Fo → Nd → Fo
  | .nil, n => .cons n.op n.tx n.kids .nil
  | .cons o t k r, n => .cons o t k (r.snoc n)
def app : Fo → Fo → Fo
  | .nil, g => g
  | .cons o t k r, g => .cons o t k (r.app g)
def nth : Fo → Nat → Option Nd
  | .nil, _ => none
  | .cons o t k _, 0 => some ⟨o, t, k⟩
  | .cons _ _ _ r, i + 1 => r.nth i
/-- How many stand in one another. -/
def depth : Fo → Nat
  | .nil => 0
  | .cons _ _ k r => max (k.depth + 1) r.depth
theorem len_snoc (f : Fo) (n : Nd) : (f.snoc n).len = f.len + 1 := by
  induction f with
  | nil => rfl
  | cons o t k r _ ih => simp only [snoc, len, ih]
theorem snoc_ne (f : Fo) (n : Nd) : f.snoc n ≠ .nil := by cases f <;> simp [snoc]
theorem app_nil (f : Fo) : f.app .nil = f := by
  induction f with
  | nil => rfl
  | cons o t k r _ ih => simp only [app, ih]
theorem snoc_app (f : Fo) (n : Nd) : f.snoc n = f.app (.cons n.op n.tx n.kids .nil) := by
  induction f with
  | nil => rfl
  | cons o t k r _ ih => simp only [snoc, app, ih]
theorem app_assoc (f g h : Fo) : (f.app g).app h = f.app (g.app h) := by
  induction f with
  | nil => rfl
  | cons o t k r _ ih => simp only [app, ih]
theorem len_app (f g : Fo) : (f.app g).len = f.len + g.len := by
  induction f with
  | nil => simp [app, len]
  | cons o t k r _ ih => simp only [app, len, ih]; omega
end Fo
def one (n : Nd) : Fo := .cons n.op n.tx n.kids .nil
def two (n m : Nd) : Fo := .cons n.op n.tx n.kids (one m)
def three (n m k : Nd) : Fo := .cons n.op n.tx n.kids (two m k)
def four (n m k l : Nd) : Fo := .cons n.op n.tx n.kids (three m k l)

/-- The parser's state: the tokens that are left; has it failed; the kind of the item; how many loops stand around; does a > send. -/
structure PS where
  r : List Tok
  f : Bool
  k : B
  l : Int
  s : Bool
abbrev Rd := PS → Nd × PS
/-- The functions that are read one node deeper. -/
inductive W where
  | expr | signed | exponent | operand | step | joined | statement | simple
abbrev Inn := W → Rd

def noneN : Nd := ⟨w_none, [], .nil⟩
def failS (s : PS) : PS := { s with r := [], f := true }
def failN (s : PS) : Nd × PS := (noneN, failS s)
def tok0 : Tok := ⟨[], []⟩
def ahead (s : PS) (i : Nat) : Tok := s.r.getD i tok0
def peek (s : PS) : Tok := s.r.headD tok0
def nextS (s : PS) : PS := { s with r := s.r.tail }
def atOp (s : PS) (ops : List B) : Bool := (peek s).k == kOp && ops.contains (peek s).t
def isOp (s : PS) (t : B) : Bool := peek s == ⟨kOp, t⟩
def isWord (s : PS) (t : B) : Bool := peek s == ⟨kWord, t⟩
def wantO (t : B) (s : PS) : PS := if isOp s t then nextS s else failS s
def wantW (t : B) (s : PS) : PS := if isWord s t then nextS s else failS s
def isName (t : Tok) : Bool := t.k == kName || t.k == kFunc
def nameS (s : PS) : PS := if isName (peek s) then s else failS s
def name (s : PS) : B × PS := ((peek (nameS s)).t, nextS (nameS s))
def isNl (t : Tok) : Bool := t.k == kNl
def isEnd (t : Tok) : Bool := t.k == kNl || (t.k == kOp && [o_semi].contains t.t)
def atEnd (s : PS) : Bool := isEnd (peek s)
def skipLines (s : PS) : PS := { s with r := s.r.dropWhile isNl }
def skipEnds (s : PS) : PS := { s with r := s.r.dropWhile isEnd }

/-- Expressions with , between. -/
def listL (I : Inn) : Nat → Fo → PS → Fo × PS
  | 0, f, s => (f, s)
  | k + 1, f, s => if isOp s o_comma then listL I k (f.snoc (I .expr (skipLines (nextS s))).1) (I .expr (skipLines (nextS s))).2 else (f, s)
def list (I : Inn) (s : PS) : Fo × PS := listL I (I .expr s).2.r.length (Fo.nil.snoc (I .expr s).1) (I .expr s).2
def closedList (c : B) (I : Inn) (s : PS) : Fo × PS := ((list I { s with s := false }).1, wantO c { (list I { s with s := false }).2 with s := s.s })
def arguments (I : Inn) (s : PS) : Fo × PS := if isOp (wantO o_lpar s) o_rpar then (.nil, nextS (wantO o_lpar s)) else closedList o_rpar I (wantO o_lpar s)
def isPlace (n : Nd) : Bool := n.op == w_var || n.op == w_elem || n.op == w_field
/-- How many kids a built has at least and at most. -/
def countsOf (name : B) : Nat × Nat :=
  if name = w_length then (0, 1) else if name = w_substr ∨ name = w_split ∨ name = w_sub ∨ name = w_gsub then (2, 3) else if name = w_index ∨ name = w_match then (2, 2) else if name = w_sprintf then (1, 20000) else (1, 1)
def opAt (l : Fo) (i : Nat) : B := match l.nth i with
  | some n => n.op
  | none => []
def placeOp (o : B) : Bool := o == w_var || o == w_elem || o == w_field
def rightBuilt (name : B) (l : Fo) : Bool :=
  if l.len < (countsOf name).1 ∨ (countsOf name).2 < l.len then false else if name = w_split then opAt l 1 == w_var else if name = w_sub ∨ name = w_gsub then l.len == 2 || placeOp (opAt l 2) else true
def built (nm : B) (I : Inn) (s : PS) : Nd × PS :=
  if nm == w_length && !atOp s [o_lpar] then (⟨w_built, nm, .nil⟩, s) else if rightBuilt nm (arguments I s).1 then (⟨w_built, nm, (arguments I s).1⟩, (arguments I s).2) else failN (arguments I s).2
def parenthesized (I : Inn) (s : PS) : Nd × PS :=
  if (closedList o_rpar I s).1.len = 1 then (⟨w_group, [], (closedList o_rpar I s).1⟩, (closedList o_rpar I s).2)
  else (⟨w_in, (name (wantW w_in (closedList o_rpar I s).2)).1, (closedList o_rpar I s).1⟩, (name (wantW w_in (closedList o_rpar I s).2)).2)
def opsStep : List B := [o_inc, o_dec]
def field (I : Inn) (s : PS) : Nd × PS :=
  if atOp s opsStep then (⟨w_field, [], one (I .step s).1⟩, (I .step s).2) else (⟨w_field, [], one (I .operand s).1⟩, (I .operand s).2)
def operand (I : Inn) (s : PS) : Nd × PS :=
  if (peek s).k = kNum ∨ (peek s).k = kStr ∨ (peek s).k = kEre then (⟨(peek s).k, (peek s).t, .nil⟩, nextS s)
  else if (peek s).k = kName then
    if isOp (nextS s) o_lbr then (⟨w_elem, (peek s).t, (closedList o_rbr I (nextS (nextS s))).1⟩, (closedList o_rbr I (nextS (nextS s))).2)
    else (⟨w_var, (peek s).t, .nil⟩, nextS s)
  else if (peek s).k = kFunc then (⟨w_call, (peek s).t, (arguments I (nextS s)).1⟩, (arguments I (nextS s)).2)
  else if (peek s).k = kBuilt then built (peek s).t I (nextS s)
  else if (peek s).k = kOp ∧ (peek s).t = o_lpar then parenthesized I (nextS s)
  else if (peek s).k = kOp ∧ (peek s).t = o_dollar then field I (nextS s)
  else failN (nextS s)
def stepAhead (I : Inn) (s : PS) : Nd × PS :=
  if isPlace (I .operand (nextS s)).1 then (⟨w_pre, (peek s).t, one (I .operand (nextS s)).1⟩, (I .operand (nextS s)).2) else failN (I .operand (nextS s)).2
def stepped (I : Inn) (s : PS) : Nd × PS :=
  if atOp s opsStep then stepAhead I s
  else if isPlace (operand I s).1 && atOp (operand I s).2 opsStep then (⟨w_post, (peek (operand I s).2).t, one (operand I s).1⟩, nextS (operand I s).2) else operand I s
def bin (t : B) (n m : Nd) : Nd := ⟨w_bin, t, two n m⟩
def power (I : Inn) (s : PS) : Nd × PS :=
  if isOp (stepped I s).2 o_hat then (bin o_hat (stepped I s).1 (I .exponent (nextS (stepped I s).2)).1, (I .exponent (nextS (stepped I s).2)).2) else stepped I s
def unary (t : B) (n : Nd) : Nd := ⟨w_unary, t, one n⟩
def exponent (I : Inn) (s : PS) : Nd × PS :=
  if atOp s [o_plus, o_minus] then (unary (peek s).t (I .exponent (nextS s)).1, (I .exponent (nextS s)).2) else power I s
def signed (I : Inn) (s : PS) : Nd × PS :=
  if atOp s [o_bang, o_plus, o_minus] then (unary (peek s).t (I .signed (nextS s)).1, (I .signed (nextS s)).2) else power I s
/-- Behind && and || a line may end. -/
def lineS (t : B) (s : PS) : PS := if t = o_andand ∨ t = o_oror then skipLines s else s
def leftL (t : Rd) (ops : List B) : Nat → Nd → PS → Nd × PS
  | 0, n, s => (n, s)
  | k + 1, n, s => if atOp s ops then leftL t ops k (bin (peek s).t n (t (lineS (peek s).t (nextS s))).1) (t (lineS (peek s).t (nextS s))).2 else (n, s)
def fromLeft (t : Rd) (ops : List B) (s : PS) : Nd × PS := leftL t ops (t s).2.r.length (t s).1 (t s).2
def opsProduct : List B := [o_star, o_slash, o_pct]
def product (I : Inn) : Rd := fromLeft (signed I) opsProduct
def opsSum : List B := [o_plus, o_minus]
def sum (I : Inn) : Rd := fromLeft (product I) opsSum
def opsJoin : List B := [o_dollar, o_lpar, o_inc, o_dec]
def atJoined (s : PS) : Bool :=
  if (peek s).k = kNum ∨ (peek s).k = kStr ∨ (peek s).k = kEre ∨ (peek s).k = kName ∨ (peek s).k = kFunc ∨ (peek s).k = kBuilt then true else atOp s opsJoin
def joinL (t : Rd) : Nat → Nd → PS → Nd × PS
  | 0, n, s => (n, s)
  | k + 1, n, s => if atJoined s then joinL t k (bin w_cat n (t s).1) (t s).2 else (n, s)
def joined (I : Inn) (s : PS) : Nd × PS := joinL (sum I) (sum I s).2.r.length (sum I s).1 (sum I s).2
def opsComp : List B := [o_lt, o_le, o_eqeq, o_ne, o_ge]
def compared (I : Inn) (s : PS) : Nd × PS :=
  if atOp (joined I s).2 opsComp || (atOp (joined I s).2 [o_gt] && !(joined I s).2.s) then (bin (peek (joined I s).2).t (joined I s).1 (joined I (nextS (joined I s).2)).1, (joined I (nextS (joined I s).2)).2) else joined I s
def opsMatch : List B := [o_tilde, o_ntilde]
def matched (I : Inn) : Rd := fromLeft (compared I) opsMatch
def memL : Nat → Nd → PS → Nd × PS
  | 0, n, s => (n, s)
  | k + 1, n, s => if isWord s w_in then memL k ⟨w_in, (name (nextS s)).1, one n⟩ (name (nextS s)).2 else (n, s)
def member (I : Inn) (s : PS) : Nd × PS := memL (matched I s).2.r.length (matched I s).1 (matched I s).2
def both (I : Inn) : Rd := fromLeft (member I) [o_andand]
def either (I : Inn) : Rd := fromLeft (both I) [o_oror]
def alternative (I : Inn) (s : PS) : Nd × PS :=
  if isOp (either I s).2 o_quest then
    (⟨w_cond, [], three (either I s).1 (I .expr (skipLines (nextS (either I s).2))).1 (I .expr (skipLines (wantO o_colon (I .expr (skipLines (nextS (either I s).2))).2))).1⟩,
      (I .expr (skipLines (wantO o_colon (I .expr (skipLines (nextS (either I s).2))).2))).2)
  else either I s
def opsAssign : List B := [o_eq, o_pluseq, o_minuseq, o_stareq, o_slasheq, o_pcteq, o_hateq]
def expression (I : Inn) (s : PS) : Nd × PS :=
  if atOp (alternative I s).2 opsAssign then
    if isPlace (alternative I s).1 then (⟨w_assign, (peek (alternative I s).2).t, two (alternative I s).1 (I .expr (nextS (alternative I s).2)).1⟩, (I .expr (nextS (alternative I s).2)).2)
    else failN (alternative I s).2
  else alternative I s

def atSimpleEnd (s : PS) : Bool := atEnd s || atOp s [o_rbrace, o_rpar]
def leaving (nm : B) (I : Inn) (s : PS) : Nd × PS := if atSimpleEnd s then (⟨nm, [], .nil⟩, s) else (⟨nm, [], one (I .expr s).1⟩, (I .expr s).2)
def deletion (I : Inn) (s : PS) : Nd × PS := (⟨w_delete, (name s).1, (closedList o_rbr I (wantO o_lbr (name s).2)).1⟩, (closedList o_rbr I (wantO o_lbr (name s).2)).2)
def sentList (I : Inn) (s : PS) : Fo × PS := ((list I { s with s := true }).1, { (list I { s with s := true }).2 with s := false })
def printed (I : Inn) (s : PS) : Fo × PS :=
  if isOp s o_lpar then
    if (closedList o_rpar I (nextS s)).2.f || (decide (1 < (closedList o_rpar I (nextS s)).1.len) && !isWord (closedList o_rpar I (nextS s)).2 w_in) then closedList o_rpar I (nextS s)
    else sentList I { (closedList o_rpar I (nextS s)).2 with r := s.r }
  else sentList I s
def opsSend : List B := [o_gt, o_gtgt]
def sent (nm : B) (I : Inn) (l : Fo) (s : PS) : Nd × PS :=
  if atOp s opsSend then (⟨nm, (peek s).t, l.snoc (I .joined (nextS s)).1⟩, (I .joined (nextS s)).2) else (⟨nm, [], l⟩, s)
def printing (nm : B) (I : Inn) (s : PS) : Nd × PS :=
  if !atSimpleEnd s && !atOp s opsSend then sent nm I (printed I s).1 (printed I s).2
  else if nm = w_printf then failN s else sent nm I .nil s
def command (nm : B) (I : Inn) (s : PS) : Nd × PS :=
  if nm = w_print ∨ nm = w_printf then printing nm I s
  else if nm = w_delete then deletion I s
  else if nm = w_exit then leaving nm I s
  else if nm = w_return then if s.k = w_function then leaving nm I s else failN s
  else if nm = w_next then if s.k = w_rule then (⟨nm, [], .nil⟩, s) else failN s
  else if nm = w_break ∨ nm = w_continue then if 0 < s.l then (⟨nm, [], .nil⟩, s) else failN s
  else failN s
def simple (I : Inn) (s : PS) : Nd × PS :=
  if (peek s).k = kWord then command (peek s).t I (nextS s) else (⟨w_expr, [], one (I .expr s).1⟩, (I .expr s).2)
def blkL (I : Inn) : Nat → Fo → PS → Fo × PS
  | 0, f, s => (f, s)
  | k + 1, f, s => if s.f then (f, s) else if isOp s o_rbrace then (f, nextS s) else blkL I k (f.snoc (I .statement s).1) (skipEnds (I .statement s).2)
def block (I : Inn) (s : PS) : Nd × PS :=
  (⟨w_block, [], (blkL I ((skipEnds (wantO o_lbrace s)).r.length + 2) .nil (skipEnds (wantO o_lbrace s))).1⟩, (blkL I ((skipEnds (wantO o_lbrace s)).r.length + 2) .nil (skipEnds (wantO o_lbrace s))).2)
def condition (I : Inn) (s : PS) : Nd × PS := ((I .expr (wantO o_lpar s)).1, wantO o_rpar (I .expr (wantO o_lpar s)).2)
def takeElse (s : PS) : Bool × PS := if isWord (skipEnds s) w_else then (true, nextS (skipEnds s)) else (false, s)
def choice (I : Inn) (s : PS) : Nd × PS :=
  let c := condition I (nextS s)
  let t := I .statement (skipLines c.2)
  let e := takeElse t.2
  if e.1 then (⟨w_if, [], three c.1 t.1 (I .statement (skipLines e.2)).1⟩, (I .statement (skipLines e.2)).2) else (⟨w_if, [], two c.1 t.1⟩, e.2)
def lessL (s : PS) : PS := { s with l := IntKind.i64.wrap (s.l - 1) }
def moreL (s : PS) : PS := { s with l := IntKind.i64.wrap (s.l + 1) }
def loopStatement (I : Inn) (s : PS) : Nd × PS := ((I .statement (moreL (skipLines s))).1, lessL (I .statement (moreL (skipLines s))).2)
def doLoop (I : Inn) (s : PS) : Nd × PS :=
  let t := loopStatement I s
  let c := condition I (wantW w_while (skipEnds t.2))
  (⟨w_do, [], two t.1 c.1⟩, c.2)
def whileLoop (I : Inn) (s : PS) : Nd × PS :=
  let c := condition I (nextS s)
  let t := loopStatement I c.2
  (⟨w_while, [], two c.1 t.1⟩, t.2)
def forIn (I : Inn) (s : PS) : Nd × PS :=
  let a := name (wantW w_in (name s).2)
  let t := loopStatement I (wantO o_rpar a.2)
  (⟨w_forin, (name s).1, two ⟨w_var, a.1, .nil⟩ t.1⟩, t.2)
def unlessO (o : B) (x : W) (I : Inn) (s : PS) : Nd × PS := if atOp s [o] then (noneN, s) else I x s
def isForIn (s : PS) : Bool := isName (peek s) && ahead s 1 == ⟨kWord, w_in⟩ && isName (ahead s 2) && ahead s 3 == ⟨kOp, o_rpar⟩
def forThree (I : Inn) (s : PS) : Nd × PS :=
  let a := unlessO o_semi .simple I s
  let b := unlessO o_semi .expr I (skipLines (wantO o_semi a.2))
  let c := unlessO o_rpar .simple I (skipLines (wantO o_semi b.2))
  let t := loopStatement I (wantO o_rpar c.2)
  (⟨w_for, [], four a.1 b.1 c.1 t.1⟩, t.2)
def forLoop (I : Inn) (s : PS) : Nd × PS := if isForIn (wantO o_lpar (nextS s)) then forIn I (wantO o_lpar (nextS s)) else forThree I (wantO o_lpar (nextS s))
def orFail (q : Nd × PS) : Nd × PS := if !atEnd q.2 && !atOp q.2 [o_rbrace] then (q.1, failS q.2) else q
def endedSimple (I : Inn) (s : PS) : Nd × PS := orFail (if isWord s w_do then doLoop I (nextS s) else simple I s)
def statement (I : Inn) (s : PS) : Nd × PS :=
  if isOp s o_lbrace then block I s
  else if isOp s o_semi then (noneN, nextS s)
  else if isWord s w_if then choice I s
  else if isWord s w_while then whileLoop I s
  else if isWord s w_for then forLoop I s
  else endedSimple I s

def body (I : Inn) : W → Rd
  | .expr => expression I
  | .signed => signed I
  | .exponent => exponent I
  | .operand => operand I
  | .step => stepAhead I
  | .joined => joined I
  | .statement => statement I
  | .simple => simple I
/-- Read with d nodes more around at most. -/
def inn : Nat → Inn
  | 0 => fun _ s => failN s
  | d + 1 => body (inn d)

def paramsL : Nat → Fo → PS → Fo × PS
  | 0, f, s => (f, s)
  | k + 1, f, s => if isOp s o_comma then paramsL k (f.snoc ⟨w_var, (name (skipLines (nextS s))).1, .nil⟩) (name (skipLines (nextS s))).2 else (f, s)
def params (s : PS) : Nd × PS :=
  if isOp (wantO o_lpar s) o_rpar then (⟨w_params, [], .nil⟩, nextS (wantO o_lpar s))
  else
    let n := name (wantO o_lpar s)
    let q := paramsL n.2.r.length (Fo.nil.snoc ⟨w_var, n.1, .nil⟩) n.2
    (⟨w_params, [], q.1⟩, wantO o_rpar q.2)
def function (I : Inn) (s : PS) : Nd × PS :=
  let p := params (name s).2
  let b := block I (skipLines p.2)
  (⟨w_func, (name s).1, two p.1 b.1⟩, b.2)
def ruleBlock (I : Inn) (s : PS) : Nd × PS :=
  if atOp s [o_lbrace] then block I s else if s.r.isEmpty || atEnd s then (noneN, s) else failN s
def rule (I : Inn) (s : PS) : Nd × PS :=
  if atOp s [o_lbrace] then (⟨w_rule, [], two noneN (block I s).1⟩, (block I s).2)
  else
    let a := I .expr s
    if isOp a.2 o_comma then
      let b := I .expr (skipLines (nextS a.2))
      (⟨w_range, [], three a.1 b.1 (ruleBlock I b.2).1⟩, (ruleBlock I b.2).2)
    else (⟨w_rule, [], two a.1 (ruleBlock I a.2).1⟩, (ruleBlock I a.2).2)
def setK (k : B) (s : PS) : PS := { s with k := k }
def item (I : Inn) (s : PS) : Nd × PS :=
  if isWord s w_BEGIN || isWord s w_END then (⟨(peek s).t, [], one (block I (setK (peek s).t (nextS s))).1⟩, (block I (setK (peek s).t (nextS s))).2)
  else if isWord s w_function then function I (setK (peek s).t (nextS s))
  else rule I (setK w_rule s)
def itemsL (I : Inn) : Nat → Fo → PS → Fo × PS
  | 0, f, s => (f, s)
  | k + 1, f, s => if s.r.isEmpty then (f, s) else itemsL I k (f.snoc (item I s).1) (skipEnds (item I s).2)
def items (I : Inn) (s : PS) : Fo × PS := itemsL I (skipEnds s).r.length .nil (skipEnds s)
def start (ts : List Tok) : PS := ⟨ts, false, [], 0, false⟩
def parseT (ts : List Tok) : Option Fo :=
  if (items (inn 200) (start ts)).2.f then none else if 200 < (items (inn 200) (start ts)).1.depth then none else some (items (inn 200) (start ts)).1

end Go.Proofs.YtgbibfhacjjaeaaGreat.syn

namespace Go.Proofs.YtgbibfhacjjaeaaGreat.syn
set_option linter.unusedVariables false set_option linter.unusedSimpArgs false
open Go.Proofs.YtgbibfhacjjaeaaGreat.lexs (Tok kNl kNum kStr kEre kOp kName kFunc kWord kBuilt)

def Le (s' s : PS) : Prop := s'.r.length ≤ s.r.length ∧ (s.f = true → s'.f = true)
def Lt (s' s : PS) : Prop := Le s' s ∧ ((s'.f = true ∨ s'.r.length < s.r.length) ∧ s'.r.length ≤ s.r.length - 1)
theorem Le.refl (s : PS) : Le s s := ⟨Nat.le_refl _, id⟩
theorem Le.trans {a b c : PS} (h : Le a b) (k : Le b c) : Le a c := ⟨Nat.le_trans h.1 k.1, fun e => h.2 (k.2 e)⟩
theorem Lt.trans {a b c : PS} (h : Le a b) (k : Lt b c) : Lt a c := ⟨h.trans k.1, k.2.1.elim (fun e => Or.inl (h.2 e)) (fun e => Or.inr (Nat.lt_of_le_of_lt h.1 e)), Nat.le_trans h.1 k.2.2⟩
theorem Lt.trans' {a b c : PS} (h : Lt a b) (k : Le b c) : Lt a c := ⟨h.1.trans k, h.2.1.elim Or.inl (fun e => Or.inr (Nat.lt_of_lt_of_le e k.1)), Nat.le_trans h.2.2 (Nat.sub_le_sub_right k.1 1)⟩
theorem failS_lt (s : PS) : Lt (failS s) s := ⟨⟨Nat.zero_le _, fun _ => rfl⟩, Or.inl rfl, Nat.zero_le _⟩
theorem failN_lt (s : PS) : Lt (failN s).2 s := failS_lt s
theorem nextS_le (s : PS) : Le (nextS s) s := ⟨by simp [nextS], id⟩
theorem nextS_lt {s : PS} (h : s.r ≠ []) : Lt (nextS s) s := ⟨nextS_le s, Or.inr (by
  show s.r.tail.length < s.r.length
  cases hr : s.r with
  | nil => exact absurd hr h
  | cons t r => simp), by simp [nextS]⟩
theorem peek_nil {s : PS} (h : s.r = []) : peek s = tok0 := by unfold peek; rw [h]; rfl
theorem ne_of_peek {s : PS} (h : peek s ≠ tok0) : s.r ≠ [] := fun e => h (peek_nil e)
theorem ne_of_isOp {s : PS} {t : B} (h : isOp s t = true) : s.r ≠ [] := ne_of_peek (by
  intro e
  unfold isOp at h
  rw [e] at h
  have := congrArg Tok.k (eq_of_beq h)
  cases this)
theorem ne_of_isWord {s : PS} {t : B} (h : isWord s t = true) : s.r ≠ [] := ne_of_peek (by
  intro e
  unfold isWord at h
  rw [e] at h
  have := congrArg Tok.k (eq_of_beq h)
  cases this)
theorem ne_of_atOp {s : PS} {l : List B} (h : atOp s l = true) : s.r ≠ [] := ne_of_peek (by
  intro e
  unfold atOp at h
  rw [e] at h
  rw [Bool.and_eq_true] at h
  have := eq_of_beq h.1
  cases this)
theorem ne_of_k {s : PS} {k : B} (h : (peek s).k = k) (hk : k ≠ []) : s.r ≠ [] := ne_of_peek (by
  intro e
  rw [e] at h
  exact hk h.symm)
theorem wantO_lt (t : B) (s : PS) : Lt (wantO t s) s := by
  unfold wantO
  split
  · exact nextS_lt (ne_of_isOp (by assumption))
  · exact failS_lt s
theorem wantW_lt (t : B) (s : PS) : Lt (wantW t s) s := by
  unfold wantW
  split
  · exact nextS_lt (ne_of_isWord (by assumption))
  · exact failS_lt s
theorem nameS_le (s : PS) : Le (nameS s) s := by
  unfold nameS
  split
  · exact Le.refl s
  · exact (failS_lt s).1
theorem name_lt (s : PS) : Lt (name s).2 s := by
  unfold name nameS
  split
  · rename_i h
    refine nextS_lt (ne_of_peek (fun e => ?_))
    rw [e] at h
    revert h
    decide
  · exact Lt.trans (nextS_le _) (failS_lt s)
theorem dw_len {p : Tok → Bool} (l : List Tok) : (l.dropWhile p).length ≤ l.length := by
  induction l with
  | nil => exact Nat.le_refl _
  | cons t l ih =>
    rw [List.dropWhile_cons]
    split
    · exact Nat.le_succ_of_le ih
    · exact Nat.le_refl _
theorem skipLines_le (s : PS) : Le (skipLines s) s := ⟨dw_len _, id⟩
theorem skipEnds_le (s : PS) : Le (skipEnds s) s := ⟨dw_len _, id⟩

/-- What holds of all that is read one node deeper. -/
def LtI (I : Inn) : Prop := ∀ x s, Lt (I x s).2 s
section
variable {I : Inn} (hI : LtI I)
include hI
theorem listL_le (k : Nat) (f : Fo) (s : PS) : Le (listL I k f s).2 s := by
  induction k generalizing f s with
  | zero => exact Le.refl s
  | succ k ih =>
    unfold listL
    split
    · exact (ih _ _).trans ((hI _ _).1.trans ((skipLines_le _).trans (nextS_le s)))
    · exact Le.refl s
theorem list_lt (s : PS) : Lt (list I s).2 s := Lt.trans (listL_le hI _ _ _) (hI _ _)
theorem closedList_lt (c : B) (s : PS) : Lt (closedList c I s).2 s := by
  have h1 := list_lt hI { s with s := false }
  exact Lt.trans (a := wantO c { (list I { s with s := false }).2 with s := s.s }) (b := (list I { s with s := false }).2) (wantO_lt c _).1 h1
theorem arguments_lt (s : PS) : Lt (arguments I s).2 s := by
  unfold arguments
  split
  · exact Lt.trans (nextS_le _) (wantO_lt _ s)
  · exact (closedList_lt hI _ _).trans' (wantO_lt _ s).1
theorem built_le (nm : B) (s : PS) : Le (built nm I s).2 s := by
  unfold built
  split
  · exact Le.refl s
  · split
    · exact (arguments_lt hI s).1
    · exact (failN_lt _).1.trans (arguments_lt hI s).1
theorem parenthesized_lt (s : PS) : Lt (parenthesized I s).2 s := by
  unfold parenthesized
  split
  · exact closedList_lt hI _ s
  · exact Lt.trans ((name_lt _).1.trans (wantW_lt _ _).1) (closedList_lt hI _ s)
theorem field_lt (s : PS) : Lt (field I s).2 s := by
  unfold field
  split
  · exact hI _ s
  · exact hI _ s
theorem operand_lt (s : PS) : Lt (operand I s).2 s := by
  unfold operand
  split
  · rename_i h
    refine nextS_lt ?_
    rcases h with h | h | h
    · exact ne_of_k h (by decide)
    · exact ne_of_k h (by decide)
    · exact ne_of_k h (by decide)
  · split
    · rename_i h
      have hn := nextS_lt (ne_of_k h (by decide))
      split
      · exact Lt.trans ((closedList_lt hI _ _).1.trans (nextS_le _)) hn
      · exact hn
    · split
      · rename_i h
        exact Lt.trans (arguments_lt hI _).1 (nextS_lt (ne_of_k h (by decide)))
      · split
        · rename_i h
          exact Lt.trans (built_le hI _ _) (nextS_lt (ne_of_k h (by decide)))
        · split
          · rename_i h
            exact Lt.trans (parenthesized_lt hI _).1 (nextS_lt (ne_of_k h.1 (by decide)))
          · split
            · rename_i h
              exact Lt.trans (field_lt hI _).1 (nextS_lt (ne_of_k h.1 (by decide)))
            · exact (failN_lt _).trans' (nextS_le s)
theorem stepAhead_lt (s : PS) : Lt (stepAhead I s).2 s := by
  unfold stepAhead
  split
  · exact (hI _ _).trans' (nextS_le s)
  · exact (failN_lt _).trans' ((hI _ _).1.trans (nextS_le s))
theorem stepped_lt (s : PS) : Lt (stepped I s).2 s := by
  unfold stepped
  split
  · exact stepAhead_lt hI s
  · split
    · exact Lt.trans (nextS_le _) (operand_lt hI s)
    · exact operand_lt hI s
theorem power_lt (s : PS) : Lt (power I s).2 s := by
  unfold power
  split
  · exact Lt.trans ((hI _ _).1.trans (nextS_le _)) (stepped_lt hI s)
  · exact stepped_lt hI s
theorem exponent_lt (s : PS) : Lt (exponent I s).2 s := by
  unfold exponent
  split
  · exact (hI _ _).trans' (nextS_le s)
  · exact power_lt hI s
theorem signed_lt (s : PS) : Lt (signed I s).2 s := by
  unfold signed
  split
  · exact (hI _ _).trans' (nextS_le s)
  · exact power_lt hI s
omit hI
theorem lineS_le (t : B) (s : PS) : Le (lineS t s) s := by
  unfold lineS
  split
  · exact skipLines_le s
  · exact Le.refl s
theorem leftL_le {t : Rd} (ht : ∀ s, Lt (t s).2 s) (ops : List B) (k : Nat) (n : Nd) (s : PS) : Le (leftL t ops k n s).2 s := by
  induction k generalizing n s with
  | zero => exact Le.refl s
  | succ k ih =>
    unfold leftL
    split
    · exact (ih _ _).trans ((ht _).1.trans ((lineS_le _ _).trans (nextS_le s)))
    · exact Le.refl s
theorem fromLeft_lt {t : Rd} (ht : ∀ s, Lt (t s).2 s) (ops : List B) (s : PS) : Lt (fromLeft t ops s).2 s := Lt.trans (leftL_le ht _ _ _ _) (ht s)
theorem joinL_le {t : Rd} (ht : ∀ s, Lt (t s).2 s) (k : Nat) (n : Nd) (s : PS) : Le (joinL t k n s).2 s := by
  induction k generalizing n s with
  | zero => exact Le.refl s
  | succ k ih =>
    unfold joinL
    split
    · exact (ih _ _).trans (ht _).1
    · exact Le.refl s
theorem memL_le (k : Nat) (n : Nd) (s : PS) : Le (memL k n s).2 s := by
  induction k generalizing n s with
  | zero => exact Le.refl s
  | succ k ih =>
    unfold memL
    split
    · exact (ih _ _).trans ((name_lt _).1.trans (nextS_le s))
    · exact Le.refl s
include hI
theorem product_lt (s : PS) : Lt (product I s).2 s := fromLeft_lt (signed_lt hI) _ s
theorem sum_lt (s : PS) : Lt (sum I s).2 s := fromLeft_lt (product_lt hI) _ s
theorem joined_lt (s : PS) : Lt (joined I s).2 s := Lt.trans (joinL_le (sum_lt hI) _ _ _) (sum_lt hI s)
theorem compared_lt (s : PS) : Lt (compared I s).2 s := by
  have h := joined_lt hI s
  unfold compared
  generalize joined I s = q at *
  split
  · exact Lt.trans ((joined_lt hI _).1.trans (nextS_le _)) h
  · exact h
theorem matched_lt (s : PS) : Lt (matched I s).2 s := fromLeft_lt (compared_lt hI) _ s
theorem member_lt (s : PS) : Lt (member I s).2 s := Lt.trans (memL_le _ _ _) (matched_lt hI s)
theorem both_lt (s : PS) : Lt (both I s).2 s := fromLeft_lt (member_lt hI) _ s
theorem either_lt (s : PS) : Lt (either I s).2 s := fromLeft_lt (both_lt hI) _ s
theorem alternative_lt (s : PS) : Lt (alternative I s).2 s := by
  unfold alternative
  split
  · exact Lt.trans ((hI _ _).1.trans ((skipLines_le _).trans ((wantO_lt _ _).1.trans ((hI _ _).1.trans ((skipLines_le _).trans (nextS_le _)))))) (either_lt hI s)
  · exact either_lt hI s
theorem expression_lt (s : PS) : Lt (expression I s).2 s := by
  unfold expression
  split
  · split
    · exact Lt.trans ((hI _ _).1.trans (nextS_le _)) (alternative_lt hI s)
    · exact (failN_lt _).trans' (alternative_lt hI s).1
  · exact alternative_lt hI s
theorem leaving_le (nm : B) (s : PS) : Le (leaving nm I s).2 s := by
  unfold leaving
  split
  · exact Le.refl s
  · exact (hI _ s).1
theorem deletion_le (s : PS) : Le (deletion I s).2 s := (closedList_lt hI _ _).1.trans ((wantO_lt _ _).1.trans (name_lt s).1)
theorem sentList_le (s : PS) : Le (sentList I s).2 s := (list_lt hI { s with s := true }).1
theorem printed_le (s : PS) : Le (printed I s).2 s := by
  unfold printed
  split
  · split
    · exact (closedList_lt hI _ _).1.trans (nextS_le s)
    · rename_i h
      have h1 := sentList_le hI { (closedList o_rpar I (nextS s)).2 with r := s.r }
      refine ⟨h1.1, fun e => h1.2 ?_⟩
      exact ((closedList_lt hI _ _).1.trans (nextS_le s)).2 e
  · exact sentList_le hI s
theorem sent_le (nm : B) (l : Fo) (s : PS) : Le (sent nm I l s).2 s := by
  unfold sent
  split
  · exact (hI _ _).1.trans (nextS_le s)
  · exact Le.refl s
theorem printing_le (nm : B) (s : PS) : Le (printing nm I s).2 s := by
  unfold printing
  split
  · exact (sent_le hI _ _ _).trans (printed_le hI s)
  · split
    · exact (failN_lt s).1
    · exact sent_le hI _ _ s
theorem command_le (nm : B) (s : PS) : Le (command nm I s).2 s := by
  unfold command
  repeat' split
  all_goals first | exact printing_le hI _ s | exact deletion_le hI s | exact leaving_le hI _ s | exact (failN_lt s).1 | exact Le.refl s
theorem simple_lt (s : PS) : Lt (simple I s).2 s := by
  unfold simple
  split
  · rename_i h
    exact Lt.trans (command_le hI _ _) (nextS_lt (ne_of_k h (by decide)))
  · exact hI _ s
theorem blkL_le (k : Nat) (f : Fo) (s : PS) : Le (blkL I k f s).2 s := by
  induction k generalizing f s with
  | zero => exact Le.refl s
  | succ k ih =>
    unfold blkL
    split
    · exact Le.refl s
    · split
      · exact nextS_le s
      · exact (ih _ _).trans ((skipEnds_le _).trans (hI _ s).1)
theorem block_lt (s : PS) : Lt (block I s).2 s := Lt.trans ((blkL_le hI _ _ _).trans (skipEnds_le _)) (wantO_lt _ s)
theorem condition_lt (s : PS) : Lt (condition I s).2 s := Lt.trans ((wantO_lt _ _).1.trans (hI _ _).1) (wantO_lt _ s)
omit hI
theorem takeElse_le (s : PS) : Le (takeElse s).2 s := by
  unfold takeElse
  split
  · exact (nextS_le _).trans (skipEnds_le s)
  · exact Le.refl s
include hI
theorem choice_lt (s : PS) : Lt (choice I s).2 s := by
  have h1 : Lt (condition I (nextS s)).2 s := (condition_lt hI _).trans' (nextS_le s)
  have h2 := Lt.trans (((hI .statement _).1).trans (skipLines_le _)) h1
  unfold choice
  simp only
  split
  · exact Lt.trans ((hI _ _).1.trans ((skipLines_le _).trans (takeElse_le _))) h2
  · exact Lt.trans (takeElse_le _) h2
theorem loopStatement_lt (s : PS) : Lt (loopStatement I s).2 s := by
  have h := (hI .statement (moreL (skipLines s))).trans' (c := s) ⟨(skipLines_le s).1, (skipLines_le s).2⟩
  exact ⟨⟨h.1.1, h.1.2⟩, h.2⟩
theorem doLoop_le (s : PS) : Lt (doLoop I s).2 s :=
  Lt.trans ((condition_lt hI _).1.trans ((wantW_lt _ _).1.trans (skipEnds_le _))) (loopStatement_lt hI s)
theorem whileLoop_lt (s : PS) : Lt (whileLoop I s).2 s :=
  Lt.trans (loopStatement_lt hI _).1 ((condition_lt hI _).trans' (nextS_le s))
theorem forIn_lt (s : PS) : Lt (forIn I s).2 s :=
  Lt.trans ((loopStatement_lt hI _).1.trans ((wantO_lt _ _).1.trans ((name_lt _).1.trans (wantW_lt _ _).1))) (name_lt s)
theorem unlessO_le (o : B) (x : W) (s : PS) : Le (unlessO o x I s).2 s := by
  unfold unlessO
  split
  · exact Le.refl s
  · exact (hI _ s).1
theorem forThree_lt (s : PS) : Lt (forThree I s).2 s := by
  unfold forThree
  simp only
  refine Lt.trans' (loopStatement_lt hI _) ?_
  refine (wantO_lt _ _).1.trans ((unlessO_le hI _ _ _).trans ((skipLines_le _).trans ((wantO_lt _ _).1.trans ((unlessO_le hI _ _ _).trans ((skipLines_le _).trans ((wantO_lt _ _).1.trans (unlessO_le hI _ _ _)))))))
theorem forLoop_lt (s : PS) : Lt (forLoop I s).2 s := by
  unfold forLoop
  split
  · exact (forIn_lt hI _).trans' ((wantO_lt _ _).1.trans (nextS_le s))
  · exact (forThree_lt hI _).trans' ((wantO_lt _ _).1.trans (nextS_le s))
omit hI
theorem orFail_lt {q : Nd × PS} {s : PS} (h : Lt q.2 s) : Lt (orFail q).2 s := by
  unfold orFail
  split
  · exact (failS_lt _).trans' h.1
  · exact h
include hI
theorem endedSimple_lt (s : PS) : Lt (endedSimple I s).2 s := by
  unfold endedSimple
  refine orFail_lt ?_
  split
  · exact (doLoop_le hI _).trans' (nextS_le s)
  · exact simple_lt hI s
theorem statement_lt (s : PS) : Lt (statement I s).2 s := by
  unfold statement
  split
  · exact block_lt hI s
  · split
    · exact nextS_lt (ne_of_isOp (by assumption))
    · split
      · exact choice_lt hI s
      · split
        · exact whileLoop_lt hI s
        · split
          · exact forLoop_lt hI s
          · exact endedSimple_lt hI s
theorem body_lt (x : W) (s : PS) : Lt (body I x s).2 s := by
  cases x with
  | expr => exact expression_lt hI s
  | signed => exact signed_lt hI s
  | exponent => exact exponent_lt hI s
  | operand => exact operand_lt hI s
  | step => exact stepAhead_lt hI s
  | joined => exact joined_lt hI s
  | statement => exact statement_lt hI s
  | simple => exact simple_lt hI s
omit hI
end
theorem inn_lt (d : Nat) : LtI (inn d) := by
  induction d with
  | zero => exact fun x s => failN_lt s
  | succ d ih => exact fun x s => body_lt ih x s

end Go.Proofs.YtgbibfhacjjaeaaGreat.syn

namespace Go.Proofs.YtgbibfhacjjaeaaGreat.syn.kp
set_option linter.unusedVariables false set_option linter.unusedSimpArgs false
open Go.Proofs.YtgbibfhacjjaeaaGreat.lexs (Tok kNl kNum kStr kEre kOp kName kFunc kWord kBuilt)

def Le (s' s : PS) : Prop := s'.k = s.k
def Lt (s' s : PS) : Prop := Le s' s ∧ True
theorem Le.refl (s : PS) : Le s s := rfl
theorem Le.trans {a b c : PS} (h : Le a b) (k : Le b c) : Le a c := Eq.trans h k
theorem Lt.trans {a b c : PS} (h : Le a b) (k : Lt b c) : Lt a c := ⟨h.trans k.1, trivial⟩
theorem Lt.trans' {a b c : PS} (h : Lt a b) (k : Le b c) : Lt a c := ⟨h.1.trans k, trivial⟩
theorem failS_lt (s : PS) : Lt (failS s) s := ⟨rfl, trivial⟩
theorem failN_lt (s : PS) : Lt (failN s).2 s := failS_lt s
theorem nextS_le (s : PS) : Le (nextS s) s := rfl
theorem nextS_lt {s : PS} (h : s.r ≠ []) : Lt (nextS s) s := ⟨rfl, trivial⟩
theorem wantO_lt (t : B) (s : PS) : Lt (wantO t s) s := by
  unfold wantO
  split
  · exact nextS_lt (ne_of_isOp (by assumption))
  · exact failS_lt s
theorem wantW_lt (t : B) (s : PS) : Lt (wantW t s) s := by
  unfold wantW
  split
  · exact nextS_lt (ne_of_isWord (by assumption))
  · exact failS_lt s
theorem nameS_le (s : PS) : Le (nameS s) s := by
  unfold nameS
  split
  · exact Le.refl s
  · exact (failS_lt s).1
theorem name_lt (s : PS) : Lt (name s).2 s := by
  unfold name nameS
  split
  · exact ⟨nextS_le s, trivial⟩
  · exact Lt.trans (nextS_le _) (failS_lt s)

theorem skipLines_le (s : PS) : Le (skipLines s) s := rfl
theorem skipEnds_le (s : PS) : Le (skipEnds s) s := rfl

/-- What holds of all that is read one node deeper. -/
def LtI (I : Inn) : Prop := ∀ x s, Lt (I x s).2 s
section
variable {I : Inn} (hI : LtI I)
include hI
theorem listL_le (k : Nat) (f : Fo) (s : PS) : Le (listL I k f s).2 s := by
  induction k generalizing f s with
  | zero => exact Le.refl s
  | succ k ih =>
    unfold listL
    split
    · exact (ih _ _).trans ((hI _ _).1.trans ((skipLines_le _).trans (nextS_le s)))
    · exact Le.refl s
theorem list_lt (s : PS) : Lt (list I s).2 s := Lt.trans (listL_le hI _ _ _) (hI _ _)
theorem closedList_lt (c : B) (s : PS) : Lt (closedList c I s).2 s := ⟨Eq.trans (wantO_lt c _).1 (list_lt hI { s with s := false }).1, trivial⟩
theorem arguments_lt (s : PS) : Lt (arguments I s).2 s := by
  unfold arguments
  split
  · exact Lt.trans (nextS_le _) (wantO_lt _ s)
  · exact (closedList_lt hI _ _).trans' (wantO_lt _ s).1
theorem built_le (nm : B) (s : PS) : Le (built nm I s).2 s := by
  unfold built
  split
  · exact Le.refl s
  · split
    · exact (arguments_lt hI s).1
    · exact (failN_lt _).1.trans (arguments_lt hI s).1
theorem parenthesized_lt (s : PS) : Lt (parenthesized I s).2 s := by
  unfold parenthesized
  split
  · exact closedList_lt hI _ s
  · exact Lt.trans ((name_lt _).1.trans (wantW_lt _ _).1) (closedList_lt hI _ s)
theorem field_lt (s : PS) : Lt (field I s).2 s := by
  unfold field
  split
  · exact hI _ s
  · exact hI _ s
theorem operand_lt (s : PS) : Lt (operand I s).2 s := by
  unfold operand
  split
  · rename_i h
    refine nextS_lt ?_
    rcases h with h | h | h
    · exact ne_of_k h (by decide)
    · exact ne_of_k h (by decide)
    · exact ne_of_k h (by decide)
  · split
    · rename_i h
      have hn := nextS_lt (ne_of_k h (by decide))
      split
      · exact Lt.trans ((closedList_lt hI _ _).1.trans (nextS_le _)) hn
      · exact hn
    · split
      · rename_i h
        exact Lt.trans (arguments_lt hI _).1 (nextS_lt (ne_of_k h (by decide)))
      · split
        · rename_i h
          exact Lt.trans (built_le hI _ _) (nextS_lt (ne_of_k h (by decide)))
        · split
          · rename_i h
            exact Lt.trans (parenthesized_lt hI _).1 (nextS_lt (ne_of_k h.1 (by decide)))
          · split
            · rename_i h
              exact Lt.trans (field_lt hI _).1 (nextS_lt (ne_of_k h.1 (by decide)))
            · exact (failN_lt _).trans' (nextS_le s)
theorem stepAhead_lt (s : PS) : Lt (stepAhead I s).2 s := by
  unfold stepAhead
  split
  · exact (hI _ _).trans' (nextS_le s)
  · exact (failN_lt _).trans' ((hI _ _).1.trans (nextS_le s))
theorem stepped_lt (s : PS) : Lt (stepped I s).2 s := by
  unfold stepped
  split
  · exact stepAhead_lt hI s
  · split
    · exact Lt.trans (nextS_le _) (operand_lt hI s)
    · exact operand_lt hI s
theorem power_lt (s : PS) : Lt (power I s).2 s := by
  unfold power
  split
  · exact Lt.trans ((hI _ _).1.trans (nextS_le _)) (stepped_lt hI s)
  · exact stepped_lt hI s
theorem exponent_lt (s : PS) : Lt (exponent I s).2 s := by
  unfold exponent
  split
  · exact (hI _ _).trans' (nextS_le s)
  · exact power_lt hI s
theorem signed_lt (s : PS) : Lt (signed I s).2 s := by
  unfold signed
  split
  · exact (hI _ _).trans' (nextS_le s)
  · exact power_lt hI s
omit hI
theorem lineS_le (t : B) (s : PS) : Le (lineS t s) s := by
  unfold lineS
  split
  · exact skipLines_le s
  · exact Le.refl s
theorem leftL_le {t : Rd} (ht : ∀ s, Lt (t s).2 s) (ops : List B) (k : Nat) (n : Nd) (s : PS) : Le (leftL t ops k n s).2 s := by
  induction k generalizing n s with
  | zero => exact Le.refl s
  | succ k ih =>
    unfold leftL
    split
    · exact (ih _ _).trans ((ht _).1.trans ((lineS_le _ _).trans (nextS_le s)))
    · exact Le.refl s
theorem fromLeft_lt {t : Rd} (ht : ∀ s, Lt (t s).2 s) (ops : List B) (s : PS) : Lt (fromLeft t ops s).2 s := Lt.trans (leftL_le ht _ _ _ _) (ht s)
theorem joinL_le {t : Rd} (ht : ∀ s, Lt (t s).2 s) (k : Nat) (n : Nd) (s : PS) : Le (joinL t k n s).2 s := by
  induction k generalizing n s with
  | zero => exact Le.refl s
  | succ k ih =>
    unfold joinL
    split
    · exact (ih _ _).trans (ht _).1
    · exact Le.refl s
theorem memL_le (k : Nat) (n : Nd) (s : PS) : Le (memL k n s).2 s := by
  induction k generalizing n s with
  | zero => exact Le.refl s
  | succ k ih =>
    unfold memL
    split
    · exact (ih _ _).trans ((name_lt _).1.trans (nextS_le s))
    · exact Le.refl s
include hI
theorem product_lt (s : PS) : Lt (product I s).2 s := fromLeft_lt (signed_lt hI) _ s
theorem sum_lt (s : PS) : Lt (sum I s).2 s := fromLeft_lt (product_lt hI) _ s
theorem joined_lt (s : PS) : Lt (joined I s).2 s := Lt.trans (joinL_le (sum_lt hI) _ _ _) (sum_lt hI s)
theorem compared_lt (s : PS) : Lt (compared I s).2 s := by
  have h := joined_lt hI s
  unfold compared
  generalize joined I s = q at *
  split
  · exact Lt.trans ((joined_lt hI _).1.trans (nextS_le _)) h
  · exact h
theorem matched_lt (s : PS) : Lt (matched I s).2 s := fromLeft_lt (compared_lt hI) _ s
theorem member_lt (s : PS) : Lt (member I s).2 s := Lt.trans (memL_le _ _ _) (matched_lt hI s)
theorem both_lt (s : PS) : Lt (both I s).2 s := fromLeft_lt (member_lt hI) _ s
theorem either_lt (s : PS) : Lt (either I s).2 s := fromLeft_lt (both_lt hI) _ s
theorem alternative_lt (s : PS) : Lt (alternative I s).2 s := by
  unfold alternative
  split
  · exact Lt.trans ((hI _ _).1.trans ((skipLines_le _).trans ((wantO_lt _ _).1.trans ((hI _ _).1.trans ((skipLines_le _).trans (nextS_le _)))))) (either_lt hI s)
  · exact either_lt hI s
theorem expression_lt (s : PS) : Lt (expression I s).2 s := by
  unfold expression
  split
  · split
    · exact Lt.trans ((hI _ _).1.trans (nextS_le _)) (alternative_lt hI s)
    · exact (failN_lt _).trans' (alternative_lt hI s).1
  · exact alternative_lt hI s
theorem leaving_le (nm : B) (s : PS) : Le (leaving nm I s).2 s := by
  unfold leaving
  split
  · exact Le.refl s
  · exact (hI _ s).1
theorem deletion_le (s : PS) : Le (deletion I s).2 s := (closedList_lt hI _ _).1.trans ((wantO_lt _ _).1.trans (name_lt s).1)
theorem sentList_le (s : PS) : Le (sentList I s).2 s := (list_lt hI { s with s := true }).1
theorem printed_le (s : PS) : Le (printed I s).2 s := by
  unfold printed
  split
  · split
    · exact (closedList_lt hI _ _).1.trans (nextS_le s)
    · have h1 := sentList_le hI { (closedList o_rpar I (nextS s)).2 with r := s.r }
      exact Eq.trans h1 ((closedList_lt hI o_rpar (nextS s)).1.trans (nextS_le s))
  · exact sentList_le hI s
theorem sent_le (nm : B) (l : Fo) (s : PS) : Le (sent nm I l s).2 s := by
  unfold sent
  split
  · exact (hI _ _).1.trans (nextS_le s)
  · exact Le.refl s
theorem printing_le (nm : B) (s : PS) : Le (printing nm I s).2 s := by
  unfold printing
  split
  · exact (sent_le hI _ _ _).trans (printed_le hI s)
  · split
    · exact (failN_lt s).1
    · exact sent_le hI _ _ s
theorem command_le (nm : B) (s : PS) : Le (command nm I s).2 s := by
  unfold command
  repeat' split
  all_goals first | exact printing_le hI _ s | exact deletion_le hI s | exact leaving_le hI _ s | exact (failN_lt s).1 | exact Le.refl s
theorem simple_lt (s : PS) : Lt (simple I s).2 s := by
  unfold simple
  split
  · rename_i h
    exact Lt.trans (command_le hI _ _) (nextS_lt (ne_of_k h (by decide)))
  · exact hI _ s
theorem blkL_le (k : Nat) (f : Fo) (s : PS) : Le (blkL I k f s).2 s := by
  induction k generalizing f s with
  | zero => exact Le.refl s
  | succ k ih =>
    unfold blkL
    split
    · exact Le.refl s
    · split
      · exact nextS_le s
      · exact (ih _ _).trans ((skipEnds_le _).trans (hI _ s).1)
theorem block_lt (s : PS) : Lt (block I s).2 s := Lt.trans ((blkL_le hI _ _ _).trans (skipEnds_le _)) (wantO_lt _ s)
theorem condition_lt (s : PS) : Lt (condition I s).2 s := Lt.trans ((wantO_lt _ _).1.trans (hI _ _).1) (wantO_lt _ s)
omit hI
theorem takeElse_le (s : PS) : Le (takeElse s).2 s := by
  unfold takeElse
  split
  · exact (nextS_le _).trans (skipEnds_le s)
  · exact Le.refl s
include hI
theorem choice_lt (s : PS) : Lt (choice I s).2 s := by
  have h1 : Lt (condition I (nextS s)).2 s := (condition_lt hI _).trans' (nextS_le s)
  have h2 := Lt.trans (((hI .statement _).1).trans (skipLines_le _)) h1
  unfold choice
  simp only
  split
  · exact Lt.trans ((hI _ _).1.trans ((skipLines_le _).trans (takeElse_le _))) h2
  · exact Lt.trans (takeElse_le _) h2
theorem loopStatement_lt (s : PS) : Lt (loopStatement I s).2 s := ⟨(hI .statement (moreL (skipLines s))).1, trivial⟩
theorem doLoop_le (s : PS) : Lt (doLoop I s).2 s :=
  Lt.trans ((condition_lt hI _).1.trans ((wantW_lt _ _).1.trans (skipEnds_le _))) (loopStatement_lt hI s)
theorem whileLoop_lt (s : PS) : Lt (whileLoop I s).2 s :=
  Lt.trans (loopStatement_lt hI _).1 ((condition_lt hI _).trans' (nextS_le s))
theorem forIn_lt (s : PS) : Lt (forIn I s).2 s :=
  Lt.trans ((loopStatement_lt hI _).1.trans ((wantO_lt _ _).1.trans ((name_lt _).1.trans (wantW_lt _ _).1))) (name_lt s)
theorem unlessO_le (o : B) (x : W) (s : PS) : Le (unlessO o x I s).2 s := by
  unfold unlessO
  split
  · exact Le.refl s
  · exact (hI _ s).1
theorem forThree_lt (s : PS) : Lt (forThree I s).2 s := by
  unfold forThree
  simp only
  refine Lt.trans' (loopStatement_lt hI _) ?_
  refine (wantO_lt _ _).1.trans ((unlessO_le hI _ _ _).trans ((skipLines_le _).trans ((wantO_lt _ _).1.trans ((unlessO_le hI _ _ _).trans ((skipLines_le _).trans ((wantO_lt _ _).1.trans (unlessO_le hI _ _ _)))))))
theorem forLoop_lt (s : PS) : Lt (forLoop I s).2 s := by
  unfold forLoop
  split
  · exact (forIn_lt hI _).trans' ((wantO_lt _ _).1.trans (nextS_le s))
  · exact (forThree_lt hI _).trans' ((wantO_lt _ _).1.trans (nextS_le s))
omit hI
theorem orFail_lt {q : Nd × PS} {s : PS} (h : Lt q.2 s) : Lt (orFail q).2 s := by
  unfold orFail
  split
  · exact (failS_lt _).trans' h.1
  · exact h
include hI
theorem endedSimple_lt (s : PS) : Lt (endedSimple I s).2 s := by
  unfold endedSimple
  refine orFail_lt ?_
  split
  · exact (doLoop_le hI _).trans' (nextS_le s)
  · exact simple_lt hI s
theorem statement_lt (s : PS) : Lt (statement I s).2 s := by
  unfold statement
  split
  · exact block_lt hI s
  · split
    · exact nextS_lt (ne_of_isOp (by assumption))
    · split
      · exact choice_lt hI s
      · split
        · exact whileLoop_lt hI s
        · split
          · exact forLoop_lt hI s
          · exact endedSimple_lt hI s
theorem body_lt (x : W) (s : PS) : Lt (body I x s).2 s := by
  cases x with
  | expr => exact expression_lt hI s
  | signed => exact signed_lt hI s
  | exponent => exact exponent_lt hI s
  | operand => exact operand_lt hI s
  | step => exact stepAhead_lt hI s
  | joined => exact joined_lt hI s
  | statement => exact statement_lt hI s
  | simple => exact simple_lt hI s
omit hI
end
theorem inn_lt (d : Nat) : LtI (inn d) := by
  induction d with
  | zero => exact fun x s => failN_lt s
  | succ d ih => exact fun x s => body_lt ih x s

end Go.Proofs.YtgbibfhacjjaeaaGreat.syn.kp

namespace Go.Proofs.YtgbibfhacjjaeaaGreat.syn.kl
set_option linter.unusedVariables false set_option linter.unusedSimpArgs false
open Go.Proofs.YtgbibfhacjjaeaaGreat.lexs (Tok kNl kNum kStr kEre kOp kName kFunc kWord kBuilt)

def In (l : Int) : Prop := -9223372036854775808 ≤ l ∧ l ≤ 9223372036854775807
def Le (s' s : PS) : Prop := (s.s = false → s'.s = false) ∧ (In s.l → s'.l = s.l)
def Lt (s' s : PS) : Prop := Le s' s ∧ True
theorem Le.refl (s : PS) : Le s s := ⟨id, fun _ => rfl⟩
theorem Le.trans {a b c : PS} (h : Le a b) (k : Le b c) : Le a c := ⟨fun e => h.1 (k.1 e), fun i => (h.2 (by rw [k.2 i]; exact i)).trans (k.2 i)⟩
theorem Lt.trans {a b c : PS} (h : Le a b) (k : Lt b c) : Lt a c := ⟨h.trans k.1, trivial⟩
theorem Lt.trans' {a b c : PS} (h : Lt a b) (k : Le b c) : Lt a c := ⟨h.1.trans k, trivial⟩
theorem failS_lt (s : PS) : Lt (failS s) s := ⟨⟨id, fun _ => rfl⟩, trivial⟩
theorem failN_lt (s : PS) : Lt (failN s).2 s := failS_lt s
theorem nextS_le (s : PS) : Le (nextS s) s := ⟨id, fun _ => rfl⟩
theorem nextS_lt {s : PS} (h : s.r ≠ []) : Lt (nextS s) s := ⟨⟨id, fun _ => rfl⟩, trivial⟩
theorem wantO_lt (t : B) (s : PS) : Lt (wantO t s) s := by
  unfold wantO
  split
  · exact nextS_lt (ne_of_isOp (by assumption))
  · exact failS_lt s
theorem wantW_lt (t : B) (s : PS) : Lt (wantW t s) s := by
  unfold wantW
  split
  · exact nextS_lt (ne_of_isWord (by assumption))
  · exact failS_lt s
theorem nameS_le (s : PS) : Le (nameS s) s := by
  unfold nameS
  split
  · exact Le.refl s
  · exact (failS_lt s).1
theorem name_lt (s : PS) : Lt (name s).2 s := by
  unfold name nameS
  split
  · exact ⟨nextS_le s, trivial⟩
  · exact Lt.trans (nextS_le _) (failS_lt s)

theorem skipLines_le (s : PS) : Le (skipLines s) s := ⟨id, fun _ => rfl⟩
theorem skipEnds_le (s : PS) : Le (skipEnds s) s := ⟨id, fun _ => rfl⟩

/-- What holds of all that is read one node deeper. -/
def LtI (I : Inn) : Prop := ∀ x s, Lt (I x s).2 s
section
variable {I : Inn} (hI : LtI I)
include hI
theorem listL_le (k : Nat) (f : Fo) (s : PS) : Le (listL I k f s).2 s := by
  induction k generalizing f s with
  | zero => exact Le.refl s
  | succ k ih =>
    unfold listL
    split
    · exact (ih _ _).trans ((hI _ _).1.trans ((skipLines_le _).trans (nextS_le s)))
    · exact Le.refl s
theorem list_lt (s : PS) : Lt (list I s).2 s := Lt.trans (listL_le hI _ _ _) (hI _ _)
theorem closedList_lt (c : B) (s : PS) : Lt (closedList c I s).2 s := by
  have h1 := (list_lt hI { s with s := false }).1
  have h2 := (wantO_lt c { (list I { s with s := false }).2 with s := s.s }).1
  exact ⟨Le.trans (b := { (list I { s with s := false }).2 with s := s.s }) h2 ⟨id, h1.2⟩, trivial⟩
theorem arguments_lt (s : PS) : Lt (arguments I s).2 s := by
  unfold arguments
  split
  · exact Lt.trans (nextS_le _) (wantO_lt _ s)
  · exact (closedList_lt hI _ _).trans' (wantO_lt _ s).1
theorem built_le (nm : B) (s : PS) : Le (built nm I s).2 s := by
  unfold built
  split
  · exact Le.refl s
  · split
    · exact (arguments_lt hI s).1
    · exact (failN_lt _).1.trans (arguments_lt hI s).1
theorem parenthesized_lt (s : PS) : Lt (parenthesized I s).2 s := by
  unfold parenthesized
  split
  · exact closedList_lt hI _ s
  · exact Lt.trans ((name_lt _).1.trans (wantW_lt _ _).1) (closedList_lt hI _ s)
theorem field_lt (s : PS) : Lt (field I s).2 s := by
  unfold field
  split
  · exact hI _ s
  · exact hI _ s
theorem operand_lt (s : PS) : Lt (operand I s).2 s := by
  unfold operand
  split
  · rename_i h
    refine nextS_lt ?_
    rcases h with h | h | h
    · exact ne_of_k h (by decide)
    · exact ne_of_k h (by decide)
    · exact ne_of_k h (by decide)
  · split
    · rename_i h
      have hn := nextS_lt (ne_of_k h (by decide))
      split
      · exact Lt.trans ((closedList_lt hI _ _).1.trans (nextS_le _)) hn
      · exact hn
    · split
      · rename_i h
        exact Lt.trans (arguments_lt hI _).1 (nextS_lt (ne_of_k h (by decide)))
      · split
        · rename_i h
          exact Lt.trans (built_le hI _ _) (nextS_lt (ne_of_k h (by decide)))
        · split
          · rename_i h
            exact Lt.trans (parenthesized_lt hI _).1 (nextS_lt (ne_of_k h.1 (by decide)))
          · split
            · rename_i h
              exact Lt.trans (field_lt hI _).1 (nextS_lt (ne_of_k h.1 (by decide)))
            · exact (failN_lt _).trans' (nextS_le s)
theorem stepAhead_lt (s : PS) : Lt (stepAhead I s).2 s := by
  unfold stepAhead
  split
  · exact (hI _ _).trans' (nextS_le s)
  · exact (failN_lt _).trans' ((hI _ _).1.trans (nextS_le s))
theorem stepped_lt (s : PS) : Lt (stepped I s).2 s := by
  unfold stepped
  split
  · exact stepAhead_lt hI s
  · split
    · exact Lt.trans (nextS_le _) (operand_lt hI s)
    · exact operand_lt hI s
theorem power_lt (s : PS) : Lt (power I s).2 s := by
  unfold power
  split
  · exact Lt.trans ((hI _ _).1.trans (nextS_le _)) (stepped_lt hI s)
  · exact stepped_lt hI s
theorem exponent_lt (s : PS) : Lt (exponent I s).2 s := by
  unfold exponent
  split
  · exact (hI _ _).trans' (nextS_le s)
  · exact power_lt hI s
theorem signed_lt (s : PS) : Lt (signed I s).2 s := by
  unfold signed
  split
  · exact (hI _ _).trans' (nextS_le s)
  · exact power_lt hI s
omit hI
theorem lineS_le (t : B) (s : PS) : Le (lineS t s) s := by
  unfold lineS
  split
  · exact skipLines_le s
  · exact Le.refl s
theorem leftL_le {t : Rd} (ht : ∀ s, Lt (t s).2 s) (ops : List B) (k : Nat) (n : Nd) (s : PS) : Le (leftL t ops k n s).2 s := by
  induction k generalizing n s with
  | zero => exact Le.refl s
  | succ k ih =>
    unfold leftL
    split
    · exact (ih _ _).trans ((ht _).1.trans ((lineS_le _ _).trans (nextS_le s)))
    · exact Le.refl s
theorem fromLeft_lt {t : Rd} (ht : ∀ s, Lt (t s).2 s) (ops : List B) (s : PS) : Lt (fromLeft t ops s).2 s := Lt.trans (leftL_le ht _ _ _ _) (ht s)
theorem joinL_le {t : Rd} (ht : ∀ s, Lt (t s).2 s) (k : Nat) (n : Nd) (s : PS) : Le (joinL t k n s).2 s := by
  induction k generalizing n s with
  | zero => exact Le.refl s
  | succ k ih =>
    unfold joinL
    split
    · exact (ih _ _).trans (ht _).1
    · exact Le.refl s
theorem memL_le (k : Nat) (n : Nd) (s : PS) : Le (memL k n s).2 s := by
  induction k generalizing n s with
  | zero => exact Le.refl s
  | succ k ih =>
    unfold memL
    split
    · exact (ih _ _).trans ((name_lt _).1.trans (nextS_le s))
    · exact Le.refl s
include hI
theorem product_lt (s : PS) : Lt (product I s).2 s := fromLeft_lt (signed_lt hI) _ s
theorem sum_lt (s : PS) : Lt (sum I s).2 s := fromLeft_lt (product_lt hI) _ s
theorem joined_lt (s : PS) : Lt (joined I s).2 s := Lt.trans (joinL_le (sum_lt hI) _ _ _) (sum_lt hI s)
theorem compared_lt (s : PS) : Lt (compared I s).2 s := by
  have h := joined_lt hI s
  unfold compared
  generalize joined I s = q at *
  split
  · exact Lt.trans ((joined_lt hI _).1.trans (nextS_le _)) h
  · exact h
theorem matched_lt (s : PS) : Lt (matched I s).2 s := fromLeft_lt (compared_lt hI) _ s
theorem member_lt (s : PS) : Lt (member I s).2 s := Lt.trans (memL_le _ _ _) (matched_lt hI s)
theorem both_lt (s : PS) : Lt (both I s).2 s := fromLeft_lt (member_lt hI) _ s
theorem either_lt (s : PS) : Lt (either I s).2 s := fromLeft_lt (both_lt hI) _ s
theorem alternative_lt (s : PS) : Lt (alternative I s).2 s := by
  unfold alternative
  split
  · exact Lt.trans ((hI _ _).1.trans ((skipLines_le _).trans ((wantO_lt _ _).1.trans ((hI _ _).1.trans ((skipLines_le _).trans (nextS_le _)))))) (either_lt hI s)
  · exact either_lt hI s
theorem expression_lt (s : PS) : Lt (expression I s).2 s := by
  unfold expression
  split
  · split
    · exact Lt.trans ((hI _ _).1.trans (nextS_le _)) (alternative_lt hI s)
    · exact (failN_lt _).trans' (alternative_lt hI s).1
  · exact alternative_lt hI s
theorem leaving_le (nm : B) (s : PS) : Le (leaving nm I s).2 s := by
  unfold leaving
  split
  · exact Le.refl s
  · exact (hI _ s).1
theorem deletion_le (s : PS) : Le (deletion I s).2 s := (closedList_lt hI _ _).1.trans ((wantO_lt _ _).1.trans (name_lt s).1)
theorem sentList_le (s : PS) : Le (sentList I s).2 s := ⟨fun _ => rfl, (list_lt hI { s with s := true }).1.2⟩
theorem printed_le (s : PS) : Le (printed I s).2 s := by
  unfold printed
  split
  · split
    · exact (closedList_lt hI _ _).1.trans (nextS_le s)
    · have h1 := sentList_le hI { (closedList o_rpar I (nextS s)).2 with r := s.r }
      have h2 := (closedList_lt hI o_rpar (nextS s)).1.trans (nextS_le s)
      exact Le.trans (b := { (closedList o_rpar I (nextS s)).2 with r := s.r }) h1 ⟨h2.1, h2.2⟩
  · exact sentList_le hI s
theorem sent_le (nm : B) (l : Fo) (s : PS) : Le (sent nm I l s).2 s := by
  unfold sent
  split
  · exact (hI _ _).1.trans (nextS_le s)
  · exact Le.refl s
theorem printing_le (nm : B) (s : PS) : Le (printing nm I s).2 s := by
  unfold printing
  split
  · exact (sent_le hI _ _ _).trans (printed_le hI s)
  · split
    · exact (failN_lt s).1
    · exact sent_le hI _ _ s
theorem command_le (nm : B) (s : PS) : Le (command nm I s).2 s := by
  unfold command
  repeat' split
  all_goals first | exact printing_le hI _ s | exact deletion_le hI s | exact leaving_le hI _ s | exact (failN_lt s).1 | exact Le.refl s
theorem simple_lt (s : PS) : Lt (simple I s).2 s := by
  unfold simple
  split
  · rename_i h
    exact Lt.trans (command_le hI _ _) (nextS_lt (ne_of_k h (by decide)))
  · exact hI _ s
theorem blkL_le (k : Nat) (f : Fo) (s : PS) : Le (blkL I k f s).2 s := by
  induction k generalizing f s with
  | zero => exact Le.refl s
  | succ k ih =>
    unfold blkL
    split
    · exact Le.refl s
    · split
      · exact nextS_le s
      · exact (ih _ _).trans ((skipEnds_le _).trans (hI _ s).1)
theorem block_lt (s : PS) : Lt (block I s).2 s := Lt.trans ((blkL_le hI _ _ _).trans (skipEnds_le _)) (wantO_lt _ s)
theorem condition_lt (s : PS) : Lt (condition I s).2 s := Lt.trans ((wantO_lt _ _).1.trans (hI _ _).1) (wantO_lt _ s)
omit hI
theorem takeElse_le (s : PS) : Le (takeElse s).2 s := by
  unfold takeElse
  split
  · exact (nextS_le _).trans (skipEnds_le s)
  · exact Le.refl s
include hI
theorem choice_lt (s : PS) : Lt (choice I s).2 s := by
  have h1 : Lt (condition I (nextS s)).2 s := (condition_lt hI _).trans' (nextS_le s)
  have h2 := Lt.trans (((hI .statement _).1).trans (skipLines_le _)) h1
  unfold choice
  simp only
  split
  · exact Lt.trans ((hI _ _).1.trans ((skipLines_le _).trans (takeElse_le _))) h2
  · exact Lt.trans (takeElse_le _) h2
theorem loopStatement_lt (s : PS) : Lt (loopStatement I s).2 s := by
  have h := (hI .statement (moreL (skipLines s))).1
  have e1 : (moreL (skipLines s)).l = (s.l + 1 + 9223372036854775808) % 18446744073709551616 - 9223372036854775808 := IntKind.wrap_i64 (s.l + 1)
  have e2 : (loopStatement I s).2.l = ((I .statement (moreL (skipLines s))).2.l - 1 + 9223372036854775808) % 18446744073709551616 - 9223372036854775808 := IntKind.wrap_i64 _
  refine ⟨⟨fun e => h.1 e, fun i => ?_⟩, trivial⟩
  have h2 := h.2 (by rw [e1]; unfold In; omega)
  rw [e2, h2, e1]
  unfold In at i
  omega
theorem doLoop_le (s : PS) : Lt (doLoop I s).2 s :=
  Lt.trans ((condition_lt hI _).1.trans ((wantW_lt _ _).1.trans (skipEnds_le _))) (loopStatement_lt hI s)
theorem whileLoop_lt (s : PS) : Lt (whileLoop I s).2 s :=
  Lt.trans (loopStatement_lt hI _).1 ((condition_lt hI _).trans' (nextS_le s))
theorem forIn_lt (s : PS) : Lt (forIn I s).2 s :=
  Lt.trans ((loopStatement_lt hI _).1.trans ((wantO_lt _ _).1.trans ((name_lt _).1.trans (wantW_lt _ _).1))) (name_lt s)
theorem unlessO_le (o : B) (x : W) (s : PS) : Le (unlessO o x I s).2 s := by
  unfold unlessO
  split
  · exact Le.refl s
  · exact (hI _ s).1
theorem forThree_lt (s : PS) : Lt (forThree I s).2 s := by
  unfold forThree
  simp only
  refine Lt.trans' (loopStatement_lt hI _) ?_
  refine (wantO_lt _ _).1.trans ((unlessO_le hI _ _ _).trans ((skipLines_le _).trans ((wantO_lt _ _).1.trans ((unlessO_le hI _ _ _).trans ((skipLines_le _).trans ((wantO_lt _ _).1.trans (unlessO_le hI _ _ _)))))))
theorem forLoop_lt (s : PS) : Lt (forLoop I s).2 s := by
  unfold forLoop
  split
  · exact (forIn_lt hI _).trans' ((wantO_lt _ _).1.trans (nextS_le s))
  · exact (forThree_lt hI _).trans' ((wantO_lt _ _).1.trans (nextS_le s))
omit hI
theorem orFail_lt {q : Nd × PS} {s : PS} (h : Lt q.2 s) : Lt (orFail q).2 s := by
  unfold orFail
  split
  · exact (failS_lt _).trans' h.1
  · exact h
include hI
theorem endedSimple_lt (s : PS) : Lt (endedSimple I s).2 s := by
  unfold endedSimple
  refine orFail_lt ?_
  split
  · exact (doLoop_le hI _).trans' (nextS_le s)
  · exact simple_lt hI s
theorem statement_lt (s : PS) : Lt (statement I s).2 s := by
  unfold statement
  split
  · exact block_lt hI s
  · split
    · exact nextS_lt (ne_of_isOp (by assumption))
    · split
      · exact choice_lt hI s
      · split
        · exact whileLoop_lt hI s
        · split
          · exact forLoop_lt hI s
          · exact endedSimple_lt hI s
theorem body_lt (x : W) (s : PS) : Lt (body I x s).2 s := by
  cases x with
  | expr => exact expression_lt hI s
  | signed => exact signed_lt hI s
  | exponent => exact exponent_lt hI s
  | operand => exact operand_lt hI s
  | step => exact stepAhead_lt hI s
  | joined => exact joined_lt hI s
  | statement => exact statement_lt hI s
  | simple => exact simple_lt hI s
omit hI
end
theorem inn_lt (d : Nat) : LtI (inn d) := by
  induction d with
  | zero => exact fun x s => failN_lt s
  | succ d ih => exact fun x s => body_lt ih x s

end Go.Proofs.YtgbibfhacjjaeaaGreat.syn.kl

namespace Go.Proofs.YtgbibfhacjjaeaaGreat.syn.ex
set_option maxRecDepth 20000 set_option linter.unusedVariables false set_option linter.unusedSimpArgs false
open Go.Proofs.YtgbibfhacjjaeaaGreat.lexs (Tok kNl kNum kStr kEre kOp kName kFunc kWord kBuilt)

def E (X : List Tok) (s : PS) : PS := { s with r := s.r ++ X }
/-- What may stand behind. -/
structure Good (X : List Tok) : Prop where
  nl : ∃ u Y, X = ⟨kNl, u⟩ :: Y
  el : ((X.dropWhile isEnd).headD tok0 == ⟨kWord, w_else⟩) = false
def Ext {α : Type} (X : List Tok) (rd : PS → α × PS) : Prop := ∀ s, (rd s).2.f = false → rd (E X s) = ((rd s).1, E X (rd s).2)
def ExtI (X : List Tok) (I : Inn) : Prop := ∀ x, Ext X (I x)
theorem ok_le {a b : PS} (h : Le a b) (ha : a.f = false) : b.f = false := by
  cases hb : b.f with
  | false => rfl
  | true => rw [h.2 hb] at ha; cases ha
theorem ne_lt {a b : PS} (h : Lt a b) (ha : a.f = false) : b.r ≠ [] := by
  intro e
  rcases h.2.1 with h1 | h1
  · rw [h1] at ha; cases ha
  · rw [e] at h1; cases h1
section
variable {X : List Tok} (hX : Good X)
theorem E_f (s : PS) : (E X s).f = s.f := rfl
theorem peek_E {s : PS} (h : s.r ≠ []) : peek (E X s) = peek s := by
  unfold peek E
  cases hr : s.r with
  | nil => exact absurd hr h
  | cons a l => rfl
theorem next_E {s : PS} (h : s.r ≠ []) : nextS (E X s) = E X (nextS s) := by
  unfold nextS E
  cases hr : s.r with
  | nil => exact absurd hr h
  | cons a l => rfl
include hX
theorem peek_E0 {s : PS} (h : s.r = []) : ∃ u, peek (E X s) = ⟨kNl, u⟩ := by
  obtain ⟨u, Y, rfl⟩ := hX.nl
  refine ⟨u, ?_⟩
  unfold peek E
  rw [h]
  rfl
theorem isOp_E (s : PS) (t : B) : isOp (E X s) t = isOp s t := by
  by_cases h : s.r = []
  · obtain ⟨u, hu⟩ := peek_E0 hX h
    unfold isOp
    rw [hu, peek_nil h]
    have h1 : ((⟨kNl, u⟩ : Tok) == ⟨kOp, t⟩) = false := by rw [beq_eq_false_iff_ne]; intro e; cases e
    have h2 : (tok0 == (⟨kOp, t⟩ : Tok)) = false := by rw [beq_eq_false_iff_ne]; intro e; cases e
    rw [h1, h2]
  · unfold isOp; rw [peek_E h]
theorem isWord_E (s : PS) (t : B) : isWord (E X s) t = isWord s t := by
  by_cases h : s.r = []
  · obtain ⟨u, hu⟩ := peek_E0 hX h
    unfold isWord
    rw [hu, peek_nil h]
    have h1 : ((⟨kNl, u⟩ : Tok) == ⟨kWord, t⟩) = false := by rw [beq_eq_false_iff_ne]; intro e; cases e
    have h2 : (tok0 == (⟨kWord, t⟩ : Tok)) = false := by rw [beq_eq_false_iff_ne]; intro e; cases e
    rw [h1, h2]
  · unfold isWord; rw [peek_E h]
theorem atOp_E (s : PS) (L : List B) : atOp (E X s) L = atOp s L := by
  by_cases h : s.r = []
  · obtain ⟨u, hu⟩ := peek_E0 hX h
    unfold atOp
    rw [hu, peek_nil h]
    have h1 : (kNl == kOp) = false := by decide
    have h2 : (tok0.k == kOp) = false := by decide
    rw [show ((⟨kNl, u⟩ : Tok).k == kOp) = false from h1, h2]
    rfl
  · unfold atOp; rw [peek_E h]
theorem isName_E (s : PS) : isName (peek (E X s)) = isName (peek s) := by
  by_cases h : s.r = []
  · obtain ⟨u, hu⟩ := peek_E0 hX h
    rw [hu, peek_nil h]
    rfl
  · rw [peek_E h]
theorem wantO_E (t : B) (s : PS) (h : (wantO t s).f = false) : wantO t (E X s) = E X (wantO t s) := by
  unfold wantO at h ⊢
  rw [isOp_E hX]
  cases hc : isOp s t with
  | false => rw [hc, if_neg (by decide)] at h; cases h
  | true => rw [if_pos rfl, if_pos rfl, next_E (ne_of_isOp hc)]
theorem wantW_E (t : B) (s : PS) (h : (wantW t s).f = false) : wantW t (E X s) = E X (wantW t s) := by
  unfold wantW at h ⊢
  rw [isWord_E hX]
  cases hc : isWord s t with
  | false => rw [hc, if_neg (by decide)] at h; cases h
  | true => rw [if_pos rfl, if_pos rfl, next_E (ne_of_isWord hc)]
theorem name_E : Ext X name := by
  intro s h
  have hn : isName (peek s) = true := by
    cases hc : isName (peek s) with
    | true => rfl
    | false => unfold name nameS at h; rw [hc, if_neg (by decide)] at h; cases h
  have hne : s.r ≠ [] := ne_of_peek (fun e => by rw [e] at hn; revert hn; decide)
  unfold name nameS
  rw [isName_E hX, hn, if_pos rfl, if_pos rfl, peek_E hne, next_E hne]
omit hX
theorem dw_app (p : Tok → Bool) (l Y : List Tok) (h : l.dropWhile p ≠ []) : (l ++ Y).dropWhile p = l.dropWhile p ++ Y := by
  induction l with
  | nil => exact absurd rfl h
  | cons a l ih =>
    rw [List.cons_append, List.dropWhile_cons, List.dropWhile_cons] at *
    split
    · rename_i hp
      rw [if_pos hp] at h
      exact ih h
    · rfl
theorem dw_all (p : Tok → Bool) (l Y : List Tok) (h : l.dropWhile p = []) : (l ++ Y).dropWhile p = Y.dropWhile p := by
  induction l with
  | nil => rfl
  | cons a l ih =>
    rw [List.cons_append, List.dropWhile_cons] at *
    split at h
    · rename_i hp
      rw [if_pos hp]
      exact ih h
    · cases h
theorem lines_E {s : PS} (h : (skipLines s).r ≠ []) : skipLines (E X s) = E X (skipLines s) := by
  unfold skipLines E
  have := dw_app isNl s.r X h
  simp only [this]
theorem ends_E {s : PS} (h : (skipEnds s).r ≠ []) : skipEnds (E X s) = E X (skipEnds s) := by
  unfold skipEnds E
  have := dw_app isEnd s.r X h
  simp only [this]
end

section
variable {X : List Tok} (hX : Good X) {I : Inn} (hI : ExtI X I) (hL : LtI I)
include hX hI hL
theorem listL_E (k k' : Nat) (f : Fo) (s : PS) (hk : s.r.length ≤ k) (hk' : k ≤ k') (h : (listL I k f s).2.f = false) : listL I k' f (E X s) = ((listL I k f s).1, E X (listL I k f s).2) := by
  induction k generalizing k' f s with
  | zero =>
    have hr : s.r = [] := List.eq_nil_of_length_eq_zero (by omega)
    have hc : isOp s o_comma = false := by
      cases hc : isOp s o_comma with
      | false => rfl
      | true => exact absurd hr (ne_of_isOp hc)
    cases k' with
    | zero => rfl
    | succ k' => unfold listL; rw [isOp_E hX, hc, if_neg (by decide)]
  | succ k ih =>
    obtain ⟨k', rfl⟩ : ∃ m, k' = m + 1 := ⟨k' - 1, by omega⟩
    unfold listL at h ⊢
    rw [isOp_E hX]
    cases hc : isOp s o_comma with
    | false => rw [if_neg (by decide), if_neg (by decide)]
    | true =>
      rw [hc, if_pos rfl] at h
      rw [if_pos rfl, if_pos rfl]
      have hne := ne_of_isOp hc
      have h1 := ok_le (listL_le hL _ _ _) h
      have h2 := ne_lt (hL .expr _) h1
      rw [next_E hne, lines_E h2, hI .expr _ h1]
      refine ih _ _ _ ?_ (by omega) h
      have e1 := (hL .expr (skipLines (nextS s))).1.1
      have e2 := (skipLines_le (nextS s)).1
      have e3 : (nextS s).r.length = s.r.length - 1 := by unfold nextS; simp
      have e4 := List.length_pos_iff.2 hne
      omega
theorem list_E : Ext X (list I) := by
  intro s h
  have h1 := ok_le (listL_le hL _ _ _) h
  unfold list
  rw [hI .expr s h1]
  exact listL_E hX hI hL _ _ _ _ (Nat.le_refl _) (by simp [E]) h
theorem closedList_E (c : B) : Ext X (closedList c I) := by
  intro s h
  have h1 : (list I { s with s := false }).2.f = false := ok_le (wantO_lt c { (list I { s with s := false }).2 with s := s.s }).1 h
  have e := list_E hX hI hL { s with s := false } h1
  have e2 : E X { s with s := false } = { E X s with s := false } := rfl
  rw [e2] at e
  unfold closedList
  rw [e]
  have h2 := wantO_E hX c { (list I { s with s := false }).2 with s := s.s } h
  have e3 : E X { (list I { s with s := false }).2 with s := s.s } = { E X (list I { s with s := false }).2 with s := (E X s).s } := rfl
  rw [e3] at h2
  rw [h2]
theorem arguments_E : Ext X (arguments I) := by
  intro s h
  unfold arguments at h ⊢
  cases hc : isOp (wantO o_lpar s) o_rpar with
  | true =>
    rw [hc, if_pos rfl] at h
    have h1 : (wantO o_lpar s).f = false := h
    rw [wantO_E hX _ _ h1, isOp_E hX, hc, if_pos rfl, if_pos rfl, next_E (ne_of_isOp hc)]
  | false =>
    rw [hc, if_neg (by decide)] at h
    have h1 := ok_le (closedList_lt hL _ _).1 h
    rw [wantO_E hX _ _ h1, isOp_E hX, hc, if_neg (by decide), if_neg (by decide)]
    exact closedList_E hX hI hL _ _ h
theorem built_E (nm : B) : Ext X (built nm I) := by
  intro s h
  unfold built at h ⊢
  rw [atOp_E hX]
  split at h
  · rename_i hc
    rw [if_pos hc, if_pos hc]
  · rename_i hc
    rw [if_neg hc, if_neg hc]
    split at h
    · rename_i hr
      rw [arguments_E hX hI hL _ h, if_pos hr, if_pos hr]
    · cases h
theorem parenthesized_E : Ext X (parenthesized I) := by
  intro s h
  unfold parenthesized at h ⊢
  split at h
  · rename_i hc
    rw [closedList_E hX hI hL _ _ h, if_pos hc, if_pos hc]
  · rename_i hc
    have h1 := ok_le (name_lt _).1 h
    have h2 := ok_le (wantW_lt _ _).1 h1
    rw [closedList_E hX hI hL _ _ h2, if_neg hc, if_neg hc]
    dsimp only
    rw [wantW_E hX _ _ h1, name_E hX _ h]
omit hL
theorem field_E : Ext X (field I) := by
  intro s h
  unfold field at h ⊢
  rw [atOp_E hX]
  split at h
  · rename_i hc
    rw [if_pos hc, if_pos hc, hI .step s h]
  · rename_i hc
    rw [if_neg hc, if_neg hc, hI .operand s h]
include hL
theorem operand_E : Ext X (operand I) := by
  intro s h
  have hne : s.r ≠ [] := ne_lt (operand_lt hL s) h
  unfold operand at h ⊢
  rw [peek_E hne]
  split at h
  · rename_i h1
    rw [if_pos h1, if_pos h1, next_E hne]
  rename_i h1
  rw [if_neg h1, if_neg h1]
  split at h
  · rename_i h2
    rw [if_pos h2, if_pos h2, next_E hne, isOp_E hX]
    split at h
    · rename_i h3
      have h3' : isOp (nextS s) o_lbr = true := h3
      rw [if_pos h3', if_pos h3', next_E (ne_of_isOp h3'), closedList_E hX hI hL _ _ h]
    · rename_i h3
      have h3' : ¬ isOp (nextS s) o_lbr = true := h3
      rw [if_neg h3', if_neg h3']
  rename_i h2
  rw [if_neg h2, if_neg h2]
  split at h
  · rename_i h3
    rw [if_pos h3, if_pos h3, next_E hne, arguments_E hX hI hL _ h]
  rename_i h3
  rw [if_neg h3, if_neg h3]
  split at h
  · rename_i h4
    rw [if_pos h4, if_pos h4, next_E hne, built_E hX hI hL _ _ h]
  rename_i h4
  rw [if_neg h4, if_neg h4]
  split at h
  · rename_i h5
    rw [if_pos h5, if_pos h5, next_E hne, parenthesized_E hX hI hL _ h]
  rename_i h5
  rw [if_neg h5, if_neg h5]
  split at h
  · rename_i h6
    rw [if_pos h6, if_pos h6, next_E hne, field_E hX hI _ h]
  · cases h
omit hX hL
theorem stepAhead_E (s : PS) (hne : s.r ≠ []) (h : (stepAhead I s).2.f = false) : stepAhead I (E X s) = ((stepAhead I s).1, E X (stepAhead I s).2) := by
  unfold stepAhead at h ⊢
  rw [peek_E hne, next_E hne]
  split at h
  · rename_i hc
    rw [hI .operand _ h, if_pos hc, if_pos hc]
  · cases h
include hX hL
theorem stepped_E : Ext X (stepped I) := by
  intro s h
  have hne : s.r ≠ [] := ne_lt (stepped_lt hL s) h
  unfold stepped at h ⊢
  rw [atOp_E hX]
  split at h
  · rename_i hc
    rw [if_pos hc, if_pos hc, stepAhead_E hI s hne h]
  · rename_i hc
    rw [if_neg hc, if_neg hc]
    have h1 : (operand I s).2.f = false := by
      split at h
      · exact h
      · exact h
    rw [operand_E hX hI hL s h1]
    dsimp only
    rw [atOp_E hX]
    split at h
    · rename_i hd
      have hd2 : atOp (operand I s).2 opsStep = true := by
        rw [Bool.and_eq_true] at hd
        exact hd.2
      rw [if_pos hd, if_pos hd, peek_E (ne_of_atOp hd2), next_E (ne_of_atOp hd2)]
    · rename_i hd
      rw [if_neg hd, if_neg hd]
theorem power_E : Ext X (power I) := by
  intro s h
  have hJ := stepped_E hX hI hL
  have hl := stepped_lt hL
  unfold power at h ⊢
  generalize stepped I = J at *
  split at h
  · rename_i hc
    have h1 : (nextS (J s).2).f = false := ok_le (hL .exponent _).1 h
    rw [hJ s h1]
    dsimp only
    rw [isOp_E hX, if_pos hc, if_pos hc, next_E (ne_of_isOp hc), hI .exponent _ h]
  · rename_i hc
    rw [hJ s h]
    dsimp only
    rw [isOp_E hX, if_neg hc, if_neg hc]
theorem exponent_E : Ext X (exponent I) := by
  intro s h
  unfold exponent at h ⊢
  rw [atOp_E hX]
  split at h
  · rename_i hc
    rw [if_pos hc, if_pos hc, peek_E (ne_of_atOp hc), next_E (ne_of_atOp hc), hI .exponent _ h]
  · rename_i hc
    rw [if_neg hc, if_neg hc, power_E hX hI hL s h]
theorem signed_E : Ext X (signed I) := by
  intro s h
  unfold signed at h ⊢
  rw [atOp_E hX]
  split at h
  · rename_i hc
    rw [if_pos hc, if_pos hc, peek_E (ne_of_atOp hc), next_E (ne_of_atOp hc), hI .signed _ h]
  · rename_i hc
    rw [if_neg hc, if_neg hc, power_E hX hI hL s h]
omit hI hL
theorem leftL_E {t : Rd} (ht : Ext X t) (hl : ∀ s, Lt (t s).2 s) (L : List B) (k k' : Nat) (n : Nd) (s : PS) (hk : s.r.length ≤ k) (hk' : k ≤ k') (h : (leftL t L k n s).2.f = false) : leftL t L k' n (E X s) = ((leftL t L k n s).1, E X (leftL t L k n s).2) := by
  induction k generalizing k' n s with
  | zero =>
    have hr : s.r = [] := List.eq_nil_of_length_eq_zero (by omega)
    have hc : atOp s L = false := by
      cases hc : atOp s L with
      | false => rfl
      | true => exact absurd hr (ne_of_atOp hc)
    cases k' with
    | zero => rfl
    | succ k' => unfold leftL; rw [atOp_E hX, hc, if_neg (by decide)]
  | succ k ih =>
    obtain ⟨k', rfl⟩ : ∃ m, k' = m + 1 := ⟨k' - 1, by omega⟩
    unfold leftL at h ⊢
    rw [atOp_E hX]
    cases hc : atOp s L with
    | false => rw [if_neg (by decide), if_neg (by decide)]
    | true =>
      rw [hc, if_pos rfl] at h
      rw [if_pos rfl, if_pos rfl]
      have hne := ne_of_atOp hc
      have h1 := ok_le (leftL_le hl L _ _ _) h
      have h2 := ne_lt (hl _) h1
      have h3 : lineS (peek s).t (E X (nextS s)) = E X (lineS (peek s).t (nextS s)) := by
        unfold lineS at h2 ⊢
        split
        · rename_i hp
          rw [if_pos hp] at h2
          exact lines_E h2
        · rfl
      rw [peek_E hne, next_E hne, h3, ht _ h1]
      refine ih _ _ _ ?_ (by omega) h
      have e1 := (hl (lineS (peek s).t (nextS s))).1.1
      have e2 := (lineS_le (peek s).t (nextS s)).1
      have e3 : (nextS s).r.length = s.r.length - 1 := by unfold nextS; simp
      have e4 := List.length_pos_iff.2 hne
      omega
theorem fromLeft_E {t : Rd} (ht : Ext X t) (hl : ∀ s, Lt (t s).2 s) (L : List B) : Ext X (fromLeft t L) := by
  intro s h
  have h1 := ok_le (leftL_le hl L _ _ _) h
  unfold fromLeft
  rw [ht s h1]
  exact leftL_E hX ht hl L _ _ _ _ (Nat.le_refl _) (by simp [E]) h
theorem joined_at (s : PS) : atJoined (E X s) = atJoined s := by
  unfold atJoined
  by_cases h : s.r = []
  · obtain ⟨u, hu⟩ := peek_E0 hX h
    rw [atOp_E hX, hu, peek_nil h]
    rw [if_neg (by intro e; revert e; simp only; decide), if_neg (by decide)]
  · rw [atOp_E hX, peek_E h]
omit hX
theorem ne_joined {s : PS} (h : atJoined s = true) : s.r ≠ [] := fun e => by
  unfold atJoined atOp at h
  rw [peek_nil e] at h
  revert h
  decide
include hX
theorem joinL_E {t : Rd} (ht : Ext X t) (hl : ∀ s, Lt (t s).2 s) (k k' : Nat) (n : Nd) (s : PS) (hk : s.r.length ≤ k) (hk' : k ≤ k') (h : (joinL t k n s).2.f = false) : joinL t k' n (E X s) = ((joinL t k n s).1, E X (joinL t k n s).2) := by
  induction k generalizing k' n s with
  | zero =>
    have hr : s.r = [] := List.eq_nil_of_length_eq_zero (by omega)
    have hc : atJoined s = false := by
      cases hc : atJoined s with
      | false => rfl
      | true => exact absurd hr (ne_joined hc)
    cases k' with
    | zero => rfl
    | succ k' => unfold joinL; rw [joined_at hX, hc, if_neg (by decide)]
  | succ k ih =>
    obtain ⟨k', rfl⟩ : ∃ m, k' = m + 1 := ⟨k' - 1, by omega⟩
    unfold joinL at h ⊢
    rw [joined_at hX]
    cases hc : atJoined s with
    | false => rw [if_neg (by decide), if_neg (by decide)]
    | true =>
      rw [hc, if_pos rfl] at h
      rw [if_pos rfl, if_pos rfl]
      have hne := ne_joined hc
      have h1 := ok_le (joinL_le hl _ _ _) h
      rw [ht _ h1]
      refine ih _ _ _ ?_ (by omega) h
      have e1 := (hl s).2.2
      have e4 := List.length_pos_iff.2 hne
      omega
theorem memL_E (k k' : Nat) (n : Nd) (s : PS) (hk : s.r.length ≤ k) (hk' : k ≤ k') (h : (memL k n s).2.f = false) : memL k' n (E X s) = ((memL k n s).1, E X (memL k n s).2) := by
  induction k generalizing k' n s with
  | zero =>
    have hr : s.r = [] := List.eq_nil_of_length_eq_zero (by omega)
    have hc : isWord s w_in = false := by
      cases hc : isWord s w_in with
      | false => rfl
      | true => exact absurd hr (ne_of_isWord hc)
    cases k' with
    | zero => rfl
    | succ k' => unfold memL; rw [isWord_E hX, hc, if_neg (by decide)]
  | succ k ih =>
    obtain ⟨k', rfl⟩ : ∃ m, k' = m + 1 := ⟨k' - 1, by omega⟩
    unfold memL at h ⊢
    rw [isWord_E hX]
    cases hc : isWord s w_in with
    | false => rw [if_neg (by decide), if_neg (by decide)]
    | true =>
      rw [hc, if_pos rfl] at h
      rw [if_pos rfl, if_pos rfl]
      have hne := ne_of_isWord hc
      have h1 := ok_le (memL_le _ _ _) h
      rw [next_E hne, name_E hX _ h1]
      refine ih _ _ _ ?_ (by omega) h
      have e1 := (name_lt (nextS s)).1.1
      have e3 : (nextS s).r.length = s.r.length - 1 := by unfold nextS; simp
      have e4 := List.length_pos_iff.2 hne
      omega
include hI hL
theorem product_E : Ext X (product I) := by
  have h1 := signed_E hX hI hL
  have h2 := signed_lt hL
  unfold product
  generalize signed I = J at *
  exact fromLeft_E hX h1 h2 _
theorem sum_E : Ext X (sum I) := by
  have h1 := product_E hX hI hL
  have h2 := product_lt hL
  unfold sum
  generalize product I = J at *
  exact fromLeft_E hX h1 h2 _
theorem joined_E : Ext X (joined I) := by
  intro s h
  have hJ := sum_E hX hI hL
  have hl := sum_lt hL
  unfold joined at h ⊢
  generalize sum I = J at *
  have h1 := ok_le (joinL_le hl _ _ _) h
  rw [hJ s h1]
  exact joinL_E hX hJ hl _ _ _ _ (Nat.le_refl _) (by simp [E]) h
theorem compared_E : Ext X (compared I) := by
  intro s h
  have hJ := joined_E hX hI hL
  have hl := joined_lt hL
  unfold compared at h ⊢
  generalize joined I = J at *
  have h1 : (J s).2.f = false := by
    split at h
    · exact ok_le (nextS_le _) (ok_le (hl _).1 h)
    · exact h
  rw [hJ s h1]
  dsimp only
  rw [atOp_E hX, atOp_E hX]
  split at h
  · rename_i hc
    have hne : (J s).2.r ≠ [] := by
      rw [Bool.or_eq_true, Bool.and_eq_true] at hc
      rcases hc with hc | hc
      · exact ne_of_atOp hc
      · exact ne_of_atOp hc.1
    have hc2 : (atOp (J s).2 opsComp || atOp (J s).2 [o_gt] && !(E X (J s).2).s) = true := hc
    rw [if_pos hc2, if_pos hc, peek_E hne, next_E hne, hJ _ h]
  · rename_i hc
    have hc2 : ¬ (atOp (J s).2 opsComp || atOp (J s).2 [o_gt] && !(E X (J s).2).s) = true := hc
    rw [if_neg hc2, if_neg hc]
theorem matched_E : Ext X (matched I) := by
  have h1 := compared_E hX hI hL
  have h2 := compared_lt hL
  unfold matched
  generalize compared I = J at *
  exact fromLeft_E hX h1 h2 _
theorem member_E : Ext X (member I) := by
  intro s h
  have hJ := matched_E hX hI hL
  unfold member at h ⊢
  generalize matched I = J at *
  have h1 := ok_le (memL_le _ _ _) h
  rw [hJ s h1]
  exact memL_E hX _ _ _ _ (Nat.le_refl _) (by simp [E]) h
theorem both_E : Ext X (both I) := by
  have h1 := member_E hX hI hL
  have h2 := member_lt hL
  unfold both
  generalize member I = J at *
  exact fromLeft_E hX h1 h2 _
theorem either_E : Ext X (either I) := by
  have h1 := both_E hX hI hL
  have h2 := both_lt hL
  unfold either
  generalize both I = J at *
  exact fromLeft_E hX h1 h2 _
theorem alternative_E : Ext X (alternative I) := by
  intro s h
  have hJ := either_E hX hI hL
  have hl := either_lt hL
  unfold alternative at h ⊢
  generalize either I = J at *
  split at h
  · rename_i hc
    have h1 := ok_le (hL .expr _).1 h
    have n1 := ne_lt (hL .expr _) h
    have h2 : (wantO o_colon (I .expr (skipLines (nextS (J s).2))).2).f = false := h1
    have h3 := ok_le (wantO_lt _ _).1 h2
    have n3 := ne_lt (hL .expr _) h3
    have h4 : (J s).2.f = false := show (skipLines (nextS (J s).2)).f = false from ok_le (hL .expr _).1 h3
    rw [hJ s h4]
    dsimp only
    rw [isOp_E hX, if_pos hc, if_pos hc, next_E (ne_of_isOp hc), lines_E n3, hI .expr _ h3]
    dsimp only
    rw [wantO_E hX _ _ h2, lines_E n1, hI .expr _ h]
  · rename_i hc
    rw [hJ s h]
    dsimp only
    rw [isOp_E hX, if_neg hc, if_neg hc]
theorem expression_E : Ext X (expression I) := by
  intro s h
  have hJ := alternative_E hX hI hL
  have hl := alternative_lt hL
  unfold expression at h ⊢
  generalize alternative I = J at *
  split at h
  · rename_i hc
    split at h
    · rename_i hp
      have h1 : (J s).2.f = false := show (nextS (J s).2).f = false from ok_le (hL .expr _).1 h
      rw [hJ s h1]
      dsimp only
      rw [atOp_E hX, if_pos hc, if_pos hc, if_pos hp, if_pos hp, peek_E (ne_of_atOp hc), next_E (ne_of_atOp hc), hI .expr _ h]
    · cases h
  · rename_i hc
    rw [hJ s h]
    dsimp only
    rw [atOp_E hX, if_neg hc, if_neg hc]
end
end Go.Proofs.YtgbibfhacjjaeaaGreat.syn.ex

namespace Go.Proofs.YtgbibfhacjjaeaaGreat.syn.ex
set_option maxRecDepth 20000 set_option linter.unusedVariables false set_option linter.unusedSimpArgs false
open Go.Proofs.YtgbibfhacjjaeaaGreat.lexs (Tok kNl kNum kStr kEre kOp kName kFunc kWord kBuilt)

section
variable {X : List Tok} (hX : Good X)
theorem atEnd_E {s : PS} (h : s.r ≠ []) : atEnd (E X s) = atEnd s := by unfold atEnd; rw [peek_E h]
include hX
theorem simpleEnd_E {s : PS} (h : s.r ≠ []) : atSimpleEnd (E X s) = atSimpleEnd s := by unfold atSimpleEnd; rw [atEnd_E h, atOp_E hX]
omit hX
theorem atEnd_nil {s : PS} (h : s.r = []) : atEnd s = false := by unfold atEnd; rw [peek_nil h]; decide
theorem atOp_nil {s : PS} (h : s.r = []) (L : List B) : atOp s L = false := by
  cases hc : atOp s L with
  | false => rfl
  | true => exact absurd h (ne_of_atOp hc)
theorem simpleEnd_nil {s : PS} (h : s.r = []) : atSimpleEnd s = false := by unfold atSimpleEnd; rw [atEnd_nil h, atOp_nil h]; rfl
include hX
theorem takeElse_E (s : PS) : takeElse (E X s) = ((takeElse s).1, E X (takeElse s).2) := by
  unfold takeElse
  by_cases h : (skipEnds s).r = []
  · have h1 : isWord (skipEnds s) w_else = false := by
      cases hc : isWord (skipEnds s) w_else with
      | false => rfl
      | true => exact absurd h (ne_of_isWord hc)
    have h2 : skipEnds (E X s) = { s with r := X.dropWhile isEnd } := by
      unfold skipEnds E
      have := dw_all isEnd s.r X h
      simp only [this]
    have h3 : isWord (skipEnds (E X s)) w_else = false := by rw [h2]; exact hX.el
    rw [h1, h3, if_neg (by decide), if_neg (by decide)]
  · rw [ends_E h, isWord_E hX]
    cases hc : isWord (skipEnds s) w_else with
    | false => rw [if_neg (by decide), if_neg (by decide)]
    | true => rw [if_pos rfl, if_pos rfl, next_E (ne_of_isWord hc)]
theorem isForIn_E (s : PS) : isForIn (E X s) = isForIn s := by
  obtain ⟨u, Y, rfl⟩ := hX.nl
  have e1 : ((⟨kNl, u⟩ : Tok) == ⟨kWord, w_in⟩) = false := by rw [beq_eq_false_iff_ne]; intro e; cases e
  have e2 : ((⟨kNl, u⟩ : Tok) == ⟨kOp, o_rpar⟩) = false := by rw [beq_eq_false_iff_ne]; intro e; cases e
  have e3 : isName (⟨kNl, u⟩ : Tok) = false := rfl
  have f1 : (tok0 == (⟨kWord, w_in⟩ : Tok)) = false := by decide
  have f2 : (tok0 == (⟨kOp, o_rpar⟩ : Tok)) = false := by decide
  have f3 : isName tok0 = false := rfl
  unfold isForIn ahead peek E
  rcases s.r with _ | ⟨a, _ | ⟨b, _ | ⟨c, _ | ⟨d, l⟩⟩⟩⟩
  · simp only [List.nil_append, List.headD, List.getD, f3, e3, Bool.false_and]
  · simp [List.headD, List.getD, f1, e1]
  · simp [List.headD, List.getD, f3, e3]
  · simp [List.headD, List.getD, f2, e2]
  · simp [List.headD, List.getD]
end

section
variable {X : List Tok} (hX : Good X) {I : Inn} (hI : ExtI X I) (hL : LtI I)
include hX hI hL
theorem leaving_E (nm : B) (s : PS) (h : (leaving nm I s).2.f = false) : leaving nm I (E X s) = ((leaving nm I s).1, E X (leaving nm I s).2) := by
  unfold leaving at h ⊢
  by_cases hne : s.r = []
  · rw [simpleEnd_nil hne, if_neg (by decide)] at h
    exact absurd hne (ne_lt (hL .expr s) h)
  · rw [simpleEnd_E hX hne]
    split at h
    · rename_i hc
      rw [if_pos hc, if_pos hc]
    · rename_i hc
      rw [if_neg hc, if_neg hc, hI .expr s h]
theorem deletion_E : Ext X (deletion I) := by
  intro s h
  unfold deletion at h ⊢
  have h1 : (wantO o_lbr (name s).2).f = false := ok_le (closedList_lt hL _ _).1 h
  have h2 : (name s).2.f = false := ok_le (wantO_lt _ _).1 h1
  rw [name_E hX s h2]
  dsimp only
  rw [wantO_E hX _ _ h1, closedList_E hX hI hL _ _ h]
theorem sentList_E : Ext X (sentList I) := by
  intro s h
  unfold sentList at h ⊢
  have e := list_E hX hI hL { s with s := true } h
  have e2 : E X { s with s := true } = { E X s with s := true } := rfl
  rw [e2] at e
  rw [e]
  rfl
theorem printed_E : Ext X (printed I) := by
  intro s h
  have hC := closedList_E hX hI hL o_rpar
  have hS := sentList_E hX hI hL
  unfold printed at h ⊢
  rw [isOp_E hX]
  generalize closedList o_rpar I = C at *
  cases hc : isOp s o_lpar with
  | false =>
    rw [hc, if_neg (by decide)] at h
    rw [if_neg (by decide), if_neg (by decide), hS s h]
  | true =>
    rw [hc, if_pos rfl] at h
    rw [if_pos rfl, if_pos rfl, next_E (ne_of_isOp hc)]
    have hf : (C (nextS s)).2.f = false := by
      split at h
      · exact h
      · rename_i hn
        cases hf : (C (nextS s)).2.f with
        | false => rfl
        | true => rw [hf] at hn; exact absurd rfl hn
    rw [hC _ hf]
    dsimp only
    rw [isWord_E hX]
    have hE : (E X (C (nextS s)).2).f = (C (nextS s)).2.f := rfl
    rw [hE]
    split at h
    · rename_i hd
      rw [if_pos hd, if_pos hd]
    · rename_i hd
      rw [if_neg hd, if_neg hd]
      exact hS { (C (nextS s)).2 with r := s.r } h
omit hX hI
theorem printed_ne (s : PS) (h : (printed I s).2.f = false) : s.r ≠ [] := by
  unfold printed at h
  cases hc : isOp s o_lpar with
  | true => exact ne_of_isOp hc
  | false =>
    rw [hc, if_neg (by decide)] at h
    exact ne_lt (list_lt hL { s with s := true }) h
include hX hI
omit hL
theorem sent_E (nm : B) (l : Fo) : Ext X (sent nm I l) := by
  intro s h
  unfold sent at h ⊢
  rw [atOp_E hX]
  split at h
  · rename_i hc
    rw [if_pos hc, if_pos hc, peek_E (ne_of_atOp hc), next_E (ne_of_atOp hc), hI .joined _ h]
  · rename_i hc
    rw [if_neg hc, if_neg hc]
include hL
theorem printing_E (nm : B) : Ext X (printing nm I) := by
  intro s h
  have hP := printed_E hX hI hL
  have hN := printed_ne hL
  have hS := sent_E hX hI nm
  have hSl := sent_le hL nm
  unfold printing at h ⊢
  generalize printed I = P at *
  have hne : s.r ≠ [] := by
    intro e
    rw [simpleEnd_nil e, atOp_nil e, if_pos (by rfl)] at h
    exact hN s (ok_le (hSl _ _) h) e
  rw [simpleEnd_E hX hne, atOp_E hX]
  split at h
  · rename_i hc
    rw [if_pos hc, if_pos hc, hP s (ok_le (hSl _ _) h), hS _ _ h]
  · rename_i hc
    rw [if_neg hc, if_neg hc]
    split at h
    · cases h
    · rename_i hd
      rw [if_neg hd, if_neg hd, hS _ _ h]
theorem command_E (nm : B) : Ext X (command nm I) := by
  intro s h
  have hP := printing_E hX hI hL nm
  have hD := deletion_E hX hI hL
  have hV := leaving_E hX hI hL nm
  unfold command at h ⊢
  have ek : (E X s).k = s.k := rfl
  have el : (E X s).l = s.l := rfl
  rw [ek, el]
  split at h
  · rename_i hc; rw [if_pos hc, if_pos hc, hP s h]
  rename_i hc; rw [if_neg hc, if_neg hc]
  split at h
  · rename_i hd; rw [if_pos hd, if_pos hd, hD s h]
  rename_i hd; rw [if_neg hd, if_neg hd]
  split at h
  · rename_i he; rw [if_pos he, if_pos he, hV s h]
  rename_i he; rw [if_neg he, if_neg he]
  split at h
  · rename_i hr; rw [if_pos hr, if_pos hr]
    split at h
    · rename_i hk; rw [if_pos hk, if_pos hk, hV s h]
    · cases h
  rename_i hr; rw [if_neg hr, if_neg hr]
  split at h
  · rename_i hn; rw [if_pos hn, if_pos hn]
    split at h
    · rename_i hk; rw [if_pos hk, if_pos hk]
    · cases h
  rename_i hn; rw [if_neg hn, if_neg hn]
  split at h
  · rename_i hb; rw [if_pos hb, if_pos hb]
    split at h
    · rename_i hk; rw [if_pos hk, if_pos hk]
    · cases h
  · cases h
theorem simple_E : Ext X (simple I) := by
  intro s h
  have hne := ne_lt (simple_lt hL s) h
  have hC := fun nm => command_E hX hI hL nm
  unfold simple at h ⊢
  rw [peek_E hne]
  split at h
  · rename_i hc
    rw [if_pos hc, if_pos hc, next_E hne, hC _ _ h]
  · rename_i hc
    rw [if_neg hc, if_neg hc, hI .expr s h]
omit hX hI
theorem blkL_ne (k : Nat) (f : Fo) (s : PS) (hk : 1 ≤ k) (h : (blkL I k f s).2.f = false) : s.r ≠ [] := by
  obtain ⟨k, rfl⟩ : ∃ m, k = m + 1 := ⟨k - 1, by omega⟩
  unfold blkL at h
  split at h
  · rename_i hf
    have : s.f = false := h
    rw [hf] at this
    cases this
  · split at h
    · rename_i hc
      exact ne_of_isOp hc
    · exact ne_lt (hL .statement s) (show (I .statement s).2.f = false from ok_le (skipEnds_le _) (ok_le (blkL_le hL _ _ _) h))
include hX hI
theorem blkL_E (k k' : Nat) (f : Fo) (s : PS) (hk : s.r.length + 2 ≤ k) (hk' : k ≤ k') (h : (blkL I k f s).2.f = false) : blkL I k' f (E X s) = ((blkL I k f s).1, E X (blkL I k f s).2) := by
  induction k generalizing k' f s with
  | zero => omega
  | succ k ih =>
    obtain ⟨k', rfl⟩ : ∃ m, k' = m + 1 := ⟨k' - 1, by omega⟩
    unfold blkL at h ⊢
    have ef : (E X s).f = s.f := rfl
    rw [isOp_E hX, ef]
    split at h
    · rename_i hf
      rw [if_pos hf, if_pos hf]
    rename_i hf
    rw [if_neg hf, if_neg hf]
    split at h
    · rename_i hc
      rw [if_pos hc, if_pos hc, next_E (ne_of_isOp hc)]
    rename_i hc
    rw [if_neg hc, if_neg hc]
    have h1 : (I .statement s).2.f = false := show (skipEnds (I .statement s).2).f = false from ok_le (blkL_le hL _ _ _) h
    have hlt := hL .statement s
    have hne := ne_lt hlt h1
    have hn2 := blkL_ne hL k _ _ (by have := List.length_pos_iff.2 hne; omega) h
    rw [hI .statement s h1]
    dsimp only
    rw [ends_E hn2]
    refine ih _ _ _ ?_ (by omega) h
    have e1 := (skipEnds_le (I .statement s).2).1
    have e2 : (I .statement s).2.r.length < s.r.length := by
      rcases hlt.2.1 with e | e
      · rw [h1] at e; cases e
      · exact e
    omega
theorem block_E : Ext X (block I) := by
  intro s h
  unfold block at h ⊢
  dsimp only at h ⊢
  have hn := blkL_ne hL _ _ _ (by omega) h
  have h1 : (wantO o_lbrace s).f = false := show (skipEnds (wantO o_lbrace s)).f = false from ok_le (blkL_le hL _ _ _) h
  rw [wantO_E hX _ _ h1, ends_E hn]
  rw [blkL_E hX hI hL _ ((E X (skipEnds (wantO o_lbrace s))).r.length + 2) .nil _ (Nat.le_refl _) (by simp [E]) h]
theorem condition_E : Ext X (condition I) := by
  intro s h
  unfold condition at h ⊢
  have h1 : (I .expr (wantO o_lpar s)).2.f = false := ok_le (wantO_lt _ _).1 h
  have h2 := ok_le (hL .expr _).1 h1
  rw [wantO_E hX _ _ h2, hI .expr _ h1]
  dsimp only
  rw [wantO_E hX _ _ h]
theorem choice_E (s : PS) (hne : s.r ≠ []) (h : (choice I s).2.f = false) : choice I (E X s) = ((choice I s).1, E X (choice I s).2) := by
  have hC := condition_E hX hI hL
  have hCl := condition_lt hL
  unfold choice at h ⊢
  dsimp only at h ⊢
  generalize condition I = C at *
  have ht : (takeElse (I .statement (skipLines (C (nextS s)).2)).2).2.f = false := by
    split at h
    · exact show (skipLines _).f = false from ok_le (hL .statement _).1 h
    · exact h
  have h1 : (I .statement (skipLines (C (nextS s)).2)).2.f = false := ok_le (takeElse_le _) ht
  have h2 : (C (nextS s)).2.f = false := show (skipLines (C (nextS s)).2).f = false from ok_le (hL .statement _).1 h1
  rw [next_E hne, hC _ h2]
  dsimp only
  rw [lines_E (ne_lt (hL .statement _) h1), hI .statement _ h1]
  dsimp only
  rw [takeElse_E hX]
  dsimp only
  split at h
  · rename_i hd
    rw [if_pos hd, if_pos hd, lines_E (ne_lt (hL .statement _) h), hI .statement _ h]
  · rename_i hd
    rw [if_neg hd, if_neg hd]
omit hX
theorem loopStatement_E : Ext X (loopStatement I) := by
  intro s h
  unfold loopStatement at h ⊢
  have h1 : (I .statement (moreL (skipLines s))).2.f = false := h
  have hn : (skipLines s).r ≠ [] := ne_lt (hL .statement (moreL (skipLines s))) h1
  rw [lines_E hn]
  have e : moreL (E X (skipLines s)) = E X (moreL (skipLines s)) := rfl
  rw [e, hI .statement _ h1]
  rfl
include hX
theorem doLoop_E : Ext X (doLoop I) := by
  intro s h
  have hC := condition_E hX hI hL
  have hCl := condition_lt hL
  have hP := loopStatement_E hI hL
  unfold doLoop at h ⊢
  dsimp only at h ⊢
  generalize condition I = C at *
  generalize loopStatement I = P at *
  have h1 : (wantW w_while (skipEnds (P s).2)).f = false := ok_le (hCl _).1 h
  have h2 : (P s).2.f = false := show (skipEnds (P s).2).f = false from ok_le (wantW_lt _ _).1 h1
  have hn : (skipEnds (P s).2).r ≠ [] := ne_lt (wantW_lt _ _) h1
  rw [hP s h2]
  dsimp only
  rw [ends_E hn, wantW_E hX _ _ h1, hC _ h]
theorem whileLoop_E (s : PS) (hne : s.r ≠ []) (h : (whileLoop I s).2.f = false) : whileLoop I (E X s) = ((whileLoop I s).1, E X (whileLoop I s).2) := by
  have hC := condition_E hX hI hL
  have hP := loopStatement_E hI hL
  have hPl := loopStatement_lt hL
  unfold whileLoop at h ⊢
  dsimp only at h ⊢
  generalize condition I = C at *
  generalize loopStatement I = P at *
  have h1 : (C (nextS s)).2.f = false := ok_le (hPl _).1 h
  rw [next_E hne, hC _ h1]
  dsimp only
  rw [hP _ h]
theorem forIn_E : Ext X (forIn I) := by
  intro s h
  have hP := loopStatement_E hI hL
  have hPl := loopStatement_lt hL
  unfold forIn at h ⊢
  dsimp only at h ⊢
  generalize loopStatement I = P at *
  have h1 : (wantO o_rpar (name (wantW w_in (name s).2)).2).f = false := ok_le (hPl _).1 h
  have h2 : (name (wantW w_in (name s).2)).2.f = false := ok_le (wantO_lt _ _).1 h1
  have h3 : (wantW w_in (name s).2).f = false := ok_le (name_lt _).1 h2
  have h4 : (name s).2.f = false := ok_le (wantW_lt _ _).1 h3
  rw [name_E hX s h4]
  dsimp only
  rw [wantW_E hX _ _ h3, name_E hX _ h2]
  dsimp only
  rw [wantO_E hX _ _ h1, hP _ h]
omit hL
theorem unless_E (o : B) (x : W) : Ext X (unlessO o x I) := by
  intro s h
  unfold unlessO at h ⊢
  rw [atOp_E hX]
  split at h
  · rename_i hc; rw [if_pos hc, if_pos hc]
  · rename_i hc; rw [if_neg hc, if_neg hc, hI x s h]
include hL
theorem forThree_E : Ext X (forThree I) := by
  intro s h
  have hU1 := unless_E hX hI o_semi .simple
  have hU2 := unless_E hX hI o_semi .expr
  have hU3 := unless_E hX hI o_rpar .simple
  have hl1 := unlessO_le hL o_semi .simple
  have hl2 := unlessO_le hL o_semi .expr
  have hl3 := unlessO_le hL o_rpar .simple
  have hP := loopStatement_E hI hL (X := X)
  have hPl := loopStatement_lt hL
  unfold forThree at h ⊢
  dsimp only at h ⊢
  generalize loopStatement I = P at *
  generalize unlessO o_semi .simple I = U1 at *
  generalize unlessO o_semi .expr I = U2 at *
  generalize unlessO o_rpar .simple I = U3 at *
  have h1 := ok_le (hPl _).1 h
  have h2 := ok_le (wantO_lt _ _).1 h1
  have h3 : (wantO o_semi (U2 (skipLines (wantO o_semi (U1 s).2))).2).f = false := show (skipLines _).f = false from ok_le (hl3 _) h2
  have h4 := ok_le (wantO_lt _ _).1 h3
  have h5 : (wantO o_semi (U1 s).2).f = false := show (skipLines _).f = false from ok_le (hl2 _) h4
  have h6 := ok_le (wantO_lt _ _).1 h5
  have n1 : (skipLines (wantO o_semi (U2 (skipLines (wantO o_semi (U1 s).2))).2)).r ≠ [] := by
    intro e
    have k1 := (hl3 (skipLines (wantO o_semi (U2 (skipLines (wantO o_semi (U1 s).2))).2))).1
    have k2 := ne_lt (wantO_lt _ _) h1
    rw [e] at k1
    exact k2 (List.eq_nil_of_length_eq_zero (Nat.le_zero.1 k1))
  have n2 : (skipLines (wantO o_semi (U1 s).2)).r ≠ [] := by
    intro e
    have k1 := (hl2 (skipLines (wantO o_semi (U1 s).2))).1
    have k2 := ne_lt (wantO_lt _ _) h3
    rw [e] at k1
    exact k2 (List.eq_nil_of_length_eq_zero (Nat.le_zero.1 k1))
  rw [hU1 s h6]
  dsimp only
  rw [wantO_E hX _ _ h5, lines_E n2, hU2 _ h4]
  dsimp only
  rw [wantO_E hX _ _ h3, lines_E n1, hU3 _ h2]
  dsimp only
  rw [wantO_E hX _ _ h1, hP _ h]
theorem forLoop_E (s : PS) (hne : s.r ≠ []) (h : (forLoop I s).2.f = false) : forLoop I (E X s) = ((forLoop I s).1, E X (forLoop I s).2) := by
  have hA := forIn_E hX hI hL
  have hB := forThree_E hX hI hL
  have hAl := forIn_lt hL
  have hBl := forThree_lt hL
  unfold forLoop at h ⊢
  generalize forIn I = A at *
  generalize forThree I = C at *
  have h1 : (wantO o_lpar (nextS s)).f = false := by
    split at h
    · exact ok_le (hAl _).1 h
    · exact ok_le (hBl _).1 h
  rw [next_E hne, wantO_E hX _ _ h1, isForIn_E hX]
  split at h
  · rename_i hc; rw [if_pos hc, if_pos hc, hA _ h]
  · rename_i hc; rw [if_neg hc, if_neg hc, hB _ h]
omit hI hL
theorem orFail_E (q : Nd × PS) (h : (orFail q).2.f = false) : orFail (q.1, E X q.2) = ((orFail q).1, E X (orFail q).2) ∧ q.2.f = false := by
  unfold orFail at h ⊢
  split at h
  · cases h
  · rename_i hc
    have hne : q.2.r ≠ [] := by
      intro e
      rw [atEnd_nil e, atOp_nil e] at hc
      exact hc rfl
    rw [if_neg hc]
    dsimp only
    rw [atEnd_E hne, atOp_E hX, if_neg hc]
    exact ⟨rfl, h⟩
include hI hL
theorem endedSimple_E (s : PS) (hne : s.r ≠ []) (h : (endedSimple I s).2.f = false) : endedSimple I (E X s) = ((endedSimple I s).1, E X (endedSimple I s).2) := by
  have hD := doLoop_E hX hI hL
  have hS := simple_E hX hI hL
  unfold endedSimple at h ⊢
  rw [isWord_E hX]
  obtain ⟨h1, h2⟩ := orFail_E hX _ h
  rw [← h1]
  congr 1
  split at h2
  · rename_i hc; rw [if_pos hc, if_pos hc, next_E hne, hD _ h2]
  · rename_i hc; rw [if_neg hc, if_neg hc, hS _ h2]
theorem statement_E : Ext X (statement I) := by
  intro s h
  have hne := ne_lt (statement_lt hL s) h
  have h1 := block_E hX hI hL
  have h2 := choice_E hX hI hL s hne
  have h3 := whileLoop_E hX hI hL s hne
  have h4 := forLoop_E hX hI hL s hne
  have h5 := endedSimple_E hX hI hL s hne
  unfold statement at h ⊢
  rw [isOp_E hX, isOp_E hX, isWord_E hX, isWord_E hX, isWord_E hX]
  split at h
  · rename_i hc; rw [if_pos hc, if_pos hc, h1 s h]
  rename_i hc; rw [if_neg hc, if_neg hc]
  split at h
  · rename_i hd; rw [if_pos hd, if_pos hd, next_E hne]
  rename_i hd; rw [if_neg hd, if_neg hd]
  split at h
  · rename_i he; rw [if_pos he, if_pos he, h2 h]
  rename_i he; rw [if_neg he, if_neg he]
  split at h
  · rename_i hg; rw [if_pos hg, if_pos hg, h3 h]
  rename_i hg; rw [if_neg hg, if_neg hg]
  split at h
  · rename_i hk; rw [if_pos hk, if_pos hk, h4 h]
  rename_i hk; rw [if_neg hk, if_neg hk, h5 h]
omit hX
theorem stepAhead_E' : Ext X (stepAhead I) := fun s h => stepAhead_E hI s (ne_lt (stepAhead_lt hL s) h) h
include hX
theorem body_E (x : W) : Ext X (body I x) := by
  cases x with
  | expr => exact expression_E hX hI hL
  | signed => exact signed_E hX hI hL
  | exponent => exact exponent_E hX hI hL
  | operand => exact operand_E hX hI hL
  | step => exact stepAhead_E' hI hL
  | joined => exact joined_E hX hI hL
  | statement => exact statement_E hX hI hL
  | simple => exact simple_E hX hI hL
end
theorem inn_E {X : List Tok} (hX : Good X) (d : Nat) : ExtI X (inn d) := by
  induction d with
  | zero => intro x s h; cases h
  | succ d ih => exact fun x => body_E hX ih (inn_lt d) x
end Go.Proofs.YtgbibfhacjjaeaaGreat.syn.ex
