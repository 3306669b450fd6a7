/- What the lexer answers, as functions on lists of bytes. -/
import Derived.Test.YteaibkbdoocifaaDoorKit
namespace Go.Proofs.YteaibkbdoocifaaDoor.lexs
set_option linter.unusedVariables false set_option linter.unusedSimpArgs false

def isL (c : UInt8) : Bool := decide (97 ≤ c ∧ c ≤ 122 ∨ 65 ≤ c ∧ c ≤ 90 ∨ c = 95)
def isD (c : UInt8) : Bool := decide (48 ≤ c ∧ c ≤ 57)
def isO (c : UInt8) : Bool := decide (48 ≤ c ∧ c ≤ 55)
def isN (c : UInt8) : Bool := isL c || isD c
def nl (c : UInt8) : Bool := decide (c ≠ 10)
/-- How many bytes at the beginning are digits. -/
def dg (l : List UInt8) : Nat := (l.takeWhile isD).length

structure Tok where
  k : List UInt8
  t : List UInt8
deriving DecidableEq

def kNl : List UInt8 := [110, 108]
def kNum : List UInt8 := [110, 117, 109]
def kStr : List UInt8 := [115, 116, 114]
def kEre : List UInt8 := [101, 114, 101]
def kOp : List UInt8 := [111, 112]
def kName : List UInt8 := [110, 97, 109, 101]
def kFunc : List UInt8 := [102, 117, 110, 99]
def kWord : List UInt8 := [119, 111, 114, 100]
def kBuilt : List UInt8 := [98, 117, 105, 108, 116]
def kBarred : List UInt8 := [98, 97, 114, 114, 101, 100]

/-- What stands between tokens: one part of it. -/
def gp (l : List UInt8) : Nat := match l with
  | [] => 0
  | c :: t => if c = 32 ∨ c = 9 then 1 else if c = 92 then (if t.head? = some 10 then 2 else 0) else if c = 35 then (l.takeWhile nl).length else 0
theorem gp_le (l : List UInt8) : gp l ≤ l.length := by
  cases l with
  | nil => simp [gp]
  | cons c t =>
    simp only [gp]
    split
    · simp
    · split
      · split
        · cases t with
          | nil => simp at *
          | cons d t => simp
        · omega
      · split
        · have : ∀ (p : UInt8 → Bool) (l : List UInt8), (l.takeWhile p).length ≤ l.length := fun p l => by
            induction l with
            | nil => simp
            | cons c t ih => rw [List.takeWhile_cons]; split <;> simp; exact ih
          exact this _ _
        · omega
/-- All of it. -/
def gap (l : List UInt8) : Nat := if h : gp l = 0 then 0 else gp l + gap (l.drop (gp l))
termination_by l.length
decreasing_by
  have := gp_le l
  rw [List.length_drop]
  omega
theorem gap_eq (l : List UInt8) : gap l = if gp l = 0 then 0 else gp l + gap (l.drop (gp l)) := by
  rw [gap]
  split <;> simp [*]
theorem gap_le (l : List UInt8) : gap l ≤ l.length := by
  rw [gap_eq]
  split
  · omega
  · have h1 := gp_le l
    have h2 := gap_le (l.drop (gp l))
    rw [List.length_drop] at h2
    omega
termination_by l.length
decreasing_by
  have := gp_le l
  rw [List.length_drop]
  omega

/-- The e, the sign and the digits at the beginning. -/
def sg (l : List UInt8) : Nat := match l with
  | [] => 0
  | c :: _ => if c = 43 ∨ c = 45 then 1 else 0
def pw (l : List UInt8) : Nat := match l with
  | [] => 0
  | c :: t => if c = 101 ∨ c = 69 then (if dg (t.drop (sg t)) = 0 then 0 else 1 + sg t + dg (t.drop (sg t))) else 0
/-- A num's size. -/
def nm (l : List UInt8) : Nat :=
  let a := dg l
  let r := l.drop a
  if r.head? = some 46 then
    (let b := dg r.tail
     if a + b = 0 then 0 else a + 1 + b + pw (l.drop (a + 1 + b)))
  else (if a = 0 then 0 else a + pw r)

def ops2 : List (List UInt8) := [[62, 62], [33, 126], [43, 61], [45, 61], [42, 61], [47, 61], [37, 61], [94, 61], [61, 61], [60, 61], [62, 61], [33, 61], [43, 43], [45, 45], [38, 38], [124, 124]]
def ops1 : List UInt8 := [123, 125, 40, 41, 91, 93, 59, 44, 43, 45, 42, 47, 37, 94, 33, 62, 60, 63, 58, 126, 36, 61]
def opS (l : List UInt8) : Nat := match l with
  | [] => 0
  | c :: t => if (1 < l.length ∧ ops2.contains (l.take 2) = true) then 2 else if ops1.contains c then 1 else 0

def wordsL : List (List UInt8) := ["BEGIN", "END", "function", "delete", "in", "if", "else", "while", "do", "for", "break", "continue", "next", "exit", "return", "print", "printf"].map (·.toUTF8.data.toList)
def builtsL : List (List UInt8) := ["length", "substr", "index", "split", "sub", "gsub", "match", "sprintf", "tolower", "toupper", "int"].map (·.toUTF8.data.toList)
def barredL : List (List UInt8) := ["getline", "system", "close", "fflush", "nextfile", "rand", "srand", "sin", "cos", "atan2", "exp", "log", "sqrt", "func", "ENVIRON", "ARGV", "ARGC"].map (·.toUTF8.data.toList)
def kindL (l : List UInt8) : List UInt8 := if wordsL.contains l then kWord else if builtsL.contains l then kBuilt else if barredL.contains l then kBarred else kName

def bare (k l : List UInt8) (n : Nat) : Option (Tok × Nat) := if n = 0 then none else some (⟨k, l.take n⟩, n)
/-- A name's size (of what begins with a letter). -/
def ns (l : List UInt8) : Nat := 1 + (l.tail.takeWhile isN).length
def readName (l : List UInt8) : Option (Tok × Nat) :=
  let k := kindL (l.take (ns l))
  if k = kBarred then none
  else bare (if k = kName ∧ (l.drop (ns l)).head? = some 40 then kFunc else k) l (ns l)

/-- What stands between two quotes, behind the first one. -/
def qt (q : UInt8) : List UInt8 → Option (List UInt8)
  | [] => none
  | c :: t => if c = q then some [] else if c = 92 then (match t with
      | [] => none
      | d :: t' => (qt q t').map (fun r => c :: d :: r)) else (qt q t).map (fun r => c :: r)
/-- Each backslash has a byte behind it. -/
inductive Pair : List UInt8 → Prop
  | nil : Pair []
  | one (c : UInt8) (t : List UInt8) : c ≠ 92 → Pair t → Pair (c :: t)
  | two (d : UInt8) (t : List UInt8) : Pair t → Pair (92 :: d :: t)
theorem qt_cons {q c : UInt8} {t : List UInt8} : qt q (c :: t) = if c = q then some [] else if c = 92 then (match t with
      | [] => none
      | d :: t' => (qt q t').map (fun r => c :: d :: r)) else (qt q t).map (fun r => c :: r) := by
  cases t <;> rw [qt.eq_def]
theorem qt_ind {q : UInt8} {M : List UInt8 → List UInt8 → Prop} (h0 : ∀ t, M (q :: t) []) (h1 : ∀ c t r, c ≠ q → c ≠ 92 → qt q t = some r → M t r → M (c :: t) (c :: r)) (h2 : ∀ d t r, 92 ≠ q → qt q t = some r → M t r → M (92 :: d :: t) (92 :: d :: r)) :
    ∀ (n : Nat) (l r : List UInt8), l.length ≤ n → qt q l = some r → M l r := by
  intro n
  induction n with
  | zero =>
    intro l r hl h
    cases l with
    | nil => cases h
    | cons c t => simp at hl
  | succ n ih =>
    intro l r hl h
    cases l with
    | nil => cases h
    | cons c t =>
      rw [qt_cons] at h
      by_cases e1 : c = q
      · rw [if_pos e1] at h
        cases h
        subst e1
        exact h0 t
      · rw [if_neg e1] at h
        by_cases e2 : c = 92
        · rw [if_pos e2] at h
          cases t with
          | nil => cases h
          | cons d t' =>
            simp only at h
            cases hq : qt q t' with
            | none => rw [hq] at h; cases h
            | some r' =>
              rw [hq] at h
              cases h
              subst e2
              exact h2 d t' r' e1 hq (ih t' r' (by simp only [List.length_cons] at hl; omega) hq)
        · rw [if_neg e2] at h
          cases hq : qt q t with
          | none => rw [hq] at h; cases h
          | some r' =>
            rw [hq] at h
            cases h
            exact h1 c t r' e1 e2 hq (ih t r' (by simp only [List.length_cons] at hl; omega) hq)
theorem qt_pair (q : UInt8) (l r : List UInt8) (h : qt q l = some r) : Pair r :=
  qt_ind (M := fun _ r => Pair r) (fun _ => .nil) (fun c t r _ h2 _ ih => .one c r h2 ih) (fun d t r _ _ ih => .two d r ih) l.length l r (Nat.le_refl _) h

/-- The digits of base 8, three at most; their number. -/
def oc (l : List UInt8) : List UInt8 := (l.take 3).takeWhile isO
def ocV (l : List UInt8) : UInt8 := l.foldl (fun n c => n * 8 + (c - 48)) 0
/-- What a backslash's rest stands for, and its size. -/
def esc (l : List UInt8) : List UInt8 × Nat :=
  if (oc l).length ≠ 0 then ([ocV (oc l)], (oc l).length) else match l with
  | [] => ([92], 0)
  | d :: _ => (if d = 34 ∨ d = 92 ∨ d = 47 then [d] else if d = 97 then [7] else if d = 98 then [8] else if d = 102 then [12] else if d = 110 then [10] else if d = 114 then [13] else if d = 116 then [9] else if d = 118 then [11] else if d = 10 then [] else [92, d], 1)
def mStr (l : List UInt8) : Option (List UInt8) := match l with
  | [] => some []
  | c :: t => if c = 10 then none else if c = 92 then (mStr (t.drop (esc t).2)).map (fun r => (esc t).1 ++ r) else (mStr t).map (fun r => c :: r)
termination_by l.length
decreasing_by
  all_goals simp only [List.length_drop, List.length_cons]; omega
def mEre : List UInt8 → List UInt8
  | [] => []
  | c :: t => if c = 92 then (match t with
      | [] => [92]
      | d :: t' => if d = 47 then d :: mEre t' else 92 :: d :: mEre t') else c :: mEre t
def readStr (l : List UInt8) : Option (Tok × Nat) := match qt 34 l.tail with
  | none => none
  | some r => match mStr r with
    | none => none
    | some t => some (⟨kStr, t⟩, r.length + 2)
def readEre (l : List UInt8) : Option (Tok × Nat) := match qt 47 l.tail with
  | none => none
  | some r => if r.contains 10 then none else some (⟨kEre, mEre r⟩, r.length + 2)

/-- Does a token end an operand? -/
def ends (t : Tok) : Bool := if t.k = kNum ∨ t.k = kStr ∨ t.k = kEre ∨ t.k = kName then true else if t.k = kBuilt then decide (t.t = [108, 101, 110, 103, 116, 104]) else if t.k = kOp then decide (t.t = [41] ∨ t.t = [93] ∨ t.t = [36] ∨ t.t = [43, 43] ∨ t.t = [45, 45]) else false

/-- The token that a text begins with. -/
def readTok (l : List UInt8) (b : Bool) : Option (Tok × Nat) := match l with
  | [] => none
  | c :: _ => if c = 10 then some (⟨kNl, []⟩, 1) else if c = 34 then readStr l else if c = 47 ∧ b = false then readEre l else if isL c then readName l else if c = 46 ∨ isD c = true then bare kNum l (nm l) else bare kOp l (opS l)

/-- All tokens of a text whose first byte is of a token. -/
def lexF (l : List UInt8) (b : Bool) : Option (List Tok) := if h0 : l = [] then some [] else match readTok l b with
  | none => none
  | some (t, k) => if hk : 0 < k then (lexF ((l.drop k).drop (gap (l.drop k))) (ends t)).map (fun r => t :: r) else none
termination_by l.length
decreasing_by
  have : 0 < l.length := List.length_pos_iff.2 h0
  simp only [List.length_drop]
  omega
def lexL (l : List UInt8) : Option (List Tok) := if l.length > 65536 then none else match lexF (l.drop (gap l)) false with
  | none => none
  | some r => if r.length > 20000 then none else some r

theorem tw_len (p : UInt8 → Bool) (l : List UInt8) : (l.takeWhile p).length ≤ l.length := by
  induction l with
  | nil => simp
  | cons c t ih => rw [List.takeWhile_cons]; split <;> simp; exact ih
theorem dg_le (l : List UInt8) : dg l ≤ l.length := tw_len _ _
theorem sg_le (l : List UInt8) : sg l ≤ l.length := by
  cases l with
  | nil => simp [sg]
  | cons c t => simp only [sg, List.length_cons]; split <;> omega
theorem pw_le (l : List UInt8) : pw l ≤ l.length := by
  cases l with
  | nil => simp [pw]
  | cons c t =>
    simp only [pw]
    have h1 := sg_le t
    have h2 := dg_le (t.drop (sg t))
    rw [List.length_drop] at h2
    simp only [List.length_cons]
    split
    · split <;> omega
    · omega
theorem nm_le (l : List UInt8) : nm l ≤ l.length := by
  unfold nm
  have h1 := dg_le l
  have h2 := dg_le (l.drop (dg l)).tail
  have h3 := pw_le (l.drop (dg l + 1 + dg (l.drop (dg l)).tail))
  have h4 := pw_le (l.drop (dg l))
  simp only [List.length_tail, List.length_drop] at h2 h3 h4
  simp only
  split
  · rename_i h
    have : 0 < (l.drop (dg l)).length := by
      cases hh : l.drop (dg l) with
      | nil => rw [hh] at h; cases h
      | cons x y => simp
    rw [List.length_drop] at this
    split <;> omega
  · split <;> omega
theorem opS_le (l : List UInt8) : opS l ≤ l.length := by
  cases l with
  | nil => simp [opS]
  | cons c t =>
    simp only [opS]
    split
    · rename_i h; have := h.1; omega
    · split <;> simp
theorem ns_le (l : List UInt8) (h : l ≠ []) : ns l ≤ l.length := by
  cases l with
  | nil => exact absurd rfl h
  | cons c t => have := tw_len isN t; simp only [ns, List.tail_cons, List.length_cons]; omega
theorem qt_le (q : UInt8) (l r : List UInt8) (h : qt q l = some r) : r.length + 1 ≤ l.length :=
  qt_ind (M := fun l r => r.length + 1 ≤ l.length) (fun _ => by simp) (fun c t r _ _ _ ih => by simp only [List.length_cons]; omega) (fun d t r _ _ ih => by simp only [List.length_cons]; omega) l.length l r (Nat.le_refl _) h
theorem bare_le {k l : List UInt8} {n m : Nat} {t : Tok} (h : bare k l n = some (t, m)) (hn : n ≤ l.length) : 0 < m ∧ m ≤ l.length := by
  unfold bare at h
  split at h
  · cases h
  · cases h; omega
theorem readTok_le {l : List UInt8} {b : Bool} {t : Tok} {k : Nat} (h : readTok l b = some (t, k)) : 0 < k ∧ k ≤ l.length := by
  cases l with
  | nil => cases h
  | cons c l =>
    simp only [readTok] at h
    split at h
    · cases h; simp
    · split at h
      · unfold readStr at h
        split at h
        · cases h
        · rename_i r hr
          have := qt_le _ _ _ hr
          simp only [List.tail_cons] at this
          split at h
          · cases h
          · cases h; simp only [List.length_cons]; omega
      · split at h
        · unfold readEre at h
          split at h
          · cases h
          · rename_i r hr
            have := qt_le _ _ _ hr
            simp only [List.tail_cons] at this
            split at h
            · cases h
            · cases h; simp only [List.length_cons]; omega
        · split at h
          · unfold readName at h
            simp only at h
            split at h
            · cases h
            · exact bare_le h (ns_le _ (by simp))
          · split at h
            · exact bare_le h (nm_le _)
            · exact bare_le h (opS_le _)
theorem lexF_nil (b : Bool) : lexF [] b = some [] := by rw [lexF]; simp
theorem lexF_none {l : List UInt8} {b : Bool} (h0 : l ≠ []) (h : readTok l b = none) : lexF l b = none := by
  rw [lexF, dif_neg h0, h]
theorem lexF_some {l : List UInt8} {b : Bool} {t : Tok} {k : Nat} (h0 : l ≠ []) (h : readTok l b = some (t, k)) : lexF l b = (lexF ((l.drop k).drop (gap (l.drop k))) (ends t)).map (fun r => t :: r) := by
  rw [lexF, dif_neg h0, h]
  simp only
  rw [dif_pos (readTok_le h).1]
end Go.Proofs.YteaibkbdoocifaaDoor.lexs
