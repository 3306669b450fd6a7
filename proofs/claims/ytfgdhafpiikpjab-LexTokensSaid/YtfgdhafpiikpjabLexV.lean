/- Tokens of two texts: the one that awake asks for, and a text whose bytes stand in base 8; slices of tokens as they are read; awake. -/
import Derived.Test.YtfgdhafpiikpjabLexU
namespace Go.Proofs.Ytfgdhafpiikpjab.lexs
set_option linter.unusedVariables false set_option linter.unusedSimpArgs false
open Go.ChangeShapes Go.WideShapes Go.ChangeAt Go.RowKit Go.Proofs.Ytfgdhafpiikpjab.base

theorem gap0 {l : List UInt8} (h : gp l = 0) : gap l = 0 := by rw [gap_eq, if_pos h]
theorem lexF_step {l l' : List UInt8} {b : Bool} {t : Tok} {k g : Nat} (h0 : l ≠ []) (h : readTok l b = some (t, k)) (hg : gap (l.drop k) = g) (hl : (l.drop k).drop g = l') : lexF l b = (lexF l' (ends t)).map (fun r => t :: r) := by
  rw [lexF_some h0 h, hg, hl]
def awT : List Tok := [⟨kName, [97]⟩, ⟨kOp, [47]⟩, ⟨kName, [98]⟩, ⟨kOp, [126]⟩, ⟨kEre, [99]⟩]
theorem awake_lex : lexL [97, 47, 98, 32, 126, 47, 99, 47] = some awT := by
  rw [lexL_lim (by decide), gap0 rfl, List.drop_zero]
  have g1 : gap [32, 126, 47, 99, 47] = 1 := by rw [gap_eq, if_neg (by decide), show gap (List.drop (gp [32, 126, 47, 99, 47]) [32, 126, 47, 99, 47]) = 0 from gap0 rfl]; rfl
  have s1 := lexF_step (l' := [47, 98, 32, 126, 47, 99, 47]) (k := 1) (g := 0) (by simp) (by decide +kernel : readTok [97, 47, 98, 32, 126, 47, 99, 47] false = some (⟨kName, [97]⟩, 1)) (gap0 rfl) rfl
  have s2 := lexF_step (l' := [98, 32, 126, 47, 99, 47]) (k := 1) (g := 0) (by simp) (by decide +kernel : readTok [47, 98, 32, 126, 47, 99, 47] true = some (⟨kOp, [47]⟩, 1)) (gap0 rfl) rfl
  have s3 := lexF_step (l' := [126, 47, 99, 47]) (k := 1) (g := 1) (by simp) (by decide +kernel : readTok [98, 32, 126, 47, 99, 47] false = some (⟨kName, [98]⟩, 1)) g1 rfl
  have s4 := lexF_step (l' := [47, 99, 47]) (k := 1) (g := 0) (by simp) (by decide +kernel : readTok [126, 47, 99, 47] true = some (⟨kOp, [126]⟩, 1)) (gap0 rfl) rfl
  have s5 := lexF_step (l' := []) (k := 3) (g := 0) (by simp) (by decide +kernel : readTok [47, 99, 47] false = some (⟨kEre, [99]⟩, 3)) (gap0 rfl) rfl
  rw [s1, show ends ⟨kName, [97]⟩ = true by decide, s2, show ends ⟨kOp, [47]⟩ = false by decide, s3, show ends ⟨kName, [98]⟩ = true by decide, s4, show ends ⟨kOp, [126]⟩ = false by decide, s5, lexF_nil]
  rfl

/-- A byte in base 8; a text so, between quotes. -/
def e8 (c : UInt8) : List UInt8 := [92, 48 + c / 64, 48 + c / 8 % 8, 48 + c % 8]
def q8 (l : List UInt8) : List UInt8 := l.flatMap e8
theorem e8_facts (c : UInt8) : isO (48 + c / 64) = true ∧ isO (48 + c / 8 % 8) = true ∧ isO (48 + c % 8) = true ∧ ocV [48 + c / 64, 48 + c / 8 % 8, 48 + c % 8] = c := by
  have h : ∀ n : Fin 256, isO (48 + (UInt8.ofNat n.val) / 64) = true ∧ isO (48 + (UInt8.ofNat n.val) / 8 % 8) = true ∧ isO (48 + (UInt8.ofNat n.val) % 8) = true ∧ ocV [48 + (UInt8.ofNat n.val) / 64, 48 + (UInt8.ofNat n.val) / 8 % 8, 48 + (UInt8.ofNat n.val) % 8] = UInt8.ofNat n.val := by decide +kernel
  have := h ⟨c.toNat, c.toNat_lt⟩
  simpa using this
theorem isO_ne {x : UInt8} (h : isO x = true) : x ≠ 34 ∧ x ≠ 92 := by
  constructor <;> (intro e; subst e; revert h; decide)
theorem q8_qt (l : List UInt8) : qt 34 (q8 l ++ [34]) = some (q8 l) := by
  induction l with
  | nil => rfl
  | cons c t ih =>
    obtain ⟨h1, h2, h3, _⟩ := e8_facts c
    show qt 34 (92 :: (48 + c / 64) :: (48 + c / 8 % 8) :: (48 + c % 8) :: (q8 t ++ [34])) = _
    rw [qt_cons, if_neg (by decide), if_pos rfl]
    simp only
    rw [qt_cons, if_neg (isO_ne h2).1, if_neg (isO_ne h2).2, qt_cons, if_neg (isO_ne h3).1, if_neg (isO_ne h3).2, ih]
    rfl
theorem q8_str (l : List UInt8) : mStr (q8 l) = some l := by
  induction l with
  | nil => exact mStr_nil
  | cons c t ih =>
    obtain ⟨h1, h2, h3, h4⟩ := e8_facts c
    show mStr (92 :: (48 + c / 64) :: (48 + c / 8 % 8) :: (48 + c % 8) :: q8 t) = _
    have ho : oc ((48 + c / 64) :: (48 + c / 8 % 8) :: (48 + c % 8) :: q8 t) = [48 + c / 64, 48 + c / 8 % 8, 48 + c % 8] := by
      unfold oc
      rw [List.take_succ_cons, List.take_succ_cons, List.take_succ_cons, List.take_zero]
      simp [List.takeWhile_cons, h1, h2, h3]
    have he : esc ((48 + c / 64) :: (48 + c / 8 % 8) :: (48 + c % 8) :: q8 t) = ([c], 3) := by
      unfold esc
      rw [ho, h4, if_pos (by simp)]
      rfl
    rw [mStr_esc, he]
    simp only [List.drop_succ_cons, List.drop_zero]
    rw [ih]
    rfl
theorem q8_len (l : List UInt8) : (q8 l).length = 4 * l.length := by
  induction l with
  | nil => rfl
  | cons c t ih => show (e8 c ++ q8 t).length = _; rw [List.length_append, ih]; simp [e8]; omega
theorem q8_lex (l : List UInt8) (h : l.length ≤ 3000) : lexL (34 :: (q8 l ++ [34])) = some [⟨kStr, l⟩] := by
  have hr : ∀ b, readTok (34 :: (q8 l ++ [34])) b = some (⟨kStr, l⟩, (q8 l).length + 2) := by
    intro b
    simp only [readTok]
    rw [if_neg (by decide), if_pos trivial]
    unfold readStr
    rw [List.tail_cons, q8_qt]
    simp only
    rw [q8_str]
  have hd : (34 :: (q8 l ++ [34])).drop ((q8 l).length + 2) = [] := List.drop_eq_nil_of_le (by simp)
  rw [lexL_lim (by simp [q8_len]; omega), gap0 rfl, List.drop_zero, lexF_step (g := 0) (l' := []) (by simp) (hr false) (by rw [hd]; exact gap0 rfl) (by rw [hd]; rfl), lexF_nil]
  rfl

theorem cell_move {w w' : World} {a : Addr} {v : Value} (h : w.cell? a = some v) (hf : Frm No w w') : w'.cell? a = some v := by
  rw [World.cell?_of_block (hf.block _ (World.block_lt_of_cell? w _ h) (fun h => h))]
  exact h
/-- From cell o of block g on stand the tokens ts. -/
def TG (w : World) (g o : Nat) (ts : List Tok) : Prop := ∀ i t, ts[i]? = some t → w.cell? ⟨g, o + i * 2, none⟩ = some (.string ⟨t.k.toArray⟩) ∧ w.cell? ⟨g, o + i * 2 + 1, none⟩ = some (.string ⟨t.t.toArray⟩)
theorem TG.move {w w' : World} {g o : Nat} {ts : List Tok} (h : TG w g o ts) (hf : Frm No w w') : TG w' g o ts := fun i t hi => ⟨cell_move (h i t hi).1 hf, cell_move (h i t hi).2 hf⟩
theorem tCs_get {ts : List Tok} {i : Nat} {t : Tok} (h : ts[i]? = some t) : (tCs ts)[i * 2]? = some (.string ⟨t.k.toArray⟩) ∧ (tCs ts)[i * 2 + 1]? = some (.string ⟨t.t.toArray⟩) := by
  induction ts generalizing i with
  | nil => cases h
  | cons x ts ih =>
    have e : tCs (x :: ts) = .string ⟨x.k.toArray⟩ :: .string ⟨x.t.toArray⟩ :: tCs ts := rfl
    rw [e]
    cases i with
    | zero => cases h; exact ⟨rfl, rfl⟩
    | succ i =>
      have := ih (i := i) (by simpa using h)
      rw [show (i + 1) * 2 = i * 2 + 1 + 1 by omega, List.getElem?_cons_succ, List.getElem?_cons_succ, show i * 2 + 1 + 1 + 1 = (i * 2 + 1) + 1 + 1 by omega, List.getElem?_cons_succ, List.getElem?_cons_succ]
      exact this
/-- A slice of tokens, as it is read. -/
def TS (w : World) (v : Value) (ts : List Tok) : Prop := ∃ a c, v = .slice a ts.length c ∧ (ts = [] ∨ ∃ g o, a = some ⟨g, o, none⟩ ∧ TG w g o ts)
theorem TS.move {w w' : World} {v : Value} {ts : List Tok} (h : TS w v ts) (hf : Frm No w w') : TS w' v ts := by
  obtain ⟨a, c, e, h | ⟨g, o, ea, ht⟩⟩ := h
  · exact ⟨a, c, e, Or.inl h⟩
  · exact ⟨a, c, e, Or.inr ⟨g, o, ea, ht.move hf⟩⟩
theorem OwnT.tg {w : World} {B : Nat} {v : Value} {ts : List Tok} (h : OwnT w B v ts) (hne : ts ≠ []) : ∃ g c, v = .slice (some ⟨g, 0, none⟩) ts.length c ∧ TG w g 0 ts ∧ B ≤ g ∧ ts.length ≤ c := by
  have h2 := h.2
  rcases h.2.2 with ⟨_, h1⟩ | ⟨g, cap, cur, hv, hg, hh, hc, _⟩
  · exact absurd (List.eq_nil_of_length_eq_zero h1) hne
  · refine ⟨g, cap, hv, ?_, hg, hc⟩
    rw [hv] at h2
    intro i t hi
    have hlt := (List.getElem?_eq_some_iff.1 hi).1
    have := tCs_get hi
    rw [Nat.zero_add, World.ownsRow.cellAt h2 _ (by omega), World.ownsRow.cellAt h2 _ (by omega)]
    exact this
theorem OwnT.ts {w : World} {B : Nat} {v : Value} {ts : List Tok} (h : OwnT w B v ts) : TS w v ts := by
  by_cases e : ts = []
  · obtain ⟨a, c, hv⟩ := h.1
    exact ⟨a, c, hv, Or.inl e⟩
  · obtain ⟨g, c, hv, ht, _⟩ := h.tg e
    exact ⟨_, c, hv, Or.inr ⟨g, 0, rfl, ht⟩⟩

set_option maxHeartbeats 2000000 in
theorem awake_all (w : World) : Calls Try.prog 7 #[] w fun e w' => e = .returned (.bool true) ∧ Frm No w w' := by
  have HL := Lib.hid (fun w => lex_all ⟨#[97, 47, 98, 32, 126, 47, 99, 47]⟩ w (by decide))
  rw [show (⟨#[97, 47, 98, 32, 126, 47, 99, 47]⟩ : ByteArray).data.toList = [97, 47, 98, 32, 126, 47, 99, 47] from rfl, awake_lex] at HL
  go_enter Try.func7, Try.ntmps7
  go_wp2_with (go_at_call 8; go_must (refine (HL.out _).mono ?_; rintro e w2 ⟨hf, v, rfl, hown⟩; obtain ⟨g, c, rfl, htg, _⟩ := hown.tg (by decide); have c1 : w2.cell? ⟨g, 2, none⟩ = some (.string ⟨#[111, 112]⟩) := (htg 1 ⟨kOp, [47]⟩ rfl).1; have c2 : w2.cell? ⟨g, 8, none⟩ = some (.string ⟨#[101, 114, 101]⟩) := (htg 4 ⟨kEre, [99]⟩ rfl).1; have c3 : w2.cell? ⟨g, 9, none⟩ = some (.string ⟨#[99]⟩) := (htg 4 ⟨kEre, [99]⟩ rfl).2; have hlen : awT.length = 5 := rfl; have HF := Lib.hid hf; clear hown htg hf))
  go_ret
  exact ⟨rfl, HF.out⟩
end Go.Proofs.Ytfgdhafpiikpjab.lexs
