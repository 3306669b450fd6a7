/- No run in this text: names; what an operand's text stands for; how the document writes it as a str. -/
import Derived.Test.YteaibkbdoocifaaDoorInT
import Derived.Lib.CutLaws
import Derived.Lib.IndexLaws
namespace Go.Proofs.YteaibkbdoocifaaDoor.lexs
set_option linter.unusedVariables false set_option linter.unusedSimpArgs false

/-- Letters, digits and _, no digit first. -/
def nmk (l : List UInt8) : Bool := match l with
  | [] => false
  | c :: t => isL c && t.all isN
theorem nmk_yes {l : List UInt8} (h0 : l ≠ []) (h : ∀ (i : Nat) (c : UInt8), l[i]? = some c → isL c = true ∨ (0 < i ∧ isD c = true)) : nmk l = true := by
  cases l with
  | nil => exact absurd rfl h0
  | cons c t =>
    simp only [nmk, Bool.and_eq_true, List.all_eq_true]
    refine ⟨?_, fun x hx => ?_⟩
    · rcases h 0 c rfl with h | ⟨h, _⟩
      · exact h
      · exact absurd h (Nat.lt_irrefl _)
    · obtain ⟨i, hi⟩ := List.getElem?_of_mem hx
      unfold isN
      rcases h (i + 1) x (by simpa using hi) with h | ⟨_, h⟩ <;> simp [h]
theorem nmk_no {l : List UInt8} {i : Nat} {c : UInt8} (hi : l[i]? = some c) (h1 : isL c = false) (h2 : i = 0 ∨ isD c = false) : nmk l = false := by
  cases l with
  | nil => rfl
  | cons x t =>
    cases i with
    | zero =>
      obtain rfl : x = c := by simpa using hi
      simp [nmk, h1]
    | succ i =>
      rcases h2 with h2 | h2
      · omega
      · simp only [nmk, Bool.and_eq_false_iff]
        right
        rw [List.all_eq_false]
        exact ⟨c, List.mem_of_getElem? (i := i) (by simpa using hi), by simp [isN, h1, h2]⟩

/-- What stands for a backslash and what is behind it, and how much goes with it. -/
def esm (l : List UInt8) : List UInt8 × Nat := if l.head? = some 10 then ([92], 0) else esc l
/-- What an operand's text stands for. -/
def mnt (l : List UInt8) : List UInt8 := match l with
  | [] => []
  | c :: t => if c = 92 then (esm t).1 ++ mnt (t.drop (esm t).2) else c :: mnt t
termination_by l.length
decreasing_by
  all_goals simp only [List.length_drop, List.length_cons]; omega
theorem mnt_nil : mnt [] = [] := by rw [mnt.eq_def]
theorem mnt_bs (t : List UInt8) : mnt (92 :: t) = (esm t).1 ++ mnt (t.drop (esm t).2) := by rw [mnt.eq_def]; simp
theorem mnt_one {c : UInt8} (t : List UInt8) (h : c ≠ 92) : mnt (c :: t) = c :: mnt t := by rw [mnt.eq_def]; simp [h]
theorem mnt_app : ∀ (a x : List UInt8), (∀ c ∈ a, c ≠ 92) → mnt (a ++ x) = a ++ mnt x
  | [], x, _ => rfl
  | c :: a, x, h => by
    rw [List.cons_append, mnt_one _ (h c (by simp)), mnt_app a x (fun d hd => h d (by simp [hd]))]
    rfl

/-- A byte in base 8. -/
def e8 (c : UInt8) : List UInt8 := [92, 48 + c / 64, 48 + c / 8 % 8, 48 + c % 8]
theorem e8_facts (c : UInt8) : isO (48 + c / 64) = true ∧ isO (48 + c / 8 % 8) = true ∧ isO (48 + c % 8) = true ∧ ocV [48 + c / 64, 48 + c / 8 % 8, 48 + c % 8] = c := by
  have h : ∀ n : Fin 256, isO (48 + (UInt8.ofNat n.val) / 64) = true ∧ isO (48 + (UInt8.ofNat n.val) / 8 % 8) = true ∧ isO (48 + (UInt8.ofNat n.val) % 8) = true ∧ ocV [48 + (UInt8.ofNat n.val) / 64, 48 + (UInt8.ofNat n.val) / 8 % 8, 48 + (UInt8.ofNat n.val) % 8] = UInt8.ofNat n.val := by decide +kernel
  have := h ⟨c.toNat, c.toNat_lt⟩
  simpa using this
/-- How the document writes it. -/
def enc (l : List UInt8) : List UInt8 := match l with
  | [] => []
  | c :: t => if c = 92 then (if t = [] ∨ t.head? = some 10 then e8 92 ++ enc t else 92 :: t.head?.getD 0 :: enc t.tail) else if c = 34 ∨ c = 10 then e8 c ++ enc t else c :: enc t
termination_by l.length
decreasing_by
  all_goals simp only [List.length_tail, List.length_cons]; omega
theorem enc_nil : enc [] = [] := by rw [enc.eq_def]
theorem enc_bs {t : List UInt8} (h : t = [] ∨ t.head? = some 10) : enc (92 :: t) = e8 92 ++ enc t := by rw [enc.eq_def]; simp [h]
theorem enc_two {d : UInt8} (t : List UInt8) (h : d ≠ 10) : enc (92 :: d :: t) = 92 :: d :: enc t := by rw [enc.eq_def]; simp [h]
theorem enc_sp {c : UInt8} (t : List UInt8) (h0 : c ≠ 92) (h : c = 34 ∨ c = 10) : enc (c :: t) = e8 c ++ enc t := by rw [enc.eq_def]; simp only; rw [if_neg h0, if_pos h]
theorem enc_one {c : UInt8} (t : List UInt8) (h0 : c ≠ 92) (h : ¬ (c = 34 ∨ c = 10)) : enc (c :: t) = c :: enc t := by rw [enc.eq_def]; simp only; rw [if_neg h0, if_neg h]
theorem enc_len : ∀ (n : Nat) (l : List UInt8), l.length ≤ n → (enc l).length ≤ 4 * l.length
  | 0, l, h => by
    obtain rfl := List.eq_nil_of_length_eq_zero (Nat.le_zero.1 h)
    rw [enc_nil]; simp
  | n + 1, [], h => by rw [enc_nil]; simp
  | n + 1, c :: t, h => by
    simp only [List.length_cons] at h ⊢
    have ih := enc_len n t (by omega)
    by_cases h0 : c = 92
    · subst h0
      by_cases h1 : t = [] ∨ t.head? = some 10
      · rw [enc_bs h1, List.length_append]
        simp only [e8, List.length_cons, List.length_nil]
        omega
      · cases t with
        | nil => exact absurd (Or.inl rfl) h1
        | cons d u =>
          have hd : d ≠ 10 := fun e => h1 (Or.inr (by rw [e]; rfl))
          have ih2 := enc_len n u (by simp only [List.length_cons] at h; omega)
          rw [enc_two u hd]
          simp only [List.length_cons]
          omega
    · by_cases h1 : c = 34 ∨ c = 10
      · rw [enc_sp t h0 h1, List.length_append]
        simp only [e8, List.length_cons, List.length_nil]
        omega
      · rw [enc_one t h0 h1]
        simp only [List.length_cons]
        omega

theorem isO_plain {c : UInt8} (h : isO c = true) : c ≠ 92 ∧ ¬ (c = 34 ∨ c = 10) := by
  refine ⟨?_, ?_⟩
  · intro e; subst e; revert h; decide
  · rintro (e | e) <;> (subst e; revert h; decide)
/-- What the document writes begins with a digit of base 8 just where the text does. -/
theorem enc_hd {c : UInt8} {t : List UInt8} (h : isO c = false) : ∃ x y, enc (c :: t) ++ [34] = x :: y ∧ isO x = false := by
  by_cases h0 : c = 92
  · subst h0
    by_cases h1 : t = [] ∨ t.head? = some 10
    · rw [enc_bs h1]; exact ⟨_, _, rfl, by decide⟩
    · cases t with
      | nil => exact absurd (Or.inl rfl) h1
      | cons d u =>
        have hd : d ≠ 10 := fun e => h1 (Or.inr (by rw [e]; rfl))
        rw [enc_two u hd]; exact ⟨_, _, rfl, by decide⟩
  · by_cases h1 : c = 34 ∨ c = 10
    · rw [enc_sp t h0 h1]; exact ⟨_, _, rfl, by decide⟩
    · rw [enc_one t h0 h1]; exact ⟨_, _, rfl, h⟩
theorem enc_digits : ∀ (n : Nat) (t : List UInt8), ((enc t ++ [34]).take n).takeWhile isO = (t.take n).takeWhile isO ∧ (enc t ++ [34]).drop ((t.take n).takeWhile isO).length = enc (t.drop ((t.take n).takeWhile isO).length) ++ [34] ∧ (enc t).length = ((t.take n).takeWhile isO).length + (enc (t.drop ((t.take n).takeWhile isO).length)).length
  | 0, t => by simp
  | n + 1, [] => by
    rw [enc_nil]
    simp [List.takeWhile_cons, show isO 34 = false by decide, enc_nil]
  | n + 1, c :: t => by
    cases h : isO c with
    | true =>
      obtain ⟨h0, h1⟩ := isO_plain h
      obtain ⟨i1, i2, i3⟩ := enc_digits n t
      rw [enc_one t h0 h1, List.cons_append, List.take_succ_cons, List.take_succ_cons, List.takeWhile_cons, List.takeWhile_cons, h]
      simp only [if_true, List.length_cons, List.drop_succ_cons]
      exact ⟨by rw [i1], i2, by omega⟩
    | false =>
      obtain ⟨x, y, e, hx⟩ := enc_hd (t := t) h
      rw [e, List.take_succ_cons, List.take_succ_cons, List.takeWhile_cons, List.takeWhile_cons, h, hx]
      simp [← e]
theorem oc_cons (d : UInt8) (X : List UInt8) : oc (d :: X) = if isO d then d :: (X.take 2).takeWhile isO else [] := by
  unfold oc
  rw [List.take_succ_cons, List.takeWhile_cons]
theorem esc_enc (d : UInt8) (t : List UInt8) : esc (d :: (enc t ++ [34])) = esc (d :: t) := by
  have h : oc (d :: (enc t ++ [34])) = oc (d :: t) := by rw [oc_cons, oc_cons, (enc_digits 2 t).1]
  unfold esc
  rw [h]
theorem esc_sz2 (d : UInt8) (t : List UInt8) : (esc (d :: t)).2 = 1 + (if isO d then ((t.take 2).takeWhile isO).length else 0) := by
  unfold esc
  rw [oc_cons]
  cases h : isO d with
  | true => simp; omega
  | false => simp
theorem esc_drop (d : UInt8) (t : List UInt8) : (d :: (enc t ++ [34])).drop (esc (d :: t)).2 = enc ((d :: t).drop (esc (d :: t)).2) ++ [34] ∧ 1 + (enc t).length = (esc (d :: t)).2 + (enc ((d :: t).drop (esc (d :: t)).2)).length := by
  rw [esc_sz2]
  obtain ⟨i1, i2, i3⟩ := enc_digits 2 t
  cases h : isO d with
  | true =>
    simp only [if_true]
    rw [Nat.add_comm 1, List.drop_succ_cons, List.drop_succ_cons]
    exact ⟨i2, by omega⟩
  | false => simp

/-- What the document reads of what it has written. -/
theorem tx_enc : ∀ (n : Nat) (l : List UInt8), l.length ≤ n → txF (enc l ++ [34]) = some (mnt l, (enc l).length + 1)
  | 0, l, h => by
    obtain rfl := List.eq_nil_of_length_eq_zero (Nat.le_zero.1 h)
    rw [enc_nil, mnt_nil]
    exact txF_end []
  | n + 1, [], h => by
    rw [enc_nil, mnt_nil]
    exact txF_end []
  | n + 1, c :: t, h => by
    simp only [List.length_cons] at h
    have ih := tx_enc n t (by omega)
    have he8 : ∀ (c : UInt8) (X : List UInt8), txF (e8 c ++ X) = (txF X).map (fun p => (c :: p.1, 4 + p.2)) := by
      intro c X
      obtain ⟨h1, h2, h3, h4⟩ := e8_facts c
      show txF (92 :: (48 + c / 64) :: (48 + c / 8 % 8) :: (48 + c % 8) :: X) = _
      have ho : oc ((48 + c / 64) :: (48 + c / 8 % 8) :: (48 + c % 8) :: X) = [48 + c / 64, 48 + c / 8 % 8, 48 + c % 8] := by
        rw [oc_cons, h1]
        simp [List.takeWhile_cons, h2, h3]
      have he : esc ((48 + c / 64) :: (48 + c / 8 % 8) :: (48 + c % 8) :: X) = ([c], 3) := by
        unfold esc
        rw [ho, h4, if_pos (by simp)]
        rfl
      rw [txF_esc (by simp), he]
      rfl
    by_cases h0 : c = 92
    · subst h0
      by_cases h1 : t = [] ∨ t.head? = some 10
      · have hm : mnt (92 :: t) = 92 :: mnt t := by
          rw [mnt_bs]
          rcases h1 with rfl | h1
          · rfl
          · unfold esm
            rw [if_pos h1]
            rfl
        rw [enc_bs h1, List.append_assoc, he8, ih, hm]
        simp [e8]
        omega
      · cases t with
        | nil => exact absurd (Or.inl rfl) h1
        | cons d u =>
          have hd : d ≠ 10 := fun e => h1 (Or.inr (by rw [e]; rfl))
          have hes : esm (d :: u) = esc (d :: u) := by unfold esm; rw [if_neg (by simpa using hd)]
          obtain ⟨e1, e2⟩ := esc_drop d u
          simp only [List.length_cons] at h
          have hk : (esc (d :: u)).2 ≤ u.length + 1 := by
            rw [esc_sz2]
            have := tw_len isO (u.take 2)
            rw [List.length_take] at this
            split <;> omega
          have hk1 : 1 ≤ (esc (d :: u)).2 := by rw [esc_sz2]; omega
          have ih2 := tx_enc n ((d :: u).drop (esc (d :: u)).2) (by rw [List.length_drop, List.length_cons]; omega)
          rw [enc_two u hd, mnt_bs, hes]
          show txF (92 :: (d :: (enc u ++ [34]))) = _
          rw [txF_esc (by simp), esc_enc, e1, ih2]
          simp only [Option.map_some, List.length_cons, Option.some.injEq, Prod.mk.injEq, true_and]
          omega
    · by_cases h1 : c = 34 ∨ c = 10
      · rw [enc_sp t h0 h1, List.append_assoc, he8, ih, mnt_one t h0]
        simp [e8]
        omega
      · rw [enc_one t h0 h1, List.cons_append, txF_one (fun e => h1 (Or.inl e)) (fun e => h1 (Or.inr e)) h0, ih, mnt_one t h0]
        simp
        omega

/-- A text between quotes is one token. -/
theorem str_lex {X v : List UInt8} (hq : qt 34 (X ++ [34]) = some X) (hm : mStr X = some v) (hl : X.length ≤ 12000) : lexL (34 :: (X ++ [34])) = some [⟨kStr, v⟩] := by
  have g0 : ∀ {l : List UInt8}, gp l = 0 → gap l = 0 := fun h => by rw [gap_eq, if_pos h]
  have hr : readTok (34 :: (X ++ [34])) false = some (⟨kStr, v⟩, X.length + 2) := by
    simp only [readTok]
    rw [if_neg (by decide), if_pos trivial]
    unfold readStr
    rw [List.tail_cons, hq]
    simp only
    rw [hm]
  have hd : (34 :: (X ++ [34])).drop (X.length + 2) = [] := List.drop_eq_nil_of_le (by simp)
  rw [lexL_lim (by simp; omega), g0 rfl, List.drop_zero, lexF_some (by simp) hr, hd, g0 rfl, List.drop_zero, lexF_nil]
  rfl
theorem qt_digs : ∀ (W : List UInt8), (∀ x ∈ W, isO x = true) → qt 34 (W ++ [34]) = some W
  | [], _ => by rw [List.nil_append, qt_cons]; simp
  | c :: W, h => by
    obtain ⟨h0, h1⟩ := isO_plain (h c (by simp))
    rw [List.cons_append, qt_cons, if_neg (fun e => h1 (Or.inl e)), if_neg h0, qt_digs W (fun x hx => h x (by simp [hx]))]
    rfl
theorem tw_all (W : List UInt8) (h : ∀ x ∈ W, isO x = true) : W.takeWhile isO = W := by
  induction W with
  | nil => rfl
  | cons c W ih => rw [List.takeWhile_cons, if_pos (h c (by simp)), ih (fun x hx => h x (by simp [hx]))]
/-- What stands behind a backslash, with its own bytes alone. -/
theorem piece_lex {t p : List UInt8} (h0 : t ≠ []) (h1 : t.head? ≠ some 10) (hp : t.take (esm t).2 = p) : lexL (34 :: 92 :: (p ++ [34])) = some [⟨kStr, (esm t).1⟩] ∧ p ≠ [] := by
  cases t with
  | nil => exact absurd rfl h0
  | cons d u =>
    have hes : esm (d :: u) = esc (d :: u) := by unfold esm; rw [if_neg h1]
    have hd10 : d ≠ 10 := fun e => h1 (by rw [e]; rfl)
    rw [hes] at hp ⊢
    rw [esc_sz2] at hp
    obtain ⟨W, hW⟩ : ∃ W, (if isO d then (u.take 2).takeWhile isO else []) = W := ⟨_, rfl⟩
    have hWO : ∀ x ∈ W, isO x = true := by
      intro x hx
      rw [← hW] at hx
      split at hx
      · exact List.all_eq_true.1 (List.all_takeWhile (p := isO) (l := u.take 2)) x hx
      · cases hx
    have hWl : W.length ≤ 2 := by
      rw [← hW]
      split
      · have := tw_len isO (u.take 2)
        rw [List.length_take] at this
        omega
      · simp
    have hpe : p = d :: W := by
      rw [← hp, Nat.add_comm, List.take_succ_cons]
      congr 1
      rw [← hW]
      cases isO d with
      | true =>
        simp only [if_true]
        have hpre : (u.take 2).takeWhile isO <+: u := (List.takeWhile_prefix isO).trans (List.take_prefix 2 u)
        exact (List.prefix_iff_eq_take.1 hpre).symm
      | false => simp
    subst hpe
    refine ⟨?_, by simp⟩
    have hoc : oc (d :: W) = oc (d :: u) := by
      rw [oc_cons, oc_cons]
      cases hd : isO d with
      | true =>
        rw [hd] at hW
        simp only [if_true] at hW ⊢
        rw [hW, List.take_of_length_le hWl, tw_all W hWO]
      | false => rfl
    have hesc : esc (d :: W) = esc (d :: u) := by unfold esc; rw [hoc]
    have hsz : (esc (d :: W)).2 = (d :: W).length := by
      rw [esc_sz2, List.take_of_length_le hWl, tw_all W hWO]
      cases hd : isO d with
      | true => simp; omega
      | false =>
        rw [hd] at hW
        simp at hW
        subst hW
        rfl
    have hX : 92 :: (d :: W ++ [34]) = (92 :: d :: W) ++ [34] := rfl
    rw [hX]
    refine str_lex ?_ ?_ (by simp; omega)
    · show qt 34 (92 :: d :: (W ++ [34])) = _
      rw [qt_cons, if_neg (by decide), if_pos rfl]
      simp only
      rw [qt_digs W hWO]
      rfl
    · rw [mStr_esc, hsz, List.drop_length, mStr_nil, hesc]
      simp

/-- What strings.Cut answers at one byte. -/
theorem cut_one (s : ByteArray) (c : UInt8) :
    ((⟨(Lib.cut s.data.toList [c]).1.toArray⟩ : ByteArray) = s ∧ (⟨(Lib.cut s.data.toList [c]).2.1.toArray⟩ : ByteArray) = ByteArray.empty ∧ (Lib.cut s.data.toList [c]).2.2 = false ∧ ∀ x ∈ s.data.toList, x ≠ c) ∨
    ∃ i : Nat, i < s.size ∧ (⟨(Lib.cut s.data.toList [c]).1.toArray⟩ : ByteArray) = s.extract 0 i ∧ (⟨(Lib.cut s.data.toList [c]).2.1.toArray⟩ : ByteArray) = s.extract (i + 1) s.size ∧ (Lib.cut s.data.toList [c]).2.2 = true ∧ s.data.toList = s.data.toList.take i ++ c :: s.data.toList.drop (i + 1) ∧ ∀ x ∈ s.data.toList.take i, x ≠ c := by
  have hone : Lib.indexB s ⟨#[c]⟩ = Lib.indexByte s.data.toList c := Lib.index_one s.data.toList c
  rcases Lib.indexB_cases s ⟨#[c]⟩ with h | ⟨i, h, hi⟩
  · left
    obtain ⟨h1, h2, h3⟩ := Lib.cutB_miss s ⟨#[c]⟩ h
    refine ⟨h1, h2, h3, fun x hx e => ?_⟩
    rw [hone] at h
    obtain ⟨k, hk⟩ := List.getElem?_of_mem hx
    exact Lib.indexByte_none h k (by rw [hk, e])
  · right
    obtain ⟨h1, h2, h3⟩ := Lib.cutB_hit s ⟨#[c]⟩ i h
    rw [hone] at h
    obtain ⟨h4, h5⟩ := Lib.indexByte_some h
    have hl : i < s.data.toList.length := (List.getElem?_eq_some_iff.1 h4).1
    have hc : s.data.toList[i] = c := (List.getElem?_eq_some_iff.1 h4).2
    refine ⟨i, by rw [← len_list]; exact hl, h1, h2, h3, ?_, fun x hx e => ?_⟩
    · conv => lhs; rw [← List.take_append_drop i s.data.toList, List.drop_eq_getElem_cons hl, hc]
    · obtain ⟨k, hk⟩ := List.getElem?_of_mem hx
      rw [List.getElem?_take] at hk
      split at hk
      · rename_i hki
        exact h5 k hki (by rw [hk, e])
      · cases hk

end Go.Proofs.YteaibkbdoocifaaDoor.lexs
