/- The tokens of texts put together (as LexJ, without the laws of stage 5). -/
import Derived.Test.YtgbibfhacjjaeaaGreatLexU
namespace Go.Proofs.YtgbibfhacjjaeaaGreat.lexs
set_option linter.unusedVariables false set_option linter.unusedSimpArgs false
open Go.ChangeShapes Go.WideShapes Go.ChangeAt Go.RowKit Go.Proofs.YtgbibfhacjjaeaaGreat.base
theorem gap0 {l : List UInt8} (h : gp l = 0) : gap l = 0 := by rw [gap_eq, if_pos h]
theorem lexF_step {l l' : List UInt8} {b : Bool} {t : Tok} {k g : Nat} (h0 : l ≠ []) (h : readTok l b = some (t, k)) (hg : gap (l.drop k) = g) (hl : (l.drop k).drop g = l') : lexF l b = (lexF l' (ends t)).map (fun r => t :: r) := by
  rw [lexF_some h0 h, hg, hl]

/-- A byte 10 or 32: no token goes on over it. -/
def stop (x : UInt8) : Prop := x = 10 ∨ x = 32
theorem tw_app {p : UInt8 → Bool} {l u : List UInt8} {x : UInt8} (h : p x = false) : (l ++ x :: u).takeWhile p = l.takeWhile p := by
  induction l with
  | nil => simp [List.takeWhile_cons, h]
  | cons c t ih => rw [List.cons_append, List.takeWhile_cons, List.takeWhile_cons, ih]
theorem drop_app {l u : List UInt8} {k : Nat} (h : k ≤ l.length) : (l ++ u).drop k = l.drop k ++ u := by
  rw [List.drop_append, Nat.sub_eq_zero_of_le h, List.drop_zero]
theorem take_app {l u : List UInt8} {k : Nat} (h : k ≤ l.length) : (l ++ u).take k = l.take k := by
  rw [List.take_append, Nat.sub_eq_zero_of_le h, List.take_zero, List.append_nil]
theorem dg_app {l u : List UInt8} {x : UInt8} (h : stop x) : dg (l ++ x :: u) = dg l := by
  unfold dg
  rw [tw_app (by rcases h with rfl | rfl <;> rfl)]
theorem sg_app {l u : List UInt8} {x : UInt8} (h : stop x) : sg (l ++ x :: u) = sg l := by
  cases l with
  | nil => rcases h with rfl | rfl <;> rfl
  | cons c t => rfl
theorem pw_app {l u : List UInt8} {x : UInt8} (h : stop x) : pw (l ++ x :: u) = pw l := by
  cases l with
  | nil => rcases h with rfl | rfl <;> rfl
  | cons c t =>
    rw [List.cons_append]
    simp only [pw]
    rw [sg_app h, drop_app (sg_le t), dg_app h]
theorem head_app {l u : List UInt8} {x y : UInt8} (h : x ≠ y) : ((l ++ x :: u).head? = some y) ↔ (l.head? = some y) := by
  cases l with
  | nil => simp [h]
  | cons c t => simp
theorem nm_app {l u : List UInt8} {x : UInt8} (h : stop x) : nm (l ++ x :: u) = nm l := by
  have hne : x ≠ 46 := by rcases h with rfl | rfl <;> decide
  unfold nm
  simp only [dg_app h]
  rw [drop_app (dg_le l)]
  by_cases hh : (l.drop (dg l)).head? = some 46
  · have hne2 : l.drop (dg l) ≠ [] := by intro e; rw [e] at hh; cases hh
    have ht : (l.drop (dg l) ++ x :: u).tail = (l.drop (dg l)).tail ++ x :: u := by
      cases hd : l.drop (dg l) with
      | nil => exact absurd hd hne2
      | cons y z => rfl
    rw [if_pos ((head_app hne).2 hh), if_pos hh, ht, dg_app h]
    have h2 := dg_le (l.drop (dg l)).tail
    have h3 : 0 < (l.drop (dg l)).length := List.length_pos_iff.2 hne2
    rw [List.length_tail] at h2
    rw [List.length_drop] at h2 h3
    rw [drop_app (by omega), pw_app h]
  · rw [if_neg (fun e => hh ((head_app hne).1 e)), if_neg hh, pw_app h]
theorem opS_app {c : UInt8} {t u : List UInt8} {x : UInt8} (h : stop x) : opS (c :: (t ++ x :: u)) = opS (c :: t) := by
  cases t with
  | nil =>
    simp only [opS]
    have h1 : ops2.contains (List.take 2 (c :: ([] ++ x :: u))) = false := by
      rw [show List.take 2 (c :: ([] ++ x :: u)) = [c, x] from rfl, Bool.eq_false_iff]
      intro e
      have := List.mem_of_elem_eq_true e
      simp only [ops2, List.mem_cons, List.cons.injEq, List.not_mem_nil, or_false, and_true] at this
      rcases h with rfl | rfl <;> revert this <;> simp
    rw [if_neg (show ¬ (1 < (c :: ([] ++ x :: u)).length ∧ ops2.contains (List.take 2 (c :: ([] ++ x :: u))) = true) by rw [h1]; simp), if_neg (show ¬ (1 < [c].length ∧ ops2.contains (List.take 2 [c]) = true) by simp)]
  | cons d t =>
    simp only [opS]
    rw [show List.take 2 (c :: (d :: t ++ x :: u)) = List.take 2 (c :: d :: t) from rfl]
    have e1 : (1 < (c :: (d :: t ++ x :: u)).length ∧ ops2.contains (List.take 2 (c :: d :: t)) = true) ↔ (1 < (c :: d :: t).length ∧ ops2.contains (List.take 2 (c :: d :: t)) = true) := by
      constructor <;> (rintro ⟨_, h⟩; exact ⟨by simp, h⟩)
    by_cases hh : 1 < (c :: d :: t).length ∧ ops2.contains (List.take 2 (c :: d :: t)) = true
    · rw [if_pos hh, if_pos (e1.2 hh)]
    · rw [if_neg hh, if_neg (fun e => hh (e1.1 e))]
theorem bare_app {k l u : List UInt8} {n : Nat} (h : n ≤ l.length) : bare k (l ++ u) n = bare k l n := by
  unfold bare
  rw [take_app h]
theorem readName_app {c : UInt8} {t u : List UInt8} {x : UInt8} (h : stop x) : readName (c :: (t ++ x :: u)) = readName (c :: t) := by
  have hn : ns (c :: (t ++ x :: u)) = ns (c :: t) := by
    unfold ns
    rw [List.tail_cons, List.tail_cons, tw_app (by rcases h with rfl | rfl <;> rfl)]
  have hl := ns_le (c :: t) (by simp)
  have hx : x ≠ 40 := by rcases h with rfl | rfl <;> decide
  unfold readName
  rw [hn, show c :: (t ++ x :: u) = (c :: t) ++ x :: u from rfl, take_app hl, drop_app hl]
  have e := head_app (l := (c :: t).drop (ns (c :: t))) (u := u) hx
  simp only [e, bare_app hl]

theorem qt_app {q : UInt8} {l r v : List UInt8} (h : qt q l = some r) : qt q (l ++ v) = some r :=
  qt_ind (M := fun l r => qt q (l ++ v) = some r) (fun t => by rw [List.cons_append, qt_cons, if_pos rfl]) (fun c t r h1 h2 _ ih => by rw [List.cons_append, qt_cons, if_neg h1, if_neg h2, ih]; rfl) (fun d t r h1 _ ih => by rw [List.cons_append, List.cons_append, qt_cons, if_neg h1, if_pos rfl]; simp only; rw [ih]; rfl) l.length l r (Nat.le_refl _) h

theorem mStr_nil' : mStr [] = some [] := by rw [mStr.eq_def]
theorem mStr_ten' (t : List UInt8) : mStr (10 :: t) = none := by rw [mStr.eq_def]; simp
theorem mStr_one' {c : UInt8} {t : List UInt8} (h1 : c ≠ 10) (h2 : c ≠ 92) : mStr (c :: t) = (mStr t).map (fun r => c :: r) := by rw [mStr.eq_def]; simp only; rw [if_neg h1, if_neg h2]
theorem mStr_esc' (t : List UInt8) : mStr (92 :: t) = (mStr (t.drop (esc t).2)).map (fun r => (esc t).1 ++ r) := by rw [mStr.eq_def]; simp
theorem mStr_drop : ∀ (k : Nat) (l : List UInt8), (∀ x ∈ l.take k, x ≠ 10 ∧ x ≠ 92) → mStr l = none → mStr (l.drop k) = none
  | 0, l, _, h => by simpa using h
  | k + 1, [], _, h => by simpa using h
  | k + 1, c :: t, hx, h => by
    obtain ⟨h1, h2⟩ := hx c (by simp)
    rw [mStr_one' h1 h2] at h
    exact mStr_drop k t (fun x hx' => hx x (by simp [hx'])) (by simpa using h)
theorem oc_mem {l : List UInt8} {x : UInt8} (hx : x ∈ oc l) : x ≠ 10 ∧ x ≠ 92 := by
  have := List.all_eq_true.1 (List.all_takeWhile (p := isO) (l := l.take 3)) x hx
  constructor <;> (intro e; subst e; revert this; decide)
theorem oc_len (l : List UInt8) : l.take (oc l).length = oc l := by
  have h2 := List.prefix_iff_eq_take.1 (List.takeWhile_prefix (l := l.take 3) isO)
  have h3 := tw_len isO (l.take 3)
  rw [List.length_take] at h3
  have h4 : (oc l).length = ((l.take 3).takeWhile isO).length := rfl
  conv => rhs; unfold oc; rw [h2]
  rw [List.take_take, Nat.min_eq_left (by omega)]
  rfl
/-- Behind a backslash and a byte: what is none stays none. -/
theorem mStr_two {d : UInt8} {t : List UInt8} (h : mStr t = none) : mStr (92 :: d :: t) = none := by
  rw [mStr_esc']
  have : mStr ((d :: t).drop (esc (d :: t)).2) = none := by
    by_cases h0 : (oc (d :: t)).length ≠ 0
    · have e : (esc (d :: t)).2 = (oc (d :: t)).length := by unfold esc; rw [if_pos h0]
      rw [e]
      obtain ⟨k, hk⟩ : ∃ k, (oc (d :: t)).length = k + 1 := ⟨(oc (d :: t)).length - 1, by omega⟩
      rw [hk, List.drop_succ_cons]
      refine mStr_drop k t (fun x hx => ?_) h
      have := oc_len (d :: t)
      rw [hk, List.take_succ_cons] at this
      exact oc_mem (l := d :: t) (by rw [← this]; simp [hx])
    · have e : (esc (d :: t)).2 = 1 := by unfold esc; rw [if_neg h0]
      rw [e]
      exact h
  rw [this]
  rfl
/-- No backslash is last. -/
def okl (l : List UInt8) : Prop := l.getLast? ≠ some 92
theorem okl_drop {l : List UInt8} (h : okl l) (k : Nat) : okl (l.drop k) := by
  unfold okl at h ⊢
  rw [List.getLast?_drop]
  split
  · simp
  · exact h
theorem okl_tl {c : UInt8} {t : List UInt8} (h : okl (c :: t)) : okl t := okl_drop h 1
/-- What has no end ahead of a byte 10 has that byte bare in it. -/
theorem qt_ten {q : UInt8} (hq : q ≠ 10) (u : List UInt8) : ∀ (n : Nat) (l r : List UInt8), l.length ≤ n → okl l → qt q l = none → qt q (l ++ 10 :: u) = some r → mStr r = none ∧ r.contains 10 = true := by
  intro n
  induction n with
  | zero =>
    intro l r hl ho h hr
    obtain rfl : l = [] := List.eq_nil_of_length_eq_zero (by omega)
    rw [List.nil_append, qt_cons, if_neg (fun e => hq e.symm), if_neg (by decide)] at hr
    cases hu : qt q u with
    | none => rw [hu] at hr; cases hr
    | some r' => rw [hu] at hr; cases hr; exact ⟨mStr_ten' _, by simp⟩
  | succ n ih =>
    intro l r hl ho h hr
    cases l with
    | nil =>
      rw [List.nil_append, qt_cons, if_neg (fun e => hq e.symm), if_neg (by decide)] at hr
      cases hu : qt q u with
      | none => rw [hu] at hr; cases hr
      | some r' => rw [hu] at hr; cases hr; exact ⟨mStr_ten' _, by simp⟩
    | cons c t =>
      rw [qt_cons] at h
      rw [List.cons_append, qt_cons] at hr
      by_cases e1 : c = q
      · rw [if_pos e1] at h; cases h
      · rw [if_neg e1] at h hr
        by_cases e2 : c = 92
        · rw [if_pos e2] at h hr
          cases t with
          | nil => subst e2; exact absurd rfl ho
          | cons d t' =>
            simp only [List.cons_append] at h hr
            cases hu : qt q (t' ++ 10 :: u) with
            | none => rw [hu] at hr; cases hr
            | some r' =>
              rw [hu] at hr
              cases hr
              have ⟨h1, h2⟩ := ih t' r' (by simp only [List.length_cons] at hl; omega) (okl_tl (okl_tl ho)) (by simpa using h) hu
              subst e2
              exact ⟨mStr_two h1, by simp at h2 ⊢; exact Or.inr h2⟩
        · rw [if_neg e2] at h hr
          cases hu : qt q (t ++ 10 :: u) with
          | none => rw [hu] at hr; cases hr
          | some r' =>
            rw [hu] at hr
            cases hr
            have ⟨h1, h2⟩ := ih t r' (by simp only [List.length_cons] at hl; omega) (okl_tl ho) (by simpa using h) hu
            by_cases e3 : c = 10
            · subst e3; exact ⟨mStr_ten' _, by simp⟩
            · exact ⟨by rw [mStr_one' e3 e2, h1]; rfl, by simp at h2 ⊢; right; exact h2⟩

theorem readTok_some {c : UInt8} {t u : List UInt8} {x : UInt8} {b : Bool} {p : Tok × Nat} (h : stop x) (hr : readTok (c :: t) b = some p) : readTok (c :: (t ++ x :: u)) b = some p := by
  simp only [readTok] at hr ⊢
  split
  · rename_i h1; rw [if_pos h1] at hr; exact hr
  · rename_i h1
    rw [if_neg h1] at hr
    split
    · rename_i h2
      rw [if_pos h2] at hr
      unfold readStr at hr ⊢
      rw [List.tail_cons] at hr ⊢
      cases hq : qt 34 t with
      | none => rw [hq] at hr; cases hr
      | some r => rw [hq] at hr; rw [qt_app hq]; exact hr
    · rename_i h2
      rw [if_neg h2] at hr
      split
      · rename_i h3
        rw [if_pos h3] at hr
        unfold readEre at hr ⊢
        rw [List.tail_cons] at hr ⊢
        cases hq : qt 47 t with
        | none => rw [hq] at hr; cases hr
        | some r => rw [hq] at hr; rw [qt_app hq]; exact hr
      · rename_i h3
        rw [if_neg h3] at hr
        split
        · rename_i h4; rw [if_pos h4] at hr; rw [readName_app h]; exact hr
        · rename_i h4
          rw [if_neg h4] at hr
          split
          · rename_i h5; rw [if_pos h5] at hr; rw [show c :: (t ++ x :: u) = (c :: t) ++ x :: u from rfl, nm_app h, bare_app (nm_le _)]; exact hr
          · rename_i h5; rw [if_neg h5] at hr; rw [opS_app h, show c :: (t ++ x :: u) = (c :: t) ++ x :: u from rfl, bare_app (opS_le _)]; exact hr
theorem readTok_none {c : UInt8} {t u : List UInt8} {b : Bool} (ho : okl (c :: t)) (hr : readTok (c :: t) b = none) : readTok (c :: (t ++ 10 :: u)) b = none := by
  have h : stop 10 := Or.inl rfl
  have hot : okl t := okl_tl ho
  simp only [readTok] at hr ⊢
  split
  · rename_i h1; rw [if_pos h1] at hr; cases hr
  · rename_i h1
    rw [if_neg h1] at hr
    split
    · rename_i h2
      rw [if_pos h2] at hr
      unfold readStr at hr ⊢
      rw [List.tail_cons] at hr ⊢
      cases hq : qt 34 t with
      | none =>
        cases hq2 : qt 34 (t ++ 10 :: u) with
        | none => rfl
        | some r => simp only; rw [(qt_ten (by decide) u t.length t r (Nat.le_refl _) hot hq hq2).1]
      | some r => rw [hq] at hr; rw [qt_app hq]; exact hr
    · rename_i h2
      rw [if_neg h2] at hr
      split
      · rename_i h3
        rw [if_pos h3] at hr
        unfold readEre at hr ⊢
        rw [List.tail_cons] at hr ⊢
        cases hq : qt 47 t with
        | none =>
          cases hq2 : qt 47 (t ++ 10 :: u) with
          | none => rfl
          | some r => simp only; rw [(qt_ten (by decide) u t.length t r (Nat.le_refl _) hot hq hq2).2]; rfl
        | some r => rw [hq] at hr; rw [qt_app hq]; exact hr
      · rename_i h3
        rw [if_neg h3] at hr
        split
        · rename_i h4; rw [if_pos h4] at hr; rw [readName_app h]; exact hr
        · rename_i h4
          rw [if_neg h4] at hr
          split
          · rename_i h5; rw [if_pos h5] at hr; rw [show c :: (t ++ 10 :: u) = (c :: t) ++ 10 :: u from rfl, nm_app h, bare_app (nm_le _)]; exact hr
          · rename_i h5; rw [if_neg h5] at hr; rw [opS_app h, show c :: (t ++ 10 :: u) = (c :: t) ++ 10 :: u from rfl, bare_app (opS_le _)]; exact hr

/-- What is left behind the gap. -/
def ug (l : List UInt8) : List UInt8 := l.drop (gap l)
theorem ug_stay {l : List UInt8} (h : gp l = 0) : ug l = l := by unfold ug; rw [gap_eq, if_pos h, List.drop_zero]
theorem ug_go {l : List UInt8} (h : gp l ≠ 0) : ug l = ug (l.drop (gp l)) := by
  unfold ug
  rw [gap_eq l, if_neg h, List.drop_drop]
theorem okl_ug {l : List UInt8} (h : okl l) : okl (ug l) := okl_drop h _
theorem ug_len (l : List UInt8) : (ug l).length ≤ l.length := by unfold ug; rw [List.length_drop]; omega
theorem tw_all {p : UInt8 → Bool} {l u : List UInt8} (h : l.takeWhile p = l) : (l ++ u).takeWhile p = l ++ u.takeWhile p := by
  induction l with
  | nil => rfl
  | cons c t ih =>
    rw [List.takeWhile_cons] at h
    cases hc : p c with
    | false => rw [hc] at h; simp at h
    | true =>
      rw [hc, if_pos rfl] at h
      rw [List.cons_append, List.takeWhile_cons, hc, if_pos rfl, ih (List.cons.inj h).2, List.cons_append]
theorem tw_some {p : UInt8 → Bool} {l u : List UInt8} (h : (l.takeWhile p).length < l.length) : (l ++ u).takeWhile p = l.takeWhile p := by
  induction l with
  | nil => simp at h
  | cons c t ih =>
    rw [List.cons_append, List.takeWhile_cons, List.takeWhile_cons]
    cases hc : p c with
    | false => rfl
    | true =>
      rw [List.takeWhile_cons, hc, if_pos rfl] at h
      rw [if_pos rfl, if_pos rfl, ih (by simpa using h)]
theorem gp_ten {l u : List UInt8} (hne : l ≠ []) (ho : okl l) : gp (l ++ 10 :: u) = gp l := by
  cases l with
  | nil => exact absurd rfl hne
  | cons c t =>
    rw [List.cons_append]
    simp only [gp]
    split
    · rfl
    · split
      · rename_i h1 h2
        cases t with
        | nil => subst h2; exact absurd rfl ho
        | cons d t' => rfl
      · rw [show c :: (t ++ 10 :: u) = (c :: t) ++ 10 :: u from rfl, tw_app (by rfl : nl 10 = false)]
theorem ug_ten (u : List UInt8) : ∀ (n : Nat) (l : List UInt8), l.length ≤ n → okl l → ug (l ++ 10 :: u) = ug l ++ 10 :: u := by
  intro n
  induction n with
  | zero =>
    intro l hl ho
    obtain rfl : l = [] := List.eq_nil_of_length_eq_zero (by omega)
    rw [List.nil_append, ug_stay rfl, ug_stay rfl, List.nil_append]
  | succ n ih =>
    intro l hl ho
    by_cases hne : l = []
    · subst hne; rw [List.nil_append, ug_stay rfl, ug_stay rfl, List.nil_append]
    · by_cases h0 : gp l = 0
      · rw [ug_stay (by rw [gp_ten hne ho]; exact h0), ug_stay h0]
      · have hle := gp_le l
        rw [ug_go (by rw [gp_ten hne ho]; exact h0), gp_ten hne ho, drop_app hle, ih _ (by rw [List.length_drop]; omega) (okl_drop ho _), ← ug_go h0]
def tNl : Tok := ⟨kNl, []⟩
theorem lexF_ten (u : List UInt8) : ∀ (n : Nat) (l : List UInt8) (b : Bool), l.length ≤ n → okl l → lexF (l ++ 10 :: u) b = (match lexF l b with
    | none => none
    | some ts => (lexF (ug u) false).map (fun r => ts ++ tNl :: r)) := by
  intro n
  induction n with
  | zero =>
    intro l b hl ho
    obtain rfl : l = [] := List.eq_nil_of_length_eq_zero (by omega)
    rw [List.nil_append, lexF_some (t := tNl) (k := 1) (by simp) rfl, lexF_nil]
    rfl
  | succ n ih =>
    intro l b hl ho
    cases l with
    | nil =>
      rw [List.nil_append, lexF_some (t := tNl) (k := 1) (by simp) rfl, lexF_nil]
      rfl
    | cons c t =>
      cases hr : readTok (c :: t) b with
      | none =>
        rw [lexF_none (by simp) hr, List.cons_append, lexF_none (by simp) (readTok_none ho hr)]
      | some p =>
        obtain ⟨tk, k⟩ := p
        obtain ⟨hk0, hkl⟩ := readTok_le hr
        rw [lexF_some (by simp) hr, List.cons_append, lexF_some (by simp) (readTok_some (Or.inl rfl) hr)]
        rw [show c :: (t ++ 10 :: u) = (c :: t) ++ 10 :: u from rfl, drop_app hkl]
        have h1 : ∀ z : List UInt8, z.drop (gap z) = ug z := fun _ => rfl
        rw [h1, h1, ug_ten u _ _ (Nat.le_refl _) (okl_drop ho k)]
        have h2 := ug_len ((c :: t).drop k)
        rw [List.length_drop] at h2
        rw [ih _ (ends tk) (by simp only [List.length_cons] at hl h2; omega) (okl_ug (okl_drop ho k))]
        cases lexF (ug ((c :: t).drop k)) (ends tk) with
        | none => rfl
        | some ts => simp only [Option.map_some, Option.map_map]; rfl
theorem lexF_len : ∀ (n : Nat) (l : List UInt8) (b : Bool) (ts : List Tok), l.length ≤ n → lexF l b = some ts → ts.length ≤ l.length := by
  intro n
  induction n with
  | zero =>
    intro l b ts hl h
    obtain rfl : l = [] := List.eq_nil_of_length_eq_zero (by omega)
    rw [lexF_nil] at h
    cases h
    simp
  | succ n ih =>
    intro l b ts hl h
    by_cases hne : l = []
    · subst hne; rw [lexF_nil] at h; cases h; simp
    · cases hr : readTok l b with
      | none => rw [lexF_none hne hr] at h; cases h
      | some p =>
        obtain ⟨tk, k⟩ := p
        obtain ⟨hk0, hkl⟩ := readTok_le hr
        rw [lexF_some hne hr] at h
        have h2 := ug_len (l.drop k)
        rw [List.length_drop] at h2
        cases hx : lexF ((l.drop k).drop (gap (l.drop k))) (ends tk) with
        | none => rw [hx] at h; cases h
        | some r =>
          rw [hx] at h
          cases h
          have := ih _ _ _ (by show (ug (l.drop k)).length ≤ n; omega) hx
          have h3 : ((l.drop k).drop (gap (l.drop k))).length = (ug (l.drop k)).length := rfl
          simp only [List.length_cons]
          omega
/-- What blanks and a remark end with. -/
def zz (c : List UInt8) : List UInt8 := 32 :: 35 :: c
theorem tw_full {p : UInt8 → Bool} {l : List UInt8} (h : ∀ x ∈ l, p x = true) : l.takeWhile p = l := by
  induction l with
  | nil => rfl
  | cons c t ih => rw [List.takeWhile_cons, h c (by simp), if_pos rfl, ih (fun x hx => h x (by simp [hx]))]
theorem ug_zz {c : List UInt8} (hc : ∀ x ∈ c, nl x = true) : ug (zz c) = [] := by
  have h1 : gp (zz c) = 1 := rfl
  have hall : (35 :: c).takeWhile nl = 35 :: c := tw_full (by intro x hx; simp at hx; rcases hx with rfl | hx; rfl; exact hc x hx)
  have h2 : gp (35 :: c) = (35 :: c).length := by
    simp only [gp]
    rw [if_neg (by decide), if_neg (by decide), if_pos trivial, hall]
  rw [ug_go (by rw [h1]; decide), h1, show (zz c).drop 1 = 35 :: c from rfl, ug_go (by rw [h2]; simp), h2, List.drop_length]
  exact ug_stay rfl
theorem ug_app {c : List UInt8} (hc : ∀ x ∈ c, nl x = true) : ∀ (n : Nat) (l : List UInt8), l.length ≤ n → (ug l = [] → ug (l ++ zz c) = []) ∧ (ug l ≠ [] → ug (l ++ zz c) = ug l ++ zz c) := by
  intro n
  induction n with
  | zero =>
    intro l hl
    obtain rfl : l = [] := List.eq_nil_of_length_eq_zero (by omega)
    exact ⟨fun _ => ug_zz hc, fun h => absurd (ug_stay rfl) h⟩
  | succ n ih =>
    intro l hl
    cases l with
    | nil => exact ⟨fun _ => ug_zz hc, fun h => absurd (ug_stay rfl) h⟩
    | cons d t =>
      have hz : ∀ x ∈ zz c, nl x = true := by intro x hx; simp [zz] at hx; rcases hx with rfl | rfl | hx; rfl; rfl; exact hc x hx
      have hg : gp (d :: (t ++ zz c)) = gp (d :: t) ∨ (d = 35 ∧ (d :: t).takeWhile nl = d :: t) := by
        simp only [gp]
        split
        · exact Or.inl rfl
        · split
          · left
            cases t with
            | nil => rfl
            | cons e t' => rfl
          · split
            · rename_i h1 h2 h3
              by_cases hw : (d :: t).takeWhile nl = d :: t
              · exact Or.inr ⟨h3, hw⟩
              · left
                have hlt : ((d :: t).takeWhile nl).length < (d :: t).length := by
                  have h1 := tw_len nl (d :: t)
                  rcases Nat.lt_or_ge ((d :: t).takeWhile nl).length (d :: t).length with h | h
                  · exact h
                  · exact absurd (List.IsPrefix.eq_of_length (List.takeWhile_prefix _) (by omega)) hw
                rw [show d :: (t ++ zz c) = (d :: t) ++ zz c from rfl, tw_some hlt]
            · exact Or.inl rfl
      rcases hg with hg | ⟨rfl, hw⟩
      · by_cases h0 : gp (d :: t) = 0
        · have e1 := ug_stay h0
          have e2 := ug_stay (hg.trans h0)
          exact ⟨fun h => (by rw [e1] at h; cases h), fun _ => by rw [e1, List.cons_append, e2]⟩
        · have hle := gp_le (d :: t)
          have e2 : ug (d :: t ++ zz c) = ug ((d :: t).drop (gp (d :: t)) ++ zz c) := by
            rw [← drop_app hle, ← hg]
            exact ug_go (by rw [List.cons_append, hg]; exact h0)
          rw [ug_go h0, e2]
          exact ih _ (by rw [List.length_drop]; omega)
      · have g1 : gp (35 :: t) = (35 :: t).length := by
          simp only [gp]; rw [if_neg (by decide), if_neg (by decide), if_pos trivial, hw]
        have g2 : gp (35 :: t ++ zz c) = (35 :: t ++ zz c).length := by
          rw [List.cons_append]; simp only [gp]; rw [if_neg (by decide), if_neg (by decide), if_pos trivial, show 35 :: (t ++ zz c) = (35 :: t) ++ zz c from rfl, tw_all hw, tw_full hz]
        have u1 : ug (35 :: t) = [] := by rw [ug_go (by rw [g1]; simp), g1, List.drop_length]; exact ug_stay rfl
        have u2 : ug (35 :: t ++ zz c) = [] := by rw [ug_go (by rw [g2]; simp), g2, List.drop_length]; exact ug_stay rfl
        exact ⟨fun _ => u2, fun h => absurd u1 h⟩
theorem lexF_zz {c : List UInt8} (hc : ∀ x ∈ c, nl x = true) : ∀ (n : Nat) (l : List UInt8) (b : Bool) (ts : List Tok), l.length ≤ n → l ≠ [] → lexF l b = some ts → lexF (l ++ zz c) b = some ts := by
  intro n
  induction n with
  | zero => intro l b ts hl hne _; exact absurd (List.eq_nil_of_length_eq_zero (by omega)) hne
  | succ n ih =>
    intro l b ts hl hne h
    cases l with
    | nil => exact absurd rfl hne
    | cons d t =>
      cases hr : readTok (d :: t) b with
      | none => rw [lexF_none hne hr] at h; cases h
      | some p =>
        obtain ⟨tk, k⟩ := p
        obtain ⟨hk0, hkl⟩ := readTok_le hr
        rw [lexF_some hne hr] at h
        rw [List.cons_append, show d :: (t ++ zz c) = d :: (t ++ 32 :: 35 :: c) from rfl, lexF_some (by simp) (readTok_some (Or.inr rfl) hr), show d :: (t ++ 32 :: 35 :: c) = (d :: t) ++ zz c from rfl, drop_app hkl]
        have h1 : ∀ z : List UInt8, z.drop (gap z) = ug z := fun _ => rfl
        rw [h1] at h ⊢
        obtain ⟨a1, a2⟩ := ug_app hc _ ((d :: t).drop k) (Nat.le_refl _)
        by_cases he : ug ((d :: t).drop k) = []
        · rw [a1 he]
          rw [he] at h
          exact h
        · rw [a2 he]
          have h2 := ug_len ((d :: t).drop k)
          rw [List.length_drop] at h2
          cases hx : lexF (ug ((d :: t).drop k)) (ends tk) with
          | none => rw [hx] at h; cases h
          | some r =>
            rw [hx] at h
            rw [ih _ _ _ (by simp only [List.length_cons] at hl h2; omega) he hx]
            exact h
theorem lexL_len {l : List UInt8} {ts : List Tok} (h : lexL l = some ts) : ts.length ≤ 20000 := by
  unfold lexL at h
  split at h
  · cases h
  · cases hx : lexF (l.drop (gap l)) false with
    | none => rw [hx] at h; cases h
    | some r =>
      rw [hx] at h
      simp only at h
      split at h
      · cases h
      · cases h; omega
theorem lim_le {r : Option (List Tok)} (h : ∀ ts, r = some ts → ts.length ≤ 20000) : lim r = r := by
  cases r with
  | none => rfl
  | some ts => simp only [lim]; rw [if_neg (by have := h ts rfl; omega)]
theorem lexL_id {l : List UInt8} (h : l.length ≤ 20000) : lexL l = lexF (ug l) false := by
  rw [lexL_lim (by omega)]
  refine lim_le (fun ts hts => ?_)
  have h1 := lexF_len _ _ _ _ (Nat.le_refl _) hts
  have h2 := ug_len l
  have h3 : (l.drop (gap l)).length = (ug l).length := rfl
  omega
/-- Two programs with a byte 10 between. -/
theorem joins_lex {s t : List UInt8} (hs : s.length ≤ 2000) (ht : t.length ≤ 2000) (ho : okl s) : lexL (s ++ 10 :: t) = (match lexL s with
    | none => none
    | some A => match lexL t with
      | none => none
      | some B => some (A ++ tNl :: B)) := by
  rw [lexL_id (by simp; omega), lexL_id (l := s) (by omega), lexL_id (l := t) (by omega), ug_ten t _ s (Nat.le_refl _) ho, lexF_ten t _ _ _ (Nat.le_refl _) (okl_ug ho)]
  cases lexF (ug s) false with
  | none => rfl
  | some A => cases lexF (ug t) false <;> rfl
theorem okl_of {s : ByteArray} {m : Nat} (hm : m < s.size) (hz : (s.size : Int) - 1 = (m : Int)) (hb : ((s[m].toNat : Int) == 92) = false) : okl s.data.toList := by
  unfold okl
  rw [List.getLast?_eq_getElem?, len_list, show s.size - 1 = m by omega, get_list s m hm]
  intro e
  exact of_bne 92 rfl hb (Option.some.inj e)
theorem okl_nil {s : ByteArray} (h : (s.size : Int) = 0) : okl s.data.toList := by
  have : s.data.toList = [] := List.eq_nil_of_length_eq_zero (by rw [len_list]; omega)
  rw [this]
  unfold okl
  simp

theorem begin_read (t : List UInt8) : readTok (66 :: 69 :: 71 :: 73 :: 78 :: 32 :: t) false = some (⟨kWord, [66, 69, 71, 73, 78]⟩, 5) := by rfl
theorem begin_lex {t : List UInt8} (ht : t.length ≤ 10000) {B : List Tok} (h : lexL (66 :: 69 :: 71 :: 73 :: 78 :: 32 :: t) = some B) : ∃ B', B = ⟨kWord, [66, 69, 71, 73, 78]⟩ :: B' := by
  rw [lexL_id (by simp only [List.length_cons]; omega)] at h
  have hg : gap (66 :: 69 :: 71 :: 73 :: 78 :: 32 :: t) = 0 := gap0 rfl
  unfold ug at h
  rw [hg, List.drop_zero, lexF_some (by simp) (begin_read t)] at h
  obtain ⟨r, _, rfl⟩ := Option.map_eq_some_iff.1 h
  exact ⟨r, rfl⟩
end Go.Proofs.YtgbibfhacjjaeaaGreat.lexs
