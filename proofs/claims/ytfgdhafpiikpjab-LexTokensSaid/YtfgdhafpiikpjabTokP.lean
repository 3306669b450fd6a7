/- The document's way over quoted texts and ops comes to the same (lists of bytes alone). -/
import Derived.Test.YtfgdhafpiikpjabLexN
namespace Go.Proofs.Ytfgdhafpiikpjab.lexs
set_option linter.unusedVariables false set_option linter.unusedSimpArgs false

--PURE
/-- A str behind its first quote, as the document goes over it. -/
def txF (l : List UInt8) : Option (List UInt8 × Nat) := match l with
  | [] => none
  | c :: t => if c = 34 then some ([], 1) else if c = 10 then none else if c = 92 then (if t = [] then none else (txF (t.drop (esc t).2)).map (fun p => ((esc t).1 ++ p.1, 1 + (esc t).2 + p.2))) else (txF t).map (fun p => (c :: p.1, 1 + p.2))
termination_by l.length
decreasing_by
  all_goals simp only [List.length_drop, List.length_cons]; omega
theorem txF_nil : txF [] = none := by rw [txF.eq_def]
theorem txF_end (t : List UInt8) : txF (34 :: t) = some ([], 1) := by rw [txF.eq_def]; simp
theorem txF_ten (t : List UInt8) : txF (10 :: t) = none := by rw [txF.eq_def]; simp
theorem txF_bs : txF [92] = none := by rw [txF.eq_def]; simp
theorem txF_esc {t : List UInt8} (h : t ≠ []) : txF (92 :: t) = (txF (t.drop (esc t).2)).map (fun p => ((esc t).1 ++ p.1, 1 + (esc t).2 + p.2)) := by rw [txF.eq_def]; simp [h]
theorem txF_one {c : UInt8} {t : List UInt8} (h1 : c ≠ 34) (h2 : c ≠ 10) (h3 : c ≠ 92) : txF (c :: t) = (txF t).map (fun p => (c :: p.1, 1 + p.2)) := by rw [txF.eq_def]; simp only; rw [if_neg h1, if_neg h2, if_neg h3]
/-- The same by its inner text. -/
def txQ (l : List UInt8) : Option (List UInt8 × Nat) := match qt 34 l with
  | none => none
  | some r => (mStr r).map (fun x => (x, r.length + 1))
theorem qt_dig (q : UInt8) (hq : isO q = false) : ∀ (k : Nat) (l : List UInt8), (∀ x ∈ l.take k, isO x = true) → k ≤ l.length → qt q l = (qt q (l.drop k)).map (fun r => l.take k ++ r)
  | 0, l, _, _ => by simp
  | k + 1, [], _, h => by simp at h
  | k + 1, c :: t, hx, hl => by
    have hc := hx c (by simp)
    have h1 : c ≠ q := by intro e; subst e; rw [hq] at hc; cases hc
    have h2 : c ≠ 92 := by intro e; subst e; revert hc; decide
    rw [qt_cons, if_neg h1, if_neg h2, qt_dig q hq k t (fun x hx' => hx x (by simp [hx'])) (by simpa using hl), List.drop_succ_cons, List.take_succ_cons]
    cases qt q (t.drop k) <;> rfl
theorem qt_is {q : UInt8} {l r : List UInt8} (h : qt q l = some r) : ∃ u, l = r ++ q :: u :=
  qt_ind (M := fun l r => ∃ u, l = r ++ q :: u) (fun t => ⟨t, rfl⟩) (fun c t r _ _ _ ⟨u, e⟩ => ⟨u, by rw [e]; rfl⟩) (fun d t r _ _ ⟨u, e⟩ => ⟨u, by rw [e]; rfl⟩) l.length l r (Nat.le_refl _) h
theorem oc_app {q : UInt8} (hq : isO q = false) (l u : List UInt8) : oc (l ++ q :: u) = oc l := by
  unfold oc
  rcases Nat.lt_or_ge l.length 3 with h | h
  · rw [List.take_append, List.take_of_length_le (Nat.le_of_lt h)]
    obtain ⟨k, hk⟩ : ∃ k, 3 - l.length = k + 1 := ⟨3 - l.length - 1, by omega⟩
    rw [hk, List.take_succ_cons]
    exact tw_app hq
  · rw [take_app h]
theorem esc_app {q d : UInt8} (hq : isO q = false) (l u : List UInt8) : esc (d :: (l ++ q :: u)) = esc (d :: l) := by
  have h : oc (d :: (l ++ q :: u)) = oc (d :: l) := oc_app hq (d :: l) u
  unfold esc
  rw [h]
theorem esc_sz' (d : UInt8) (t : List UInt8) : (oc (d :: t)).length ≠ 0 ∧ (esc (d :: t)).2 = (oc (d :: t)).length ∨ (esc (d :: t)).2 = 1 := by
  by_cases h : (oc (d :: t)).length ≠ 0
  · left; refine ⟨h, ?_⟩; unfold esc; rw [if_pos h]
  · right; unfold esc; rw [if_neg h]
theorem oc_all {l : List UInt8} : ∀ x ∈ oc l, isO x = true := by
  intro x hx
  exact List.all_eq_true.1 (List.all_takeWhile (p := isO) (l := l.take 3)) x hx
theorem oc_le (l : List UInt8) : (oc l).length ≤ l.length := by
  have h3 := tw_len isO (l.take 3)
  rw [List.length_take] at h3
  have h4 : (oc l).length = ((l.take 3).takeWhile isO).length := rfl
  omega
theorem tx_eq : ∀ (n : Nat) (l : List UInt8), l.length ≤ n → txF l = txQ l := by
  intro n
  induction n with
  | zero =>
    intro l hl
    obtain rfl : l = [] := List.eq_nil_of_length_eq_zero (by omega)
    rw [txF_nil]; rfl
  | succ n ih =>
    intro l hl
    cases l with
    | nil => rw [txF_nil]; rfl
    | cons c t =>
      have hl' : t.length ≤ n := by simpa using hl
      unfold txQ
      rw [qt_cons]
      by_cases e1 : c = 34
      · subst e1; rw [txF_end, if_pos rfl]; simp only; rw [mStr_nil']; rfl
      · rw [if_neg e1]
        by_cases e2 : c = 92
        · subst e2
          rw [if_pos rfl]
          cases t with
          | nil => rw [txF_bs]
          | cons d t' =>
            rw [txF_esc (by simp)]
            simp only
            have hq : isO 34 = false := rfl
            -- how far the escape goes
            rcases esc_sz' d t' with ⟨h0, hE⟩ | hE
            · obtain ⟨k, hk⟩ : ∃ k, (oc (d :: t')).length = k + 1 := ⟨(oc (d :: t')).length - 1, by omega⟩
              have hk2 : k ≤ t'.length := by have := oc_le (d :: t'); rw [hk] at this; simpa using this
              have hdig : ∀ x ∈ t'.take k, isO x = true := by
                intro x hx
                have := oc_len (d :: t')
                rw [hk, List.take_succ_cons] at this
                exact oc_all x (by rw [← this]; simp [hx])
              have hdrop : (d :: t').drop (esc (d :: t')).2 = t'.drop k := by rw [hE, hk, List.drop_succ_cons]
              rw [hdrop, ih _ (by rw [List.length_drop]; simp only [List.length_cons] at hl'; omega)]
              unfold txQ
              rw [qt_dig 34 hq k t' hdig hk2]
              cases hq2 : qt 34 (t'.drop k) with
              | none => rfl
              | some r =>
                obtain ⟨u, hu⟩ := qt_is hq2
                have ht' : t' = (t'.take k ++ r) ++ 34 :: u := by rw [List.append_assoc, ← hu, List.take_append_drop]
                have hes : esc (d :: (t'.take k ++ r)) = esc (d :: t') := by
                  have := esc_app (d := d) hq (t'.take k ++ r) u
                  rw [← ht'] at this
                  exact this.symm
                simp only [Option.map_some]
                rw [mStr_esc', hes]
                have hd2 : (d :: (t'.take k ++ r)).drop (esc (d :: t')).2 = r := by
                  rw [hE, hk, List.drop_succ_cons, List.drop_append, List.drop_of_length_le (by rw [List.length_take]; omega), List.length_take, Nat.min_eq_left hk2, Nat.sub_self, List.drop_zero, List.nil_append]
                rw [hd2]
                cases mStr r with
                | none => rfl
                | some x =>
                  simp only [Option.map_some]
                  congr 2
                  rw [hE, hk]
                  simp only [List.length_cons, List.length_append, List.length_take]
                  omega
            · have hdrop : (d :: t').drop (esc (d :: t')).2 = t' := by rw [hE]; rfl
              rw [hdrop, ih _ (by simp only [List.length_cons] at hl'; omega)]
              unfold txQ
              cases hq2 : qt 34 t' with
              | none => rfl
              | some r =>
                obtain ⟨u, hu⟩ := qt_is hq2
                have hes : esc (d :: r) = esc (d :: t') := by rw [hu]; exact (esc_app hq _ _).symm
                simp only [Option.map_some]
                rw [mStr_esc', hes]
                have hd2 : (d :: r).drop (esc (d :: t')).2 = r := by rw [hE]; rfl
                rw [hd2]
                cases mStr r with
                | none => rfl
                | some x =>
                  simp only [Option.map_some]
                  congr 2
                  rw [hE]
                  simp only [List.length_cons]
                  omega
        · rw [if_neg e2]
          by_cases e3 : c = 10
          · subst e3
            rw [txF_ten]
            cases qt 34 t with
            | none => rfl
            | some r => simp only [Option.map_some]; rw [mStr_ten']; rfl
          · rw [txF_one e1 e3 e2, ih t hl']
            unfold txQ
            cases qt 34 t with
            | none => rfl
            | some r =>
              simp only [Option.map_some]
              rw [mStr_one' e3 e2]
              cases mStr r with
              | none => rfl
              | some x => simp only [Option.map_some, List.length_cons]; congr 2; omega

/-- An ere behind its first slash, as the document goes over it. -/
def sxF : List UInt8 → Option (List UInt8 × Nat)
  | [] => none
  | c :: t => if c = 47 then some ([], 1) else if c = 10 then none else if c = 92 then (match t with
      | [] => none
      | d :: t' => if d = 10 then none else (sxF t').map (fun p => ((if d = 47 then [47] else [92, d]) ++ p.1, 2 + p.2))) else (sxF t).map (fun p => (c :: p.1, 1 + p.2))
theorem sxF_nil : sxF [] = none := by rw [sxF.eq_def]
theorem sxF_cons {c : UInt8} {t : List UInt8} : sxF (c :: t) = if c = 47 then some ([], 1) else if c = 10 then none else if c = 92 then (match t with
      | [] => none
      | d :: t' => if d = 10 then none else (sxF t').map (fun p => ((if d = 47 then [47] else [92, d]) ++ p.1, 2 + p.2))) else (sxF t).map (fun p => (c :: p.1, 1 + p.2)) := by
  cases t <;> rw [sxF.eq_def]
def sxQ (l : List UInt8) : Option (List UInt8 × Nat) := match qt 47 l with
  | none => none
  | some r => if r.contains 10 then none else some (mEre r, r.length + 1)
theorem mEre_one' {c : UInt8} {t : List UInt8} (h : c ≠ 92) : mEre (c :: t) = c :: mEre t := by
  cases t <;> rw [mEre.eq_def] <;> simp [h]
theorem mEre_two' (d : UInt8) (t : List UInt8) : mEre (92 :: d :: t) = if d = 47 then d :: mEre t else 92 :: d :: mEre t := by rw [mEre.eq_def]; simp
theorem sx_eq : ∀ (n : Nat) (l : List UInt8), l.length ≤ n → sxF l = sxQ l := by
  intro n
  induction n with
  | zero =>
    intro l hl
    obtain rfl : l = [] := List.eq_nil_of_length_eq_zero (by omega)
    rw [sxF_nil]; rfl
  | succ n ih =>
    intro l hl
    cases l with
    | nil => rw [sxF_nil]; rfl
    | cons c t =>
      have hl' : t.length ≤ n := by simpa using hl
      unfold sxQ
      rw [qt_cons, sxF_cons]
      by_cases e1 : c = 47
      · subst e1; rw [if_pos rfl, if_pos rfl]; rfl
      · rw [if_neg e1, if_neg e1]
        by_cases e3 : c = 10
        · subst e3
          rw [if_pos rfl, if_neg (by decide)]
          cases qt 47 t with
          | none => rfl
          | some r => simp
        · rw [if_neg e3]
          by_cases e2 : c = 92
          · subst e2
            rw [if_pos rfl, if_pos rfl]
            cases t with
            | nil => rfl
            | cons d t' =>
              simp only
              by_cases e4 : d = 10
              · subst e4
                rw [if_pos rfl]
                cases qt 47 t' with
                | none => rfl
                | some r => simp
              · rw [if_neg e4, ih t' (by simp only [List.length_cons] at hl'; omega)]
                unfold sxQ
                cases qt 47 t' with
                | none => rfl
                | some r =>
                  simp only [Option.map_some]
                  have hc : (92 :: d :: r).contains 10 = r.contains 10 := by
                    have e5 : (10 == d) = false := by rw [Bool.eq_false_iff]; intro e; exact e4 (by simpa using (eq_of_beq e).symm)
                    rw [List.contains_cons, List.contains_cons, e5]
                    rfl
                  rw [hc]
                  cases r.contains 10 with
                  | true => rfl
                  | false =>
                    simp only [Bool.false_eq_true, if_false, Option.map_some]
                    rw [mEre_two']
                    by_cases e6 : d = 47
                    · subst e6; simp; omega
                    · rw [if_neg e6, if_neg e6]; simp; omega
          · rw [if_neg e2, if_neg e2, ih t hl']
            unfold sxQ
            cases qt 47 t with
            | none => rfl
            | some r =>
              simp only [Option.map_some]
              have hc : (c :: r).contains 10 = r.contains 10 := by
                have e5 : (10 == c) = false := by rw [Bool.eq_false_iff]; intro e; exact e3 (by simpa using (eq_of_beq e).symm)
                rw [List.contains_cons, e5]
                rfl
              rw [hc]
              cases r.contains 10 with
              | true => rfl
              | false =>
                simp only [Bool.false_eq_true, if_false, Option.map_some]
                rw [mEre_one' e2]
                simp
                omega

/-- The longest op that a text begins with, as the document looks for it: from the last one of the list on. -/
def opsA : List (List UInt8) := ops2 ++ ops1.map (fun c => [c])
def fnd (l : List UInt8) (os : List (List UInt8)) : List UInt8 := os.foldr (fun o acc => if l.take o.length = o ∧ acc.length < o.length then o else acc) []
theorem fnd_cons (l o : List UInt8) (os : List (List UInt8)) : fnd l (o :: os) = if l.take o.length = o ∧ (fnd l os).length < o.length then o else fnd l os := rfl
theorem fnd_one (l : List UInt8) (cs : List UInt8) : fnd l (cs.map (fun c => [c])) = (match l with
    | [] => []
    | c :: _ => if cs.contains c then [c] else []) := by
  induction cs with
  | nil => cases l <;> rfl
  | cons d cs ih =>
    rw [List.map_cons, fnd_cons, ih]
    cases l with
    | nil => simp
    | cons c t =>
      simp only [List.length_cons, List.length_nil, List.take_succ_cons, List.take_zero, List.contains_cons]
      by_cases e : c = d
      · subst e
        by_cases h : cs.contains c = true
        · simp [h]
        · simp [h]
      · have e' : (c == d) = false := by simpa using e
        have hh : ¬ ([c] = [d]) := fun h => e (List.cons.inj h).1
        simp only [hh, false_and, if_false, e', Bool.false_or]
theorem fnd_two (l : List UInt8) (os rest : List (List UInt8)) (h2 : ∀ o ∈ os, o.length = 2) (hr : (fnd l rest).length ≤ 1) : fnd l (os ++ rest) = if os.contains (l.take 2) = true then l.take 2 else fnd l rest := by
  induction os with
  | nil => simp
  | cons o os ih =>
    rw [List.cons_append, fnd_cons, ih (fun o ho => h2 o (by simp [ho])), h2 o (by simp)]
    by_cases e : l.take 2 = o
    · have hl : (l.take 2).length = 2 := by rw [e]; exact h2 o (by simp)
      by_cases h : os.contains (l.take 2) = true
      · rw [if_pos h, if_neg (by rintro ⟨_, hx⟩; omega), if_pos (by rw [List.contains_cons, h, Bool.or_true])]
      · rw [if_neg h, if_pos ⟨e, by omega⟩, if_pos (by rw [e, List.contains_cons]; simp)]
        exact e.symm
    · have e' : (l.take 2 == o) = false := by rw [Bool.eq_false_iff]; intro h; exact e (by simpa using h)
      rw [if_neg (fun h => e h.1), List.contains_cons, e', Bool.false_or]
theorem fnd_all (l : List UInt8) (h : l ≠ []) : fnd l opsA = l.take (opS l) := by
  have h1 := fnd_one l ops1
  cases l with
  | nil => exact absurd rfl h
  | cons c t =>
    simp only at h1
    have hr : (fnd (c :: t) (ops1.map (fun c => [c]))).length ≤ 1 := by rw [h1]; split <;> simp
    unfold opsA
    rw [fnd_two _ _ _ (by decide) hr, h1]
    simp only [opS]
    by_cases hc : ops2.contains (List.take 2 (c :: t)) = true
    · have hl : 1 < (c :: t).length := by
        cases t with
        | nil =>
          exfalso
          have := List.mem_of_elem_eq_true hc
          simp [ops2] at this
        | cons d t => simp
      rw [if_pos hc, if_pos ⟨hl, hc⟩]
    · have hc' : ¬ (1 < (c :: t).length ∧ ops2.contains (List.take 2 (c :: t)) = true) := fun x => hc x.2
      rw [if_neg hc, if_neg hc']
      by_cases hx : ops1.contains c = true
      · rw [if_pos hx, if_pos hx]; rfl
      · rw [if_neg hx, if_neg hx]; rfl

theorem ug_blank {c : UInt8} (t : List UInt8) (h : c = 32 ∨ c = 9) : ug (c :: t) = ug t := by
  have hg : gp (c :: t) = 1 := by simp only [gp]; rw [if_pos h]
  rw [ug_go (by rw [hg]; decide), hg]; rfl
theorem ug_line (t : List UInt8) : ug (92 :: 10 :: t) = ug t := by
  have hg : gp (92 :: 10 :: t) = 2 := rfl
  rw [ug_go (by rw [hg]; decide), hg]; rfl
theorem ug_rem (t : List UInt8) : ug (35 :: t) = ug ((35 :: t).drop ((35 :: t).takeWhile nl).length) := by
  have hg : gp (35 :: t) = ((35 :: t).takeWhile nl).length := by simp only [gp]; rw [if_neg (by decide), if_neg (by decide), if_pos trivial]
  rw [ug_go (by rw [hg, List.takeWhile_cons]; simp [nl]), hg]
theorem ug_tok {c : UInt8} {t : List UInt8} (h1 : ¬ (c = 32 ∨ c = 9)) (h2 : ¬ (c = 92 ∧ t.head? = some 10)) (h3 : c ≠ 35) : ug (c :: t) = c :: t := by
  apply ug_stay
  simp only [gp]
  rw [if_neg h1, if_neg h3]
  split
  · rename_i h; rw [if_neg (fun e => h2 ⟨h, e⟩)]
  · rfl
--END
end Go.Proofs.Ytfgdhafpiikpjab.lexs
