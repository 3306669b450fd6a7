/- A text in braces, and in braces once more. -/
import Derived.Test.YtgbibfhacjjaeaaGreatSynBy
import Derived.Test.YtgbibfhacjjaeaaGreatSynJ1
namespace Go.Proofs.YtgbibfhacjjaeaaGreat.lexs
set_option maxRecDepth 20000 set_option linter.unusedVariables false set_option linter.unusedSimpArgs false
theorem lb_read (s : List UInt8) : readTok (123 :: s) false = some (⟨kOp, [123]⟩, 1) := by
  have h : opS (123 :: s) = 1 := by
    cases s with
    | nil => rfl
    | cons d t =>
      simp only [opS]
      have h1 : ops2.contains (List.take 2 (123 :: d :: t)) = false := by
        rw [show List.take 2 (123 :: d :: t) = [123, d] from rfl, Bool.eq_false_iff]
        intro e
        have := List.mem_of_elem_eq_true e
        simp only [ops2, List.mem_cons, List.cons.injEq, List.not_mem_nil, or_false, and_true] at this
        revert this
        simp
      rw [if_neg (by rw [h1]; simp), if_pos (by decide)]
  unfold readTok
  simp only
  rw [if_neg (by decide), if_neg (by decide), if_neg (by decide), if_neg (by decide), if_neg (by decide), h]
  rfl
theorem lb_lex {s : List UInt8} (hs : s.length ≤ 10000) : lexL (123 :: s) = (lexL s).map (fun r => ⟨kOp, [123]⟩ :: r) := by
  rw [lexL_id (by simp only [List.length_cons]; omega), lexL_id (by omega)]
  have hg : ug (123 :: s) = 123 :: s := by unfold ug; rw [gap0 rfl]; rfl
  rw [hg, lexF_some (by simp) (lb_read s)]
  rfl
theorem okl_lb {s : List UInt8} (h : okl s) : okl (123 :: s) := by
  unfold okl at *
  cases s with
  | nil => simp
  | cons c t => rw [List.getLast?_cons_cons]; exact h
theorem rb_lex : lexL [125] = some [⟨kOp, [125]⟩] := by
  rw [lexL_id (by decide), show ug [125] = [125] from by unfold ug; rw [gap0 rfl]; rfl]
  have s4 := lexF_step (l := [125]) (l' := []) (b := false) (t := ⟨kOp, [125]⟩) (k := 1) (g := 0) (by simp) (by decide +kernel) (gap0 rfl) rfl
  rw [s4, lexF_nil]
  rfl
theorem rbs_lex : lexL [125, 59, 10, 125] = some [⟨kOp, [125]⟩, ⟨kOp, [59]⟩, tNl, ⟨kOp, [125]⟩] := by
  rw [lexL_id (by decide), show ug [125, 59, 10, 125] = [125, 59, 10, 125] from by unfold ug; rw [gap0 rfl]; rfl]
  have s1 := lexF_step (l := [125, 59, 10, 125]) (l' := [59, 10, 125]) (b := false) (t := ⟨kOp, [125]⟩) (k := 1) (g := 0) (by simp) (by decide +kernel) (gap0 rfl) rfl
  have s2 := lexF_step (l := [59, 10, 125]) (l' := [10, 125]) (b := false) (t := ⟨kOp, [59]⟩) (k := 1) (g := 0) (by simp) (by decide +kernel) (gap0 rfl) rfl
  have s3 := lexF_step (l := [10, 125]) (l' := [125]) (b := false) (t := tNl) (k := 1) (g := 0) (by simp) (by decide +kernel) (gap0 rfl) rfl
  have s4 := lexF_step (l := [125]) (l' := []) (b := false) (t := ⟨kOp, [125]⟩) (k := 1) (g := 0) (by simp) (by decide +kernel) (gap0 rfl) rfl
  rw [s1, show ends ⟨kOp, [125]⟩ = false by decide, s2, show ends ⟨kOp, [59]⟩ = false by decide, s3, show ends tNl = false by decide, s4, lexF_nil]
  rfl
/-- The tokens of a text in braces, and in braces once more. -/
theorem braces_lex {s : List UInt8} (hs : s.length ≤ 1500) (ho : okl s) : lexL (123 :: (s ++ [10, 125])) = (lexL s).map (fun r => ⟨kOp, [123]⟩ :: (r ++ [tNl, ⟨kOp, [125]⟩])) ∧
    lexL (123 :: 123 :: (s ++ [10, 125, 59, 10, 125])) = (lexL s).map (fun r => ⟨kOp, [123]⟩ :: ⟨kOp, [123]⟩ :: ((r ++ [tNl, ⟨kOp, [125]⟩]) ++ [⟨kOp, [59]⟩, tNl, ⟨kOp, [125]⟩])) := by
  constructor
  · rw [show 123 :: (s ++ [10, 125]) = (123 :: s) ++ 10 :: [125] from rfl, joins_lex (by simp only [List.length_cons]; omega) (by decide) (okl_lb ho), rb_lex, lb_lex (by omega)]
    cases lexL s <;> rfl
  · rw [show 123 :: 123 :: (s ++ [10, 125, 59, 10, 125]) = (123 :: 123 :: s) ++ 10 :: [125, 59, 10, 125] from rfl, joins_lex (by simp only [List.length_cons]; omega) (by decide) (okl_lb (okl_lb ho)), rbs_lex, lb_lex (by simp only [List.length_cons]; omega), lb_lex (by omega)]
    cases lexL s with
    | none => rfl
    | some r => simp [Option.map]
end Go.Proofs.YtgbibfhacjjaeaaGreat.lexs
namespace Go.Proofs.YtgbibfhacjjaeaaGreat.syn
theorem parseS_braces {S A B : ByteArray} (hs : S.size ≤ 1500) (ho : lexs.okl S.data.toList) (hA : A.data.toList = 123 :: (S.data.toList ++ [10, 125])) (hB : B.data.toList = 123 :: 123 :: (S.data.toList ++ [10, 125, 59, 10, 125]))
    {fa : Fo} (ha : parseS A = some fa) (h1 : fa.len = 1) (hd : fa.depth < 200) : ∃ F, fa = one (bz.ruleN ⟨w_block, [], F⟩) ∧ parseS B = some (one (bz.ruleN ⟨w_block, [], one ⟨w_block, [], F⟩⟩)) := by
  obtain ⟨e1, e2⟩ := lexs.braces_lex (s := S.data.toList) (by simpa using hs) ho
  unfold parseS at ha ⊢
  rw [hA, e1] at ha
  rw [hB, e2]
  cases hl : lexs.lexL S.data.toList with
  | none => rw [hl] at ha; cases ha
  | some T =>
    rw [hl] at ha
    exact bz.parse_braces _ [] fa ha h1 hd
/-- A text in braces whose tree is one item: a rule of a block. -/
theorem parseS_rule {S A : ByteArray} (hs : S.size ≤ 1500) (ho : lexs.okl S.data.toList) (hA : A.data.toList = 123 :: (S.data.toList ++ [10, 125])) {fa : Fo} (ha : parseS A = some fa) (h1 : fa.len = 1) : ∃ F, fa = one (bz.ruleN ⟨w_block, [], F⟩) := by
  obtain ⟨e1, e2⟩ := lexs.braces_lex (s := S.data.toList) (by simpa using hs) ho
  unfold parseS at ha
  rw [hA, e1] at ha
  cases hl : lexs.lexL S.data.toList with
  | none => rw [hl] at ha; cases ha
  | some T =>
    rw [hl] at ha
    exact ⟨_, (bz.parse_one _ fa ha h1).1⟩
end Go.Proofs.YtgbibfhacjjaeaaGreat.syn
