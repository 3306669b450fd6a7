/- A block's tokens in braces once more, a ; and an nl behind them: the block in a block. -/
import Derived.Test.YtgbibfhacjjaeaaGreatSynBx
import Derived.Test.YtgbibfhacjjaeaaGreatSynLp
import Derived.Test.YtgbibfhacjjaeaaGreatSynEz
namespace Go.Proofs.YtgbibfhacjjaeaaGreat.syn.bz
set_option maxRecDepth 20000 set_option linter.unusedVariables false set_option linter.unusedSimpArgs false
open Go.Proofs.YtgbibfhacjjaeaaGreat.lexs (Tok kNl kNum kStr kEre kOp kName kFunc kWord kBuilt)
open Go.Proofs.YtgbibfhacjjaeaaGreat.syn.ex (E itemsL_acc itemsL_le dw_all)

theorem nt {b : Bool} (h : b = false) : ¬ b = true := by rw [h]; decide
def lb : Tok := ⟨kOp, o_lbrace⟩
def rb : Tok := ⟨kOp, o_rbrace⟩
def sm : Tok := ⟨kOp, o_semi⟩
def st (k : B) (l : List Tok) : PS := ⟨l, false, k, 0, false⟩
def ruleN (n : Nd) : Nd := ⟨w_rule, [], two noneN n⟩
theorem item_lb (I : Inn) (k : B) (l : List Tok) : item I (st k (lb :: l)) = (ruleN (block I (st w_rule (lb :: l))).1, (block I (st w_rule (lb :: l))).2) := by
  unfold item
  rw [if_neg (nt (rfl : (isWord (st k (lb :: l)) w_BEGIN || isWord (st k (lb :: l)) w_END) = false)), if_neg (nt (rfl : (isWord (st k (lb :: l)) w_function) = false))]
  unfold rule
  rw [if_pos (show atOp (setK w_rule (st k (lb :: l))) [o_lbrace] = true from rfl)]
  rfl
theorem items_lb (I : Inn) (l : List Tok) : items I (start (lb :: l)) = itemsL I l.length (.nil |>.snoc (ruleN (block I (st w_rule (lb :: l))).1)) (skipEnds (block I (st w_rule (lb :: l))).2) := by
  unfold items
  have e : skipEnds (start (lb :: l)) = st [] (lb :: l) := rfl
  rw [e]
  have e2 : (st [] (lb :: l)).r.length = l.length + 1 := rfl
  rw [e2]
  unfold itemsL
  rw [if_neg (nt (rfl : ((st [] (lb :: l)).r.isEmpty) = false)), item_lb]
  cases l.length <;> rfl
theorem block_op (I : Inn) (s : PS) : (block I s).1.op = w_block ∧ (block I s).1.tx = [] := ⟨rfl, rfl⟩
theorem blk_len (I : Inn) (hL : LtI I) (l : List Tok) (h : (block I (st w_rule (lb :: l))).2.f = false) : (skipEnds (block I (st w_rule (lb :: l))).2).r.length ≤ l.length := by
  have h1 := (skipEnds_le (block I (st w_rule (lb :: l))).2).1
  have h2 := block_lt hL (st w_rule (lb :: l))
  rcases h2.2.1 with e | e
  · rw [h] at e; cases e
  · have : (st w_rule (lb :: l)).r.length = l.length + 1 := rfl
    omega
theorem parse_one (l : List Tok) (fa : Fo) (h : parseT (lb :: l) = some fa) (h1 : fa.len = 1) :
    fa = one (ruleN (block (inn 200) (st w_rule (lb :: l))).1) ∧ (block (inn 200) (st w_rule (lb :: l))).2.f = false ∧ (block (inn 200) (st w_rule (lb :: l))).2.r.dropWhile isEnd = [] := by
  have hL := inn_lt 200
  unfold parseT at h
  rw [items_lb] at h
  generalize inn 200 = I at *
  have hb := blk_len I hL l
  generalize block I (st w_rule (lb :: l)) = b at *
  split at h
  · cases h
  rename_i hf
  split at h
  · cases h
  cases h
  have hf' : (itemsL I l.length (Fo.nil.snoc (ruleN b.1)) (skipEnds b.2)).2.f = false := by
    cases hc : (itemsL I l.length (Fo.nil.snoc (ruleN b.1)) (skipEnds b.2)).2.f with
    | false => rfl
    | true => exact absurd hc hf
  have hbf : b.2.f = false := show (skipEnds b.2).f = false from ex.ok_le (itemsL_le hL _ _ _) hf'
  have hlen := hb hbf
  by_cases he : (skipEnds b.2).r = []
  · have he2 : (skipEnds b.2).r.isEmpty = true := by rw [he]; rfl
    rw [itemsL_end I _ _ _ he2]
    exact ⟨rfl, hbf, he⟩
  · exfalso
    have hne : ¬ (skipEnds b.2).r.isEmpty = true := fun hc => he (List.isEmpty_iff.1 hc)
    have hp := List.length_pos_iff.2 he
    obtain ⟨m, hm⟩ : ∃ m, l.length = m + 1 := ⟨l.length - 1, by omega⟩
    rw [hm, itemsL, if_neg hne, itemsL_acc, Fo.len_app, Fo.len_snoc, Fo.len_snoc] at h1
    omega
theorem inner (l X : List Tok) (hX : bx.Good X) (k : B) (hf : (block (inn 200) (st k (lb :: l))).2.f = false) (hd : (block (inn 200) (st k (lb :: l))).1.kids.depth + 1 ≤ 200) : inn 200 .statement (st k (lb :: (l ++ X))) = ((block (inn 200) (st k (lb :: l))).1, E X (block (inn 200) (st k (lb :: l))).2) := by
  have e1 : inn 201 .statement (st k (lb :: l)) = block (inn 200) (st k (lb :: l)) := by
    show statement (inn 200) (st k (lb :: l)) = _
    unfold statement
    rw [if_pos (show isOp (st k (lb :: l)) o_lbrace = true from rfl)]
  have e2 := lo.inn_less 200 .statement (st k (lb :: l)) (by rw [e1]; exact hf) (by rw [e1]; exact hd)
  rw [e1] at e2
  have e3 := bx.inn_E hX 200 .statement (st k (lb :: l)) (by rw [e2]; exact hf)
  rw [e2] at e3
  exact e3
theorem parse_braces (l : List Tok) (u : B) (fa : Fo) (h : parseT (lb :: l) = some fa) (h1 : fa.len = 1) (hd : fa.depth < 200) :
    ∃ F, fa = one (ruleN ⟨w_block, [], F⟩) ∧ parseT (lb :: lb :: (l ++ [sm, ⟨kNl, u⟩, rb])) = some (one (ruleN ⟨w_block, [], one ⟨w_block, [], F⟩⟩)) := by
  obtain ⟨e, hf, hr⟩ := parse_one l fa h h1
  have hX : bx.Good [sm, ⟨kNl, u⟩, rb] := ⟨⟨sm, _, rfl, Or.inr rfl⟩, rfl⟩
  have hi := inner l _ hX w_rule hf
  have hsh : (block (inn 200) (st w_rule (lb :: l))).1 = ⟨w_block, [], (block (inn 200) (st w_rule (lb :: l))).1.kids⟩ := rfl
  generalize block (inn 200) (st w_rule (lb :: l)) = b at *
  obtain ⟨n, q⟩ := b
  dsimp only at *
  obtain ⟨o, t, F⟩ := n
  dsimp only at *
  injection hsh with ho ht
  subst ho
  subst ht
  refine ⟨F, e, ?_⟩
  have hdp : fa.depth = F.depth + 2 := by
    rw [e]
    simp only [one, ruleN, two, noneN, Fo.depth]
    omega
  have hi2 := hi (by omega)
  unfold parseT
  rw [items_lb]
  have hq : skipEnds (E [sm, ⟨kNl, u⟩, rb] q) = { q with r := [rb] } := by
    unfold skipEnds E
    have := dw_all isEnd q.r [sm, ⟨kNl, u⟩, rb] hr
    simp only [this]
    rfl
  have hb : block (inn 200) (st w_rule (lb :: lb :: (l ++ [sm, ⟨kNl, u⟩, rb]))) = (⟨w_block, [], one ⟨w_block, [], F⟩⟩, { q with r := [] }) := by
    generalize inn 200 = I at *
    unfold block
    have ew : skipEnds (wantO o_lbrace (st w_rule (lb :: lb :: (l ++ [sm, ⟨kNl, u⟩, rb])))) = st w_rule (lb :: (l ++ [sm, ⟨kNl, u⟩, rb])) := rfl
    rw [ew]
    have eb : ∀ k, blkL I (k + 2) .nil (st w_rule (lb :: (l ++ [sm, ⟨kNl, u⟩, rb]))) = (one ⟨w_block, [], F⟩, { q with r := [] }) := by
      intro k
      unfold blkL
      rw [if_neg (nt (rfl : ((st w_rule (lb :: (l ++ [sm, ⟨kNl, u⟩, rb]))).f) = false)), if_neg (nt (rfl : (isOp (st w_rule (lb :: (l ++ [sm, ⟨kNl, u⟩, rb]))) o_rbrace) = false)), hi2]
      dsimp only
      rw [hq]
      unfold blkL
      rw [if_neg (show ¬ q.f = true by rw [hf]; decide), if_pos (show isOp { q with r := [rb] } o_rbrace = true from rfl)]
      rfl
    rw [eb]
  rw [hb]
  have hs : (skipEnds { q with r := [] }).r.isEmpty = true := rfl
  rw [itemsL_end _ _ _ _ hs]
  dsimp only
  rw [if_neg (show ¬ (skipEnds { q with r := [] }).f = true by rw [show (skipEnds { q with r := [] }).f = q.f from rfl, hf]; decide)]
  rw [if_neg]
  · rfl
  · simp only [Fo.snoc, one, ruleN, two, noneN, Fo.depth]
    omega
end Go.Proofs.YtgbibfhacjjaeaaGreat.syn.bz
