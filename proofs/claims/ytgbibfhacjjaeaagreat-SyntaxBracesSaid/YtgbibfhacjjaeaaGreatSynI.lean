/- Rows of nodes: one node more; list. list: expressions with , between. closedList, arguments. field, parenthesized, built, operand. -/
import Derived.Test.YtgbibfhacjjaeaaGreatSynE
import Derived.Deep.AppendLies

namespace Go.Proofs.YtgbibfhacjjaeaaGreat.syn
set_option linter.unusedVariables false set_option linter.unusedSimpArgs false
open Go.ChangeShapes Go.WideShapes Go.ChangeAt Go.RowKit Go.Proofs.YtgbibfhacjjaeaaGreat.base
open Go.Proofs.YtgbibfhacjjaeaaGreat.lexs (Tok kNl kNum kStr kEre kOp kName kFunc kWord kBuilt)

/-- One node more. -/
theorem RowN.push {w w0 w5 : World} {B U g gcap cap kcap : Nat} {a ka : Option Addr} {f : Fo} {t : Nd} {C : List Value} (hrow : RowN w B a cap f) (hC : w0.ownsRow B tN 3 (.slice a f.len cap) f.len C) (hw : Frm No w w0)
    (hk : KV w0 (fun k => U ≤ k) (.slice ka t.kids.len kcap) t.kids) (hBU : B ≤ U) (hU : ∀ g, (Value.slice a f.len cap).ownBlock = some g → g < U)
    (hown : w5.ownsRow B tN 3 (.slice (some ⟨g, 0, none⟩) (f.len + 1) gcap) (f.len + 1) (C ++ [.string ⟨t.op.toArray⟩, .string ⟨t.tx.toArray⟩, .slice ka t.kids.len kcap]))
    (hgrow : Frm (fun k => (Value.slice a f.len cap).ownBlock = some k) w0 w5) (hat : (Value.slice a f.len cap).ownBlock = some g ∨ w0.heap.size ≤ g) :
    RowN w5 B (some ⟨g, 0, none⟩) gcap (f.snoc t) := by
  obtain ⟨C', h1, h2, h4⟩ := hrow
  have hwz := hw.size
  obtain rfl : C' = C := by
    have e1 := own_frm h1 hw (fun _ _ _ _ => id)
    rcases e1.2 with ⟨ea, eb⟩ | ⟨g1, cap1, cur1, ea, _, eb, _, _, _, ec⟩
    · rcases hC.2 with ⟨fa, fb⟩ | ⟨g2, cap2, cur2, fa, _, fb, _, _, _, fc⟩
      · have l1 := e1.1
        have l2 := hC.1
        rw [eb] at l1 l2
        rw [List.length_eq_zero_iff.1 (show C'.length = 0 by omega), List.length_eq_zero_iff.1 (show C.length = 0 by omega)]
      · rw [ea] at fa; cases fa
    · rcases hC.2 with ⟨fa, fb⟩ | ⟨g2, cap2, cur2, fa, _, fb, _, _, _, fc⟩
      · rw [ea] at fa; cases fa
      · rw [ea] at fa
        cases fa
        rw [eb] at fb
        cases fb
        rw [← ec, ← fc]
  have hstay : ∀ k cur, (B ≤ k ∧ (Value.slice a f.len cap).ownBlock ≠ some k) → Box w0 k tN cur → (B ≤ k ∧ (Value.slice (some ⟨g, 0, none⟩) (f.snoc t).len gcap).ownBlock ≠ some k) ∧ Box w5 k tN cur := by
    intro k cur ⟨e1, e2⟩ e3
    have hkl := e3.lt
    refine ⟨⟨e1, ?_⟩, e3.frm hgrow e2⟩
    intro e
    simp only [Value.ownBlock, Option.some.injEq] at e
    subst e
    rcases hat with h | h
    · exact e2 h
    · omega
  refine ⟨_, by rw [Fo.len_snoc]; exact hown, ?_, fun h => ?_⟩
  · refine RepC.snoc (h2.go (fun k cur ⟨e1, e3⟩ hb => hstay k cur ⟨e1, e3⟩ (hb.frm hw id))) t _ (hk.go (fun k cur (e1 : U ≤ k) hb => hstay k cur ⟨by omega, fun e => ?_⟩ hb))
    have := hU k e
    omega
  · rw [Fo.len_snoc] at h; omega

/-- A row of one node, built at once. -/
theorem RowN.built {w : World} {B : Nat} (hB : B ≤ w.heap.size) {t : Nd} {ka : Option Addr} {kc : Nat} (hk : KV w (fun k => B ≤ k) (.slice ka t.kids.len kc) t.kids) :
    RowN (w.alloc (.cells #[.string ⟨t.op.toArray⟩, .string ⟨t.tx.toArray⟩, .slice ka t.kids.len kc] tN)) B (some ⟨w.heap.size, 0, none⟩) 1 (Fo.nil.snoc t) := by
  refine ⟨[.string ⟨t.op.toArray⟩, .string ⟨t.tx.toArray⟩, .slice ka t.kids.len kc], ⟨rfl, Or.inr ⟨w.heap.size, 1, #[.string ⟨t.op.toArray⟩, .string ⟨t.tx.toArray⟩, .slice ka t.kids.len kc], rfl, hB, heap_alloc_new w _, by simp [Fo.len, Fo.snoc], by unfold maxLen; omega, by simp, by simp [Fo.len, Fo.snoc]⟩⟩, ?_, fun h => by simp [Fo.len, Fo.snoc] at h⟩
  refine RepC.cons (hk.go (fun k cur e1 hb => ⟨⟨e1, ?_⟩, hb.alloc _⟩)) (RepC.nil _ _)
  intro e
  simp only [Value.ownBlock, Option.some.injEq] at e
  have := hb.lt
  omega

/-- The readings one node deeper, each by inner. -/
structure InC (n : Nat) (I : Inn) : Prop where
  expr : ∀ w R s, PW w R n s → Calls Tryz.prog 147 #[.pointer (some ⟨R, 0, none⟩), bnd 153 R] w (Ans w R n (I .expr s))
  signed : ∀ w R s, PW w R n s → Calls Tryz.prog 147 #[.pointer (some ⟨R, 0, none⟩), bnd 280 R] w (Ans w R n (I .signed s))
  exponent : ∀ w R s, PW w R n s → Calls Tryz.prog 147 #[.pointer (some ⟨R, 0, none⟩), bnd 285 R] w (Ans w R n (I .exponent s))
  operand : ∀ w R s, PW w R n s → Calls Tryz.prog 147 #[.pointer (some ⟨R, 0, none⟩), bnd 287 R] w (Ans w R n (I .operand s))
  step : ∀ w R s, PW w R n s → Calls Tryz.prog 147 #[.pointer (some ⟨R, 0, none⟩), bnd 286 R] w (Ans w R n (I .step s))
  joined : ∀ w R s, PW w R n s → Calls Tryz.prog 147 #[.pointer (some ⟨R, 0, none⟩), bnd 268 R] w (Ans w R n (I .joined s))
  statement : ∀ w R s, PW w R n s → Calls Tryz.prog 147 #[.pointer (some ⟨R, 0, none⟩), bnd 148 R] w (Ans w R n (I .statement s))
  simple : ∀ w R s, PW w R n s → Calls Tryz.prog 147 #[.pointer (some ⟨R, 0, none⟩), bnd 236 R] w (Ans w R n (I .simple s))
  lt : LtI I
end Go.Proofs.YtgbibfhacjjaeaaGreat.syn

namespace Go.Proofs.YtgbibfhacjjaeaaGreat.syn
set_option linter.unusedVariables false set_option linter.unusedSimpArgs false
open Go.ChangeShapes Go.WideShapes Go.ChangeAt Go.RowKit Go.Proofs.YtgbibfhacjjaeaaGreat.base
open Go.Proofs.YtgbibfhacjjaeaaGreat.lexs (Tok kNl kNum kStr kEre kOp kName kFunc kWord kBuilt)

theorem node_parts : ∃ i, Tryz.prog.info? tN = some i ∧ i.zero = some (.agg #[.string ⟨#[]⟩, .string ⟨#[]⟩, .slice none 0 0]) ∧ i.size = 3 ∧ i.bytes = 56 := by
  obtain ⟨i, hi, hj⟩ := Option.map_eq_some_iff.1 info_node
  exact ⟨i, hi, congrArg (·.1) hj, congrArg (·.2.1) hj, congrArg (·.2.2) hj⟩
theorem listL_stop (I : Inn) (k : Nat) (f : Fo) (q : PS) (h : isOp q o_comma = false) : listL I k f q = (f, q) := by
  cases k <;> simp [listL, h]
theorem RowN.ownlt {w : World} {B cap : Nat} {a : Option Addr} {f : Fo} (h : RowN w B a cap f) : ∀ g, (Value.slice a f.len cap).ownBlock = some g → g < w.heap.size := by
  obtain ⟨C, h1, _, _⟩ := h
  intro g hg
  obtain ⟨_, _, hb, _⟩ := own_box h1 hg
  exact hb.lt

/-- The append of one node to a row of one's own, and what it leaves: the row, the parser, what lay before. -/
theorem RowN.more {w w4 w5 : World} {R n U g gcap c kc : Nat} {a ka : Option Addr} {f : Fo} {t : Nd} {s : PS} {C : List Value} {o : Obj} (hF : Frm (At R) w w4) (hr : RowN w4 w.heap.size a c f)
    (hk : KV w4 (fun k => U ≤ k) (.slice ka t.kids.len kc) t.kids) (hU : w.heap.size ≤ U) (hUr : ∀ g, (Value.slice a f.len c).ownBlock = some g → g < U) (hp : PW w4 R n s) (hC : w4.ownsRow w.heap.size tN 3 (.slice a f.len c) f.len C)
    (hown : w5.ownsRow w.heap.size tN 3 (.slice (some ⟨g, 0, none⟩) (f.len + 1) gcap) (f.len + 1) (C ++ [.string ⟨t.op.toArray⟩, .string ⟨t.tx.toArray⟩, .slice ka t.kids.len kc]))
    (hgrow : (w4.alloc o).grownBy w5 (Value.slice a f.len c).ownBlock) (hat : (Value.slice a f.len c).ownBlock = some g ∨ g = w4.heap.size + 1) :
    RowN w5 w.heap.size (some ⟨g, 0, none⟩) gcap (f.snoc t) ∧ PW w5 R n s ∧ Frm (At R) w w5 := by
  have hA : Frm No w4 (w4.alloc o) := (Frm.refl No w4).alloc o
  have hG : Frm (fun k => (Value.slice a f.len c).ownBlock = some k) (w4.alloc o) w5 := (Frm.refl _ _).grown hgrow (fun k h _ => h)
  refine ⟨RowN.push hr (World.ownsRow.alloc hC o) hA (hk.move hA) hU hUr hown hG (hat.imp id (fun e => by rw [World.size_alloc]; omega)), ?_, ?_⟩
  · refine (hp.move hA).other hG (fun k hk _ => ?_)
    obtain ⟨cur, cap, hb, _⟩ := own_box (World.ownsRow.alloc hC o) hk
    exact ⟨_, _, hb, by decide, by decide⟩
  · refine (hF.alloc o).grown hgrow (fun k hk hl => ?_)
    obtain ⟨cur, cap, _, hb, _⟩ := own_box hC hk
    omega

set_option maxHeartbeats 8000000 in
theorem list_all (n : Nat) (I : Inn) (hI : InC n I) : RL 272 n (list I) := by
  intro w R s h
  obtain ⟨i0, hi, hz0, hz1, hz2⟩ := node_parts
  have HI := Lib.hid (fun W q (hw : PW W R n q) => hI.expr W R q hw)
  have HT := Lib.hid (fun W q (hw : PW W R n q) => take_all W R n q hw o_comma)
  have HS := Lib.hid (fun W q (hw : PW W R n q) => skipLines_all W R n q hw)
  have HLT := Lib.hid hI.lt
  have HH := Lib.hid h
  have HI0 := Lib.hid (hI.expr w R s h)
  have HD := Lib.hid (show list I s = listL I (I .expr s).2.r.length (Fo.nil.snoc (I .expr s).1) (I .expr s).2 from rfl)
  generalize list I s = res at *
  generalize I .expr s = q0 at *
  obtain ⟨n0, s0⟩ := q0
  clear h hI
  go_enter Tryz.func272, Tryz.ntmps272
  go_wp2_with (go_at_call 147; go_must (refine (HI0.out).mono ?_; rintro e w1 ⟨a1, c1, rfl, hk1, hp1, hf1⟩; have HR1 := Lib.hid (RowN.built (B := w.heap.size) hf1.size hk1); have HP1 := Lib.hid (hp1.move ((Frm.refl No w1).alloc (.cells #[.string ⟨n0.op.toArray⟩, .string ⟨n0.tx.toArray⟩, .slice a1 n0.kids.len c1] tN))); have HF1 := Lib.hid (hf1.alloc (.cells #[.string ⟨n0.op.toArray⟩, .string ⟨n0.tx.toArray⟩, .slice a1 n0.kids.len c1] tN)); clear hk1 hp1 hf1))
  go_loopg [3] s0.r.length (fun gf lv wx => ∃ (f : Fo) (q : PS) (a : Option Addr) (c : Nat), lv = .slice a f.len c ∧ RowN wx w.heap.size a c f ∧ PW wx R n q ∧ Frm (At R) w wx ∧ listL I gf f q = res ∧ q.r.length ≤ gf ∧ f.len + gf ≤ 100001)
  case atStart =>
    have hl := HP1.out.len
    exact ⟨Fo.nil.snoc n0, s0, some ⟨w1.heap.size, 0, none⟩, 1, rfl, HR1.out, HP1.out, HF1.out, HD.out.symm, Nat.le_refl _, by simp [Fo.len, Fo.snoc]; omega⟩
  case round =>
    obtain ⟨f, q, a, c, rfl, hr, hq, hf, hl, hk, hb⟩ := hrel
    have HR := Lib.hid hr
    have HQ := Lib.hid hq
    have HF := Lib.hid hf
    have HL := Lib.hid hl
    have HK := Lib.hid hk
    have HBD := Lib.hid hb
    have HTQ := Lib.hid (HT.out wr q hq)
    clear hr hq hf hl hk hb HR1 HP1 HF1 HD HI0 HH
    cases hc : isOp q o_comma
    · rw [hc] at HTQ
      have hls := HL.out
      rw [listL_stop I _ f q hc] at hls
      subst hls
      clear hc HL
      go_wp2_with (go_at_call 146; go_must (refine (HTQ.out).mono ?_; rintro e w2 ⟨rfl, hp2, hf2⟩; have HP2 := Lib.hid hp2; have HF2 := Lib.hid hf2; clear hp2 hf2))
      go_ret
      exact ⟨a, c, rfl, HR.out.at HQ.out HF2.out, HP2.out, HF.out.trans HF2.out⟩
    · rw [hc] at HTQ
      have hne := ne_of_isOp hc
      obtain ⟨gf, rfl⟩ : ∃ m, gk = m + 1 := by
        cases gk with
        | zero => exact absurd (List.eq_nil_of_length_eq_zero (by have := HK.out; omega)) hne
        | succ m => exact ⟨m, rfl⟩
      have hls := HL.out
      rw [show listL I (gf + 1) f q = listL I gf (f.snoc (I .expr (skipLines (nextS q))).1) (I .expr (skipLines (nextS q))).2 from by rw [listL, if_pos hc]] at hls
      have hlen : (I .expr (skipLines (nextS q))).2.r.length ≤ gf := by
        have e1 := (HLT.out .expr (skipLines (nextS q))).1.1
        have e2 := (skipLines_le (nextS q)).1
        have e3 : (nextS q).r.length = q.r.length - 1 := by unfold nextS; simp
        have e4 := List.length_pos_iff.2 hne
        have := HK.out
        omega
      have HLEN := Lib.hid hlen
      have HLS := Lib.hid hls
      have HIN := Lib.hid (fun W (hw : PW W R n (skipLines (nextS q))) => HI.out W _ hw)
      have HSK := Lib.hid (fun W (hw : PW W R n (nextS q)) => HS.out W _ hw)
      generalize I .expr (skipLines (nextS q)) = q1 at *
      obtain ⟨n1, s1⟩ := q1
      clear hc hls hlen hne HL
      go_wp2_with (first | (go_at_call 146; go_must (refine (HTQ.out).mono ?_; rintro e w2 ⟨rfl, hp2, hf2⟩; have HP2 := Lib.hid hp2; have HF2 := Lib.hid hf2; clear hp2 hf2)) | (go_at_call 151; go_must (refine (HSK.out _ HP2.out).mono ?_; rintro e w3 ⟨rfl, hp3, hf3⟩; have HP3 := Lib.hid hp3; have HF3 := Lib.hid (HF2.out.trans hf3); clear hp3 hf3)) | (go_at_call 147; go_must (refine (HIN.out _ HP3.out).mono ?_; rintro e w4 ⟨a4, c4, rfl, hk4, hp4, hf4⟩; have HK4 := Lib.hid hk4; have HP4 := Lib.hid hp4; have HF4 := Lib.hid (HF3.out.trans hf4); have HR4 := Lib.hid (HR.out.at HQ.out HF4.out); obtain ⟨C, hro, hro2⟩ := HR4.out; have HO := Lib.hid hro; have hsz4 := (HF.out.trans HF4.out).size; clear hk4 hp4 hf4 hro hro2)) | (refine wpList_append_lies _ rfl _ _ _ rfl w.heap.size tN i0 _ 3 56 Tryz.underlying23 hi hz0 hz1 hz2 rfl (by omega) (.slice a f.len c) f.len C rfl (World.ownsRow.alloc HO.out _) ⟨w4.heap.size, 0, none⟩ 1 1 [.string ⟨n1.op.toArray⟩, .string ⟨n1.tx.toArray⟩, .slice a4 n1.kids.len c4] rfl rfl (World.news_of_block (heap_alloc_new w4 _)) (by simp [Value.oneCell']) (by omega) (by have := HBD.out; unfold maxLen; omega) (by have := HBD.out; omega) (by simp; omega) (w4.heap.size + 1) (by simp) ?_; intro g gcap w5 hown5 hgrow hat hlt5))
      obtain ⟨hr5, hp5, hf5⟩ := RowN.more (HF.out.trans HF4.out) HR4.out HK4.out (by have := (HF.out.trans HF3.out).size; omega) (fun g hg => Nat.lt_of_lt_of_le (HR.out.ownlt g hg) HF3.out.size) HP4.out HO.out hown5 hgrow hat
      go_roundg gf
      case measure => omega
      case rel => exact ⟨f.snoc n1, s1, some ⟨g, 0, none⟩, gcap, by rw [Fo.len_snoc], hr5, hp5, hf5, HLS.out, HLEN.out, by have := HBD.out; rw [Fo.len_snoc]; omega⟩
end Go.Proofs.YtgbibfhacjjaeaaGreat.syn

namespace Go.Proofs.YtgbibfhacjjaeaaGreat.syn
set_option linter.unusedVariables false set_option linter.unusedSimpArgs false
open Go.ChangeShapes Go.WideShapes Go.ChangeAt Go.RowKit Go.Proofs.YtgbibfhacjjaeaaGreat.base
open Go.Proofs.YtgbibfhacjjaeaaGreat.lexs (Tok kNl kNum kStr kEre kOp kName kFunc kWord kBuilt)

theorem PW.set5 {w : World} {R n : Nat} {s : PS} (h : PW w R n s) (b : Bool) : PW (w.setCell ⟨R, 5, none⟩ (.bool b)) R n { s with s := b } := by
  have hf : Frm (At R) w (w.setCell ⟨R, 5, none⟩ (.bool b)) := (Frm.refl (At R) w).setCell ⟨R, 5, none⟩ _ (fun _ => rfl)
  obtain ⟨ra, rc, hb, ht⟩ := h
  exact PW.to ⟨ra, rc, hb, ht⟩ hf ra rc (hb.set 5 (.bool b)) ht

set_option maxHeartbeats 2000000 in
theorem closedList_all (n : Nat) (I : Inn) (hI : InC n I) (w : World) (R : Nat) (s : PS) (h : PW w R n s) (c : B) :
    Calls Tryz.prog 269 #[.pointer (some ⟨R, 0, none⟩), .string ⟨c.toArray⟩] w (AnsL w R n (closedList c I s)) := by
  have HL := Lib.hid (fun W (hw : PW W R n { s with s := false }) => list_all n I hI W R _ hw)
  have HWN := Lib.hid (fun W q (hw : PW W R n q) => want_all W R n q hw c)
  have hbx := h.box
  obtain ⟨ra, rc, hb⟩ := hbx
  have hR0 := hb.lt
  have c5 : w.cell? ⟨R, 5, none⟩ = some (.bool s.s) := hb.cell 5
  have f5 := hb.f 5
  have HH := Lib.hid (h.set5 false)
  have HF := Lib.hid ((Frm.refl (At R) w).setCell ⟨R, 5, none⟩ (.bool false) (fun _ => rfl))
  have HD := Lib.hid (show closedList c I s = ((list I { s with s := false }).1, wantO c { (list I { s with s := false }).2 with s := s.s }) from rfl)
  generalize closedList c I s = res at *
  generalize list I { s with s := false } = q at *
  obtain ⟨f, s1⟩ := q
  obtain rfl := HD.out
  clear h hb hI HD
  go_enter Tryz.func269, Tryz.ntmps269
  go_wp2_with (first | (go_at_call 272; go_must (refine (HL.out _ HH.out).mono ?_; rintro e w1 ⟨a, cc, rfl, hk1, hp1, hf1⟩; have HK1 := Lib.hid hk1; have HP1 := Lib.hid hp1; have HF1 := Lib.hid (HF.out.trans hf1); have hbx1 := hp1.box; obtain ⟨ra1, rc1, hb1⟩ := hbx1; have hR1 := hb1.lt; have f51 := hb1.f 5; have c51 : w1.cell? ⟨R, 5, none⟩ = some (.bool s1.s) := hb1.cell 5; have HP2 := Lib.hid (hp1.set5 s.s); have HF2 := Lib.hid (HF1.out.setCell ⟨R, 5, none⟩ (.bool s.s) (fun _ => rfl)); clear hk1 hp1 hf1 hb1)) | (go_at_call 145; go_must (refine (HWN.out _ _ HP2.out).mono ?_; rintro e w2 ⟨rfl, hp2, hf2⟩; have HP3 := Lib.hid hp2; have HF3 := Lib.hid hf2; clear hp2 hf2)))
  go_ret
  have hk := (HK1.out.at HP1.out (((Frm.refl (At R) w1).setCell ⟨R, 5, none⟩ (.bool s.s) (fun _ => rfl)).trans HF3.out)).mono (B' := w.heap.size) (by simp [World.setCell])
  exact ⟨a, cc, rfl, hk, HP3.out, HF2.out.trans HF3.out⟩

set_option maxHeartbeats 2000000 in
theorem arguments_all (n : Nat) (I : Inn) (hI : InC n I) : RL 288 n (arguments I) := by
  intro w R s h
  have HC := Lib.hid (fun W q (hw : PW W R n q) => closedList_all n I hI W R q hw o_rpar)
  have HWN := Lib.hid (want_all w R n s h o_lpar)
  have HTK := Lib.hid (fun W q (hw : PW W R n q) => take_all W R n q hw o_rpar)
  have HD := Lib.hid (show arguments I s = if isOp (wantO o_lpar s) o_rpar then (.nil, nextS (wantO o_lpar s)) else closedList o_rpar I (wantO o_lpar s) from rfl)
  generalize arguments I s = res at *
  generalize wantO o_lpar s = s1 at *
  have HC1 := Lib.hid (fun W (hw : PW W R n s1) => HC.out W s1 hw)
  have HTK1 := Lib.hid (fun W (hw : PW W R n s1) => HTK.out W s1 hw)
  clear h hI HC HTK
  cases hc : isOp s1 o_rpar
  · have hd := HD.out
    rw [hc, if_neg (by decide)] at hd
    subst hd
    rw [hc] at HTK1
    clear HD hc
    generalize closedList o_rpar I s1 = q at *
    obtain ⟨f, s2⟩ := q
    go_enter Tryz.func288, Tryz.ntmps288
    go_wp2_with (first | (go_at_call 145; go_must (refine (HWN.out).mono ?_; rintro e w1 ⟨rfl, hp1, hf1⟩; have HP1 := Lib.hid hp1; have HF1 := Lib.hid hf1; clear hp1 hf1)) | (go_at_call 146; go_must (refine (HTK1.out _ HP1.out).mono ?_; rintro e w2 ⟨rfl, hp2, hf2⟩; have HP2 := Lib.hid (show PW w2 R n s1 from hp2); have HF2 := Lib.hid (HF1.out.trans hf2); clear hp2 hf2)) | (go_at_call 269; go_must (refine (HC1.out _ HP2.out).mono ?_; rintro e w3 ⟨a3, c3, rfl, hk3, hp3, hf3⟩; have HP3 := Lib.hid hp3; have HK3 := Lib.hid hk3; have HF3 := Lib.hid (HF2.out.trans hf3); clear hp3 hf3 hk3)))
    go_ret
    exact ⟨a3, c3, rfl, HK3.out.mono HF2.out.size, HP3.out, HF3.out⟩
  · have hd := HD.out
    rw [hc, if_pos rfl] at hd
    subst hd
    rw [hc] at HTK1
    clear HD hc HC1
    go_enter Tryz.func288, Tryz.ntmps288
    go_wp2_with (first | (go_at_call 145; go_must (refine (HWN.out).mono ?_; rintro e w1 ⟨rfl, hp1, hf1⟩; have HP1 := Lib.hid hp1; have HF1 := Lib.hid hf1; clear hp1 hf1)) | (go_at_call 146; go_must (refine (HTK1.out _ HP1.out).mono ?_; rintro e w2 ⟨rfl, hp2, hf2⟩; have HP2 := Lib.hid (show PW w2 R n (nextS s1) from hp2); have HF2 := Lib.hid (HF1.out.trans hf2); clear hp2 hf2)))
    go_ret
    exact ⟨none, 0, rfl, RowN.nil _ _, HP2.out, HF2.out⟩
end Go.Proofs.YtgbibfhacjjaeaaGreat.syn

namespace Go.Proofs.YtgbibfhacjjaeaaGreat.syn
set_option linter.unusedVariables false set_option linter.unusedSimpArgs false
open Go.ChangeShapes Go.WideShapes Go.ChangeAt Go.RowKit Go.Proofs.YtgbibfhacjjaeaaGreat.base
open Go.Proofs.YtgbibfhacjjaeaaGreat.lexs (Tok kNl kNum kStr kEre kOp kName kFunc kWord kBuilt)

/-- The end of a function that answers a node by its own box. -/
theorem ans_end {w w1 X : World} {R n c : Nat} {a : Option Addr} {q : Nd × PS} {D : Array Value} (hX : Box w1 w.heap.size tN D) (hFX : Frm (At w.heap.size) w1 X)
    (hk : KV w1 (fun g => w.heap.size + 1 ≤ g) (.slice a q.1.kids.len c) q.1.kids) (hp : PW w1 R n q.2) (hf : Frm (At R) w w1) :
    Ans w R n q (.returned (.agg #[.string ⟨q.1.op.toArray⟩, .string ⟨q.1.tx.toArray⟩, .slice a q.1.kids.len c])) X :=
  ⟨a, c, rfl, (hk.frm hFX (fun g hg _ e => by have e : g = w.heap.size := e; omega)).mono (fun g hg _ => by omega), hp.other hFX (fun g e _ => by cases e; exact ⟨tN, D, hX, by decide, by decide⟩),
    hf.then hFX (fun k hk e => by have e : k = w.heap.size := e; omega)⟩
/-- Its values are written. -/
theorem set3m {w1 : World} {b : Nat} (u v t : Value) : Frm (At b) w1 (((w1.setCell ⟨b, 0, none⟩ u).setCell ⟨b, 1, none⟩ v).setCell ⟨b, 2, none⟩ t) :=
  (((Frm.refl (At b) w1).setCell ⟨b, 0, none⟩ u (fun _ => rfl)).setCell ⟨b, 1, none⟩ v (fun _ => rfl)).setCell ⟨b, 2, none⟩ t (fun _ => rfl)
theorem OpsR.new (w : World) (o : Obj) (L : List B) (C : Array Value) (h : (L.map (fun l => Value.string ⟨l.toArray⟩)).toArray = C) : OpsR ((w.alloc o).alloc (.cells C 9)) (w.heap.size + 1) L := by
  subst h
  have k := Box.new (w.alloc o) 9 (L.map (fun l => Value.string ⟨l.toArray⟩)).toArray
  rwa [World.size_alloc] at k

/-- The kids are one node that was read. -/
theorem kids1 {w w2 w3 : World} {n1 : Nd} {a c : _} {U : Nat} (hk : KV w2 (fun g => U ≤ g) (.slice a n1.kids.len c) n1.kids) (hU : w.heap.size + 1 ≤ U) (hz : w.heap.size + 1 ≤ w2.heap.size)
    (hf : Frm No (w2.alloc (.cells #[.string ⟨n1.op.toArray⟩, .string ⟨n1.tx.toArray⟩, .slice a n1.kids.len c] tN)) w3) : KV w3 (fun g => w.heap.size + 1 ≤ g) (.slice (some ⟨w2.heap.size, 0, none⟩) 1 1) (one n1) :=
  KV.k1 ((hk.move (((Frm.refl No w2).alloc _).trans hf)).mono (fun g hg _ => by omega)) w2.heap.size hz ((Box.new w2 tN _).frm hf id) 1

set_option maxHeartbeats 2000000 in
theorem field_one (w : World) (R n : Nat) (s : PS) (h : PW w R n s) (b : Bool) (hc : atOp s opsStep = b) (q : Nd × PS) (HI1 : b = true → ∀ W, PW W R n s → Calls Tryz.prog 147 #[.pointer (some ⟨R, 0, none⟩), bnd 286 R] W (Ans W R n q))
    (HI2 : b = false → ∀ W, PW W R n s → Calls Tryz.prog 147 #[.pointer (some ⟨R, 0, none⟩), bnd 287 R] W (Ans W R n q)) :
    Calls Tryz.prog 291 #[.pointer (some ⟨R, 0, none⟩)] w (Ans w R n (⟨w_field, [], one q.1⟩, q.2)) := by
  have HH := Lib.hid h
  have HT := Lib.hid (fun (W : World) (hw : PW W R n s) (g : Nat) (hg : OpsR W g opsStep) => at_all W R n s hw g opsStep hg (by decide))
  rw [hc] at HT
  obtain ⟨n1, s1⟩ := q
  have HJ : Hid (∀ W, PW W R n s → Calls Tryz.prog 147 #[.pointer (some ⟨R, 0, none⟩), bnd (if b then 286 else 287) R] W (Ans W R n (n1, s1))) := by
    cases b
    · exact Lib.hid (HI2 rfl)
    · exact Lib.hid (HI1 rfl)
  clear hc h HI1 HI2
  cases b
  all_goals
    go_enter Tryz.func291, Tryz.ntmps291
    go_wp2_with (first | (go_at_call 143; go_must (refine (HT.out _ (HH.out.move (by (repeat (first | exact Frm.refl _ _ | assumption | refine Frm.alloc ?_ _)))) _ (OpsR.new _ _ _ _ rfl)).mono ?_; rintro e w1 ⟨rfl, hf1⟩; have HP1 := Lib.hid (HH.out.move ((show Frm No w w1 from Frm.trans (by (repeat (first | exact Frm.refl _ _ | assumption | refine Frm.alloc ?_ _))) hf1))); have HF1 := Lib.hid ((show Frm No w w1 from Frm.trans (by (repeat (first | exact Frm.refl _ _ | assumption | refine Frm.alloc ?_ _))) hf1)); have HX1 := Lib.hid (show Box w1 w.heap.size tN nd0 from ((Box.new w tN nd0).alloc _).frm hf1 id); clear hf1)) | (go_at_call 147; go_must (refine (HJ.out _ HP1.out).mono ?_; rintro e w2 ⟨a2, c2, rfl, hk2, hp2, hf2⟩; have HK2 := Lib.hid hk2; have HP2 := Lib.hid hp2; have HF2 := Lib.hid ((HF1.out.mono (S' := At R) (fun _ _ e => e.elim)).trans hf2); have HX2 := Lib.hid (show Box w2 w.heap.size tN nd0 from Box.at HX1.out HP1.out hf2 (by decide)); have HZ1 := Lib.hid (Box.lt HX1.out); clear hk2 hp2 hf2)) | (go_at_call 110; go_must (refine (node_all _ _ _ _ _ _).mono ?_; rintro e w3 ⟨rfl, hf3⟩; have HK3 := Lib.hid (kids1 (w := w) HK2.out HZ1.out (Box.lt HX2.out) hf3); have HP3 := Lib.hid (HP2.out.move (((Frm.refl No w2).alloc _).trans hf3)); have HX3 := Lib.hid (show Box w3 w.heap.size tN nd0 from (Box.alloc HX2.out _).frm hf3 id); have HF3 := Lib.hid (HF2.out.trans ((((Frm.refl No w2).alloc _).trans hf3).mono (S' := At R) (fun _ _ e => e.elim))); have x0 := Box.cell HX3.out 0; have x1 := Box.cell HX3.out 1; have x2 := Box.cell HX3.out 2; have y0 := Box.f HX3.out 0; have y1 := Box.f HX3.out 1; have y2 := Box.f HX3.out 2; clear hf3)))
    have hB := (set3 HX3.out HF3.out (Nat.le_refl _) (.string ⟨#[102, 105, 101, 108, 100]⟩) (.string ⟨#[]⟩) (.slice (some ⟨w2.heap.size, 0, none⟩) 1 1)).1
    have hM := set3m (w1 := w3) (b := w.heap.size) (.string ⟨#[102, 105, 101, 108, 100]⟩) (.string ⟨#[]⟩) (.slice (some ⟨w2.heap.size, 0, none⟩) 1 1)
    clear x0 x1 x2 y0 y1 y2
    generalize ((w3.setCell ⟨w.heap.size, 0, none⟩ (.string ⟨#[102, 105, 101, 108, 100]⟩)).setCell ⟨w.heap.size, 1, none⟩ (.string ⟨#[]⟩)).setCell ⟨w.heap.size, 2, none⟩ (.slice (some ⟨w2.heap.size, 0, none⟩) 1 1) = X at *
    have g0 := hB.cell 0
    have g1 := hB.cell 1
    have g2 := hB.cell 2
    refine bodyPost_ret (v := .agg #[.string ⟨#[102, 105, 101, 108, 100]⟩, .string ⟨#[]⟩, .slice (some ⟨w2.heap.size, 0, none⟩) 1 1]) (by simp [results, Tryz.results291, go_sem, g0, g1, g2]) rfl ?_
    exact ans_end (q := (⟨w_field, [], one n1⟩, s1)) HX3.out hM HK3.out HP3.out HF3.out

set_option maxHeartbeats 2000000 in
theorem parenthesized_all (n : Nat) (I : Inn) (hI : InC n I) : RC 290 n (parenthesized I) := by
  intro w R s h
  have HC := Lib.hid (fun W (hw : PW W R n s) => closedList_all n I hI W R s hw o_rpar)
  have HWW := Lib.hid (fun W q (hw : PW W R n q) => wantWord_all W R n q hw w_in)
  have HNM := Lib.hid (fun W q (hw : PW W R n q) => name_all W R n q hw)
  have HH := Lib.hid h
  have HD := Lib.hid (show parenthesized I s = if (closedList o_rpar I s).1.len = 1 then (⟨w_group, [], (closedList o_rpar I s).1⟩, (closedList o_rpar I s).2)
    else (⟨w_in, (name (wantW w_in (closedList o_rpar I s).2)).1, (closedList o_rpar I s).1⟩, (name (wantW w_in (closedList o_rpar I s).2)).2) from rfl)
  generalize parenthesized I s = res at *
  generalize closedList o_rpar I s = q at *
  obtain ⟨f, s1⟩ := q
  clear h hI
  by_cases hl : f.len = 1
  · have hl1 : ((f.len : Int) == 1) = true := by rw [hl]; rfl
    have hd := HD.out
    rw [if_pos hl] at hd
    subst hd
    clear HD hl
    go_enter Tryz.func290, Tryz.ntmps290
    go_wp2_with (first | (go_at_call 269; go_must (refine (HC.out _ (HH.out.move (by (repeat (first | exact Frm.refl _ _ | assumption | refine Frm.alloc ?_ _))))).mono ?_; rintro e w2 ⟨a, c, rfl, hk2, hp2, hf2⟩; have HK2 := Lib.hid hk2.kv; have HP2 := Lib.hid hp2; have HF2 := Lib.hid (Frm.trans (show Frm (At R) w _ by (repeat (first | exact Frm.refl _ _ | assumption | refine Frm.alloc ?_ _))) hf2); have HX2 := Lib.hid (show Box w2 w.heap.size tN nd0 from Box.at (Box.new w tN nd0) (HH.out.move (by (repeat (first | exact Frm.refl _ _ | assumption | refine Frm.alloc ?_ _)))) hf2 (by decide)); clear hk2 hp2 hf2)) | ((go_at_call 110; go_must (refine (node_all _ _ _ _ _ _).mono ?_; rintro e w3 ⟨rfl, hf3⟩; have hf3' : Frm No w2 w3 := Frm.trans (by (repeat (first | exact Frm.refl _ _ | assumption | refine Frm.alloc ?_ _))) hf3; have HK3 := Lib.hid ((HK2.out.move hf3').mono (F' := fun g => w.heap.size + 1 ≤ g) (fun g hg _ => by simpa using hg)); have HP3 := Lib.hid (HP2.out.move hf3'); have HX3 := Lib.hid (show Box w3 w.heap.size tN nd0 from Box.frm HX2.out hf3' id); have HF3 := Lib.hid (HF2.out.trans (hf3'.mono (S' := At R) (fun _ _ e => e.elim))); have x0 := Box.cell HX3.out 0; have x1 := Box.cell HX3.out 1; have x2 := Box.cell HX3.out 2; have y0 := Box.f HX3.out 0; have y1 := Box.f HX3.out 1; have y2 := Box.f HX3.out 2; clear hf3 hf3'))))
    (have hB := (set3 HX3.out HF3.out (Nat.le_refl _) (.string ⟨#[103, 114, 111, 117, 112]⟩) (.string ⟨#[]⟩) (.slice a f.len c)).1; have hM := set3m (w1 := w3) (b := w.heap.size) (.string ⟨#[103, 114, 111, 117, 112]⟩) (.string ⟨#[]⟩) (.slice a f.len c); clear x0 x1 x2 y0 y1 y2; generalize ((w3.setCell ⟨w.heap.size, 0, none⟩ (.string ⟨#[103, 114, 111, 117, 112]⟩)).setCell ⟨w.heap.size, 1, none⟩ (.string ⟨#[]⟩)).setCell ⟨w.heap.size, 2, none⟩ (.slice a f.len c) = X at *; have g0 := hB.cell 0; have g1 := hB.cell 1; have g2 := hB.cell 2; refine bodyPost_ret (v := .agg #[.string ⟨#[103, 114, 111, 117, 112]⟩, .string ⟨#[]⟩, (.slice a f.len c)]) (by simp [results, Tryz.results290, go_sem, g0, g1, g2]) rfl ?_; exact ans_end (q := (⟨w_group, [], f⟩, s1)) HX3.out hM HK3.out HP3.out HF3.out)
  · have hl1 : ((f.len : Int) == 1) = false := by rw [beq_eq_false_iff_ne]; omega
    have hd := HD.out
    rw [if_neg hl] at hd
    subst hd
    clear HD hl
    have HN1 := Lib.hid (fun W (hw : PW W R n (wantW w_in s1)) => HNM.out W _ hw)
    have HW1 := Lib.hid (fun W (hw : PW W R n s1) => HWW.out W _ hw)
    clear HNM HWW
    generalize wantW w_in s1 = s2 at *
    generalize name s2 = q at *
    obtain ⟨t, s3⟩ := q
    go_enter Tryz.func290, Tryz.ntmps290
    go_wp2_with (first | (go_at_call 269; go_must (refine (HC.out _ (HH.out.move (by (repeat (first | exact Frm.refl _ _ | assumption | refine Frm.alloc ?_ _))))).mono ?_; rintro e w0 ⟨a, c, rfl, hk2, hp2, hf2⟩; have HK0 := Lib.hid hk2.kv; have HP0 := Lib.hid hp2; have HF0 := Lib.hid (Frm.trans (show Frm (At R) w _ by (repeat (first | exact Frm.refl _ _ | assumption | refine Frm.alloc ?_ _))) hf2); have HX0 := Lib.hid (show Box w0 w.heap.size tN nd0 from Box.at (Box.new w tN nd0) (HH.out.move (by (repeat (first | exact Frm.refl _ _ | assumption | refine Frm.alloc ?_ _)))) hf2 (by decide)); clear hk2 hp2 hf2)) | (go_at_call 253; go_must (refine (HW1.out _ HP0.out).mono ?_; rintro e w1 ⟨rfl, hp1, hf1⟩; have HP1 := Lib.hid hp1; have HF1 := Lib.hid hf1; clear hp1 hf1)) | (go_at_call 149; go_must (refine (HN1.out _ HP1.out).mono ?_; rintro e w2 ⟨rfl, hp2, hf2⟩; have HP2 := Lib.hid hp2; have hf02 := HF1.out.trans hf2; have HF2 := Lib.hid (HF0.out.trans hf02); have HX2 := Lib.hid (show Box w2 w.heap.size tN nd0 from Box.at HX0.out HP0.out hf02 (by decide)); have HK2 := Lib.hid (HK0.out.at HP0.out hf02); clear hf02 hp2 hf2)) | ((go_at_call 110; go_must (refine (node_all _ _ _ _ _ _).mono ?_; rintro e w3 ⟨rfl, hf3⟩; have hf3' : Frm No w2 w3 := Frm.trans (by (repeat (first | exact Frm.refl _ _ | assumption | refine Frm.alloc ?_ _))) hf3; have HK3 := Lib.hid ((HK2.out.move hf3').mono (F' := fun g => w.heap.size + 1 ≤ g) (fun g hg _ => by simpa using hg)); have HP3 := Lib.hid (HP2.out.move hf3'); have HX3 := Lib.hid (show Box w3 w.heap.size tN nd0 from Box.frm HX2.out hf3' id); have HF3 := Lib.hid (HF2.out.trans (hf3'.mono (S' := At R) (fun _ _ e => e.elim))); have x0 := Box.cell HX3.out 0; have x1 := Box.cell HX3.out 1; have x2 := Box.cell HX3.out 2; have y0 := Box.f HX3.out 0; have y1 := Box.f HX3.out 1; have y2 := Box.f HX3.out 2; clear hf3 hf3'))))
    (have hB := (set3 HX3.out HF3.out (Nat.le_refl _) (.string ⟨#[105, 110]⟩) (.string ⟨t.toArray⟩) (.slice a f.len c)).1; have hM := set3m (w1 := w3) (b := w.heap.size) (.string ⟨#[105, 110]⟩) (.string ⟨t.toArray⟩) (.slice a f.len c); clear x0 x1 x2 y0 y1 y2; generalize ((w3.setCell ⟨w.heap.size, 0, none⟩ (.string ⟨#[105, 110]⟩)).setCell ⟨w.heap.size, 1, none⟩ (.string ⟨t.toArray⟩)).setCell ⟨w.heap.size, 2, none⟩ (.slice a f.len c) = X at *; have g0 := hB.cell 0; have g1 := hB.cell 1; have g2 := hB.cell 2; refine bodyPost_ret (v := .agg #[.string ⟨#[105, 110]⟩, .string ⟨t.toArray⟩, (.slice a f.len c)]) (by simp [results, Tryz.results290, go_sem, g0, g1, g2]) rfl ?_; exact ans_end (q := (⟨w_in, t, f⟩, s3)) HX3.out hM HK3.out HP3.out HF3.out)
end Go.Proofs.YtgbibfhacjjaeaaGreat.syn
