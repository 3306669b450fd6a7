/- Readings one node deeper: all of them; Parse. -/
import Derived.Test.YtgbibfhacjjaeaaGreatSynZm
import Derived.Test.YtgbibfhacjjaeaaGreatSynZc
import Derived.Test.YtgbibfhacjjaeaaGreatSynZg
import Derived.Test.YtgbibfhacjjaeaaGreatSynZgb
import Derived.Test.YtgbibfhacjjaeaaGreatSynZj
import Derived.Test.YtgbibfhacjjaeaaGreatLexU
namespace Go.Proofs.YtgbibfhacjjaeaaGreat.syn
set_option maxRecDepth 20000 set_option linter.unusedVariables false set_option linter.unusedSimpArgs false
open Go.ChangeShapes Go.WideShapes Go.ChangeAt Go.RowKit Go.Proofs.YtgbibfhacjjaeaaGreat.base
open Go.Proofs.YtgbibfhacjjaeaaGreat.lexs (Tok kNl kNum kStr kEre kOp kName kFunc kWord kBuilt)

theorem inC_zero : InC 200 (inn 0) where
  expr := fun w R s h => inner_deep w R s h _
  signed := fun w R s h => inner_deep w R s h _
  exponent := fun w R s h => inner_deep w R s h _
  operand := fun w R s h => inner_deep w R s h _
  step := fun w R s h => inner_deep w R s h _
  joined := fun w R s h => inner_deep w R s h _
  statement := fun w R s h => inner_deep w R s h _
  simple := fun w R s h => inner_deep w R s h _
  lt := inn_lt 0
theorem inC_succ (n d : Nat) (hn : n < 200) (hI : InC (n + 1) (inn d)) : InC n (inn (d + 1)) where
  expr := fun w R s h => inner_go w R n hn s h 153 (body (inn d) .expr) (expression_all (n + 1) (inn d) hI) (enters_of Tryz.func153 (by kernel_rfl) rfl)
  signed := fun w R s h => inner_go w R n hn s h 280 (body (inn d) .signed) (signed_all (n + 1) (inn d) hI) (enters_of Tryz.func280 (by kernel_rfl) rfl)
  exponent := fun w R s h => inner_go w R n hn s h 285 (body (inn d) .exponent) (exponent_all (n + 1) (inn d) hI) (enters_of Tryz.func285 (by kernel_rfl) rfl)
  operand := fun w R s h => inner_go w R n hn s h 287 (body (inn d) .operand) (operand_all (n + 1) (inn d) hI) (enters_of Tryz.func287 (by kernel_rfl) rfl)
  step := fun w R s h => inner_go w R n hn s h 286 (body (inn d) .step) (stepAhead_all (n + 1) (inn d) hI) (enters_of Tryz.func286 (by kernel_rfl) rfl)
  joined := fun w R s h => inner_go w R n hn s h 268 (body (inn d) .joined) (joined_all (n + 1) (inn d) hI) (enters_of Tryz.func268 (by kernel_rfl) rfl)
  statement := fun w R s h => inner_go w R n hn s h 148 (body (inn d) .statement) (statement_all (n + 1) (inn d) hI (simple_all (n + 1) (inn d) hI) (forLoop_all (n + 1) (inn d) hI)) (enters_of Tryz.func148 (by kernel_rfl) rfl)
  simple := fun w R s h => inner_go w R n hn s h 236 (body (inn d) .simple) (simple_all (n + 1) (inn d) hI) (enters_of Tryz.func236 (by kernel_rfl) rfl)
  lt := inn_lt (d + 1)
theorem inC_all (d n : Nat) (h : n + d = 200) : InC n (inn d) := by
  induction d generalizing n with
  | zero => obtain rfl : n = 200 := by omega
            exact inC_zero
  | succ d ih => exact inC_succ n d (by omega) (ih (n + 1) (by omega))

theorem tCs_at (ts : List Tok) (i : Nat) (t : Tok) (h : ts[i]? = some t) : (lexs.tCs ts)[i * 2]? = some (.string ⟨t.k.toArray⟩) ∧ (lexs.tCs ts)[i * 2 + 1]? = some (.string ⟨t.t.toArray⟩) := by
  induction ts generalizing i with
  | nil => cases h
  | cons u ts ih =>
    cases i with
    | zero =>
      simp only [List.getElem?_cons_zero, Option.some.injEq] at h
      subst h
      exact ⟨rfl, rfl⟩
    | succ i =>
      obtain ⟨e1, e2⟩ := ih i (by simpa using h)
      refine ⟨?_, ?_⟩
      · rw [show (i + 1) * 2 = i * 2 + 2 by omega]; exact e1
      · rw [show (i + 1) * 2 + 1 = i * 2 + 1 + 2 by omega]; exact e2
theorem tok_row {w : World} {B : Nat} {v : Value} {ts : List Tok} (h : lexs.OwnT w B v ts) (hl : ts.length ≤ 20000) : ∃ ra rc, v = .slice ra ts.length rc ∧ TR w ra rc ts := by
  rcases h.2.2 with ⟨e, hn⟩ | ⟨g, cap, cur, e, hB, hh, h1, h2, h3, h4⟩
  · obtain rfl : ts = [] := List.eq_nil_of_length_eq_zero hn
    exact ⟨none, 0, e, TR.nil _ _ _⟩
  · refine ⟨_, _, e, h1, by omega, Or.inr ⟨g, 0, cur, rfl, hh, fun i t ht => ?_⟩⟩
    obtain ⟨e1, e2⟩ := tCs_at ts i t ht
    rw [← h4] at e1 e2
    have hT : ∀ j v, (cur.toList.take (ts.length * 2))[j]? = some v → cur[j]? = some v := fun j v hj => by
      have hj2 : j < (cur.toList.take (ts.length * 2)).length := (List.getElem?_eq_some_iff.1 hj).1
      rw [List.length_take] at hj2
      rw [List.getElem?_take_of_lt (by omega)] at hj
      simpa using hj
    rw [show 0 + i * 2 = i * 2 by omega]
    exact ⟨hT _ _ e1, hT _ _ e2⟩
theorem lexL_few {l : List UInt8} {ts : List Tok} (h : lexs.lexL l = some ts) : ts.length ≤ 20000 := by
  unfold lexs.lexL at h
  split at h
  · cases h
  · split at h
    · cases h
    · split at h
      · cases h
      · cases h; omega
/-- What Parse answers. -/
def PPost (w : World) (r : Option Fo) : Ending → World → Prop := fun e w' => Frm No w w' ∧ (match r with
  | none => e = .returned (.tuple #[.slice none 0 0, .bool false])
  | some f => ∃ a c, e = .returned (.tuple #[.slice a f.len c, .bool true]) ∧ RowN w' w.heap.size a c f)
def parseS (s : ByteArray) : Option Fo := (lexs.lexL s.data.toList).bind parseT

set_option maxHeartbeats 8000000 in
theorem parse_all (s : ByteArray) (w : World) (hs : s.size ≤ 1000000) : Calls Tryz.prog 12 #[.string s] w (PPost w (parseS s)) := by
  have HX := Lib.hid (lexs.lex_all s w hs)
  unfold parseS
  cases hl : lexs.lexL s.data.toList with
  | none =>
    rw [hl] at HX
    clear hl
    go_enter Tryz.func12, Tryz.ntmps12
    go_wp2_with (go_at_call 27; go_must (refine (HX.out).mono ?_; rintro e w1 ⟨hf1, h1⟩; obtain rfl : e = .returned (.tuple #[.slice none 0 0, .bool false]) := h1; have HF1 := Lib.hid hf1; clear hf1))
    exact bodyPost_ret (v := .tuple #[.slice none 0 0, .bool false]) (by simp [results, Tryz.results12, go_sem]) rfl ⟨HF1.out, rfl⟩
  | some ts =>
    rw [hl] at HX
    have hfew := lexL_few hl
    have HIT := Lib.hid (fun W R (hw : PW W R 0 (start ts)) => items_all 0 (inn 200) (inC_all 200 0 rfl) (kp.inn_lt 200) W R (start ts) hw)
    rw [show (some ts).bind parseT = parseT ts from rfl]
    have HPT : Hid (parseT ts = if (items (inn 200) (start ts)).2.f then none else if 200 < (items (inn 200) (start ts)).1.depth then none else some (items (inn 200) (start ts)).1) := Lib.hid rfl
    generalize parseT ts = pt at *
    generalize items (inn 200) (start ts) = q at *
    obtain ⟨f, s1⟩ := q
    dsimp only at HPT
    clear hl
    cases hfl : s1.f
    · have hpt := HPT.out
      rw [hfl, if_neg (by decide)] at hpt
      have HPT2 := Lib.hid hpt
      clear HPT hpt
      go_enter Tryz.func12, Tryz.ntmps12
      go_wp2_with (first | (have hz := HP2; clear hz; go_at_call 28; go_must (refine (HIT.out _ _ HP2.out).mono ?_; rintro e w3 ⟨a, c, rfl, hr3, hp3, hf3⟩; dsimp only at hr3 hp3; have HR3 := Lib.hid hr3; have HF3 := Lib.hid (HF2.out.then hf3 (fun k hk e => by have e : k = w1.heap.size := e; have := HF1.out.size; omega)); have b1 := (PW.failed hp3).trans (by rw [hfl]); have bl := PW.lt hp3; clear hr3 hp3 hf3)) | (go_at_call 27; go_must (refine (HX.out).mono ?_; rintro e w1 ⟨hf1, h1⟩; obtain ⟨v, he, how⟩ := h1; obtain ⟨ra, rc, hv, htr⟩ := tok_row how hfew; subst hv; subst he; have HF1 := Lib.hid hf1; have HP2 := Lib.hid (show PW (w1.alloc (.cells #[.slice ra ts.length rc, .bool false, .int .i64 0, .string ⟨#[]⟩, .int .i64 0, .bool false] tP)) w1.heap.size 0 (start ts) from ⟨ra, rc, Box.new w1 tP _, htr.other (S := No) (frm1 w1 _) (fun g e => e.elim)⟩); have HF2 := Lib.hid (hf1.trans (frm1 w1 (.cells #[.slice ra ts.length rc, .bool false, .int .i64 0, .string ⟨#[]⟩, .int .i64 0, .bool false] tP))); clear hf1 how htr)))
      have hfw := KV.few (RowN.kv HR3.out)
      unfold maxLen at hfw
      have HDA := Lib.hid (deeper_all 200)
      go_loopg [24] f.len (fun gf iv wr => ∃ i : Nat, gf + i = f.len ∧ iv = .int .i64 i ∧ Frm No w3 wr ∧ ∀ j u, j < i → f.nth j = some u → u.kids.depth + 1 ≤ 200)
      case atStart => exact ⟨0, by omega, rfl, Frm.refl _ _, fun j u hj => absurd hj (Nat.not_lt_zero _)⟩
      case round =>
        obtain ⟨i, hi, rfl, hf, hd⟩ := hrel
        have HF := Lib.hid hf
        have HD := Lib.hid hd
        clear hf hd
        by_cases hlt : i < f.len
        · obtain ⟨u, hu⟩ := Fo.nth_some hlt
          obtain ⟨g, kv, cur, rfl, hb, c0, c1, c2, hkv⟩ := KV.nth ((RowN.kv HR3.out).move HF.out) i u hu
          obtain ⟨a2, c2', rfl⟩ := hkv.forms
          have HKV := Lib.hid hkv
          have HU := Lib.hid hu
          have hbl := hb.lt
          rw [Nat.mul_comm] at c0 c1 c2
          have hx0 : (0 : Int) ≤ (i : Int) := by omega
          have hx1 : (i : Int) < (f.len : Int) := by omega
          obtain ⟨uo, ut, uk⟩ := u
          dsimp only at c0 c1 c2 HKV
          clear hkv hb hu
          by_cases hdp : 200 < uk.depth + 1
          · have HDP := Lib.hid hdp
            have HDX := Lib.hid (fun W F (hw : KV W F (.slice a2 uk.len c2') uk) => HDA.out W F uo ut uk a2 c2' (by omega) hw)
            rw [show decide (200 < uk.depth + 1) = true from by rw [decide_eq_true_iff]; exact hdp] at HDX
            clear hdp HDA
            go_wp2_with (go_at_call 29; go_must (refine (HDX.out _ _ (KV.move HKV.out (by (repeat (first | exact Frm.refl _ _ | assumption | refine Frm.alloc ?_ _))))).mono ?_; rintro e w4 ⟨rfl, hf4⟩; have HF4 := Lib.hid (show Frm No wr w4 from Frm.trans (by (repeat (first | exact Frm.refl _ _ | assumption | refine Frm.alloc ?_ _))) hf4); clear hf4))
            have h1 := Fo.depth_nth HU.out
            have h2 := HDP.out
            dsimp only at h1
            have h3 := HPT2.out
            rw [if_pos (by omega)] at h3
            subst h3
            exact bodyPost_ret (v := .tuple #[.slice none 0 0, .bool false]) (by simp [results, Tryz.results12, go_sem]) rfl ⟨HF3.out.trans (HF.out.trans HF4.out), rfl⟩
          · have HDP := Lib.hid hdp
            have HDX := Lib.hid (fun W F (hw : KV W F (.slice a2 uk.len c2') uk) => HDA.out W F uo ut uk a2 c2' (by omega) hw)
            rw [show decide (200 < uk.depth + 1) = false from by rw [decide_eq_false_iff_not]; exact hdp] at HDX
            clear hdp HDA
            go_wp2_with (go_at_call 29; go_must (refine (HDX.out _ _ (KV.move HKV.out (by (repeat (first | exact Frm.refl _ _ | assumption | refine Frm.alloc ?_ _))))).mono ?_; rintro e w4 ⟨rfl, hf4⟩; have HF4 := Lib.hid (show Frm No wr w4 from Frm.trans (by (repeat (first | exact Frm.refl _ _ | assumption | refine Frm.alloc ?_ _))) hf4); clear hf4))
            go_roundg (gk - 1)
            case measure => omega
            case rel =>
             refine ⟨i + 1, by omega, by go_num, HF.out.trans HF4.out, fun j v hj hv => ?_⟩
             by_cases hji : j = i
             · subst hji
               have h3 := HU.out
               rw [hv] at h3
               cases h3
               have := HDP.out
               dsimp only
               omega
             · exact HD.out j v (by omega) hv
        · obtain rfl : i = f.len := by omega
          have hdl : f.depth ≤ 200 := Fo.depth_le (fun j v hv => HD.out j v (by
            by_cases hj : j < f.len
            · exact hj
            · exfalso
              have : f.nth j = none := Fo.nth_none (by omega)
              rw [this] at hv
              cases hv) hv)
          have h3 := HPT2.out
          rw [if_neg (by omega)] at h3
          have HPT3 := Lib.hid h3
          clear h3 hdl HDA
          go_wp2
          refine bodyPost_ret (v := .tuple #[.slice a f.len c, .bool true]) (by simp [results, Tryz.results12, go_sem]) rfl ⟨HF3.out.trans HF.out, ?_⟩
          rw [HPT3.out]
          exact ⟨a, c, rfl, (HR3.out.move HF.out).mono (by have := HF2.out.size; omega)⟩
    · have hpt := HPT.out
      rw [hfl, if_pos rfl] at hpt
      subst hpt
      clear HPT
      go_enter Tryz.func12, Tryz.ntmps12
      go_wp2_with (first | (have hz := HP2; clear hz; go_at_call 28; go_must (refine (HIT.out _ _ HP2.out).mono ?_; rintro e w3 ⟨a, c, rfl, hr3, hp3, hf3⟩; dsimp only at hr3 hp3; have HF3 := Lib.hid (HF2.out.then hf3 (fun k hk e => by have e : k = w1.heap.size := e; have := HF1.out.size; omega)); have b1 := (PW.failed hp3).trans (by rw [hfl]); have bl := PW.lt hp3; clear hr3 hp3 hf3)) | (go_at_call 27; go_must (refine (HX.out).mono ?_; rintro e w1 ⟨hf1, h1⟩; obtain ⟨v, he, how⟩ := h1; obtain ⟨ra, rc, hv, htr⟩ := tok_row how hfew; subst hv; subst he; have HF1 := Lib.hid hf1; have HP2 := Lib.hid (show PW (w1.alloc (.cells #[.slice ra ts.length rc, .bool false, .int .i64 0, .string ⟨#[]⟩, .int .i64 0, .bool false] tP)) w1.heap.size 0 (start ts) from ⟨ra, rc, Box.new w1 tP _, htr.other (S := No) (frm1 w1 _) (fun g e => e.elim)⟩); have HF2 := Lib.hid (hf1.trans (frm1 w1 (.cells #[.slice ra ts.length rc, .bool false, .int .i64 0, .string ⟨#[]⟩, .int .i64 0, .bool false] tP))); clear hf1 how htr)))
      exact bodyPost_ret (v := .tuple #[.slice none 0 0, .bool false]) (by simp [results, Tryz.results12, go_sem]) rfl ⟨HF3.out, rfl⟩
end Go.Proofs.YtgbibfhacjjaeaaGreat.syn
