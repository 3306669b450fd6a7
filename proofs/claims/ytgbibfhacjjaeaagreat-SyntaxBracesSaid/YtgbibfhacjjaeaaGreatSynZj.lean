/- printing, command, simple. command, simple. -/
import Derived.Test.YtgbibfhacjjaeaaGreatSynZh

namespace Go.Proofs.YtgbibfhacjjaeaaGreat.syn
set_option maxRecDepth 20000 set_option linter.unusedVariables false set_option linter.unusedSimpArgs false
open Go.ChangeShapes Go.WideShapes Go.ChangeAt Go.RowKit Go.Proofs.YtgbibfhacjjaeaaGreat.base
open Go.Proofs.YtgbibfhacjjaeaaGreat.lexs (Tok kNl kNum kStr kEre kOp kName kFunc kWord kBuilt)

theorem listL_len (I : Inn) (k : Nat) (f : Fo) (s : PS) : (listL I k f s).1.len ≤ f.len + k := by
  induction k generalizing f s with
  | zero => exact Nat.le_refl _
  | succ k ih =>
    unfold listL
    split
    · have := ih (f.snoc (I .expr (skipLines (nextS s))).1) (I .expr (skipLines (nextS s))).2
      rw [Fo.len_snoc] at this
      omega
    · simp only; omega
theorem list_len (I : Inn) (hI : LtI I) (s : PS) : (list I s).1.len ≤ s.r.length + 1 := by
  have h1 := listL_len I (I .expr s).2.r.length (Fo.nil.snoc (I .expr s).1) (I .expr s).2
  rw [Fo.len_snoc] at h1
  have h2 := (hI .expr s).1.1
  have h3 : Fo.nil.len = 0 := rfl
  unfold list
  omega
theorem closedList_len (c : B) (I : Inn) (hI : LtI I) (s : PS) : (closedList c I s).1.len ≤ s.r.length + 1 := list_len I hI { s with s := false }
theorem printed_len (I : Inn) (hI : LtI I) (s : PS) : (printed I s).1.len ≤ s.r.length + 1 := by
  have h1 := closedList_len o_rpar I hI (nextS s)
  have h2 : (nextS s).r.length ≤ s.r.length := (nextS_le s).1
  unfold printed
  split
  · split
    · omega
    · exact list_len I hI { (closedList o_rpar I (nextS s)).2 with r := s.r, s := true }
  · exact list_len I hI { s with s := true }
theorem PW.kindc {w : World} {R n : Nat} {s : PS} (h : PW w R n s) : w.cell? ⟨R, 3, none⟩ = some (.string ⟨s.k.toArray⟩) := by
  obtain ⟨ra, rc, hb⟩ := h.box
  exact hb.cell 3

set_option maxHeartbeats 16000000 in
theorem printing_all (n : Nat) (I : Inn) (hI : InC n I) (nm : B) (W : World) (R : Nat) (s : PS) (h : PW W R n s) :
    Calls Tryz.prog 260 #[.pointer (some ⟨R, 0, none⟩), .string ⟨nm.toArray⟩] W (Ans W R n (printing nm I s)) := by
  revert W
  intro w h
  obtain ⟨i0, hi, hz0, hz1, hz2⟩ := node_parts
  have HS0 := Lib.hid (St.init h)
  have HSE := Lib.hid (fun W R (hw : PW W R n s) => atSimpleEnd_all n s W R hw)
  have HA1 := fun b hb => at_b n s opsSend (by decide) b hb
  have ht0 := tok_f0
  have ht1 := tok_f1
  have hlen := PW.len h
  unfold printing
  cases h1 : atSimpleEnd s
  · rw [h1] at HSE
    cases h2 : atOp s opsSend
    · have HA := Lib.hid (HA1 _ h2)
      rw [if_pos (by rfl)]
      have HPR := Lib.hid (fun W R (hw : PW W R n s) => printed_all n I hI W R s hw)
      have hpl := printed_len I hI.lt s
      generalize printed I s = q at *
      obtain ⟨f, s1⟩ := q
      dsimp only at hpl ⊢
      have hfl : f.len ≤ 100001 := by omega
      unfold sent
      have HN := Lib.hid (fun W R (hw : PW W R n s1) => next_v n s1 W R hw)
      have HJ := Lib.hid (fun W R (hw : PW W R n (nextS s1)) => hI.joined W R (nextS s1) hw)
      generalize peek s1 = T at *
      obtain ⟨tk, tt⟩ := T
      generalize I .joined (nextS s1) = q at *
      obtain ⟨⟨o, u, k⟩, s9⟩ := q
      dsimp only at HN HJ ⊢
      have HB1 := fun b hb => at_b n s1 opsSend (by decide) b hb
      clear hI h h1 h2 HA1 hpl
      cases h3 : atOp s1 opsSend
      · have HB := Lib.hid (HB1 _ h3)
        rw [if_neg (by decide)]
        clear h3 HB1 HN HJ
        go_enter Tryz.func260, Tryz.ntmps260
        go_wp2_with (first | ((have hz := HS5; clear hz; go_at_call 110; go_must (refine (node_all _ _ _ _ _ _).mono ?_; rintro e w3 ⟨rfl, hf⟩; have HK3 := Lib.hid (KV.move (RowN.kv HR5.out) (Frm.trans (by (repeat (first | exact Frm.refl _ _ | assumption | refine Frm.alloc ?_ _ | refine Frm.drew ?_))) hf)); have HSZ := Lib.hid (St.move (Hid.out HS5) (Frm.trans (by (repeat (first | exact Frm.refl _ _ | assumption | refine Frm.alloc ?_ _ | refine Frm.drew ?_))) hf)); clear hf; (have x0 := Box.cell (St.box (Hid.out HSZ)) 0; have x1 := Box.cell (St.box (Hid.out HSZ)) 1; have x2 := Box.cell (St.box (Hid.out HSZ)) 2; have y0 := Box.f (St.box (Hid.out HSZ)) 0; have y1 := Box.f (St.box (Hid.out HSZ)) 1; have y2 := Box.f (St.box (Hid.out HSZ)) 2)))) | (have hz := HS4; clear hz; go_at_call 143; go_must (refine (Hid.out HB _ _ ((St.pw (Hid.out HS4)).move (by (repeat (first | exact Frm.refl _ _ | assumption | refine Frm.alloc ?_ _ | refine Frm.drew ?_)))) _ (by first | exact OpsR.one _ _ _ rfl | exact OpsR.new _ _ _ _ rfl)).mono ?_; rintro e w5 ⟨rfl, hf⟩; have HS5 := Lib.hid (St.move (Hid.out HS4) (Frm.trans (by (repeat (first | exact Frm.refl _ _ | assumption | refine Frm.alloc ?_ _ | refine Frm.drew ?_))) hf)); have HR5 := Lib.hid (RowN.move HR4x.out (Frm.trans (by (repeat (first | exact Frm.refl _ _ | assumption | refine Frm.alloc ?_ _ | refine Frm.drew ?_))) hf)); clear hf)) | (have hz := HS2; clear hz; go_at_call 267; go_must (refine (HPR.out _ _ ((St.pw (Hid.out HS2)).move (by (repeat (first | exact Frm.refl _ _ | assumption | refine Frm.alloc ?_ _ | refine Frm.drew ?_))))).mono ?_; rintro e w4 ⟨a, c, rfl, hr, hp, hf⟩; dsimp only at hr hp; have HS4 := Lib.hid (St.go (Hid.out HS2) (Frm.trans (by (repeat (first | exact Frm.refl _ _ | assumption | refine Frm.alloc ?_ _ | refine Frm.drew ?_))) hf) hp); have HR4x := Lib.hid (hr.mono (B' := w.heap.size + 1) (by have e1 := St.size (Hid.out HS2); (try simp only [World.size_alloc, World.size_drew]); omega)); clear hr hp hf)) | ((have hz := HS1; clear hz; go_at_call 143; go_must (refine (Hid.out HA _ _ ((St.pw (Hid.out HS1)).move (by (repeat (first | exact Frm.refl _ _ | assumption | refine Frm.alloc ?_ _ | refine Frm.drew ?_)))) _ (by first | exact OpsR.one _ _ _ rfl | exact OpsR.new _ _ _ _ rfl)).mono ?_; rintro e w2 ⟨rfl, hf⟩; have HS2 := Lib.hid (St.move (Hid.out HS1) (Frm.trans (by (repeat (first | exact Frm.refl _ _ | assumption | refine Frm.alloc ?_ _ | refine Frm.drew ?_))) hf)); clear hf))) | ((have hz := HS0; clear hz; go_at_call 266; go_must (refine (Hid.out HSE _ _ ((St.pw (Hid.out HS0)).move (by (repeat (first | exact Frm.refl _ _ | assumption | refine Frm.alloc ?_ _ | refine Frm.drew ?_))))).mono ?_; rintro e w1 ⟨rfl, hf⟩; have HS1 := Lib.hid (St.move (Hid.out HS0) (Frm.trans (by (repeat (first | exact Frm.refl _ _ | assumption | refine Frm.alloc ?_ _ | refine Frm.drew ?_))) hf)); clear hf))))
        (have hB := (set3 (St.box (Hid.out HSZ)) (St.frm (Hid.out HSZ)) (Nat.le_refl _) (.string ⟨nm.toArray⟩) (.string ⟨#[]⟩) (.slice a f.len c)).1; have hM := set3m (w1 := w3) (b := w.heap.size) (.string ⟨nm.toArray⟩) (.string ⟨#[]⟩) (.slice a f.len c); clear x0 x1 x2 y0 y1 y2; generalize World.setCell (World.setCell (World.setCell w3 ⟨w.heap.size, 0, none⟩ (.string ⟨nm.toArray⟩)) ⟨w.heap.size, 1, none⟩ (.string ⟨#[]⟩)) ⟨w.heap.size, 2, none⟩ (.slice a f.len c) = X at *; have g0 := hB.cell 0; have g1 := hB.cell 1; have g2 := hB.cell 2; refine bodyPost_ret (v := .agg #[.string ⟨nm.toArray⟩, .string ⟨#[]⟩, (.slice a f.len c)]) (by simp [results, Tryz.results260, go_sem, g0, g1, g2]) rfl ?_; exact St.fin (Hid.out HSZ) (Hid.out HK3) hM)
      · have HB := Lib.hid (HB1 _ h3)
        rw [if_pos rfl]
        clear h3 HB1
        go_enter Tryz.func260, Tryz.ntmps260
        go_wp2_with (first | (have hz := HS8; clear hz; (have hz := HS8; clear hz; go_at_call 110; go_must (refine (node_all _ _ _ _ _ _).mono ?_; rintro e w3 ⟨rfl, hf⟩; have HK3 := Lib.hid (show KV w3 (fun g => w.heap.size + 1 ≤ g) (.slice (some ⟨g, 0, none⟩) (f.snoc ⟨o, u, k⟩).len gcap) (f.snoc ⟨o, u, k⟩) from KV.move (RowN.kv HR8.out) (Frm.trans (by (repeat (first | exact Frm.refl _ _ | assumption | refine Frm.alloc ?_ _ | refine Frm.drew ?_))) hf)); have HSZ := Lib.hid (St.move (Hid.out HS8) (Frm.trans (by (repeat (first | exact Frm.refl _ _ | assumption | refine Frm.alloc ?_ _ | refine Frm.drew ?_))) hf)); clear hf; (have x0 := Box.cell (St.box (Hid.out HSZ)) 0; have x1 := Box.cell (St.box (Hid.out HSZ)) 1; have x2 := Box.cell (St.box (Hid.out HSZ)) 2; have y0 := Box.f (St.box (Hid.out HSZ)) 0; have y1 := Box.f (St.box (Hid.out HSZ)) 1; have y2 := Box.f (St.box (Hid.out HSZ)) 2)))) | (have hz := HS6; clear hz; go_at_call 147; go_must (refine (HJ.out _ _ ((St.pw (Hid.out HS6)).move (by (repeat (first | exact Frm.refl _ _ | assumption | refine Frm.alloc ?_ _ | refine Frm.drew ?_))))).mono ?_; rintro e w7 ⟨a4, c4, rfl, hk4, hp4, hf4⟩; dsimp only at hk4 hp4; have HS7 := Lib.hid (St.go (Hid.out HS6) hf4 hp4); have HK4 := Lib.hid hk4; have HR4 := Lib.hid (HR6.out.at (St.pw (Hid.out HS6)) hf4); obtain ⟨C, hro, hro2⟩ := HR4.out; have HO := Lib.hid hro; have hsz4 := St.size (Hid.out HS7); have hsz3 := St.size (Hid.out HS6); clear hk4 hp4 hf4 hro hro2)) | (refine wpList_append_lies _ rfl _ _ _ rfl (w.heap.size + 1) tN i0 _ 3 56 Tryz.underlying23 hi hz0 hz1 hz2 rfl (by omega) (.slice a f.len c) f.len C rfl (World.ownsRow.alloc HO.out _) ⟨w7.heap.size, 0, none⟩ 1 1 [.string ⟨o.toArray⟩, .string ⟨u.toArray⟩, .slice a4 k.len c4] rfl rfl (World.news_of_block (heap_alloc_new w7 _)) (by simp [Value.oneCell']) (by omega) (by unfold maxLen; omega) (by omega) (by simp; omega) (w7.heap.size + 1) (by simp) ?_; intro g gcap w8 hown5 hgrow hat hlt5; obtain ⟨hr5, hs5⟩ := St.more (f := f) (t := ⟨o, u, k⟩) HS7.out HR4.out HK4.out hsz3 (fun g hg => RowN.ownlt HR6.out g hg) HO.out hown5 hgrow hat; have HS8 := Lib.hid hs5; have HR8 := Lib.hid hr5; clear hr5 hs5) | (have hz := HS5; clear hz; go_at_call 107; go_must (refine (HN.out _ _ ((St.pw (Hid.out HS5)).move (by (repeat (first | exact Frm.refl _ _ | assumption | refine Frm.alloc ?_ _ | refine Frm.drew ?_))))).mono ?_; rintro e w6 ⟨rfl, hp, hf⟩; have HS6 := Lib.hid (St.go (Hid.out HS5) (Frm.trans (by (repeat (first | exact Frm.refl _ _ | assumption | refine Frm.alloc ?_ _ | refine Frm.drew ?_))) hf) hp); have HR6 := Lib.hid (RowN.at HR5.out (St.pw (Hid.out HS5)) (Frm.trans (by (repeat (first | exact Frm.refl _ _ | assumption | refine Frm.alloc ?_ _ | refine Frm.drew ?_))) hf)); clear hp hf)) | (have hz := HS4; clear hz; go_at_call 143; go_must (refine (Hid.out HB _ _ ((St.pw (Hid.out HS4)).move (by (repeat (first | exact Frm.refl _ _ | assumption | refine Frm.alloc ?_ _ | refine Frm.drew ?_)))) _ (by first | exact OpsR.one _ _ _ rfl | exact OpsR.new _ _ _ _ rfl)).mono ?_; rintro e w5 ⟨rfl, hf⟩; have HS5 := Lib.hid (St.move (Hid.out HS4) (Frm.trans (by (repeat (first | exact Frm.refl _ _ | assumption | refine Frm.alloc ?_ _ | refine Frm.drew ?_))) hf)); have HR5 := Lib.hid (RowN.move HR4x.out (Frm.trans (by (repeat (first | exact Frm.refl _ _ | assumption | refine Frm.alloc ?_ _ | refine Frm.drew ?_))) hf)); clear hf)) | (have hz := HS2; clear hz; go_at_call 267; go_must (refine (HPR.out _ _ ((St.pw (Hid.out HS2)).move (by (repeat (first | exact Frm.refl _ _ | assumption | refine Frm.alloc ?_ _ | refine Frm.drew ?_))))).mono ?_; rintro e w4 ⟨a, c, rfl, hr, hp, hf⟩; dsimp only at hr hp; have HS4 := Lib.hid (St.go (Hid.out HS2) (Frm.trans (by (repeat (first | exact Frm.refl _ _ | assumption | refine Frm.alloc ?_ _ | refine Frm.drew ?_))) hf) hp); have HR4x := Lib.hid (hr.mono (B' := w.heap.size + 1) (by have e1 := St.size (Hid.out HS2); (try simp only [World.size_alloc, World.size_drew]); omega)); clear hr hp hf)) | ((have hz := HS1; clear hz; go_at_call 143; go_must (refine (Hid.out HA _ _ ((St.pw (Hid.out HS1)).move (by (repeat (first | exact Frm.refl _ _ | assumption | refine Frm.alloc ?_ _ | refine Frm.drew ?_)))) _ (by first | exact OpsR.one _ _ _ rfl | exact OpsR.new _ _ _ _ rfl)).mono ?_; rintro e w2 ⟨rfl, hf⟩; have HS2 := Lib.hid (St.move (Hid.out HS1) (Frm.trans (by (repeat (first | exact Frm.refl _ _ | assumption | refine Frm.alloc ?_ _ | refine Frm.drew ?_))) hf)); clear hf))) | ((have hz := HS0; clear hz; go_at_call 266; go_must (refine (Hid.out HSE _ _ ((St.pw (Hid.out HS0)).move (by (repeat (first | exact Frm.refl _ _ | assumption | refine Frm.alloc ?_ _ | refine Frm.drew ?_))))).mono ?_; rintro e w1 ⟨rfl, hf⟩; have HS1 := Lib.hid (St.move (Hid.out HS0) (Frm.trans (by (repeat (first | exact Frm.refl _ _ | assumption | refine Frm.alloc ?_ _ | refine Frm.drew ?_))) hf)); clear hf))))
        have hB := (set3 (St.box (Hid.out HSZ)) (St.frm (Hid.out HSZ)) (Nat.le_refl _) (.string ⟨nm.toArray⟩) (.string ⟨tt.toArray⟩) (.slice (some ⟨g, 0, none⟩) (f.len + 1) gcap)).1
        have hM := set3m (w1 := w3) (b := w.heap.size) (.string ⟨nm.toArray⟩) (.string ⟨tt.toArray⟩) (.slice (some ⟨g, 0, none⟩) (f.len + 1) gcap)
        clear x0 x1 x2 y0 y1 y2
        generalize World.setCell (World.setCell (World.setCell w3 ⟨w.heap.size, 0, none⟩ (.string ⟨nm.toArray⟩)) ⟨w.heap.size, 1, none⟩ (.string ⟨tt.toArray⟩)) ⟨w.heap.size, 2, none⟩ (.slice (some ⟨g, 0, none⟩) (f.len + 1) gcap) = X at *
        have g0 := hB.cell 0
        have g1 := hB.cell 1
        have g2 := hB.cell 2
        refine bodyPost_ret (v := .agg #[.string ⟨nm.toArray⟩, .string ⟨tt.toArray⟩, .slice (some ⟨g, 0, none⟩) (f.len + 1) gcap]) (by simp [results, Tryz.results260, go_sem, g0, g1, g2]) rfl ?_
        have kk := St.fin (o := nm) (u := tt) (Hid.out HSZ) (Hid.out HK3) hM
        rw [Fo.len_snoc] at kk
        exact kk
    · have HA := Lib.hid (HA1 _ h2)
      rw [if_neg (by simp)]
      by_cases hnm : nm = w_printf
      · rw [if_pos hnm]
        subst hnm
        have HFL := Lib.hid (fun W R (hw : PW W R n s) => fail_all W R n s hw)
        unfold w_printf
        clear hI h h1 h2 HA1
        go_enter Tryz.func260, Tryz.ntmps260
        go_wp2_with (first | ((have hz := HS2; clear hz; go_at_call 194; go_must (refine (Hid.out HFL _ _ ((St.pw (Hid.out HS2)).move (by (repeat (first | exact Frm.refl _ _ | assumption | refine Frm.alloc ?_ _ | refine Frm.drew ?_))))).mono ?_; rintro e w3 ⟨rfl, hp, hf⟩; have HSZ := Lib.hid (St.go (Hid.out HS2) (Frm.trans (by (repeat (first | exact Frm.refl _ _ | assumption | refine Frm.alloc ?_ _ | refine Frm.drew ?_))) hf) hp); clear hp hf)); have HK3 := Lib.hid (KV.nil w3 (fun g => w.heap.size + 1 ≤ g)); (have x0 := Box.cell (St.box (Hid.out HSZ)) 0; have x1 := Box.cell (St.box (Hid.out HSZ)) 1; have x2 := Box.cell (St.box (Hid.out HSZ)) 2; have y0 := Box.f (St.box (Hid.out HSZ)) 0; have y1 := Box.f (St.box (Hid.out HSZ)) 1; have y2 := Box.f (St.box (Hid.out HSZ)) 2)) | ((have hz := HS1; clear hz; go_at_call 143; go_must (refine (Hid.out HA _ _ ((St.pw (Hid.out HS1)).move (by (repeat (first | exact Frm.refl _ _ | assumption | refine Frm.alloc ?_ _ | refine Frm.drew ?_)))) _ (by first | exact OpsR.one _ _ _ rfl | exact OpsR.new _ _ _ _ rfl)).mono ?_; rintro e w2 ⟨rfl, hf⟩; have HS2 := Lib.hid (St.move (Hid.out HS1) (Frm.trans (by (repeat (first | exact Frm.refl _ _ | assumption | refine Frm.alloc ?_ _ | refine Frm.drew ?_))) hf)); clear hf))) | ((have hz := HS0; clear hz; go_at_call 266; go_must (refine (Hid.out HSE _ _ ((St.pw (Hid.out HS0)).move (by (repeat (first | exact Frm.refl _ _ | assumption | refine Frm.alloc ?_ _ | refine Frm.drew ?_))))).mono ?_; rintro e w1 ⟨rfl, hf⟩; have HS1 := Lib.hid (St.move (Hid.out HS0) (Frm.trans (by (repeat (first | exact Frm.refl _ _ | assumption | refine Frm.alloc ?_ _ | refine Frm.drew ?_))) hf)); clear hf))))
        (have hB := (set3 (St.box (Hid.out HSZ)) (St.frm (Hid.out HSZ)) (Nat.le_refl _) (.string ⟨#[110, 111, 110, 101]⟩) (.string ⟨#[]⟩) (.slice none 0 0)).1; have hM := set3m (w1 := w3) (b := w.heap.size) (.string ⟨#[110, 111, 110, 101]⟩) (.string ⟨#[]⟩) (.slice none 0 0); clear x0 x1 x2 y0 y1 y2; generalize World.setCell (World.setCell (World.setCell w3 ⟨w.heap.size, 0, none⟩ (.string ⟨#[110, 111, 110, 101]⟩)) ⟨w.heap.size, 1, none⟩ (.string ⟨#[]⟩)) ⟨w.heap.size, 2, none⟩ (.slice none 0 0) = X at *; have g0 := hB.cell 0; have g1 := hB.cell 1; have g2 := hB.cell 2; refine bodyPost_ret (v := .agg #[.string ⟨#[110, 111, 110, 101]⟩, .string ⟨#[]⟩, (.slice none 0 0)]) (by simp [results, Tryz.results260, go_sem, g0, g1, g2]) rfl ?_; exact St.fin (Hid.out HSZ) (Hid.out HK3) hM)
      · rw [if_neg hnm]
        have b0 : (nm == [112, 114, 105, 110, 116, 102]) = false := by rw [beq_eq_false_iff_ne]; exact hnm
        have hfl : Fo.nil.len = 0 := rfl
        unfold sent
        have HN := Lib.hid (fun W R (hw : PW W R n s) => next_v n s W R hw)
        have HJ := Lib.hid (fun W R (hw : PW W R n (nextS s)) => hI.joined W R (nextS s) hw)
        generalize peek s = T at *
        obtain ⟨tk, tt⟩ := T
        generalize I .joined (nextS s) = q at *
        obtain ⟨⟨o, u, k⟩, s9⟩ := q
        dsimp only at HN HJ ⊢
        have HB := Lib.hid (HA1 _ h2)
        rw [if_pos h2]
        clear hI h h1 h2 HA1 hnm
        go_enter Tryz.func260, Tryz.ntmps260
        go_wp2_with (first | (have hz := HS8; clear hz; (have hz := HS8; clear hz; go_at_call 110; go_must (refine (node_all _ _ _ _ _ _).mono ?_; rintro e w3 ⟨rfl, hf⟩; have HK3 := Lib.hid (show KV w3 (fun g => w.heap.size + 1 ≤ g) (.slice (some ⟨g, 0, none⟩) (Fo.nil.snoc ⟨o, u, k⟩).len gcap) (Fo.nil.snoc ⟨o, u, k⟩) from KV.move (RowN.kv HR8.out) (Frm.trans (by (repeat (first | exact Frm.refl _ _ | assumption | refine Frm.alloc ?_ _ | refine Frm.drew ?_))) hf)); have HSZ := Lib.hid (St.move (Hid.out HS8) (Frm.trans (by (repeat (first | exact Frm.refl _ _ | assumption | refine Frm.alloc ?_ _ | refine Frm.drew ?_))) hf)); clear hf; (have x0 := Box.cell (St.box (Hid.out HSZ)) 0; have x1 := Box.cell (St.box (Hid.out HSZ)) 1; have x2 := Box.cell (St.box (Hid.out HSZ)) 2; have y0 := Box.f (St.box (Hid.out HSZ)) 0; have y1 := Box.f (St.box (Hid.out HSZ)) 1; have y2 := Box.f (St.box (Hid.out HSZ)) 2)))) | (have hz := HS6; clear hz; go_at_call 147; go_must (refine (HJ.out _ _ ((St.pw (Hid.out HS6)).move (by (repeat (first | exact Frm.refl _ _ | assumption | refine Frm.alloc ?_ _ | refine Frm.drew ?_))))).mono ?_; rintro e w7 ⟨a4, c4, rfl, hk4, hp4, hf4⟩; dsimp only at hk4 hp4; have HS7 := Lib.hid (St.go (Hid.out HS6) hf4 hp4); have HK4 := Lib.hid hk4; have HR4 := Lib.hid (HR6.out.at (St.pw (Hid.out HS6)) hf4); obtain ⟨C, hro, hro2⟩ := HR4.out; have HO := Lib.hid hro; have hsz4 := St.size (Hid.out HS7); have hsz3 := St.size (Hid.out HS6); clear hk4 hp4 hf4 hro hro2)) | (refine wpList_append_lies _ rfl _ _ _ rfl (w.heap.size + 1) tN i0 _ 3 56 Tryz.underlying23 hi hz0 hz1 hz2 rfl (by omega) (.slice none 0 0) 0 C rfl (World.ownsRow.alloc HO.out _) ⟨w7.heap.size, 0, none⟩ 1 1 [.string ⟨o.toArray⟩, .string ⟨u.toArray⟩, .slice a4 k.len c4] rfl rfl (World.news_of_block (heap_alloc_new w7 _)) (by simp [Value.oneCell']) (by omega) (by unfold maxLen; omega) (by omega) (by simp; omega) (w7.heap.size + 1) (by simp) ?_; intro g gcap w8 hown5 hgrow hat hlt5; obtain ⟨hr5, hs5⟩ := St.more (f := Fo.nil) (t := ⟨o, u, k⟩) HS7.out HR4.out HK4.out hsz3 (fun g hg => RowN.ownlt HR6.out g hg) HO.out hown5 hgrow hat; have HS8 := Lib.hid hs5; have HR8 := Lib.hid hr5; clear hr5 hs5) | (have hz := HS5; clear hz; go_at_call 107; go_must (refine (HN.out _ _ ((St.pw (Hid.out HS5)).move (by (repeat (first | exact Frm.refl _ _ | assumption | refine Frm.alloc ?_ _ | refine Frm.drew ?_))))).mono ?_; rintro e w6 ⟨rfl, hp, hf⟩; have HS6 := Lib.hid (St.go (Hid.out HS5) (Frm.trans (by (repeat (first | exact Frm.refl _ _ | assumption | refine Frm.alloc ?_ _ | refine Frm.drew ?_))) hf) hp); have HR6 := Lib.hid (RowN.at HR5.out (St.pw (Hid.out HS5)) (Frm.trans (by (repeat (first | exact Frm.refl _ _ | assumption | refine Frm.alloc ?_ _ | refine Frm.drew ?_))) hf)); clear hp hf)) | (have hz := HS2; clear hz; go_at_call 143; go_must (refine (Hid.out HB _ _ ((St.pw (Hid.out HS2)).move (by (repeat (first | exact Frm.refl _ _ | assumption | refine Frm.alloc ?_ _ | refine Frm.drew ?_)))) _ (by first | exact OpsR.one _ _ _ rfl | exact OpsR.new _ _ _ _ rfl)).mono ?_; rintro e w5 ⟨rfl, hf⟩; have HS5 := Lib.hid (St.move (Hid.out HS2) (Frm.trans (by (repeat (first | exact Frm.refl _ _ | assumption | refine Frm.alloc ?_ _ | refine Frm.drew ?_))) hf)); have HR5 := Lib.hid (RowN.move (RowN.nil w2 (w.heap.size + 1)) (Frm.trans (by (repeat (first | exact Frm.refl _ _ | assumption | refine Frm.alloc ?_ _ | refine Frm.drew ?_))) hf)); clear hf)) | ((have hz := HS1; clear hz; go_at_call 143; go_must (refine (Hid.out HA _ _ ((St.pw (Hid.out HS1)).move (by (repeat (first | exact Frm.refl _ _ | assumption | refine Frm.alloc ?_ _ | refine Frm.drew ?_)))) _ (by first | exact OpsR.one _ _ _ rfl | exact OpsR.new _ _ _ _ rfl)).mono ?_; rintro e w2 ⟨rfl, hf⟩; have HS2 := Lib.hid (St.move (Hid.out HS1) (Frm.trans (by (repeat (first | exact Frm.refl _ _ | assumption | refine Frm.alloc ?_ _ | refine Frm.drew ?_))) hf)); clear hf))) | ((have hz := HS0; clear hz; go_at_call 266; go_must (refine (Hid.out HSE _ _ ((St.pw (Hid.out HS0)).move (by (repeat (first | exact Frm.refl _ _ | assumption | refine Frm.alloc ?_ _ | refine Frm.drew ?_))))).mono ?_; rintro e w1 ⟨rfl, hf⟩; have HS1 := Lib.hid (St.move (Hid.out HS0) (Frm.trans (by (repeat (first | exact Frm.refl _ _ | assumption | refine Frm.alloc ?_ _ | refine Frm.drew ?_))) hf)); clear hf))))
        have hB := (set3 (St.box (Hid.out HSZ)) (St.frm (Hid.out HSZ)) (Nat.le_refl _) (.string ⟨nm.toArray⟩) (.string ⟨tt.toArray⟩) (.slice (some ⟨g, 0, none⟩) (0 + 1) gcap)).1
        have hM := set3m (w1 := w3) (b := w.heap.size) (.string ⟨nm.toArray⟩) (.string ⟨tt.toArray⟩) (.slice (some ⟨g, 0, none⟩) (0 + 1) gcap)
        clear x0 x1 x2 y0 y1 y2
        generalize World.setCell (World.setCell (World.setCell w3 ⟨w.heap.size, 0, none⟩ (.string ⟨nm.toArray⟩)) ⟨w.heap.size, 1, none⟩ (.string ⟨tt.toArray⟩)) ⟨w.heap.size, 2, none⟩ (.slice (some ⟨g, 0, none⟩) (0 + 1) gcap) = X at *
        have g0 := hB.cell 0
        have g1 := hB.cell 1
        have g2 := hB.cell 2
        refine bodyPost_ret (v := .agg #[.string ⟨nm.toArray⟩, .string ⟨tt.toArray⟩, .slice (some ⟨g, 0, none⟩) (0 + 1) gcap]) (by simp [results, Tryz.results260, go_sem, g0, g1, g2]) rfl ?_
        have kk := St.fin (o := nm) (u := tt) (Hid.out HSZ) (Hid.out HK3) hM
        rw [Fo.len_snoc] at kk
        exact kk
  · rw [h1] at HSE
    rw [if_neg (by simp)]
    by_cases hnm : nm = w_printf
    · rw [if_pos hnm]
      subst hnm
      have HFL := Lib.hid (fun W R (hw : PW W R n s) => fail_all W R n s hw)
      unfold w_printf
      clear hI h h1 HA1
      go_enter Tryz.func260, Tryz.ntmps260
      go_wp2_with (first | ((have hz := HS1; clear hz; go_at_call 194; go_must (refine (Hid.out HFL _ _ ((St.pw (Hid.out HS1)).move (by (repeat (first | exact Frm.refl _ _ | assumption | refine Frm.alloc ?_ _ | refine Frm.drew ?_))))).mono ?_; rintro e w3 ⟨rfl, hp, hf⟩; have HSZ := Lib.hid (St.go (Hid.out HS1) (Frm.trans (by (repeat (first | exact Frm.refl _ _ | assumption | refine Frm.alloc ?_ _ | refine Frm.drew ?_))) hf) hp); clear hp hf)); have HK3 := Lib.hid (KV.nil w3 (fun g => w.heap.size + 1 ≤ g)); (have x0 := Box.cell (St.box (Hid.out HSZ)) 0; have x1 := Box.cell (St.box (Hid.out HSZ)) 1; have x2 := Box.cell (St.box (Hid.out HSZ)) 2; have y0 := Box.f (St.box (Hid.out HSZ)) 0; have y1 := Box.f (St.box (Hid.out HSZ)) 1; have y2 := Box.f (St.box (Hid.out HSZ)) 2)) | ((have hz := HS0; clear hz; go_at_call 266; go_must (refine (Hid.out HSE _ _ ((St.pw (Hid.out HS0)).move (by (repeat (first | exact Frm.refl _ _ | assumption | refine Frm.alloc ?_ _ | refine Frm.drew ?_))))).mono ?_; rintro e w1 ⟨rfl, hf⟩; have HS1 := Lib.hid (St.move (Hid.out HS0) (Frm.trans (by (repeat (first | exact Frm.refl _ _ | assumption | refine Frm.alloc ?_ _ | refine Frm.drew ?_))) hf)); clear hf))))
      (have hB := (set3 (St.box (Hid.out HSZ)) (St.frm (Hid.out HSZ)) (Nat.le_refl _) (.string ⟨#[110, 111, 110, 101]⟩) (.string ⟨#[]⟩) (.slice none 0 0)).1; have hM := set3m (w1 := w3) (b := w.heap.size) (.string ⟨#[110, 111, 110, 101]⟩) (.string ⟨#[]⟩) (.slice none 0 0); clear x0 x1 x2 y0 y1 y2; generalize World.setCell (World.setCell (World.setCell w3 ⟨w.heap.size, 0, none⟩ (.string ⟨#[110, 111, 110, 101]⟩)) ⟨w.heap.size, 1, none⟩ (.string ⟨#[]⟩)) ⟨w.heap.size, 2, none⟩ (.slice none 0 0) = X at *; have g0 := hB.cell 0; have g1 := hB.cell 1; have g2 := hB.cell 2; refine bodyPost_ret (v := .agg #[.string ⟨#[110, 111, 110, 101]⟩, .string ⟨#[]⟩, (.slice none 0 0)]) (by simp [results, Tryz.results260, go_sem, g0, g1, g2]) rfl ?_; exact St.fin (Hid.out HSZ) (Hid.out HK3) hM)
    · rw [if_neg hnm]
      have b0 : (nm == [112, 114, 105, 110, 116, 102]) = false := by rw [beq_eq_false_iff_ne]; exact hnm
      have hfl : Fo.nil.len = 0 := rfl
      unfold sent
      have HN := Lib.hid (fun W R (hw : PW W R n s) => next_v n s W R hw)
      have HJ := Lib.hid (fun W R (hw : PW W R n (nextS s)) => hI.joined W R (nextS s) hw)
      generalize peek s = T at *
      obtain ⟨tk, tt⟩ := T
      generalize I .joined (nextS s) = q at *
      obtain ⟨⟨o, u, k⟩, s9⟩ := q
      dsimp only at HN HJ ⊢
      cases h3 : atOp s opsSend
      · have HB := Lib.hid (HA1 _ h3)
        rw [if_neg (by decide)]
        clear hI h h1 h3 HA1 hnm HN HJ
        go_enter Tryz.func260, Tryz.ntmps260
        go_wp2_with (first | ((have hz := HS5; clear hz; go_at_call 110; go_must (refine (node_all _ _ _ _ _ _).mono ?_; rintro e w3 ⟨rfl, hf⟩; have HK3 := Lib.hid (KV.move (RowN.kv HR5.out) (Frm.trans (by (repeat (first | exact Frm.refl _ _ | assumption | refine Frm.alloc ?_ _ | refine Frm.drew ?_))) hf)); have HSZ := Lib.hid (St.move (Hid.out HS5) (Frm.trans (by (repeat (first | exact Frm.refl _ _ | assumption | refine Frm.alloc ?_ _ | refine Frm.drew ?_))) hf)); clear hf; (have x0 := Box.cell (St.box (Hid.out HSZ)) 0; have x1 := Box.cell (St.box (Hid.out HSZ)) 1; have x2 := Box.cell (St.box (Hid.out HSZ)) 2; have y0 := Box.f (St.box (Hid.out HSZ)) 0; have y1 := Box.f (St.box (Hid.out HSZ)) 1; have y2 := Box.f (St.box (Hid.out HSZ)) 2)))) | (have hz := HS1; clear hz; go_at_call 143; go_must (refine (Hid.out HB _ _ ((St.pw (Hid.out HS1)).move (by (repeat (first | exact Frm.refl _ _ | assumption | refine Frm.alloc ?_ _ | refine Frm.drew ?_)))) _ (by first | exact OpsR.one _ _ _ rfl | exact OpsR.new _ _ _ _ rfl)).mono ?_; rintro e w5 ⟨rfl, hf⟩; have HS5 := Lib.hid (St.move (Hid.out HS1) (Frm.trans (by (repeat (first | exact Frm.refl _ _ | assumption | refine Frm.alloc ?_ _ | refine Frm.drew ?_))) hf)); have HR5 := Lib.hid (RowN.move (RowN.nil w1 (w.heap.size + 1)) (Frm.trans (by (repeat (first | exact Frm.refl _ _ | assumption | refine Frm.alloc ?_ _ | refine Frm.drew ?_))) hf)); clear hf)) | ((have hz := HS0; clear hz; go_at_call 266; go_must (refine (Hid.out HSE _ _ ((St.pw (Hid.out HS0)).move (by (repeat (first | exact Frm.refl _ _ | assumption | refine Frm.alloc ?_ _ | refine Frm.drew ?_))))).mono ?_; rintro e w1 ⟨rfl, hf⟩; have HS1 := Lib.hid (St.move (Hid.out HS0) (Frm.trans (by (repeat (first | exact Frm.refl _ _ | assumption | refine Frm.alloc ?_ _ | refine Frm.drew ?_))) hf)); clear hf))))
        (have hB := (set3 (St.box (Hid.out HSZ)) (St.frm (Hid.out HSZ)) (Nat.le_refl _) (.string ⟨nm.toArray⟩) (.string ⟨#[]⟩) (.slice none 0 0)).1; have hM := set3m (w1 := w3) (b := w.heap.size) (.string ⟨nm.toArray⟩) (.string ⟨#[]⟩) (.slice none 0 0); clear x0 x1 x2 y0 y1 y2; generalize World.setCell (World.setCell (World.setCell w3 ⟨w.heap.size, 0, none⟩ (.string ⟨nm.toArray⟩)) ⟨w.heap.size, 1, none⟩ (.string ⟨#[]⟩)) ⟨w.heap.size, 2, none⟩ (.slice none 0 0) = X at *; have g0 := hB.cell 0; have g1 := hB.cell 1; have g2 := hB.cell 2; refine bodyPost_ret (v := .agg #[.string ⟨nm.toArray⟩, .string ⟨#[]⟩, (.slice none 0 0)]) (by simp [results, Tryz.results260, go_sem, g0, g1, g2]) rfl ?_; exact St.fin (Hid.out HSZ) (Hid.out HK3) hM)
      · have HB := Lib.hid (HA1 _ h3)
        rw [if_pos rfl]
        clear hI h h1 h3 HA1 hnm
        go_enter Tryz.func260, Tryz.ntmps260
        go_wp2_with (first | (have hz := HS8; clear hz; (have hz := HS8; clear hz; go_at_call 110; go_must (refine (node_all _ _ _ _ _ _).mono ?_; rintro e w3 ⟨rfl, hf⟩; have HK3 := Lib.hid (show KV w3 (fun g => w.heap.size + 1 ≤ g) (.slice (some ⟨g, 0, none⟩) (Fo.nil.snoc ⟨o, u, k⟩).len gcap) (Fo.nil.snoc ⟨o, u, k⟩) from KV.move (RowN.kv HR8.out) (Frm.trans (by (repeat (first | exact Frm.refl _ _ | assumption | refine Frm.alloc ?_ _ | refine Frm.drew ?_))) hf)); have HSZ := Lib.hid (St.move (Hid.out HS8) (Frm.trans (by (repeat (first | exact Frm.refl _ _ | assumption | refine Frm.alloc ?_ _ | refine Frm.drew ?_))) hf)); clear hf; (have x0 := Box.cell (St.box (Hid.out HSZ)) 0; have x1 := Box.cell (St.box (Hid.out HSZ)) 1; have x2 := Box.cell (St.box (Hid.out HSZ)) 2; have y0 := Box.f (St.box (Hid.out HSZ)) 0; have y1 := Box.f (St.box (Hid.out HSZ)) 1; have y2 := Box.f (St.box (Hid.out HSZ)) 2)))) | (have hz := HS6; clear hz; go_at_call 147; go_must (refine (HJ.out _ _ ((St.pw (Hid.out HS6)).move (by (repeat (first | exact Frm.refl _ _ | assumption | refine Frm.alloc ?_ _ | refine Frm.drew ?_))))).mono ?_; rintro e w7 ⟨a4, c4, rfl, hk4, hp4, hf4⟩; dsimp only at hk4 hp4; have HS7 := Lib.hid (St.go (Hid.out HS6) hf4 hp4); have HK4 := Lib.hid hk4; have HR4 := Lib.hid (HR6.out.at (St.pw (Hid.out HS6)) hf4); obtain ⟨C, hro, hro2⟩ := HR4.out; have HO := Lib.hid hro; have hsz4 := St.size (Hid.out HS7); have hsz3 := St.size (Hid.out HS6); clear hk4 hp4 hf4 hro hro2)) | (refine wpList_append_lies _ rfl _ _ _ rfl (w.heap.size + 1) tN i0 _ 3 56 Tryz.underlying23 hi hz0 hz1 hz2 rfl (by omega) (.slice none 0 0) 0 C rfl (World.ownsRow.alloc HO.out _) ⟨w7.heap.size, 0, none⟩ 1 1 [.string ⟨o.toArray⟩, .string ⟨u.toArray⟩, .slice a4 k.len c4] rfl rfl (World.news_of_block (heap_alloc_new w7 _)) (by simp [Value.oneCell']) (by omega) (by unfold maxLen; omega) (by omega) (by simp; omega) (w7.heap.size + 1) (by simp) ?_; intro g gcap w8 hown5 hgrow hat hlt5; obtain ⟨hr5, hs5⟩ := St.more (f := Fo.nil) (t := ⟨o, u, k⟩) HS7.out HR4.out HK4.out hsz3 (fun g hg => RowN.ownlt HR6.out g hg) HO.out hown5 hgrow hat; have HS8 := Lib.hid hs5; have HR8 := Lib.hid hr5; clear hr5 hs5) | (have hz := HS5; clear hz; go_at_call 107; go_must (refine (HN.out _ _ ((St.pw (Hid.out HS5)).move (by (repeat (first | exact Frm.refl _ _ | assumption | refine Frm.alloc ?_ _ | refine Frm.drew ?_))))).mono ?_; rintro e w6 ⟨rfl, hp, hf⟩; have HS6 := Lib.hid (St.go (Hid.out HS5) (Frm.trans (by (repeat (first | exact Frm.refl _ _ | assumption | refine Frm.alloc ?_ _ | refine Frm.drew ?_))) hf) hp); have HR6 := Lib.hid (RowN.at HR5.out (St.pw (Hid.out HS5)) (Frm.trans (by (repeat (first | exact Frm.refl _ _ | assumption | refine Frm.alloc ?_ _ | refine Frm.drew ?_))) hf)); clear hp hf)) | (have hz := HS1; clear hz; go_at_call 143; go_must (refine (Hid.out HB _ _ ((St.pw (Hid.out HS1)).move (by (repeat (first | exact Frm.refl _ _ | assumption | refine Frm.alloc ?_ _ | refine Frm.drew ?_)))) _ (by first | exact OpsR.one _ _ _ rfl | exact OpsR.new _ _ _ _ rfl)).mono ?_; rintro e w5 ⟨rfl, hf⟩; have HS5 := Lib.hid (St.move (Hid.out HS1) (Frm.trans (by (repeat (first | exact Frm.refl _ _ | assumption | refine Frm.alloc ?_ _ | refine Frm.drew ?_))) hf)); have HR5 := Lib.hid (RowN.move (RowN.nil w1 (w.heap.size + 1)) (Frm.trans (by (repeat (first | exact Frm.refl _ _ | assumption | refine Frm.alloc ?_ _ | refine Frm.drew ?_))) hf)); clear hf)) | ((have hz := HS0; clear hz; go_at_call 266; go_must (refine (Hid.out HSE _ _ ((St.pw (Hid.out HS0)).move (by (repeat (first | exact Frm.refl _ _ | assumption | refine Frm.alloc ?_ _ | refine Frm.drew ?_))))).mono ?_; rintro e w1 ⟨rfl, hf⟩; have HS1 := Lib.hid (St.move (Hid.out HS0) (Frm.trans (by (repeat (first | exact Frm.refl _ _ | assumption | refine Frm.alloc ?_ _ | refine Frm.drew ?_))) hf)); clear hf))))
        have hB := (set3 (St.box (Hid.out HSZ)) (St.frm (Hid.out HSZ)) (Nat.le_refl _) (.string ⟨nm.toArray⟩) (.string ⟨tt.toArray⟩) (.slice (some ⟨g, 0, none⟩) (0 + 1) gcap)).1
        have hM := set3m (w1 := w3) (b := w.heap.size) (.string ⟨nm.toArray⟩) (.string ⟨tt.toArray⟩) (.slice (some ⟨g, 0, none⟩) (0 + 1) gcap)
        clear x0 x1 x2 y0 y1 y2
        generalize World.setCell (World.setCell (World.setCell w3 ⟨w.heap.size, 0, none⟩ (.string ⟨nm.toArray⟩)) ⟨w.heap.size, 1, none⟩ (.string ⟨tt.toArray⟩)) ⟨w.heap.size, 2, none⟩ (.slice (some ⟨g, 0, none⟩) (0 + 1) gcap) = X at *
        have g0 := hB.cell 0
        have g1 := hB.cell 1
        have g2 := hB.cell 2
        refine bodyPost_ret (v := .agg #[.string ⟨nm.toArray⟩, .string ⟨tt.toArray⟩, .slice (some ⟨g, 0, none⟩) (0 + 1) gcap]) (by simp [results, Tryz.results260, go_sem, g0, g1, g2]) rfl ?_
        have kk := St.fin (o := nm) (u := tt) (Hid.out HSZ) (Hid.out HK3) hM
        rw [Fo.len_snoc] at kk
        exact kk

end Go.Proofs.YtgbibfhacjjaeaaGreat.syn

namespace Go.Proofs.YtgbibfhacjjaeaaGreat.syn
set_option maxRecDepth 20000 set_option linter.unusedVariables false set_option linter.unusedSimpArgs false
open Go.ChangeShapes Go.WideShapes Go.ChangeAt Go.RowKit Go.Proofs.YtgbibfhacjjaeaaGreat.base
open Go.Proofs.YtgbibfhacjjaeaaGreat.lexs (Tok kNl kNum kStr kEre kOp kName kFunc kWord kBuilt)

set_option maxHeartbeats 4000000 in
theorem command_print (n : Nat) (I : Inn) (hI : InC n I) (w : World) (R : Nat) (s : PS) (h : PW w R n s) :
    Calls Tryz.prog 254 #[.pointer (some ⟨R, 0, none⟩), .string ⟨#[112, 114, 105, 110, 116]⟩] w (Ans w R n (printing [112, 114, 105, 110, 116] I s)) := by
  have HS0 := Lib.hid (St.init h)
  have HC := Lib.hid (fun W R (hw : PW W R n s) => printing_all n I hI [112, 114, 105, 110, 116] W R s hw)
  generalize printing [112, 114, 105, 110, 116] I s = q at *
  obtain ⟨⟨o, u, k⟩, s2⟩ := q
  clear h hI
  go_enter Tryz.func254, Tryz.ntmps254
  go_wp2_with ((have hz := HS0; clear hz; go_at_call 260; go_must (refine (Hid.out HC _ _ ((St.pw (Hid.out HS0)).move (by (repeat (first | exact Frm.refl _ _ | assumption | refine Frm.alloc ?_ _ | refine Frm.drew ?_))))).mono ?_; rintro e w3 ⟨a, c, rfl, hk, hp, hf⟩; dsimp only at hk hp; have HSZ := Lib.hid (St.go (Hid.out HS0) (Frm.trans (by (repeat (first | exact Frm.refl _ _ | assumption | refine Frm.alloc ?_ _ | refine Frm.drew ?_))) hf) hp); have HK3 := Lib.hid (St.new (Hid.out HS0) (by (repeat (first | exact Frm.refl _ _ | assumption | refine Frm.alloc ?_ _ | refine Frm.drew ?_))) hk); clear hp hf hk)); (have x0 := Box.cell (St.box (Hid.out HSZ)) 0; have x1 := Box.cell (St.box (Hid.out HSZ)) 1; have x2 := Box.cell (St.box (Hid.out HSZ)) 2; have y0 := Box.f (St.box (Hid.out HSZ)) 0; have y1 := Box.f (St.box (Hid.out HSZ)) 1; have y2 := Box.f (St.box (Hid.out HSZ)) 2))
  (have hB := (set3 (St.box (Hid.out HSZ)) (St.frm (Hid.out HSZ)) (Nat.le_refl _) (.string ⟨o.toArray⟩) (.string ⟨u.toArray⟩) (.slice a k.len c)).1; have hM := set3m (w1 := w3) (b := w.heap.size) (.string ⟨o.toArray⟩) (.string ⟨u.toArray⟩) (.slice a k.len c); clear x0 x1 x2 y0 y1 y2; generalize World.setCell (World.setCell (World.setCell w3 ⟨w.heap.size, 0, none⟩ (.string ⟨o.toArray⟩)) ⟨w.heap.size, 1, none⟩ (.string ⟨u.toArray⟩)) ⟨w.heap.size, 2, none⟩ (.slice a k.len c) = X at *; have g0 := hB.cell 0; have g1 := hB.cell 1; have g2 := hB.cell 2; refine bodyPost_ret (v := .agg #[.string ⟨o.toArray⟩, .string ⟨u.toArray⟩, (.slice a k.len c)]) (by simp [results, Tryz.results254, go_sem, g0, g1, g2]) rfl ?_; exact St.fin (Hid.out HSZ) (Hid.out HK3) hM)
set_option maxHeartbeats 4000000 in
theorem command_printf (n : Nat) (I : Inn) (hI : InC n I) (w : World) (R : Nat) (s : PS) (h : PW w R n s) :
    Calls Tryz.prog 254 #[.pointer (some ⟨R, 0, none⟩), .string ⟨#[112, 114, 105, 110, 116, 102]⟩] w (Ans w R n (printing [112, 114, 105, 110, 116, 102] I s)) := by
  have HS0 := Lib.hid (St.init h)
  have HC := Lib.hid (fun W R (hw : PW W R n s) => printing_all n I hI [112, 114, 105, 110, 116, 102] W R s hw)
  generalize printing [112, 114, 105, 110, 116, 102] I s = q at *
  obtain ⟨⟨o, u, k⟩, s2⟩ := q
  clear h hI
  go_enter Tryz.func254, Tryz.ntmps254
  go_wp2_with ((have hz := HS0; clear hz; go_at_call 260; go_must (refine (Hid.out HC _ _ ((St.pw (Hid.out HS0)).move (by (repeat (first | exact Frm.refl _ _ | assumption | refine Frm.alloc ?_ _ | refine Frm.drew ?_))))).mono ?_; rintro e w3 ⟨a, c, rfl, hk, hp, hf⟩; dsimp only at hk hp; have HSZ := Lib.hid (St.go (Hid.out HS0) (Frm.trans (by (repeat (first | exact Frm.refl _ _ | assumption | refine Frm.alloc ?_ _ | refine Frm.drew ?_))) hf) hp); have HK3 := Lib.hid (St.new (Hid.out HS0) (by (repeat (first | exact Frm.refl _ _ | assumption | refine Frm.alloc ?_ _ | refine Frm.drew ?_))) hk); clear hp hf hk)); (have x0 := Box.cell (St.box (Hid.out HSZ)) 0; have x1 := Box.cell (St.box (Hid.out HSZ)) 1; have x2 := Box.cell (St.box (Hid.out HSZ)) 2; have y0 := Box.f (St.box (Hid.out HSZ)) 0; have y1 := Box.f (St.box (Hid.out HSZ)) 1; have y2 := Box.f (St.box (Hid.out HSZ)) 2))
  (have hB := (set3 (St.box (Hid.out HSZ)) (St.frm (Hid.out HSZ)) (Nat.le_refl _) (.string ⟨o.toArray⟩) (.string ⟨u.toArray⟩) (.slice a k.len c)).1; have hM := set3m (w1 := w3) (b := w.heap.size) (.string ⟨o.toArray⟩) (.string ⟨u.toArray⟩) (.slice a k.len c); clear x0 x1 x2 y0 y1 y2; generalize World.setCell (World.setCell (World.setCell w3 ⟨w.heap.size, 0, none⟩ (.string ⟨o.toArray⟩)) ⟨w.heap.size, 1, none⟩ (.string ⟨u.toArray⟩)) ⟨w.heap.size, 2, none⟩ (.slice a k.len c) = X at *; have g0 := hB.cell 0; have g1 := hB.cell 1; have g2 := hB.cell 2; refine bodyPost_ret (v := .agg #[.string ⟨o.toArray⟩, .string ⟨u.toArray⟩, (.slice a k.len c)]) (by simp [results, Tryz.results254, go_sem, g0, g1, g2]) rfl ?_; exact St.fin (Hid.out HSZ) (Hid.out HK3) hM)
set_option maxHeartbeats 4000000 in
theorem command_delete (n : Nat) (I : Inn) (hI : InC n I) (w : World) (R : Nat) (s : PS) (h : PW w R n s) :
    Calls Tryz.prog 254 #[.pointer (some ⟨R, 0, none⟩), .string ⟨#[100, 101, 108, 101, 116, 101]⟩] w (Ans w R n (deletion I s)) := by
  have HS0 := Lib.hid (St.init h)
  have HC := Lib.hid (fun W R (hw : PW W R n s) => deletion_all n I hI W R s hw)
  generalize deletion I s = q at *
  obtain ⟨⟨o, u, k⟩, s2⟩ := q
  clear h hI
  go_enter Tryz.func254, Tryz.ntmps254
  go_wp2_with ((have hz := HS0; clear hz; go_at_call 261; go_must (refine (Hid.out HC _ _ ((St.pw (Hid.out HS0)).move (by (repeat (first | exact Frm.refl _ _ | assumption | refine Frm.alloc ?_ _ | refine Frm.drew ?_))))).mono ?_; rintro e w3 ⟨a, c, rfl, hk, hp, hf⟩; dsimp only at hk hp; have HSZ := Lib.hid (St.go (Hid.out HS0) (Frm.trans (by (repeat (first | exact Frm.refl _ _ | assumption | refine Frm.alloc ?_ _ | refine Frm.drew ?_))) hf) hp); have HK3 := Lib.hid (St.new (Hid.out HS0) (by (repeat (first | exact Frm.refl _ _ | assumption | refine Frm.alloc ?_ _ | refine Frm.drew ?_))) hk); clear hp hf hk)); (have x0 := Box.cell (St.box (Hid.out HSZ)) 0; have x1 := Box.cell (St.box (Hid.out HSZ)) 1; have x2 := Box.cell (St.box (Hid.out HSZ)) 2; have y0 := Box.f (St.box (Hid.out HSZ)) 0; have y1 := Box.f (St.box (Hid.out HSZ)) 1; have y2 := Box.f (St.box (Hid.out HSZ)) 2))
  (have hB := (set3 (St.box (Hid.out HSZ)) (St.frm (Hid.out HSZ)) (Nat.le_refl _) (.string ⟨o.toArray⟩) (.string ⟨u.toArray⟩) (.slice a k.len c)).1; have hM := set3m (w1 := w3) (b := w.heap.size) (.string ⟨o.toArray⟩) (.string ⟨u.toArray⟩) (.slice a k.len c); clear x0 x1 x2 y0 y1 y2; generalize World.setCell (World.setCell (World.setCell w3 ⟨w.heap.size, 0, none⟩ (.string ⟨o.toArray⟩)) ⟨w.heap.size, 1, none⟩ (.string ⟨u.toArray⟩)) ⟨w.heap.size, 2, none⟩ (.slice a k.len c) = X at *; have g0 := hB.cell 0; have g1 := hB.cell 1; have g2 := hB.cell 2; refine bodyPost_ret (v := .agg #[.string ⟨o.toArray⟩, .string ⟨u.toArray⟩, (.slice a k.len c)]) (by simp [results, Tryz.results254, go_sem, g0, g1, g2]) rfl ?_; exact St.fin (Hid.out HSZ) (Hid.out HK3) hM)
set_option maxHeartbeats 4000000 in
theorem command_exit (n : Nat) (I : Inn) (hI : InC n I) (w : World) (R : Nat) (s : PS) (h : PW w R n s) :
    Calls Tryz.prog 254 #[.pointer (some ⟨R, 0, none⟩), .string ⟨#[101, 120, 105, 116]⟩] w (Ans w R n (leaving [101, 120, 105, 116] I s)) := by
  have HS0 := Lib.hid (St.init h)
  have HC := Lib.hid (fun W R (hw : PW W R n s) => leaving_all n I hI [101, 120, 105, 116] W R s hw)
  generalize leaving [101, 120, 105, 116] I s = q at *
  obtain ⟨⟨o, u, k⟩, s2⟩ := q
  clear h hI
  go_enter Tryz.func254, Tryz.ntmps254
  go_wp2_with ((have hz := HS0; clear hz; go_at_call 262; go_must (refine (Hid.out HC _ _ ((St.pw (Hid.out HS0)).move (by (repeat (first | exact Frm.refl _ _ | assumption | refine Frm.alloc ?_ _ | refine Frm.drew ?_))))).mono ?_; rintro e w3 ⟨a, c, rfl, hk, hp, hf⟩; dsimp only at hk hp; have HSZ := Lib.hid (St.go (Hid.out HS0) (Frm.trans (by (repeat (first | exact Frm.refl _ _ | assumption | refine Frm.alloc ?_ _ | refine Frm.drew ?_))) hf) hp); have HK3 := Lib.hid (St.new (Hid.out HS0) (by (repeat (first | exact Frm.refl _ _ | assumption | refine Frm.alloc ?_ _ | refine Frm.drew ?_))) hk); clear hp hf hk)); (have x0 := Box.cell (St.box (Hid.out HSZ)) 0; have x1 := Box.cell (St.box (Hid.out HSZ)) 1; have x2 := Box.cell (St.box (Hid.out HSZ)) 2; have y0 := Box.f (St.box (Hid.out HSZ)) 0; have y1 := Box.f (St.box (Hid.out HSZ)) 1; have y2 := Box.f (St.box (Hid.out HSZ)) 2))
  (have hB := (set3 (St.box (Hid.out HSZ)) (St.frm (Hid.out HSZ)) (Nat.le_refl _) (.string ⟨o.toArray⟩) (.string ⟨u.toArray⟩) (.slice a k.len c)).1; have hM := set3m (w1 := w3) (b := w.heap.size) (.string ⟨o.toArray⟩) (.string ⟨u.toArray⟩) (.slice a k.len c); clear x0 x1 x2 y0 y1 y2; generalize World.setCell (World.setCell (World.setCell w3 ⟨w.heap.size, 0, none⟩ (.string ⟨o.toArray⟩)) ⟨w.heap.size, 1, none⟩ (.string ⟨u.toArray⟩)) ⟨w.heap.size, 2, none⟩ (.slice a k.len c) = X at *; have g0 := hB.cell 0; have g1 := hB.cell 1; have g2 := hB.cell 2; refine bodyPost_ret (v := .agg #[.string ⟨o.toArray⟩, .string ⟨u.toArray⟩, (.slice a k.len c)]) (by simp [results, Tryz.results254, go_sem, g0, g1, g2]) rfl ?_; exact St.fin (Hid.out HSZ) (Hid.out HK3) hM)
set_option maxHeartbeats 4000000 in
theorem command_return_f (n : Nat) (I : Inn) (hI : InC n I) (w : World) (R : Nat) (s : PS) (h : PW w R n s) (hk : s.k = [102, 117, 110, 99, 116, 105, 111, 110]) :
    Calls Tryz.prog 254 #[.pointer (some ⟨R, 0, none⟩), .string ⟨#[114, 101, 116, 117, 114, 110]⟩] w (Ans w R n (leaving [114, 101, 116, 117, 114, 110] I s)) := by
  have HS0 := Lib.hid (St.init h)
  have HC := Lib.hid (fun W R (hw : PW W R n s) => leaving_all n I hI [114, 101, 116, 117, 114, 110] W R s hw)
  generalize leaving [114, 101, 116, 117, 114, 110] I s = q at *
  obtain ⟨⟨o, u, k⟩, s2⟩ := q
  have c3 := (PW.kindc (St.pw (HS0.out))).trans (by rw [hk] : _ = some (.string ⟨#[102, 117, 110, 99, 116, 105, 111, 110]⟩))
  have hz0 := PW.lt (St.pw (HS0.out))
  clear hk
  clear h hI
  go_enter Tryz.func254, Tryz.ntmps254
  go_wp2_with ((have hz := HS0; clear hz; go_at_call 262; go_must (refine (Hid.out HC _ _ ((St.pw (Hid.out HS0)).move (by (repeat (first | exact Frm.refl _ _ | assumption | refine Frm.alloc ?_ _ | refine Frm.drew ?_))))).mono ?_; rintro e w3 ⟨a, c, rfl, hk, hp, hf⟩; dsimp only at hk hp; have HSZ := Lib.hid (St.go (Hid.out HS0) (Frm.trans (by (repeat (first | exact Frm.refl _ _ | assumption | refine Frm.alloc ?_ _ | refine Frm.drew ?_))) hf) hp); have HK3 := Lib.hid (St.new (Hid.out HS0) (by (repeat (first | exact Frm.refl _ _ | assumption | refine Frm.alloc ?_ _ | refine Frm.drew ?_))) hk); clear hp hf hk)); (have x0 := Box.cell (St.box (Hid.out HSZ)) 0; have x1 := Box.cell (St.box (Hid.out HSZ)) 1; have x2 := Box.cell (St.box (Hid.out HSZ)) 2; have y0 := Box.f (St.box (Hid.out HSZ)) 0; have y1 := Box.f (St.box (Hid.out HSZ)) 1; have y2 := Box.f (St.box (Hid.out HSZ)) 2))
  (have hB := (set3 (St.box (Hid.out HSZ)) (St.frm (Hid.out HSZ)) (Nat.le_refl _) (.string ⟨o.toArray⟩) (.string ⟨u.toArray⟩) (.slice a k.len c)).1; have hM := set3m (w1 := w3) (b := w.heap.size) (.string ⟨o.toArray⟩) (.string ⟨u.toArray⟩) (.slice a k.len c); clear x0 x1 x2 y0 y1 y2; generalize World.setCell (World.setCell (World.setCell w3 ⟨w.heap.size, 0, none⟩ (.string ⟨o.toArray⟩)) ⟨w.heap.size, 1, none⟩ (.string ⟨u.toArray⟩)) ⟨w.heap.size, 2, none⟩ (.slice a k.len c) = X at *; have g0 := hB.cell 0; have g1 := hB.cell 1; have g2 := hB.cell 2; refine bodyPost_ret (v := .agg #[.string ⟨o.toArray⟩, .string ⟨u.toArray⟩, (.slice a k.len c)]) (by simp [results, Tryz.results254, go_sem, g0, g1, g2]) rfl ?_; exact St.fin (Hid.out HSZ) (Hid.out HK3) hM)
set_option maxHeartbeats 4000000 in
theorem command_return_n (n : Nat) (I : Inn) (hI : InC n I) (w : World) (R : Nat) (s : PS) (h : PW w R n s) (hk : ¬ s.k = [102, 117, 110, 99, 116, 105, 111, 110]) :
    Calls Tryz.prog 254 #[.pointer (some ⟨R, 0, none⟩), .string ⟨#[114, 101, 116, 117, 114, 110]⟩] w (Ans w R n (failN s)) := by
  have HS0 := Lib.hid (St.init h)
  have HFL := Lib.hid (fun W R (hw : PW W R n s) => fail_all W R n s hw)
  have b0 : (s.k == [102, 117, 110, 99, 116, 105, 111, 110]) = false := by rw [beq_eq_false_iff_ne]; exact hk
  have c3 := PW.kindc (St.pw (HS0.out))
  have hz0 := PW.lt (St.pw (HS0.out))
  generalize s.k = kk at *
  clear h hI
  go_enter Tryz.func254, Tryz.ntmps254
  go_wp2_with ((have hz := HS0; clear hz; go_at_call 194; go_must (refine (Hid.out HFL _ _ ((St.pw (Hid.out HS0)).move (by (repeat (first | exact Frm.refl _ _ | assumption | refine Frm.alloc ?_ _ | refine Frm.drew ?_))))).mono ?_; rintro e w3 ⟨rfl, hp, hf⟩; have HSZ := Lib.hid (St.go (Hid.out HS0) (Frm.trans (by (repeat (first | exact Frm.refl _ _ | assumption | refine Frm.alloc ?_ _ | refine Frm.drew ?_))) hf) hp); clear hp hf)); have HK3 := Lib.hid (KV.nil w3 (fun g => w.heap.size + 1 ≤ g)); (have x0 := Box.cell (St.box (Hid.out HSZ)) 0; have x1 := Box.cell (St.box (Hid.out HSZ)) 1; have x2 := Box.cell (St.box (Hid.out HSZ)) 2; have y0 := Box.f (St.box (Hid.out HSZ)) 0; have y1 := Box.f (St.box (Hid.out HSZ)) 1; have y2 := Box.f (St.box (Hid.out HSZ)) 2))
  (have hB := (set3 (St.box (Hid.out HSZ)) (St.frm (Hid.out HSZ)) (Nat.le_refl _) (.string ⟨#[110, 111, 110, 101]⟩) (.string ⟨#[]⟩) (.slice none 0 0)).1; have hM := set3m (w1 := w3) (b := w.heap.size) (.string ⟨#[110, 111, 110, 101]⟩) (.string ⟨#[]⟩) (.slice none 0 0); clear x0 x1 x2 y0 y1 y2; generalize World.setCell (World.setCell (World.setCell w3 ⟨w.heap.size, 0, none⟩ (.string ⟨#[110, 111, 110, 101]⟩)) ⟨w.heap.size, 1, none⟩ (.string ⟨#[]⟩)) ⟨w.heap.size, 2, none⟩ (.slice none 0 0) = X at *; have g0 := hB.cell 0; have g1 := hB.cell 1; have g2 := hB.cell 2; refine bodyPost_ret (v := .agg #[.string ⟨#[110, 111, 110, 101]⟩, .string ⟨#[]⟩, (.slice none 0 0)]) (by simp [results, Tryz.results254, go_sem, g0, g1, g2]) rfl ?_; exact St.fin (Hid.out HSZ) (Hid.out HK3) hM)
set_option maxHeartbeats 4000000 in
theorem command_next_t (n : Nat) (I : Inn) (hI : InC n I) (w : World) (R : Nat) (s : PS) (h : PW w R n s) (hk : s.k = [114, 117, 108, 101]) :
    Calls Tryz.prog 254 #[.pointer (some ⟨R, 0, none⟩), .string ⟨#[110, 101, 120, 116]⟩] w (Ans w R n (⟨[110, 101, 120, 116], [], .nil⟩, s)) := by
  have HS0 := Lib.hid (St.init h)
  have c3 := (PW.kindc (St.pw (HS0.out))).trans (by rw [hk] : _ = some (.string ⟨#[114, 117, 108, 101]⟩))
  have hz0 := PW.lt (St.pw (HS0.out))
  clear hk
  clear h hI
  go_enter Tryz.func254, Tryz.ntmps254
  go_wp2_with ((have hz := HS0; clear hz; go_at_call 110; go_must (refine (node_all _ _ _ _ _ _).mono ?_; rintro e w3 ⟨rfl, hf⟩; have HK3 := Lib.hid (KV.nil w3 (fun g => w.heap.size + 1 ≤ g)); have HSZ := Lib.hid (St.move (Hid.out HS0) (Frm.trans (by (repeat (first | exact Frm.refl _ _ | assumption | refine Frm.alloc ?_ _ | refine Frm.drew ?_))) hf)); clear hf; (have x0 := Box.cell (St.box (Hid.out HSZ)) 0; have x1 := Box.cell (St.box (Hid.out HSZ)) 1; have x2 := Box.cell (St.box (Hid.out HSZ)) 2; have y0 := Box.f (St.box (Hid.out HSZ)) 0; have y1 := Box.f (St.box (Hid.out HSZ)) 1; have y2 := Box.f (St.box (Hid.out HSZ)) 2))))
  (have hB := (set3 (St.box (Hid.out HSZ)) (St.frm (Hid.out HSZ)) (Nat.le_refl _) (.string ⟨#[110, 101, 120, 116]⟩) (.string ⟨#[]⟩) (.slice none 0 0)).1; have hM := set3m (w1 := w3) (b := w.heap.size) (.string ⟨#[110, 101, 120, 116]⟩) (.string ⟨#[]⟩) (.slice none 0 0); clear x0 x1 x2 y0 y1 y2; generalize World.setCell (World.setCell (World.setCell w3 ⟨w.heap.size, 0, none⟩ (.string ⟨#[110, 101, 120, 116]⟩)) ⟨w.heap.size, 1, none⟩ (.string ⟨#[]⟩)) ⟨w.heap.size, 2, none⟩ (.slice none 0 0) = X at *; have g0 := hB.cell 0; have g1 := hB.cell 1; have g2 := hB.cell 2; refine bodyPost_ret (v := .agg #[.string ⟨#[110, 101, 120, 116]⟩, .string ⟨#[]⟩, (.slice none 0 0)]) (by simp [results, Tryz.results254, go_sem, g0, g1, g2]) rfl ?_; exact St.fin (Hid.out HSZ) (Hid.out HK3) hM)
set_option maxHeartbeats 4000000 in
theorem command_next_n (n : Nat) (I : Inn) (hI : InC n I) (w : World) (R : Nat) (s : PS) (h : PW w R n s) (hk : ¬ s.k = [114, 117, 108, 101]) :
    Calls Tryz.prog 254 #[.pointer (some ⟨R, 0, none⟩), .string ⟨#[110, 101, 120, 116]⟩] w (Ans w R n (failN s)) := by
  have HS0 := Lib.hid (St.init h)
  have HFL := Lib.hid (fun W R (hw : PW W R n s) => fail_all W R n s hw)
  have b0 : (s.k == [114, 117, 108, 101]) = false := by rw [beq_eq_false_iff_ne]; exact hk
  have c3 := PW.kindc (St.pw (HS0.out))
  have hz0 := PW.lt (St.pw (HS0.out))
  generalize s.k = kk at *
  clear h hI
  go_enter Tryz.func254, Tryz.ntmps254
  go_wp2_with ((have hz := HS0; clear hz; go_at_call 194; go_must (refine (Hid.out HFL _ _ ((St.pw (Hid.out HS0)).move (by (repeat (first | exact Frm.refl _ _ | assumption | refine Frm.alloc ?_ _ | refine Frm.drew ?_))))).mono ?_; rintro e w3 ⟨rfl, hp, hf⟩; have HSZ := Lib.hid (St.go (Hid.out HS0) (Frm.trans (by (repeat (first | exact Frm.refl _ _ | assumption | refine Frm.alloc ?_ _ | refine Frm.drew ?_))) hf) hp); clear hp hf)); have HK3 := Lib.hid (KV.nil w3 (fun g => w.heap.size + 1 ≤ g)); (have x0 := Box.cell (St.box (Hid.out HSZ)) 0; have x1 := Box.cell (St.box (Hid.out HSZ)) 1; have x2 := Box.cell (St.box (Hid.out HSZ)) 2; have y0 := Box.f (St.box (Hid.out HSZ)) 0; have y1 := Box.f (St.box (Hid.out HSZ)) 1; have y2 := Box.f (St.box (Hid.out HSZ)) 2))
  (have hB := (set3 (St.box (Hid.out HSZ)) (St.frm (Hid.out HSZ)) (Nat.le_refl _) (.string ⟨#[110, 111, 110, 101]⟩) (.string ⟨#[]⟩) (.slice none 0 0)).1; have hM := set3m (w1 := w3) (b := w.heap.size) (.string ⟨#[110, 111, 110, 101]⟩) (.string ⟨#[]⟩) (.slice none 0 0); clear x0 x1 x2 y0 y1 y2; generalize World.setCell (World.setCell (World.setCell w3 ⟨w.heap.size, 0, none⟩ (.string ⟨#[110, 111, 110, 101]⟩)) ⟨w.heap.size, 1, none⟩ (.string ⟨#[]⟩)) ⟨w.heap.size, 2, none⟩ (.slice none 0 0) = X at *; have g0 := hB.cell 0; have g1 := hB.cell 1; have g2 := hB.cell 2; refine bodyPost_ret (v := .agg #[.string ⟨#[110, 111, 110, 101]⟩, .string ⟨#[]⟩, (.slice none 0 0)]) (by simp [results, Tryz.results254, go_sem, g0, g1, g2]) rfl ?_; exact St.fin (Hid.out HSZ) (Hid.out HK3) hM)
set_option maxHeartbeats 4000000 in
theorem command_break_t (n : Nat) (I : Inn) (hI : InC n I) (w : World) (R : Nat) (s : PS) (h : PW w R n s) (hl : 0 < s.l) :
    Calls Tryz.prog 254 #[.pointer (some ⟨R, 0, none⟩), .string ⟨#[98, 114, 101, 97, 107]⟩] w (Ans w R n (⟨[98, 114, 101, 97, 107], [], .nil⟩, s)) := by
  have HS0 := Lib.hid (St.init h)
  have b0 : decide ((0 : Int) < s.l) = true := by rw [decide_eq_true_iff]; exact hl
  have c4 := PW.loops (St.pw (HS0.out))
  have hz0 := PW.lt (St.pw (HS0.out))
  clear h hI
  go_enter Tryz.func254, Tryz.ntmps254
  go_wp2_with ((have hz := HS0; clear hz; go_at_call 110; go_must (refine (node_all _ _ _ _ _ _).mono ?_; rintro e w3 ⟨rfl, hf⟩; have HK3 := Lib.hid (KV.nil w3 (fun g => w.heap.size + 1 ≤ g)); have HSZ := Lib.hid (St.move (Hid.out HS0) (Frm.trans (by (repeat (first | exact Frm.refl _ _ | assumption | refine Frm.alloc ?_ _ | refine Frm.drew ?_))) hf)); clear hf; (have x0 := Box.cell (St.box (Hid.out HSZ)) 0; have x1 := Box.cell (St.box (Hid.out HSZ)) 1; have x2 := Box.cell (St.box (Hid.out HSZ)) 2; have y0 := Box.f (St.box (Hid.out HSZ)) 0; have y1 := Box.f (St.box (Hid.out HSZ)) 1; have y2 := Box.f (St.box (Hid.out HSZ)) 2))))
  (have hB := (set3 (St.box (Hid.out HSZ)) (St.frm (Hid.out HSZ)) (Nat.le_refl _) (.string ⟨#[98, 114, 101, 97, 107]⟩) (.string ⟨#[]⟩) (.slice none 0 0)).1; have hM := set3m (w1 := w3) (b := w.heap.size) (.string ⟨#[98, 114, 101, 97, 107]⟩) (.string ⟨#[]⟩) (.slice none 0 0); clear x0 x1 x2 y0 y1 y2; generalize World.setCell (World.setCell (World.setCell w3 ⟨w.heap.size, 0, none⟩ (.string ⟨#[98, 114, 101, 97, 107]⟩)) ⟨w.heap.size, 1, none⟩ (.string ⟨#[]⟩)) ⟨w.heap.size, 2, none⟩ (.slice none 0 0) = X at *; have g0 := hB.cell 0; have g1 := hB.cell 1; have g2 := hB.cell 2; refine bodyPost_ret (v := .agg #[.string ⟨#[98, 114, 101, 97, 107]⟩, .string ⟨#[]⟩, (.slice none 0 0)]) (by simp [results, Tryz.results254, go_sem, g0, g1, g2]) rfl ?_; exact St.fin (Hid.out HSZ) (Hid.out HK3) hM)
set_option maxHeartbeats 4000000 in
theorem command_break_n (n : Nat) (I : Inn) (hI : InC n I) (w : World) (R : Nat) (s : PS) (h : PW w R n s) (hl : ¬ 0 < s.l) :
    Calls Tryz.prog 254 #[.pointer (some ⟨R, 0, none⟩), .string ⟨#[98, 114, 101, 97, 107]⟩] w (Ans w R n (failN s)) := by
  have HS0 := Lib.hid (St.init h)
  have HFL := Lib.hid (fun W R (hw : PW W R n s) => fail_all W R n s hw)
  have b0 : decide ((0 : Int) < s.l) = false := by rw [decide_eq_false_iff_not]; exact hl
  have b1 : s.l ≤ 0 := by omega
  clear hl
  have c4 := PW.loops (St.pw (HS0.out))
  have hz0 := PW.lt (St.pw (HS0.out))
  clear h hI
  go_enter Tryz.func254, Tryz.ntmps254
  go_wp2_with ((have hz := HS0; clear hz; go_at_call 194; go_must (refine (Hid.out HFL _ _ ((St.pw (Hid.out HS0)).move (by (repeat (first | exact Frm.refl _ _ | assumption | refine Frm.alloc ?_ _ | refine Frm.drew ?_))))).mono ?_; rintro e w3 ⟨rfl, hp, hf⟩; have HSZ := Lib.hid (St.go (Hid.out HS0) (Frm.trans (by (repeat (first | exact Frm.refl _ _ | assumption | refine Frm.alloc ?_ _ | refine Frm.drew ?_))) hf) hp); clear hp hf)); have HK3 := Lib.hid (KV.nil w3 (fun g => w.heap.size + 1 ≤ g)); (have x0 := Box.cell (St.box (Hid.out HSZ)) 0; have x1 := Box.cell (St.box (Hid.out HSZ)) 1; have x2 := Box.cell (St.box (Hid.out HSZ)) 2; have y0 := Box.f (St.box (Hid.out HSZ)) 0; have y1 := Box.f (St.box (Hid.out HSZ)) 1; have y2 := Box.f (St.box (Hid.out HSZ)) 2))
  (have hB := (set3 (St.box (Hid.out HSZ)) (St.frm (Hid.out HSZ)) (Nat.le_refl _) (.string ⟨#[110, 111, 110, 101]⟩) (.string ⟨#[]⟩) (.slice none 0 0)).1; have hM := set3m (w1 := w3) (b := w.heap.size) (.string ⟨#[110, 111, 110, 101]⟩) (.string ⟨#[]⟩) (.slice none 0 0); clear x0 x1 x2 y0 y1 y2; generalize World.setCell (World.setCell (World.setCell w3 ⟨w.heap.size, 0, none⟩ (.string ⟨#[110, 111, 110, 101]⟩)) ⟨w.heap.size, 1, none⟩ (.string ⟨#[]⟩)) ⟨w.heap.size, 2, none⟩ (.slice none 0 0) = X at *; have g0 := hB.cell 0; have g1 := hB.cell 1; have g2 := hB.cell 2; refine bodyPost_ret (v := .agg #[.string ⟨#[110, 111, 110, 101]⟩, .string ⟨#[]⟩, (.slice none 0 0)]) (by simp [results, Tryz.results254, go_sem, g0, g1, g2]) rfl ?_; exact St.fin (Hid.out HSZ) (Hid.out HK3) hM)
set_option maxHeartbeats 4000000 in
theorem command_continue_t (n : Nat) (I : Inn) (hI : InC n I) (w : World) (R : Nat) (s : PS) (h : PW w R n s) (hl : 0 < s.l) :
    Calls Tryz.prog 254 #[.pointer (some ⟨R, 0, none⟩), .string ⟨#[99, 111, 110, 116, 105, 110, 117, 101]⟩] w (Ans w R n (⟨[99, 111, 110, 116, 105, 110, 117, 101], [], .nil⟩, s)) := by
  have HS0 := Lib.hid (St.init h)
  have b0 : decide ((0 : Int) < s.l) = true := by rw [decide_eq_true_iff]; exact hl
  have c4 := PW.loops (St.pw (HS0.out))
  have hz0 := PW.lt (St.pw (HS0.out))
  clear h hI
  go_enter Tryz.func254, Tryz.ntmps254
  go_wp2_with ((have hz := HS0; clear hz; go_at_call 110; go_must (refine (node_all _ _ _ _ _ _).mono ?_; rintro e w3 ⟨rfl, hf⟩; have HK3 := Lib.hid (KV.nil w3 (fun g => w.heap.size + 1 ≤ g)); have HSZ := Lib.hid (St.move (Hid.out HS0) (Frm.trans (by (repeat (first | exact Frm.refl _ _ | assumption | refine Frm.alloc ?_ _ | refine Frm.drew ?_))) hf)); clear hf; (have x0 := Box.cell (St.box (Hid.out HSZ)) 0; have x1 := Box.cell (St.box (Hid.out HSZ)) 1; have x2 := Box.cell (St.box (Hid.out HSZ)) 2; have y0 := Box.f (St.box (Hid.out HSZ)) 0; have y1 := Box.f (St.box (Hid.out HSZ)) 1; have y2 := Box.f (St.box (Hid.out HSZ)) 2))))
  (have hB := (set3 (St.box (Hid.out HSZ)) (St.frm (Hid.out HSZ)) (Nat.le_refl _) (.string ⟨#[99, 111, 110, 116, 105, 110, 117, 101]⟩) (.string ⟨#[]⟩) (.slice none 0 0)).1; have hM := set3m (w1 := w3) (b := w.heap.size) (.string ⟨#[99, 111, 110, 116, 105, 110, 117, 101]⟩) (.string ⟨#[]⟩) (.slice none 0 0); clear x0 x1 x2 y0 y1 y2; generalize World.setCell (World.setCell (World.setCell w3 ⟨w.heap.size, 0, none⟩ (.string ⟨#[99, 111, 110, 116, 105, 110, 117, 101]⟩)) ⟨w.heap.size, 1, none⟩ (.string ⟨#[]⟩)) ⟨w.heap.size, 2, none⟩ (.slice none 0 0) = X at *; have g0 := hB.cell 0; have g1 := hB.cell 1; have g2 := hB.cell 2; refine bodyPost_ret (v := .agg #[.string ⟨#[99, 111, 110, 116, 105, 110, 117, 101]⟩, .string ⟨#[]⟩, (.slice none 0 0)]) (by simp [results, Tryz.results254, go_sem, g0, g1, g2]) rfl ?_; exact St.fin (Hid.out HSZ) (Hid.out HK3) hM)
set_option maxHeartbeats 4000000 in
theorem command_continue_n (n : Nat) (I : Inn) (hI : InC n I) (w : World) (R : Nat) (s : PS) (h : PW w R n s) (hl : ¬ 0 < s.l) :
    Calls Tryz.prog 254 #[.pointer (some ⟨R, 0, none⟩), .string ⟨#[99, 111, 110, 116, 105, 110, 117, 101]⟩] w (Ans w R n (failN s)) := by
  have HS0 := Lib.hid (St.init h)
  have HFL := Lib.hid (fun W R (hw : PW W R n s) => fail_all W R n s hw)
  have b0 : decide ((0 : Int) < s.l) = false := by rw [decide_eq_false_iff_not]; exact hl
  have b1 : s.l ≤ 0 := by omega
  clear hl
  have c4 := PW.loops (St.pw (HS0.out))
  have hz0 := PW.lt (St.pw (HS0.out))
  clear h hI
  go_enter Tryz.func254, Tryz.ntmps254
  go_wp2_with ((have hz := HS0; clear hz; go_at_call 194; go_must (refine (Hid.out HFL _ _ ((St.pw (Hid.out HS0)).move (by (repeat (first | exact Frm.refl _ _ | assumption | refine Frm.alloc ?_ _ | refine Frm.drew ?_))))).mono ?_; rintro e w3 ⟨rfl, hp, hf⟩; have HSZ := Lib.hid (St.go (Hid.out HS0) (Frm.trans (by (repeat (first | exact Frm.refl _ _ | assumption | refine Frm.alloc ?_ _ | refine Frm.drew ?_))) hf) hp); clear hp hf)); have HK3 := Lib.hid (KV.nil w3 (fun g => w.heap.size + 1 ≤ g)); (have x0 := Box.cell (St.box (Hid.out HSZ)) 0; have x1 := Box.cell (St.box (Hid.out HSZ)) 1; have x2 := Box.cell (St.box (Hid.out HSZ)) 2; have y0 := Box.f (St.box (Hid.out HSZ)) 0; have y1 := Box.f (St.box (Hid.out HSZ)) 1; have y2 := Box.f (St.box (Hid.out HSZ)) 2))
  (have hB := (set3 (St.box (Hid.out HSZ)) (St.frm (Hid.out HSZ)) (Nat.le_refl _) (.string ⟨#[110, 111, 110, 101]⟩) (.string ⟨#[]⟩) (.slice none 0 0)).1; have hM := set3m (w1 := w3) (b := w.heap.size) (.string ⟨#[110, 111, 110, 101]⟩) (.string ⟨#[]⟩) (.slice none 0 0); clear x0 x1 x2 y0 y1 y2; generalize World.setCell (World.setCell (World.setCell w3 ⟨w.heap.size, 0, none⟩ (.string ⟨#[110, 111, 110, 101]⟩)) ⟨w.heap.size, 1, none⟩ (.string ⟨#[]⟩)) ⟨w.heap.size, 2, none⟩ (.slice none 0 0) = X at *; have g0 := hB.cell 0; have g1 := hB.cell 1; have g2 := hB.cell 2; refine bodyPost_ret (v := .agg #[.string ⟨#[110, 111, 110, 101]⟩, .string ⟨#[]⟩, (.slice none 0 0)]) (by simp [results, Tryz.results254, go_sem, g0, g1, g2]) rfl ?_; exact St.fin (Hid.out HSZ) (Hid.out HK3) hM)
set_option maxHeartbeats 4000000 in
theorem command_other (n : Nat) (I : Inn) (hI : InC n I) (w : World) (R : Nat) (s : PS) (h : PW w R n s) (nm : B) (h_print : ¬ nm = [112, 114, 105, 110, 116]) (h_printf : ¬ nm = [112, 114, 105, 110, 116, 102]) (h_delete : ¬ nm = [100, 101, 108, 101, 116, 101]) (h_exit : ¬ nm = [101, 120, 105, 116]) (h_return : ¬ nm = [114, 101, 116, 117, 114, 110]) (h_next : ¬ nm = [110, 101, 120, 116]) (h_break : ¬ nm = [98, 114, 101, 97, 107]) (h_continue : ¬ nm = [99, 111, 110, 116, 105, 110, 117, 101]) :
    Calls Tryz.prog 254 #[.pointer (some ⟨R, 0, none⟩), .string ⟨nm.toArray⟩] w (Ans w R n (failN s)) := by
  have HS0 := Lib.hid (St.init h)
  have HFL := Lib.hid (fun W R (hw : PW W R n s) => fail_all W R n s hw)
  have b_print : (nm == [112, 114, 105, 110, 116]) = false := by rw [beq_eq_false_iff_ne]; exact h_print
  have b_printf : (nm == [112, 114, 105, 110, 116, 102]) = false := by rw [beq_eq_false_iff_ne]; exact h_printf
  have b_delete : (nm == [100, 101, 108, 101, 116, 101]) = false := by rw [beq_eq_false_iff_ne]; exact h_delete
  have b_exit : (nm == [101, 120, 105, 116]) = false := by rw [beq_eq_false_iff_ne]; exact h_exit
  have b_return : (nm == [114, 101, 116, 117, 114, 110]) = false := by rw [beq_eq_false_iff_ne]; exact h_return
  have b_next : (nm == [110, 101, 120, 116]) = false := by rw [beq_eq_false_iff_ne]; exact h_next
  have b_break : (nm == [98, 114, 101, 97, 107]) = false := by rw [beq_eq_false_iff_ne]; exact h_break
  have b_continue : (nm == [99, 111, 110, 116, 105, 110, 117, 101]) = false := by rw [beq_eq_false_iff_ne]; exact h_continue
  clear h_print h_printf h_delete h_exit h_return h_next h_break h_continue
  clear h hI
  go_enter Tryz.func254, Tryz.ntmps254
  go_wp2_with ((have hz := HS0; clear hz; go_at_call 194; go_must (refine (Hid.out HFL _ _ ((St.pw (Hid.out HS0)).move (by (repeat (first | exact Frm.refl _ _ | assumption | refine Frm.alloc ?_ _ | refine Frm.drew ?_))))).mono ?_; rintro e w3 ⟨rfl, hp, hf⟩; have HSZ := Lib.hid (St.go (Hid.out HS0) (Frm.trans (by (repeat (first | exact Frm.refl _ _ | assumption | refine Frm.alloc ?_ _ | refine Frm.drew ?_))) hf) hp); clear hp hf)); have HK3 := Lib.hid (KV.nil w3 (fun g => w.heap.size + 1 ≤ g)); (have x0 := Box.cell (St.box (Hid.out HSZ)) 0; have x1 := Box.cell (St.box (Hid.out HSZ)) 1; have x2 := Box.cell (St.box (Hid.out HSZ)) 2; have y0 := Box.f (St.box (Hid.out HSZ)) 0; have y1 := Box.f (St.box (Hid.out HSZ)) 1; have y2 := Box.f (St.box (Hid.out HSZ)) 2))
  (have hB := (set3 (St.box (Hid.out HSZ)) (St.frm (Hid.out HSZ)) (Nat.le_refl _) (.string ⟨#[110, 111, 110, 101]⟩) (.string ⟨#[]⟩) (.slice none 0 0)).1; have hM := set3m (w1 := w3) (b := w.heap.size) (.string ⟨#[110, 111, 110, 101]⟩) (.string ⟨#[]⟩) (.slice none 0 0); clear x0 x1 x2 y0 y1 y2; generalize World.setCell (World.setCell (World.setCell w3 ⟨w.heap.size, 0, none⟩ (.string ⟨#[110, 111, 110, 101]⟩)) ⟨w.heap.size, 1, none⟩ (.string ⟨#[]⟩)) ⟨w.heap.size, 2, none⟩ (.slice none 0 0) = X at *; have g0 := hB.cell 0; have g1 := hB.cell 1; have g2 := hB.cell 2; refine bodyPost_ret (v := .agg #[.string ⟨#[110, 111, 110, 101]⟩, .string ⟨#[]⟩, (.slice none 0 0)]) (by simp [results, Tryz.results254, go_sem, g0, g1, g2]) rfl ?_; exact St.fin (Hid.out HSZ) (Hid.out HK3) hM)
theorem command_all (n : Nat) (I : Inn) (hI : InC n I) (nm : B) (w : World) (R : Nat) (s : PS) (h : PW w R n s) :
    Calls Tryz.prog 254 #[.pointer (some ⟨R, 0, none⟩), .string ⟨nm.toArray⟩] w (Ans w R n (command nm I s)) := by
  unfold command
  by_cases h1 : nm = w_print
  · rw [if_pos (.inl h1)]; subst h1; exact command_print n I hI w R s h
  by_cases h2 : nm = w_printf
  · rw [if_pos (.inr h2)]; subst h2; exact command_printf n I hI w R s h
  rw [if_neg (by rintro (e | e); exact h1 e; exact h2 e)]
  by_cases h3 : nm = w_delete
  · rw [if_pos h3]; subst h3; exact command_delete n I hI w R s h
  rw [if_neg h3]
  by_cases h4 : nm = w_exit
  · rw [if_pos h4]; subst h4; exact command_exit n I hI w R s h
  rw [if_neg h4]
  by_cases h5 : nm = w_return
  · rw [if_pos h5]; subst h5
    by_cases hk : s.k = w_function
    · rw [if_pos hk]; exact command_return_f n I hI w R s h hk
    · rw [if_neg hk]; exact command_return_n n I hI w R s h hk
  rw [if_neg h5]
  by_cases h6 : nm = w_next
  · rw [if_pos h6]; subst h6
    by_cases hk : s.k = w_rule
    · rw [if_pos hk]; exact command_next_t n I hI w R s h hk
    · rw [if_neg hk]; exact command_next_n n I hI w R s h hk
  rw [if_neg h6]
  by_cases h7 : nm = w_break
  · rw [if_pos (.inl h7)]; subst h7
    by_cases hl : 0 < s.l
    · rw [if_pos hl]; exact command_break_t n I hI w R s h hl
    · rw [if_neg hl]; exact command_break_n n I hI w R s h hl
  by_cases h8 : nm = w_continue
  · rw [if_pos (.inr h8)]; subst h8
    by_cases hl : 0 < s.l
    · rw [if_pos hl]; exact command_continue_t n I hI w R s h hl
    · rw [if_neg hl]; exact command_continue_n n I hI w R s h hl
  rw [if_neg (by rintro (e | e); exact h7 e; exact h8 e)]
  exact command_other n I hI w R s h nm h1 h2 h3 h4 h5 h6 h7 h8

set_option maxHeartbeats 4000000 in
theorem simple_all (n : Nat) (I : Inn) (hI : InC n I) : RC 236 n (simple I) := by
  intro w R s h
  have HS0 := Lib.hid (St.init h)
  have HP := Lib.hid (fun W R (hw : PW W R n s) => peek_v n s W R hw)
  unfold simple
  have HN := Lib.hid (fun W R (hw : PW W R n s) => next_v n s W R hw)
  generalize peek s = T at *
  obtain ⟨pk, pt⟩ := T
  dsimp only at HP HN ⊢
  by_cases hk : pk = kWord
  · rw [if_pos hk]
    have HC := Lib.hid (fun W R (hw : PW W R n (nextS s)) => command_all n I hI pt W R (nextS s) hw)
    generalize command pt I (nextS s) = q at *
    obtain ⟨⟨o, u, k⟩, s2⟩ := q
    subst hk
    unfold kWord at *
    clear h hI
    go_enter Tryz.func236, Tryz.ntmps236
    go_wp2_with (first | ((have hz := HS2; clear hz; go_at_call 254; go_must (refine (Hid.out HC _ _ ((St.pw (Hid.out HS2)).move (by (repeat (first | exact Frm.refl _ _ | assumption | refine Frm.alloc ?_ _ | refine Frm.drew ?_))))).mono ?_; rintro e w3 ⟨a, c, rfl, hk, hp, hf⟩; dsimp only at hk hp; have HSZ := Lib.hid (St.go (Hid.out HS2) (Frm.trans (by (repeat (first | exact Frm.refl _ _ | assumption | refine Frm.alloc ?_ _ | refine Frm.drew ?_))) hf) hp); have HK3 := Lib.hid (St.new (Hid.out HS2) (by (repeat (first | exact Frm.refl _ _ | assumption | refine Frm.alloc ?_ _ | refine Frm.drew ?_))) hk); clear hp hf hk)); (have x0 := Box.cell (St.box (Hid.out HSZ)) 0; have x1 := Box.cell (St.box (Hid.out HSZ)) 1; have x2 := Box.cell (St.box (Hid.out HSZ)) 2; have y0 := Box.f (St.box (Hid.out HSZ)) 0; have y1 := Box.f (St.box (Hid.out HSZ)) 1; have y2 := Box.f (St.box (Hid.out HSZ)) 2)) | ((have hz := HS1; clear hz; go_at_call 107; go_must (refine (Hid.out HN _ _ ((St.pw (Hid.out HS1)).move (by (repeat (first | exact Frm.refl _ _ | assumption | refine Frm.alloc ?_ _ | refine Frm.drew ?_))))).mono ?_; rintro e w2 ⟨rfl, hp, hf⟩; have HS2 := Lib.hid (St.go (Hid.out HS1) (Frm.trans (by (repeat (first | exact Frm.refl _ _ | assumption | refine Frm.alloc ?_ _ | refine Frm.drew ?_))) hf) hp); clear hp hf)); have t0 := Box.cell (St.x1 (Hid.out HS2)) 0; have t1 := Box.cell (St.x1 (Hid.out HS2)) 1; have t2 := Box.lt (St.x1 (Hid.out HS2))) | ((have hz := HS0; clear hz; go_at_call 108; go_must (refine (Hid.out HP _ _ ((St.pw (Hid.out HS0)).move (by (repeat (first | exact Frm.refl _ _ | assumption | refine Frm.alloc ?_ _ | refine Frm.drew ?_))))).mono ?_; rintro e w1 ⟨rfl, hf⟩; have HS1' := Lib.hid (St.move (Hid.out HS0) (Frm.trans (by (repeat (first | exact Frm.refl _ _ | assumption | refine Frm.alloc ?_ _ | refine Frm.drew ?_))) hf)); clear hf)); have HS1 := Lib.hid (St.bx (St.move (Hid.out HS1') (frm1 w1 (.cells #[.string ⟨#[119, 111, 114, 100]⟩, .string ⟨pt.toArray⟩] tT))) (Box.new w1 tT #[.string ⟨#[119, 111, 114, 100]⟩, .string ⟨pt.toArray⟩]) (by decide))))
    (have hB := (set3 (St.box (Hid.out HSZ)) (St.frm (Hid.out HSZ)) (Nat.le_refl _) (.string ⟨o.toArray⟩) (.string ⟨u.toArray⟩) (.slice a k.len c)).1; have hM := set3m (w1 := w3) (b := w.heap.size) (.string ⟨o.toArray⟩) (.string ⟨u.toArray⟩) (.slice a k.len c); clear x0 x1 x2 y0 y1 y2; generalize World.setCell (World.setCell (World.setCell w3 ⟨w.heap.size, 0, none⟩ (.string ⟨o.toArray⟩)) ⟨w.heap.size, 1, none⟩ (.string ⟨u.toArray⟩)) ⟨w.heap.size, 2, none⟩ (.slice a k.len c) = X at *; have g0 := hB.cell 0; have g1 := hB.cell 1; have g2 := hB.cell 2; refine bodyPost_ret (v := .agg #[.string ⟨o.toArray⟩, .string ⟨u.toArray⟩, (.slice a k.len c)]) (by simp [results, Tryz.results236, go_sem, g0, g1, g2]) rfl ?_; exact St.fin (Hid.out HSZ) (Hid.out HK3) hM)
  · rw [if_neg hk]
    have b0 : (pk == [119, 111, 114, 100]) = false := by rw [beq_eq_false_iff_ne]; exact hk
    have HI := Lib.hid (fun W R (hw : PW W R n s) => hI.expr W R s hw)
    generalize I .expr s = q at *
    obtain ⟨⟨o, u, k⟩, s2⟩ := q
    clear h hI hk HN
    go_enter Tryz.func236, Tryz.ntmps236
    go_wp2_with (first | ((have hz := HS2; clear hz; go_at_call 110; go_must (refine (node_all _ _ _ _ _ _).mono ?_; rintro e w3 ⟨rfl, hf⟩; have HK3 := Lib.hid (kids1e HK2.out (St.size (Hid.out HS2)) (Frm.trans (by (repeat (first | exact Frm.refl _ _ | assumption | refine Frm.alloc ?_ _ | refine Frm.drew ?_))) hf)); have HSZ := Lib.hid (St.move (Hid.out HS2) (Frm.trans (by (repeat (first | exact Frm.refl _ _ | assumption | refine Frm.alloc ?_ _ | refine Frm.drew ?_))) hf)); clear hf; (have x0 := Box.cell (St.box (Hid.out HSZ)) 0; have x1 := Box.cell (St.box (Hid.out HSZ)) 1; have x2 := Box.cell (St.box (Hid.out HSZ)) 2; have y0 := Box.f (St.box (Hid.out HSZ)) 0; have y1 := Box.f (St.box (Hid.out HSZ)) 1; have y2 := Box.f (St.box (Hid.out HSZ)) 2)))) | ((have hz := HS1; clear hz; go_at_call 147; go_must (refine (Hid.out HI _ _ ((St.pw (Hid.out HS1)).move (by (repeat (first | exact Frm.refl _ _ | assumption | refine Frm.alloc ?_ _ | refine Frm.drew ?_))))).mono ?_; rintro e w2 ⟨a, c, rfl, hk, hp, hf⟩; dsimp only at hk hp; have HS2 := Lib.hid (St.go (Hid.out HS1) (Frm.trans (by (repeat (first | exact Frm.refl _ _ | assumption | refine Frm.alloc ?_ _ | refine Frm.drew ?_))) hf) hp); have HK2 := Lib.hid (St.new (Hid.out HS1) (by (repeat (first | exact Frm.refl _ _ | assumption | refine Frm.alloc ?_ _ | refine Frm.drew ?_))) hk); clear hp hf hk))) | ((have hz := HS0; clear hz; go_at_call 108; go_must (refine (Hid.out HP _ _ ((St.pw (Hid.out HS0)).move (by (repeat (first | exact Frm.refl _ _ | assumption | refine Frm.alloc ?_ _ | refine Frm.drew ?_))))).mono ?_; rintro e w1 ⟨rfl, hf⟩; have HS1' := Lib.hid (St.move (Hid.out HS0) (Frm.trans (by (repeat (first | exact Frm.refl _ _ | assumption | refine Frm.alloc ?_ _ | refine Frm.drew ?_))) hf)); clear hf)); have HS1 := Lib.hid (St.bx (St.move (Hid.out HS1') (frm1 w1 (.cells #[.string ⟨pk.toArray⟩, .string ⟨pt.toArray⟩] tT))) (Box.new w1 tT #[.string ⟨pk.toArray⟩, .string ⟨pt.toArray⟩]) (by decide))))
    (have hB := (set3 (St.box (Hid.out HSZ)) (St.frm (Hid.out HSZ)) (Nat.le_refl _) (.string ⟨#[101, 120, 112, 114]⟩) (.string ⟨#[]⟩) (.slice (some ⟨w2.heap.size, 0, none⟩) 1 1)).1; have hM := set3m (w1 := w3) (b := w.heap.size) (.string ⟨#[101, 120, 112, 114]⟩) (.string ⟨#[]⟩) (.slice (some ⟨w2.heap.size, 0, none⟩) 1 1); clear x0 x1 x2 y0 y1 y2; generalize World.setCell (World.setCell (World.setCell w3 ⟨w.heap.size, 0, none⟩ (.string ⟨#[101, 120, 112, 114]⟩)) ⟨w.heap.size, 1, none⟩ (.string ⟨#[]⟩)) ⟨w.heap.size, 2, none⟩ (.slice (some ⟨w2.heap.size, 0, none⟩) 1 1) = X at *; have g0 := hB.cell 0; have g1 := hB.cell 1; have g2 := hB.cell 2; refine bodyPost_ret (v := .agg #[.string ⟨#[101, 120, 112, 114]⟩, .string ⟨#[]⟩, (.slice (some ⟨w2.heap.size, 0, none⟩) 1 1)]) (by simp [results, Tryz.results236, go_sem, g0, g1, g2]) rfl ?_; exact St.fin (Hid.out HSZ) (Hid.out HK3) hM)
end Go.Proofs.YtgbibfhacjjaeaaGreat.syn
