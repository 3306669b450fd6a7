/- params, function, ruleBlock. -/
import Derived.Test.YtgbibfhacjjaeaaGreatSynZh
namespace Go.Proofs.YtgbibfhacjjaeaaGreat.syn
set_option maxRecDepth 20000 set_option linter.unusedVariables false set_option linter.unusedSimpArgs false
open Go.ChangeShapes Go.WideShapes Go.ChangeAt Go.RowKit Go.Proofs.YtgbibfhacjjaeaaGreat.base
open Go.Proofs.YtgbibfhacjjaeaaGreat.lexs (Tok kNl kNum kStr kEre kOp kName kFunc kWord kBuilt)

theorem paramsL_stop (k : Nat) (f : Fo) (q : PS) (h : isOp q o_comma = false) : paramsL k f q = (f, q) := by
  cases k <;> simp [paramsL, h]
set_option maxHeartbeats 8000000 in
theorem params_all (n : Nat) : RC 150 n params := by
  intro w R s h
  obtain ⟨i0, hi, hz0, hz1, hz2⟩ := node_parts
  have HS0 := Lib.hid (St.init h)
  have HW := Lib.hid (fun W R (hw : PW W R n s) => want_all W R n s hw o_lpar)
  unfold params
  generalize wantO o_lpar s = s1 at *
  cases hc : isOp s1 o_rpar
  · have HT := Lib.hid (take_f n s1 o_rpar hc)
    rw [if_neg (by decide)]
    have HN := Lib.hid (fun W R (hw : PW W R n s1) => name_all W R n s1 hw)
    generalize name s1 = q0 at *
    obtain ⟨t0, s2⟩ := q0
    dsimp only at HN ⊢
    have HTQ := Lib.hid (fun q hq W R (hw : PW W R n q) => take_f n q o_comma hq W R hw)
    have HTT := Lib.hid (fun q hq W R (hw : PW W R n q) => take_t n q o_comma hq W R hw)
    have HKq := Lib.hid (fun q W R (hw : PW W R n q) => skipLines_all W R n q hw)
    have HNq := Lib.hid (fun q W R (hw : PW W R n q) => name_all W R n q hw)
    have HWq := Lib.hid (fun q W R (hw : PW W R n q) => want_all W R n q hw o_rpar)
    generalize hres : paramsL s2.r.length (Fo.nil.snoc ⟨w_var, t0, .nil⟩) s2 = res
    have HD := Lib.hid hres
    clear h hres hc
    go_enter Tryz.func150, Tryz.ntmps150
    go_wp2_with (first | (have hz := HS3; clear hz; go_at_call 110; go_must (refine (node_all _ _ _ _ _ _).mono ?_; rintro e w4 ⟨rfl, hf⟩; have HS4 := Lib.hid (St.move (Hid.out HS3) (Frm.trans (by (repeat (first | exact Frm.refl _ _ | assumption | refine Frm.alloc ?_ _ | refine Frm.drew ?_))) hf)); clear hf)) | ((have hz := HS2; clear hz; go_at_call 149; go_must (refine (Hid.out HN _ _ ((St.pw (Hid.out HS2)).move (by (repeat (first | exact Frm.refl _ _ | assumption | refine Frm.alloc ?_ _ | refine Frm.drew ?_))))).mono ?_; rintro e w33 ⟨rfl, hp, hf⟩; have HS3 := Lib.hid (St.go (Hid.out HS2) (Frm.trans (by (repeat (first | exact Frm.refl _ _ | assumption | refine Frm.alloc ?_ _ | refine Frm.drew ?_))) hf) hp); clear hp hf))) | ((have hz := HS1; clear hz; go_at_call 146; go_must (refine (Hid.out HT _ _ ((St.pw (Hid.out HS1)).move (by (repeat (first | exact Frm.refl _ _ | assumption | refine Frm.alloc ?_ _ | refine Frm.drew ?_))))).mono ?_; rintro e w2 ⟨rfl, hp, hf⟩; have HS2 := Lib.hid (St.go (Hid.out HS1) (Frm.trans (by (repeat (first | exact Frm.refl _ _ | assumption | refine Frm.alloc ?_ _ | refine Frm.drew ?_))) hf) hp); clear hp hf))) | ((have hz := HS0; clear hz; go_at_call 145; go_must (refine (Hid.out HW _ _ ((St.pw (Hid.out HS0)).move (by (repeat (first | exact Frm.refl _ _ | assumption | refine Frm.alloc ?_ _ | refine Frm.drew ?_))))).mono ?_; rintro e w1 ⟨rfl, hp, hf⟩; have HS1 := Lib.hid (St.go (Hid.out HS0) (Frm.trans (by (repeat (first | exact Frm.refl _ _ | assumption | refine Frm.alloc ?_ _ | refine Frm.drew ?_))) hf) hp); clear hp hf))))
    go_loopg [3] s2.r.length (fun gf lv wx => ∃ (f : Fo) (q : PS) (a : Option Addr) (c : Nat), lv = .slice a f.len c ∧ RowN wx (w.heap.size + 1) a c f ∧ St w wx R n q [] ∧ paramsL gf f q = res ∧ q.r.length ≤ gf ∧ f.len + gf ≤ 100001)
    case atStart =>
      have hl := PW.len (St.pw HS4.out)
      exact ⟨Fo.nil.snoc ⟨[118, 97, 114], t0, .nil⟩, s2, some ⟨w4.heap.size, 0, none⟩, 1, rfl, RowN.built (St.size HS4.out) (KV.nil w4 _), St.move HS4.out (frm1 w4 _), HD.out, Nat.le_refl _, by simp [Fo.len, Fo.snoc]; omega⟩
    case round =>
      obtain ⟨f, q, a, c, rfl, hr, hs, hl, hk, hb⟩ := hrel
      have HR := Lib.hid hr
      have HS5 := Lib.hid hs
      have HL := Lib.hid hl
      have HK := Lib.hid hk
      have HBD := Lib.hid hb
      clear hr hs hl hk hb HS4 HD HN HT HW
      cases hc : isOp q o_comma
      · have HT5 := Lib.hid (HTQ.out q hc)
        have hls := HL.out
        rw [paramsL_stop _ f q hc] at hls
        subst hls
        have HW5 := Lib.hid (HWq.out q)
        generalize hsz : wantO o_rpar q = s9 at *
        clear hc HL HTQ HTT HKq HNq HWq
        go_wp2_with (first | ((have hz := HS7; clear hz; go_at_call 110; go_must (refine (node_all _ _ _ _ _ _).mono ?_; rintro e w3 ⟨rfl, hf⟩; have HK3 := Lib.hid (KV.move (RowN.kv HR7.out) (Frm.trans (by (repeat (first | exact Frm.refl _ _ | assumption | refine Frm.alloc ?_ _ | refine Frm.drew ?_))) hf)); have HSZ := Lib.hid (St.move (Hid.out HS7) (Frm.trans (by (repeat (first | exact Frm.refl _ _ | assumption | refine Frm.alloc ?_ _ | refine Frm.drew ?_))) hf)); clear hf; (have x0 := Box.cell (St.box (Hid.out HSZ)) 0; have x1 := Box.cell (St.box (Hid.out HSZ)) 1; have x2 := Box.cell (St.box (Hid.out HSZ)) 2; have y0 := Box.f (St.box (Hid.out HSZ)) 0; have y1 := Box.f (St.box (Hid.out HSZ)) 1; have y2 := Box.f (St.box (Hid.out HSZ)) 2)))) | (have hz := HS6; clear hz; go_at_call 145; go_must (refine (HW5.out _ _ ((St.pw (Hid.out HS6)).move (by (repeat (first | exact Frm.refl _ _ | assumption | refine Frm.alloc ?_ _ | refine Frm.drew ?_))))).mono ?_; rintro e w7 ⟨rfl, hp, hf⟩; have HR7 := Lib.hid (RowN.at HR6.out (St.pw (Hid.out HS6)) (Frm.trans (by (repeat (first | exact Frm.refl _ _ | assumption | refine Frm.alloc ?_ _ | refine Frm.drew ?_))) hf)); have HS7 := Lib.hid (St.go (s' := s9) (Hid.out HS6) (Frm.trans (by (repeat (first | exact Frm.refl _ _ | assumption | refine Frm.alloc ?_ _ | refine Frm.drew ?_))) hf) hp); clear hp hf)) | (have hz := HS5; clear hz; go_at_call 146; go_must (refine (HT5.out _ _ ((St.pw (Hid.out HS5)).move (by (repeat (first | exact Frm.refl _ _ | assumption | refine Frm.alloc ?_ _ | refine Frm.drew ?_))))).mono ?_; rintro e w6 ⟨rfl, hp, hf⟩; have HS6 := Lib.hid (St.go (Hid.out HS5) (Frm.trans (by (repeat (first | exact Frm.refl _ _ | assumption | refine Frm.alloc ?_ _ | refine Frm.drew ?_))) hf) hp); have HR6 := Lib.hid (RowN.at HR.out (St.pw (Hid.out HS5)) (Frm.trans (by (repeat (first | exact Frm.refl _ _ | assumption | refine Frm.alloc ?_ _ | refine Frm.drew ?_))) hf)); clear hp hf)))
        (have hB := (set3 (St.box (Hid.out HSZ)) (St.frm (Hid.out HSZ)) (Nat.le_refl _) (.string ⟨#[112, 97, 114, 97, 109, 115]⟩) (.string ⟨#[]⟩) (.slice a f.len c)).1; have hM := set3m (w1 := w3) (b := w.heap.size) (.string ⟨#[112, 97, 114, 97, 109, 115]⟩) (.string ⟨#[]⟩) (.slice a f.len c); clear x0 x1 x2 y0 y1 y2; generalize World.setCell (World.setCell (World.setCell w3 ⟨w.heap.size, 0, none⟩ (.string ⟨#[112, 97, 114, 97, 109, 115]⟩)) ⟨w.heap.size, 1, none⟩ (.string ⟨#[]⟩)) ⟨w.heap.size, 2, none⟩ (.slice a f.len c) = X at *; have g0 := hB.cell 0; have g1 := hB.cell 1; have g2 := hB.cell 2; refine bodyPost_ret (v := .agg #[.string ⟨#[112, 97, 114, 97, 109, 115]⟩, .string ⟨#[]⟩, (.slice a f.len c)]) (by simp [results, Tryz.results150, go_sem, g0, g1, g2]) rfl ?_; exact St.fin (Hid.out HSZ) (Hid.out HK3) hM)
      · have HT5 := Lib.hid (HTT.out q hc)
        have hne := ne_of_isOp hc
        obtain ⟨gf, rfl⟩ : ∃ m, gk = m + 1 := by
          cases gk with
          | zero => exact absurd (List.eq_nil_of_length_eq_zero (by have := HK.out; omega)) hne
          | succ m => exact ⟨m, rfl⟩
        have hls := HL.out
        rw [show paramsL (gf + 1) f q = paramsL gf (f.snoc ⟨w_var, (name (skipLines (nextS q))).1, .nil⟩) (name (skipLines (nextS q))).2 from by rw [paramsL, if_pos hc]] at hls
        have hlen : (name (skipLines (nextS q))).2.r.length ≤ gf := by
          have e1 := (name_lt (skipLines (nextS q))).1.1
          have e2 := (skipLines_le (nextS q)).1
          have e3 : (nextS q).r.length = q.r.length - 1 := by unfold nextS; simp
          have e4 := List.length_pos_iff.2 hne
          have := HK.out
          omega
        have HLEN := Lib.hid hlen
        have HLS := Lib.hid hls
        have HK5 := Lib.hid (HKq.out (nextS q))
        have HN5 := Lib.hid (HNq.out (skipLines (nextS q)))
        clear hc hls hlen hne HL HTQ HTT HKq HNq HWq
        generalize skipLines (nextS q) = s7 at *
        generalize name s7 = q1 at *
        obtain ⟨t1, s8⟩ := q1
        dsimp only at HLEN HLS HN5
        go_wp2_with (first | (have hz := HS8; clear hz; go_at_call 110; go_must (refine (node_all _ _ _ _ _ _).mono ?_; rintro e w9 ⟨rfl, hf⟩; have HS9 := Lib.hid (St.move (Hid.out HS8) (Frm.trans (by (repeat (first | exact Frm.refl _ _ | assumption | refine Frm.alloc ?_ _ | refine Frm.drew ?_))) hf)); have HR9 := Lib.hid (RowN.move HR8.out (Frm.trans (by (repeat (first | exact Frm.refl _ _ | assumption | refine Frm.alloc ?_ _ | refine Frm.drew ?_))) hf)); obtain ⟨C, hro, hro2⟩ := HR9.out; have HO := Lib.hid hro; have hsz4 := St.size (Hid.out HS9); clear hf hro hro2)) | (refine wpList_append_lies _ rfl _ _ _ rfl (w.heap.size + 1) tN i0 _ 3 56 Tryz.underlying23 hi hz0 hz1 hz2 rfl (by omega) (.slice a f.len c) f.len C rfl (World.ownsRow.alloc HO.out _) ⟨w9.heap.size, 0, none⟩ 1 1 [.string ⟨#[118, 97, 114]⟩, .string ⟨t1.toArray⟩, .slice none 0 0] rfl rfl (World.news_of_block (heap_alloc_new w9 _)) (by simp [Value.oneCell']) (by omega) (by have := HBD.out; unfold maxLen; omega) (by have := HBD.out; omega) (by simp; omega) (w9.heap.size + 1) (by simp) ?_; intro g gcap w5 hown5 hgrow hat hlt5; obtain ⟨hr5, hs5⟩ := St.more (t := ⟨[118, 97, 114], t1, .nil⟩) (ka := none) (kc := 0) HS9.out HR9.out (KV.nil w9 (fun k => w9.heap.size ≤ k)) hsz4 (fun g hg => RowN.ownlt HR9.out g hg) HO.out hown5 hgrow hat; have HSa := Lib.hid hs5; have HRa := Lib.hid hr5; clear hr5 hs5) | (have hz := HS7; clear hz; go_at_call 149; go_must (refine (HN5.out _ _ ((St.pw (Hid.out HS7)).move (by (repeat (first | exact Frm.refl _ _ | assumption | refine Frm.alloc ?_ _ | refine Frm.drew ?_))))).mono ?_; rintro e w8 ⟨rfl, hp, hf⟩; have HR8 := Lib.hid (RowN.at HR7.out (St.pw (Hid.out HS7)) (Frm.trans (by (repeat (first | exact Frm.refl _ _ | assumption | refine Frm.alloc ?_ _ | refine Frm.drew ?_))) hf)); have HS8 := Lib.hid (St.go (Hid.out HS7) (Frm.trans (by (repeat (first | exact Frm.refl _ _ | assumption | refine Frm.alloc ?_ _ | refine Frm.drew ?_))) hf) hp); clear hp hf)) | (have hz := HS6; clear hz; go_at_call 151; go_must (refine (HK5.out _ _ ((St.pw (Hid.out HS6)).move (by (repeat (first | exact Frm.refl _ _ | assumption | refine Frm.alloc ?_ _ | refine Frm.drew ?_))))).mono ?_; rintro e w7 ⟨rfl, hp, hf⟩; have HR7 := Lib.hid (RowN.at HR6.out (St.pw (Hid.out HS6)) (Frm.trans (by (repeat (first | exact Frm.refl _ _ | assumption | refine Frm.alloc ?_ _ | refine Frm.drew ?_))) hf)); have HS7 := Lib.hid (St.go (Hid.out HS6) (Frm.trans (by (repeat (first | exact Frm.refl _ _ | assumption | refine Frm.alloc ?_ _ | refine Frm.drew ?_))) hf) hp); clear hp hf)) | (have hz := HS5; clear hz; go_at_call 146; go_must (refine (HT5.out _ _ ((St.pw (Hid.out HS5)).move (by (repeat (first | exact Frm.refl _ _ | assumption | refine Frm.alloc ?_ _ | refine Frm.drew ?_))))).mono ?_; rintro e w6 ⟨rfl, hp, hf⟩; have HS6 := Lib.hid (St.go (Hid.out HS5) (Frm.trans (by (repeat (first | exact Frm.refl _ _ | assumption | refine Frm.alloc ?_ _ | refine Frm.drew ?_))) hf) hp); have HR6 := Lib.hid (RowN.at HR.out (St.pw (Hid.out HS5)) (Frm.trans (by (repeat (first | exact Frm.refl _ _ | assumption | refine Frm.alloc ?_ _ | refine Frm.drew ?_))) hf)); clear hp hf)))
        go_roundg gf
        case measure => omega
        case rel => exact ⟨f.snoc ⟨[118, 97, 114], t1, .nil⟩, s8, some ⟨g, 0, none⟩, gcap, by rw [Fo.len_snoc], HRa.out, HSa.out, HLS.out, HLEN.out, by have := HBD.out; rw [Fo.len_snoc]; omega⟩
  · have HT := Lib.hid (take_t n s1 o_rpar hc)
    rw [if_pos rfl]
    clear h hc
    go_enter Tryz.func150, Tryz.ntmps150
    go_wp2_with (first | ((have hz := HS2; clear hz; go_at_call 110; go_must (refine (node_all _ _ _ _ _ _).mono ?_; rintro e w3 ⟨rfl, hf⟩; have HK3 := Lib.hid (KV.nil w3 (fun g => w.heap.size + 1 ≤ g)); have HSZ := Lib.hid (St.move (Hid.out HS2) (Frm.trans (by (repeat (first | exact Frm.refl _ _ | assumption | refine Frm.alloc ?_ _ | refine Frm.drew ?_))) hf)); clear hf; (have x0 := Box.cell (St.box (Hid.out HSZ)) 0; have x1 := Box.cell (St.box (Hid.out HSZ)) 1; have x2 := Box.cell (St.box (Hid.out HSZ)) 2; have y0 := Box.f (St.box (Hid.out HSZ)) 0; have y1 := Box.f (St.box (Hid.out HSZ)) 1; have y2 := Box.f (St.box (Hid.out HSZ)) 2)))) | ((have hz := HS1; clear hz; go_at_call 146; go_must (refine (Hid.out HT _ _ ((St.pw (Hid.out HS1)).move (by (repeat (first | exact Frm.refl _ _ | assumption | refine Frm.alloc ?_ _ | refine Frm.drew ?_))))).mono ?_; rintro e w2 ⟨rfl, hp, hf⟩; have HS2 := Lib.hid (St.go (Hid.out HS1) (Frm.trans (by (repeat (first | exact Frm.refl _ _ | assumption | refine Frm.alloc ?_ _ | refine Frm.drew ?_))) hf) hp); clear hp hf))) | ((have hz := HS0; clear hz; go_at_call 145; go_must (refine (Hid.out HW _ _ ((St.pw (Hid.out HS0)).move (by (repeat (first | exact Frm.refl _ _ | assumption | refine Frm.alloc ?_ _ | refine Frm.drew ?_))))).mono ?_; rintro e w1 ⟨rfl, hp, hf⟩; have HS1 := Lib.hid (St.go (Hid.out HS0) (Frm.trans (by (repeat (first | exact Frm.refl _ _ | assumption | refine Frm.alloc ?_ _ | refine Frm.drew ?_))) hf) hp); clear hp hf))))
    (have hB := (set3 (St.box (Hid.out HSZ)) (St.frm (Hid.out HSZ)) (Nat.le_refl _) (.string ⟨#[112, 97, 114, 97, 109, 115]⟩) (.string ⟨#[]⟩) (.slice none 0 0)).1; have hM := set3m (w1 := w3) (b := w.heap.size) (.string ⟨#[112, 97, 114, 97, 109, 115]⟩) (.string ⟨#[]⟩) (.slice none 0 0); clear x0 x1 x2 y0 y1 y2; generalize World.setCell (World.setCell (World.setCell w3 ⟨w.heap.size, 0, none⟩ (.string ⟨#[112, 97, 114, 97, 109, 115]⟩)) ⟨w.heap.size, 1, none⟩ (.string ⟨#[]⟩)) ⟨w.heap.size, 2, none⟩ (.slice none 0 0) = X at *; have g0 := hB.cell 0; have g1 := hB.cell 1; have g2 := hB.cell 2; refine bodyPost_ret (v := .agg #[.string ⟨#[112, 97, 114, 97, 109, 115]⟩, .string ⟨#[]⟩, (.slice none 0 0)]) (by simp [results, Tryz.results150, go_sem, g0, g1, g2]) rfl ?_; exact St.fin (Hid.out HSZ) (Hid.out HK3) hM)

set_option maxHeartbeats 4000000 in
theorem function_all (n : Nat) (I : Inn) (hI : InC n I) : RC 112 n (function I) := by
  intro w R s h
  have HS0 := Lib.hid (St.init h)
  have HN := Lib.hid (fun W R (hw : PW W R n s) => name_all W R n s hw)
  unfold function
  generalize name s = q at *
  obtain ⟨t, s1⟩ := q
  dsimp only at HN ⊢
  have HP := Lib.hid (fun W R (hw : PW W R n s1) => params_all n W R s1 hw)
  generalize params s1 = q at *
  obtain ⟨⟨o, u, k⟩, s2⟩ := q
  dsimp only
  have HK := Lib.hid (fun W R (hw : PW W R n s2) => skipLines_all W R n s2 hw)
  generalize skipLines s2 = s3 at *
  have HB := Lib.hid (fun W R (hw : PW W R n s3) => block_all n I hI W R s3 hw)
  generalize block I s3 = q at *
  obtain ⟨⟨o2, u2, k2⟩, s4⟩ := q
  dsimp only
  clear h hI
  go_enter Tryz.func112, Tryz.ntmps112
  go_wp2_with (first | ((have hz := HS2; clear hz; go_at_call 151; go_must (refine (Hid.out HK _ _ ((St.pw (Hid.out HS2)).move (by (repeat (first | exact Frm.refl _ _ | assumption | refine Frm.alloc ?_ _ | refine Frm.drew ?_))))).mono ?_; rintro e w4 ⟨rfl, hp, hf⟩; have HS4 := Lib.hid (St.go (Hid.out HS2) (Frm.trans (by (repeat (first | exact Frm.refl _ _ | assumption | refine Frm.alloc ?_ _ | refine Frm.drew ?_))) hf) hp); clear hp hf)); (have l0 := Box.cell (St.b1 (Hid.out HS4)) 0; have l1 := Box.cell (St.b1 (Hid.out HS4)) 1; have l2 := Box.cell (St.b1 (Hid.out HS4)) 2; have hll := Box.lt (St.b1 (Hid.out HS4)))) | ((have hz := HS1; clear hz; go_at_call 150; go_must (refine (Hid.out HP _ _ ((St.pw (Hid.out HS1)).move (by (repeat (first | exact Frm.refl _ _ | assumption | refine Frm.alloc ?_ _ | refine Frm.drew ?_))))).mono ?_; rintro e w2 ⟨a, c, rfl, hk, hp, hf⟩; dsimp only at hk hp; have HS2' := Lib.hid (St.go (Hid.out HS1) (Frm.trans (by (repeat (first | exact Frm.refl _ _ | assumption | refine Frm.alloc ?_ _ | refine Frm.drew ?_))) hf) hp); have HK2 := Lib.hid (St.new (Hid.out HS1) (by (repeat (first | exact Frm.refl _ _ | assumption | refine Frm.alloc ?_ _ | refine Frm.drew ?_))) hk); clear hp hf hk)); have HS2 := Lib.hid (St.nd (Hid.out HS2') o u k HK2.out)) | ((have hz := HS0; clear hz; go_at_call 149; go_must (refine (Hid.out HN _ _ ((St.pw (Hid.out HS0)).move (by (repeat (first | exact Frm.refl _ _ | assumption | refine Frm.alloc ?_ _ | refine Frm.drew ?_))))).mono ?_; rintro e w1 ⟨rfl, hp, hf⟩; have HS1 := Lib.hid (St.go (Hid.out HS0) (Frm.trans (by (repeat (first | exact Frm.refl _ _ | assumption | refine Frm.alloc ?_ _ | refine Frm.drew ?_))) hf) hp); clear hp hf))))
  go_region_with (first | ((have hz := HS4; clear hz; go_at_call 111; go_must (refine (Hid.out HB _ _ ((St.pw (Hid.out HS4)).move (by (repeat (first | exact Frm.refl _ _ | assumption | refine Frm.alloc ?_ _ | refine Frm.drew ?_))))).mono ?_; rintro e w5 ⟨a2, c2, rfl, hk, hp, hf⟩; dsimp only at hk hp; have HS5 := Lib.hid (St.go (Hid.out HS4) (Frm.trans (by (repeat (first | exact Frm.refl _ _ | assumption | refine Frm.alloc ?_ _ | refine Frm.drew ?_))) hf) hp); have HK5 := Lib.hid (St.new (Hid.out HS4) (by (repeat (first | exact Frm.refl _ _ | assumption | refine Frm.alloc ?_ _ | refine Frm.drew ?_))) hk); clear hp hf hk)); (have l0 := Box.cell (St.b1 (Hid.out HS5)) 0; have l1 := Box.cell (St.b1 (Hid.out HS5)) 1; have l2 := Box.cell (St.b1 (Hid.out HS5)) 2; have hll := Box.lt (St.b1 (Hid.out HS5)))) | ((have hz := HS5; clear hz; go_at_call 110; go_must (refine (node_all _ _ _ _ _ _).mono ?_; rintro e w3 ⟨rfl, hf⟩; have HK3 := Lib.hid (kids2e (St.k1 (Hid.out HS5)) HK5.out (St.size (Hid.out HS5)) (Frm.trans (by (repeat (first | exact Frm.refl _ _ | assumption | refine Frm.alloc ?_ _ | refine Frm.drew ?_))) hf)); have HS3 := Lib.hid (St.move (Hid.out HS5) (Frm.trans (by (repeat (first | exact Frm.refl _ _ | assumption | refine Frm.alloc ?_ _ | refine Frm.drew ?_))) hf)); clear hf; (have x0 := Box.cell (St.box (Hid.out HS3)) 0; have x1 := Box.cell (St.box (Hid.out HS3)) 1; have x2 := Box.cell (St.box (Hid.out HS3)) 2; have y0 := Box.f (St.box (Hid.out HS3)) 0; have y1 := Box.f (St.box (Hid.out HS3)) 1; have y2 := Box.f (St.box (Hid.out HS3)) 2)))))
  all_goals (go_wp2_with fail)
  all_goals ((have hB := (set3 (St.box (Hid.out HS3)) (St.frm (Hid.out HS3)) (Nat.le_refl _) (.string ⟨#[102, 117, 110, 99]⟩) (.string ⟨t.toArray⟩) (.slice (some ⟨w5.heap.size, 0, none⟩) 2 2)).1; have hM := set3m (w1 := w3) (b := w.heap.size) (.string ⟨#[102, 117, 110, 99]⟩) (.string ⟨t.toArray⟩) (.slice (some ⟨w5.heap.size, 0, none⟩) 2 2); clear x0 x1 x2 y0 y1 y2; generalize World.setCell (World.setCell (World.setCell w3 ⟨w.heap.size, 0, none⟩ (.string ⟨#[102, 117, 110, 99]⟩)) ⟨w.heap.size, 1, none⟩ (.string ⟨t.toArray⟩)) ⟨w.heap.size, 2, none⟩ (.slice (some ⟨w5.heap.size, 0, none⟩) 2 2) = X at *; have g0 := hB.cell 0; have g1 := hB.cell 1; have g2 := hB.cell 2; refine bodyPost_ret (v := .agg #[.string ⟨#[102, 117, 110, 99]⟩, .string ⟨t.toArray⟩, (.slice (some ⟨w5.heap.size, 0, none⟩) 2 2)]) (by simp [results, Tryz.results112, go_sem, g0, g1, g2]) rfl ?_; exact St.fin (Hid.out HS3) (Hid.out HK3) hM))

theorem done_b (n : Nat) (s : PS) (W : World) (R : Nat) (hw : PW W R n s) : Calls Tryz.prog 60 #[.pointer (some ⟨R, 0, none⟩)] W fun e w' => e = .returned (.bool s.r.isEmpty) ∧ Frm No W w' := by
  refine (done_all W R n s hw).mono ?_
  rintro e w' ⟨rfl, rfl⟩
  refine ⟨?_, Frm.refl _ _⟩
  cases s.r with
  | nil => rfl
  | cons a l =>
    have : (((a :: l).length : Int) == 0) = false := by rw [beq_eq_false_iff_ne]; simp only [List.length_cons]; omega
    rw [this]; rfl

set_option maxHeartbeats 4000000 in
theorem ruleBlock_all (n : Nat) (I : Inn) (hI : InC n I) : RC 154 n (ruleBlock I) := by
  intro w R s h
  have HS0 := Lib.hid (St.init h)
  have HA1 := fun b hb => at_b n s [o_lbrace] (by decide) b hb
  have HD := Lib.hid (fun W R (hw : PW W R n s) => done_b n s W R hw)
  have HE := Lib.hid (fun W R (hw : PW W R n s) => atEnd_all W R n s hw)
  have HFL := Lib.hid (fun W R (hw : PW W R n s) => fail_all W R n s hw)
  unfold ruleBlock
  cases hc : atOp s [o_lbrace]
  · have HA := Lib.hid (HA1 _ hc)
    rw [if_neg (by decide)]
    clear h hI hc HA1
    cases hd : s.r.isEmpty
    · rw [hd] at HD
      cases he : atEnd s
      · rw [he] at HE
        rw [if_neg (by simp)]
        clear hd he
        go_enter Tryz.func154, Tryz.ntmps154
        go_wp2_with (first | (have hz := HS4; clear hz; go_at_call 152; go_must (refine (none_all _).mono ?_; rintro e w3 ⟨rfl, hf⟩; have HSZ := Lib.hid (St.move (Hid.out HS4) (Frm.trans (by (repeat (first | exact Frm.refl _ _ | assumption | refine Frm.alloc ?_ _ | refine Frm.drew ?_))) hf)); have HK3 := Lib.hid (KV.nil w3 (fun g => w.heap.size + 1 ≤ g)); clear hf; (have x0 := Box.cell (St.box (Hid.out HSZ)) 0; have x1 := Box.cell (St.box (Hid.out HSZ)) 1; have x2 := Box.cell (St.box (Hid.out HSZ)) 2; have y0 := Box.f (St.box (Hid.out HSZ)) 0; have y1 := Box.f (St.box (Hid.out HSZ)) 1; have y2 := Box.f (St.box (Hid.out HSZ)) 2))) | ((have hz := HS33; clear hz; go_at_call 194; go_must (refine (Hid.out HFL _ _ ((St.pw (Hid.out HS33)).move (by (repeat (first | exact Frm.refl _ _ | assumption | refine Frm.alloc ?_ _ | refine Frm.drew ?_))))).mono ?_; rintro e w4 ⟨rfl, hp, hf⟩; have HS4 := Lib.hid (St.go (Hid.out HS33) (Frm.trans (by (repeat (first | exact Frm.refl _ _ | assumption | refine Frm.alloc ?_ _ | refine Frm.drew ?_))) hf) hp); clear hp hf))) | ((have hz := HS2; clear hz; go_at_call 106; go_must (refine (Hid.out HE _ _ ((St.pw (Hid.out HS2)).move (by (repeat (first | exact Frm.refl _ _ | assumption | refine Frm.alloc ?_ _ | refine Frm.drew ?_))))).mono ?_; rintro e w33 ⟨rfl, hf⟩; have HS33 := Lib.hid (St.move (Hid.out HS2) (Frm.trans (by (repeat (first | exact Frm.refl _ _ | assumption | refine Frm.alloc ?_ _ | refine Frm.drew ?_))) hf)); clear hf))) | ((have hz := HS1; clear hz; go_at_call 60; go_must (refine (Hid.out HD _ _ ((St.pw (Hid.out HS1)).move (by (repeat (first | exact Frm.refl _ _ | assumption | refine Frm.alloc ?_ _ | refine Frm.drew ?_))))).mono ?_; rintro e w2 ⟨rfl, hf⟩; have HS2 := Lib.hid (St.move (Hid.out HS1) (Frm.trans (by (repeat (first | exact Frm.refl _ _ | assumption | refine Frm.alloc ?_ _ | refine Frm.drew ?_))) hf)); clear hf))) | ((have hz := HS0; clear hz; go_at_call 143; go_must (refine (Hid.out HA _ _ ((St.pw (Hid.out HS0)).move (by (repeat (first | exact Frm.refl _ _ | assumption | refine Frm.alloc ?_ _ | refine Frm.drew ?_)))) _ (by first | exact OpsR.one _ _ _ rfl | exact OpsR.new _ _ _ _ rfl)).mono ?_; rintro e w1 ⟨rfl, hf⟩; have HS1 := Lib.hid (St.move (Hid.out HS0) (Frm.trans (by (repeat (first | exact Frm.refl _ _ | assumption | refine Frm.alloc ?_ _ | refine Frm.drew ?_))) hf)); clear hf))))
        (have hB := (set3 (St.box (Hid.out HSZ)) (St.frm (Hid.out HSZ)) (Nat.le_refl _) (.string ⟨#[110, 111, 110, 101]⟩) (.string ⟨#[]⟩) (.slice none 0 0)).1; have hM := set3m (w1 := w3) (b := w.heap.size) (.string ⟨#[110, 111, 110, 101]⟩) (.string ⟨#[]⟩) (.slice none 0 0); clear x0 x1 x2 y0 y1 y2; generalize World.setCell (World.setCell (World.setCell w3 ⟨w.heap.size, 0, none⟩ (.string ⟨#[110, 111, 110, 101]⟩)) ⟨w.heap.size, 1, none⟩ (.string ⟨#[]⟩)) ⟨w.heap.size, 2, none⟩ (.slice none 0 0) = X at *; have g0 := hB.cell 0; have g1 := hB.cell 1; have g2 := hB.cell 2; refine bodyPost_ret (v := .agg #[.string ⟨#[110, 111, 110, 101]⟩, .string ⟨#[]⟩, (.slice none 0 0)]) (by simp [results, Tryz.results154, go_sem, g0, g1, g2]) rfl ?_; exact St.fin (Hid.out HSZ) (Hid.out HK3) hM)
      · rw [he] at HE
        rw [if_pos (by simp)]
        clear hd he HFL
        go_enter Tryz.func154, Tryz.ntmps154
        go_wp2_with (first | (have hz := HS33; clear hz; go_at_call 152; go_must (refine (none_all _).mono ?_; rintro e w3 ⟨rfl, hf⟩; have HSZ := Lib.hid (St.move (Hid.out HS33) (Frm.trans (by (repeat (first | exact Frm.refl _ _ | assumption | refine Frm.alloc ?_ _ | refine Frm.drew ?_))) hf)); have HK3 := Lib.hid (KV.nil w3 (fun g => w.heap.size + 1 ≤ g)); clear hf; (have x0 := Box.cell (St.box (Hid.out HSZ)) 0; have x1 := Box.cell (St.box (Hid.out HSZ)) 1; have x2 := Box.cell (St.box (Hid.out HSZ)) 2; have y0 := Box.f (St.box (Hid.out HSZ)) 0; have y1 := Box.f (St.box (Hid.out HSZ)) 1; have y2 := Box.f (St.box (Hid.out HSZ)) 2))) | ((have hz := HS2; clear hz; go_at_call 106; go_must (refine (Hid.out HE _ _ ((St.pw (Hid.out HS2)).move (by (repeat (first | exact Frm.refl _ _ | assumption | refine Frm.alloc ?_ _ | refine Frm.drew ?_))))).mono ?_; rintro e w33 ⟨rfl, hf⟩; have HS33 := Lib.hid (St.move (Hid.out HS2) (Frm.trans (by (repeat (first | exact Frm.refl _ _ | assumption | refine Frm.alloc ?_ _ | refine Frm.drew ?_))) hf)); clear hf))) | ((have hz := HS1; clear hz; go_at_call 60; go_must (refine (Hid.out HD _ _ ((St.pw (Hid.out HS1)).move (by (repeat (first | exact Frm.refl _ _ | assumption | refine Frm.alloc ?_ _ | refine Frm.drew ?_))))).mono ?_; rintro e w2 ⟨rfl, hf⟩; have HS2 := Lib.hid (St.move (Hid.out HS1) (Frm.trans (by (repeat (first | exact Frm.refl _ _ | assumption | refine Frm.alloc ?_ _ | refine Frm.drew ?_))) hf)); clear hf))) | ((have hz := HS0; clear hz; go_at_call 143; go_must (refine (Hid.out HA _ _ ((St.pw (Hid.out HS0)).move (by (repeat (first | exact Frm.refl _ _ | assumption | refine Frm.alloc ?_ _ | refine Frm.drew ?_)))) _ (by first | exact OpsR.one _ _ _ rfl | exact OpsR.new _ _ _ _ rfl)).mono ?_; rintro e w1 ⟨rfl, hf⟩; have HS1 := Lib.hid (St.move (Hid.out HS0) (Frm.trans (by (repeat (first | exact Frm.refl _ _ | assumption | refine Frm.alloc ?_ _ | refine Frm.drew ?_))) hf)); clear hf))))
        (have hB := (set3 (St.box (Hid.out HSZ)) (St.frm (Hid.out HSZ)) (Nat.le_refl _) (.string ⟨#[110, 111, 110, 101]⟩) (.string ⟨#[]⟩) (.slice none 0 0)).1; have hM := set3m (w1 := w3) (b := w.heap.size) (.string ⟨#[110, 111, 110, 101]⟩) (.string ⟨#[]⟩) (.slice none 0 0); clear x0 x1 x2 y0 y1 y2; generalize World.setCell (World.setCell (World.setCell w3 ⟨w.heap.size, 0, none⟩ (.string ⟨#[110, 111, 110, 101]⟩)) ⟨w.heap.size, 1, none⟩ (.string ⟨#[]⟩)) ⟨w.heap.size, 2, none⟩ (.slice none 0 0) = X at *; have g0 := hB.cell 0; have g1 := hB.cell 1; have g2 := hB.cell 2; refine bodyPost_ret (v := .agg #[.string ⟨#[110, 111, 110, 101]⟩, .string ⟨#[]⟩, (.slice none 0 0)]) (by simp [results, Tryz.results154, go_sem, g0, g1, g2]) rfl ?_; exact St.fin (Hid.out HSZ) (Hid.out HK3) hM)
    · rw [hd] at HD
      rw [if_pos (by simp)]
      clear hd HFL HE
      go_enter Tryz.func154, Tryz.ntmps154
      go_wp2_with (first | (have hz := HS2; clear hz; go_at_call 152; go_must (refine (none_all _).mono ?_; rintro e w3 ⟨rfl, hf⟩; have HSZ := Lib.hid (St.move (Hid.out HS2) (Frm.trans (by (repeat (first | exact Frm.refl _ _ | assumption | refine Frm.alloc ?_ _ | refine Frm.drew ?_))) hf)); have HK3 := Lib.hid (KV.nil w3 (fun g => w.heap.size + 1 ≤ g)); clear hf; (have x0 := Box.cell (St.box (Hid.out HSZ)) 0; have x1 := Box.cell (St.box (Hid.out HSZ)) 1; have x2 := Box.cell (St.box (Hid.out HSZ)) 2; have y0 := Box.f (St.box (Hid.out HSZ)) 0; have y1 := Box.f (St.box (Hid.out HSZ)) 1; have y2 := Box.f (St.box (Hid.out HSZ)) 2))) | ((have hz := HS1; clear hz; go_at_call 60; go_must (refine (Hid.out HD _ _ ((St.pw (Hid.out HS1)).move (by (repeat (first | exact Frm.refl _ _ | assumption | refine Frm.alloc ?_ _ | refine Frm.drew ?_))))).mono ?_; rintro e w2 ⟨rfl, hf⟩; have HS2 := Lib.hid (St.move (Hid.out HS1) (Frm.trans (by (repeat (first | exact Frm.refl _ _ | assumption | refine Frm.alloc ?_ _ | refine Frm.drew ?_))) hf)); clear hf))) | ((have hz := HS0; clear hz; go_at_call 143; go_must (refine (Hid.out HA _ _ ((St.pw (Hid.out HS0)).move (by (repeat (first | exact Frm.refl _ _ | assumption | refine Frm.alloc ?_ _ | refine Frm.drew ?_)))) _ (by first | exact OpsR.one _ _ _ rfl | exact OpsR.new _ _ _ _ rfl)).mono ?_; rintro e w1 ⟨rfl, hf⟩; have HS1 := Lib.hid (St.move (Hid.out HS0) (Frm.trans (by (repeat (first | exact Frm.refl _ _ | assumption | refine Frm.alloc ?_ _ | refine Frm.drew ?_))) hf)); clear hf))))
      (have hB := (set3 (St.box (Hid.out HSZ)) (St.frm (Hid.out HSZ)) (Nat.le_refl _) (.string ⟨#[110, 111, 110, 101]⟩) (.string ⟨#[]⟩) (.slice none 0 0)).1; have hM := set3m (w1 := w3) (b := w.heap.size) (.string ⟨#[110, 111, 110, 101]⟩) (.string ⟨#[]⟩) (.slice none 0 0); clear x0 x1 x2 y0 y1 y2; generalize World.setCell (World.setCell (World.setCell w3 ⟨w.heap.size, 0, none⟩ (.string ⟨#[110, 111, 110, 101]⟩)) ⟨w.heap.size, 1, none⟩ (.string ⟨#[]⟩)) ⟨w.heap.size, 2, none⟩ (.slice none 0 0) = X at *; have g0 := hB.cell 0; have g1 := hB.cell 1; have g2 := hB.cell 2; refine bodyPost_ret (v := .agg #[.string ⟨#[110, 111, 110, 101]⟩, .string ⟨#[]⟩, (.slice none 0 0)]) (by simp [results, Tryz.results154, go_sem, g0, g1, g2]) rfl ?_; exact St.fin (Hid.out HSZ) (Hid.out HK3) hM)
  · have HA := Lib.hid (HA1 _ hc)
    rw [if_pos rfl]
    have HB := Lib.hid (fun W R (hw : PW W R n s) => block_all n I hI W R s hw)
    generalize block I s = q at *
    obtain ⟨⟨o, u, k⟩, s1⟩ := q
    clear h hI hc HA1 HD HE HFL
    go_enter Tryz.func154, Tryz.ntmps154
    go_wp2_with (first | ((have hz := HS1; clear hz; go_at_call 111; go_must (refine (Hid.out HB _ _ ((St.pw (Hid.out HS1)).move (by (repeat (first | exact Frm.refl _ _ | assumption | refine Frm.alloc ?_ _ | refine Frm.drew ?_))))).mono ?_; rintro e w3 ⟨a, c, rfl, hk, hp, hf⟩; dsimp only at hk hp; have HSZ := Lib.hid (St.go (Hid.out HS1) (Frm.trans (by (repeat (first | exact Frm.refl _ _ | assumption | refine Frm.alloc ?_ _ | refine Frm.drew ?_))) hf) hp); have HK3 := Lib.hid (St.new (Hid.out HS1) (by (repeat (first | exact Frm.refl _ _ | assumption | refine Frm.alloc ?_ _ | refine Frm.drew ?_))) hk); clear hp hf hk)); (have x0 := Box.cell (St.box (Hid.out HSZ)) 0; have x1 := Box.cell (St.box (Hid.out HSZ)) 1; have x2 := Box.cell (St.box (Hid.out HSZ)) 2; have y0 := Box.f (St.box (Hid.out HSZ)) 0; have y1 := Box.f (St.box (Hid.out HSZ)) 1; have y2 := Box.f (St.box (Hid.out HSZ)) 2)) | ((have hz := HS0; clear hz; go_at_call 143; go_must (refine (Hid.out HA _ _ ((St.pw (Hid.out HS0)).move (by (repeat (first | exact Frm.refl _ _ | assumption | refine Frm.alloc ?_ _ | refine Frm.drew ?_)))) _ (by first | exact OpsR.one _ _ _ rfl | exact OpsR.new _ _ _ _ rfl)).mono ?_; rintro e w1 ⟨rfl, hf⟩; have HS1 := Lib.hid (St.move (Hid.out HS0) (Frm.trans (by (repeat (first | exact Frm.refl _ _ | assumption | refine Frm.alloc ?_ _ | refine Frm.drew ?_))) hf)); clear hf))))
    (have hB := (set3 (St.box (Hid.out HSZ)) (St.frm (Hid.out HSZ)) (Nat.le_refl _) (.string ⟨o.toArray⟩) (.string ⟨u.toArray⟩) (.slice a k.len c)).1; have hM := set3m (w1 := w3) (b := w.heap.size) (.string ⟨o.toArray⟩) (.string ⟨u.toArray⟩) (.slice a k.len c); clear x0 x1 x2 y0 y1 y2; generalize World.setCell (World.setCell (World.setCell w3 ⟨w.heap.size, 0, none⟩ (.string ⟨o.toArray⟩)) ⟨w.heap.size, 1, none⟩ (.string ⟨u.toArray⟩)) ⟨w.heap.size, 2, none⟩ (.slice a k.len c) = X at *; have g0 := hB.cell 0; have g1 := hB.cell 1; have g2 := hB.cell 2; refine bodyPost_ret (v := .agg #[.string ⟨o.toArray⟩, .string ⟨u.toArray⟩, (.slice a k.len c)]) (by simp [results, Tryz.results154, go_sem, g0, g1, g2]) rfl ?_; exact St.fin (Hid.out HSZ) (Hid.out HK3) hM)
end Go.Proofs.YtgbibfhacjjaeaaGreat.syn
