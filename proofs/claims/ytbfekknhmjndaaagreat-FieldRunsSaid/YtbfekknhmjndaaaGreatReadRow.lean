/- Contract of match's readRow. -/
import Derived.Test.YtbfekknhmjndaaaGreatLeaf
import Derived.Deep.LoopGhost
namespace Go.Proofs.YtbfekknhmjndaaaGreat.part
set_option linter.unusedVariables false set_option linter.unusedSimpArgs false
open Go.ChangeShapes Go.WideShapes Go.ChangeAt Go.RowKit Go.Proofs.YtbfekknhmjndaaaGreat.base Go.Proofs.YtbfekknhmjndaaaGreat.spec Go.Proofs.YtbfekknhmjndaaaGreat.nfa Go.Proofs.YtbfekknhmjndaaaGreat.set Go.Proofs.YtbfekknhmjndaaaGreat.parts Go.Proofs.YtbfekknhmjndaaaGreat.items
attribute [local go_sem ↓] Go.wp_at_zero Go.wp_at_succ

/-- At the head of a round. -/
def RowAt (w : World) (op : ByteArray) (E : Array Value) (xs : List (Option (T × Nat))) (res : Option (Forest × Nat × Bool)) (iv nv ov : Value) (wr : World) (k : Nat) : Prop := ∃ (i n : Nat) (o : Bool) (f : Forest) (a : Option Addr) (cap : Nat), i ≤ xs.length ∧ k = xs.length - i ∧ iv = .int .i64 (i : Int) ∧ nv = .int .i64 (n : Int) ∧ ov = .bool o ∧ n ≤ 2000 ∧ f.len ≤ i ∧
  RowW wr (w.heap.size + 1 + 1 + 1) (w.heap.size + 1 + 1) op f a cap ∧ Box wr (w.heap.size + 1) 100 zc ∧ Box wr w.heap.size 47 E ∧ Frm No w wr ∧ Hid (rowF (xs.drop i) f n o = res)
theorem box3 (w : World) (T1 T2 T3 : TypeId) (A B C : Array Value) : Box (((w.alloc (.cells A T1)).alloc (.cells B T2)).alloc (.cells C T3)) w.heap.size T1 A ∧ Box (((w.alloc (.cells A T1)).alloc (.cells B T2)).alloc (.cells C T3)) (w.heap.size + 1) T2 B ∧ Box (((w.alloc (.cells A T1)).alloc (.cells B T2)).alloc (.cells C T3)) (w.heap.size + 1 + 1) T3 C ∧ Frm No w (((w.alloc (.cells A T1)).alloc (.cells B T2)).alloc (.cells C T3)) := by
  refine ⟨((Box.new w T1 A).alloc _).alloc _, ?_, ?_, ((((Frm.refl No w).alloc _).alloc _).alloc _)⟩
  · have := Box.new (w.alloc (.cells A T1)) T2 B
    rw [World.size_alloc] at this
    exact this.alloc _
  · have := Box.new ((w.alloc (.cells A T1)).alloc (.cells B T2)) T3 C
    rw [World.size_alloc, World.size_alloc] at this
    exact this
def catRes (res : Option (Forest × Nat × Bool)) : Option (T × Nat) := match res with
  | none => none
  | some (f, n, o) => some (⟨catW, ⟨#[]⟩, 0, 0, f⟩, n)
def altRes (res : Option (Forest × Nat × Bool)) : Option (T × Nat) := match res with
  | none => none
  | some (f, n, o) => some (⟨altW, ⟨#[]⟩, 0, 0, if o then f.snoc noT else f⟩, n)

set_option maxRecDepth 20000 in
set_option maxHeartbeats 4000000 in
theorem row_cat (w : World) (t : T) (a : Option Addr) (cap : Nat) (d : Nat) (hd : d ≤ 2000) (hk : TK w t.kids a) (hop : t.op = catW) (hlen : t.kids.len ≤ 100000) (N : Nat) (hN : fsz t.kids ≤ N) (hsz : SzF t.kids)
    (IH : ∀ (t' : T) (w' : World) (C : Array Value), nd t' ≤ N → SzT t' → TAV w' C t' → Calls Tryz.prog 50 #[.agg C, .int .i64 ((d : Int) + 1)] w' (ReadPost w' (rdT t' (d + 1)))) (res : Option (Forest × Nat × Bool)) (hres : rowF (rdF t.kids (d + 1)) .nil 0 false = res) :
    Calls Tryz.prog 66 #[.agg #[.string t.op, .string t.set, .slice a t.kids.len cap, .int .i64 t.lo, .int .i64 t.hi], .int .i64 (d : Int), .int .i64 0] w (ReadPost w (catRes res)) := by
  have hl : (t.op.toList == [97, 108, 116]) = false := by rw [hop]; decide +kernel
  have HIH := Lib.hid IH
  have HSZ := Lib.hid hsz
  have HK := Lib.hid hk
  have HOP := Lib.hid hop
  have HNE := Lib.hid (show t.op ≠ setW by rw [hop]; decide)
  have hxl : (rdF t.kids (d + 1)).length = t.kids.len := rdF_len _ _
  have HRES := Lib.hid hres
  have hd0 : (0 : Int) ≤ (d : Int) := by omega
  obtain ⟨i0, hi, hz0, hz1, hz2⟩ := info_parts info_prt
  clear IH hk hop hres hsz
  go_enter Tryz.func66, Tryz.ntmps66
  go_wp2
  go_loopg [34, 10, 11] t.kids.len (fun k iv nv ov wr => RowAt w t.op #[.string t.op, .string t.set, .slice a t.kids.len cap, .int .i64 t.lo, .int .i64 t.hi] (rdF t.kids (d + 1)) res iv nv ov wr k)
  case atStart =>
    obtain ⟨b1, b2, b3, bf⟩ := box3 w 47 100 100 #[.string t.op, .string t.set, .slice a t.kids.len cap, .int .i64 t.lo, .int .i64 t.hi] zc #[.string t.op, .pointer none, .slice none 0 0, .int .i64 0, .int .i64 0]
    exact ⟨0, 0, false, .nil, none, 0, Nat.zero_le _, by rw [hxl]; rfl, rfl, rfl, rfl, by omega, Nat.le_refl _, RowW.new _ _ _ _ b3 (by omega), b2, b1, bf, HRES⟩
  case round =>
    obtain ⟨i, n, o, f, ra, rc, hi1, hk1, rfl, rfl, rfl, hn, hfl, hrow, hb2, hb1, hf, hrf⟩ := hrel
    rw [hxl] at hi1 hk1
    have HROW := Lib.hid hrow
    have HB2 := Lib.hid hb2
    have HB1 := Lib.hid hb1
    have HF := Lib.hid hf
    have HRF := Lib.hid hrf
    have hszr := hf.size
    clear hrow hb2 hb1 hf hrf
    by_cases hlt : i < t.kids.len
    · obtain ⟨tk, htk⟩ := nthF_some hlt
      have hndk := nthF_nd htk
      have HX := Lib.hid (drop_at (rdF_nth (d := d + 1) htk))
      obtain ⟨g0, o0, rfl, hta⟩ : ∃ g0 o0, a = some ⟨g0, o0, none⟩ ∧ TA w t.kids g0 o0 := by
        rcases HK.out with h | h
        · rw [h] at hlt; cases hlt
        · exact h
      obtain ⟨x0, x1, x3, x4, ak, ck, x2, hkk⟩ := hta.nth htk
      have y0 := cell_frm HF.out x0 id
      have y1 := cell_frm HF.out x1 id
      have y2 := cell_frm HF.out x2 id
      have y3 := cell_frm HF.out x3 id
      have y4 := cell_frm HF.out x4 id
      have HTK := Lib.hid (hkk.move HF.out)
      have hi0' : (0 : Int) ≤ (i : Int) := by omega
      have hi1' : (i : Int) < (t.kids.len : Int) := by omega
      have hNk : nd tk ≤ N := by omega
      have hSk := Lib.hid (HSZ.out.nth htk)
      clear x0 x1 x2 x3 x4 hkk hta htk
      cases hrd : rdT tk (d + 1) with
      | none =>
        have HRD := Lib.hid hrd
        clear hrd
        go_wp2_with (first | (go_at_call 50; go_must (refine (HIH.out tk _ _ hNk hSk.out ⟨ak, ck, rfl, HTK.out.move ((Frm.refl No wr).alloc _)⟩).mono ?_; rw [HRD.out]; rintro en w2 ⟨hf2, hen⟩; obtain rfl : en = .returned (.tuple #[.agg #[.string ⟨#[]⟩, .pointer none, .slice none 0 0, .int .i64 0, .int .i64 0], .int .i64 0, .bool false]) := hen; have HB2' := Lib.hid (show Box w2 (w.heap.size + 1) 100 zc from Box.frm (HB2.out.alloc _) hf2 id); have HF2 := Lib.hid (show Frm No w w2 from (HF.out.alloc _).trans hf2)))| (refine wpList_store_row rfl 100 (.tmp 6) (.tmp 55) rfl (w.heap.size + 1) _ rfl rfl 100 zc (HB2'.out.alloc _) info_part5 rfl (by simp [Value.oneCell']) ?_))
        have hrn : res = none := by rw [← HRF.out, HX.out, HRD.out]; rfl
        subst hrn
        refine bodyPost_ret (results_part3 Tryz.results66 _ _ (w.heap.size + 1) 100 _ (0, 0) _ (.int .i64 0) (.bool false) rfl rfl rfl (setRow_eq (HB2'.out.alloc _)) Tryz.underlying100 rfl info_part5) rfl ⟨frm_setRow (HF2.out.alloc _) _ _ (fun hk => absurd hk (by omega)), rfl⟩
      | some pm =>
        obtain ⟨p, m⟩ := pm
        have hm := (rd_good hrd).size
        have HRD := Lib.hid hrd
        clear hrd
        by_cases hbig : 2000 < n + m
        · have hbig' : (2000 : Int) < (n : Int) + (m : Int) := by omega
          go_wp2_with (first | (go_at_call 50; go_must (refine (HIH.out tk _ _ hNk hSk.out ⟨ak, ck, rfl, HTK.out.move ((Frm.refl No wr).alloc _)⟩).mono ?_; rw [HRD.out]; rintro en w2 ⟨hf2, v2, rfl, hpt2⟩; obtain ⟨px, pa, pc, rfl, hps, hpk⟩ := hpt2; have HB2' := Lib.hid (show Box w2 (w.heap.size + 1) 100 zc from Box.frm (HB2.out.alloc _) hf2 id); have HF2 := Lib.hid (show Frm No w w2 from (HF.out.alloc _).trans hf2)))| (refine wpList_store_row rfl 100 (.tmp 6) (.tmp 55) rfl (w.heap.size + 1) _ rfl rfl 100 zc (HB2'.out.alloc _) info_part5 rfl (by simp [Value.oneCell']) ?_))
          have hrn : res = none := by rw [← HRF.out, HX.out, HRD.out, rowF, if_pos hbig]
          subst hrn
          refine bodyPost_ret (results_part3 Tryz.results66 _ _ (w.heap.size + 1) 100 _ (0, 0) _ (.int .i64 0) (.bool false) rfl rfl rfl (setRow_eq (HB2'.out.alloc _)) Tryz.underlying100 rfl info_part5) rfl ⟨frm_setRow (HF2.out.alloc _) _ _ (fun hk => absurd hk (by omega)), rfl⟩
        · have hbig' : ¬ (2000 : Int) < (n : Int) + (m : Int) := by omega
          have hno' : isNo p = (decide (p.op = catW) && decide (p.kids.len = 0)) := rfl
          cases hno : isNo p with
          | true =>
            rw [hno] at hno'
            have HNO := Lib.hid hno
            have HNO' := Lib.hid hno'.symm
            clear hno hno'
            go_wp2_with (first | (go_at_call 50; go_must (refine (HIH.out tk _ _ hNk hSk.out ⟨ak, ck, rfl, HTK.out.move ((Frm.refl No wr).alloc _)⟩).mono ?_; rw [HRD.out]; rintro en w2 ⟨hf2, v2, rfl, hpt2⟩; obtain ⟨px, pa, pc, rfl, hps, hpk⟩ := hpt2; have HF2 := Lib.hid (show Frm No wr w2 from ((Frm.refl No wr).alloc _).trans hf2))) | (go_at_call 83; go_must (refine (isNothing_all _ p.op px pa p.kids.len pc p.lo p.hi).mono ?_; rw [HNO'.out]; rintro en w4 ⟨rfl, hf4⟩)))
            have hfr : Frm No wr w4 := (HF2.out.alloc _).trans hf4
            go_roundg (t.kids.len - (i + 1))
            case measure => omega
            case rel =>
              exact ⟨i + 1, n + m, true, f, ra, rc, by rw [hxl]; omega, by rw [hxl], by go_num, by go_num, rfl, by omega, by omega, HROW.out.move hfr, HB2.out.frm hfr id, HB1.out.frm hfr id, HF.out.trans hfr, Lib.hid (by
                have := HRF.out
                rw [HX.out, HRD.out, rowF, if_neg hbig, if_pos HNO.out] at this
                exact this)⟩
          | false =>
            rw [hno] at hno'
            have HNO := Lib.hid hno
            have HNO' := Lib.hid hno'.symm
            clear hno hno'
            obtain ⟨C, hrb, hro, hrp, hrz, hrL⟩ := HROW.out
            have hL := hrb.lt
            have HOWN := Lib.hid hro
            have HRB := Lib.hid hrb
            have hCl := hro.1
            have HNB := Lib.hid (show ∀ g, (Value.slice ra f.len rc).ownBlock = some g → w.heap.size + 1 + 1 + 1 ≤ g ∧ g < wr.heap.size from fun g e => ⟨(own_type hro e).1, (own_type hro e).2.1⟩)
            have hne : (Value.slice ra f.len rc).ownBlock ≠ some (w.heap.size + 1 + 1) := fun e => by have := (HNB.out _ e).1; omega
            clear hrb hro hrp hrz
            go_wp2_with (first | (go_at_call 50; go_must (refine (HIH.out tk _ _ hNk hSk.out ⟨ak, ck, rfl, HTK.out.move ((Frm.refl No wr).alloc _)⟩).mono ?_; rw [HRD.out]; rintro en w2 ⟨hf2, v2, rfl, hpt2⟩; have HPT := Lib.hid hpt2; obtain ⟨px, pa, pc, rfl, hps, hpk⟩ := hpt2; have HF2 := Lib.hid (show Frm No wr w2 from ((Frm.refl No wr).alloc _).trans hf2); have HSZ2 := Lib.hid (show wr.heap.size + 1 ≤ w2.heap.size from by have := hf2.size; rw [World.size_alloc] at this; exact this); clear hps hpk hf2)) | (go_at_call 83; go_must (refine (isNothing_all _ p.op px pa p.kids.len pc p.lo p.hi).mono ?_; rw [HNO'.out]; rintro en w4 ⟨rfl, hf4⟩; have HF4 := Lib.hid (show Frm No wr w4 from (HF2.out.alloc _).trans hf4); have HF42 := Lib.hid (show Frm No w2 w4 from ((Frm.refl No w2).alloc _).trans hf4); have HBP := Lib.hid (show Box w4 w2.heap.size 100 #[.string p.op, .pointer px, .slice pa p.kids.len pc, .int .i64 p.lo, .int .i64 p.hi] from Box.frm (Box.new w2 _ _) hf4 id); have z0 := HBP.out.cell 0; have z1 := HBP.out.cell 1; have z2 := HBP.out.cell 2; have z3 := HBP.out.cell 3; have z4 := HBP.out.cell 4; have k2 : w4.cell? ⟨w.heap.size + 1 + 1, 2, none⟩ = some (.slice ra f.len rc) := (HRB.out.frm HF4.out id).cell 2; have hsz4 := HF4.out.size; clear hf4)) | (refine wpList_append_lies _ rfl _ _ _ rfl (w.heap.size + 1 + 1 + 1) 100 i0 _ 5 64 Tryz.underlying98 hi hz0 hz1 hz2 rfl (by omega) (.slice ra f.len rc) f.len C rfl (World.ownsRow.alloc (own_move HOWN.out HF4.out (fun _ _ => id)) _) ⟨w4.heap.size, 0, none⟩ 1 1 [.string p.op, .pointer px, .slice pa p.kids.len pc, .int .i64 p.lo, .int .i64 p.hi] rfl rfl (World.news_of_block (heap_alloc_new w4 _)) (by simp [Value.oneCell']) (by omega) (by unfold maxLen; omega) (by omega) (by simp; omega) (w4.heap.size + 1) (by simp) ?_; intro g gcap w5 hown5 hgrow hat hlt5; have f2 : w5.frozen? ⟨w.heap.size + 1 + 1, 2, none⟩ = false := (hgrow.frozen_far _ (by simp; omega) (Ne.symm hne)).trans (by exact ((HRB.out.frm HF4.out id).alloc _).f 2); have e2 : w5.cell? ⟨w.heap.size + 1 + 1, 2, none⟩ = some (.slice ra f.len rc) := (hgrow.cell_far _ (by simp; omega) (Ne.symm hne)).trans (by exact ((HRB.out.frm HF4.out id).alloc _).cell 2)))
            have hW4 := (HROW.out.move HF4.out).move ((Frm.refl No w4).alloc (.cells #[.string p.op, .pointer px, .slice pa p.kids.len pc, .int .i64 p.lo, .int .i64 p.hi] 100))
            have hP4 := (HPT.out.move HF42.out).move ((Frm.refl No w4).alloc (.cells #[.string p.op, .pointer px, .slice pa p.kids.len pc, .int .i64 p.lo, .int .i64 p.hi] 100))
            have hO4 := World.ownsRow.alloc (own_move HOWN.out HF4.out (fun _ _ => id)) (.cells #[.string p.op, .pointer px, .slice pa p.kids.len pc, .int .i64 p.lo, .int .i64 p.hi] 100)
            have hgf : Frm (fun k => (Value.slice ra f.len rc).ownBlock = some k) (w4.alloc (.cells #[.string p.op, .pointer px, .slice pa p.kids.len pc, .int .i64 p.lo, .int .i64 p.hi] 100)) w5 := (Frm.refl _ _).grown hgrow (fun k h _ => h)
            obtain ⟨hrw, hrf⟩ := hW4.push (U := wr.heap.size) hP4 (fun k hk _ => by have h8 : (wr.alloc _).heap.size ≤ k := hk; rw [World.size_alloc] at h8; omega) (fun g e => (HNB.out g e).2) (by omega) C hO4 hown5 hgf (hat.imp (fun h => h) (fun h => by rw [World.size_alloc]; omega))
            have hfin : Frm (fun k => k = w.heap.size + 1 + 1 ∨ w.heap.size + 1 + 1 + 1 ≤ k) wr (w5.setCell ⟨w.heap.size + 1 + 1, 2, none⟩ (.slice (some ⟨g, 0, none⟩) (f.len + 1) gcap)) := ((HF4.out.mono (fun _ _ h => h.elim)).alloc _).trans hrf
            go_roundg (t.kids.len - (i + 1))
            case measure => omega
            case rel =>
              exact ⟨i + 1, n + m, o, f.snoc p, some ⟨g, 0, none⟩, gcap, by rw [hxl]; omega, by rw [hxl], by go_num, by go_num, rfl, by omega, by rw [Forest.len_snoc]; omega, hrw, HB2.out.frm hfin (fun h => by omega), HB1.out.frm hfin (fun h => by omega), HF.out.then hfin (fun k hk h => by omega), Lib.hid (by
                have := HRF.out
                rw [HX.out, HRD.out, rowF, if_neg hbig, HNO.out] at this
                exact this)⟩
    · obtain rfl : i = t.kids.len := by omega
      have hrs : res = some (f, n, o) := by
        rw [← HRF.out, List.drop_of_length_le (by omega)]; rfl
      subst hrs
      have b0 : wr.cell? ⟨w.heap.size, 0, none⟩ = some (.string t.op) := HB1.out.cell 0
      go_wp2_with (first | (refine wpList_load_row rfl 100 (.tmp 9) rfl (w.heap.size + 1 + 1) rfl 100 _ (0, 0) _ HROW.out.choose_spec.1 Tryz.underlying100 rfl info_part5 ?_) | (refine wpList_store_row rfl 100 (.tmp 6) (.tmp 77) rfl (w.heap.size + 1) _ rfl rfl 100 zc HB2.out info_part5 rfl (by simp [Value.oneCell']) ?_))
      refine bodyPost_ret (results_part3 Tryz.results66 _ _ (w.heap.size + 1) 100 _ (0, 0) _ (.int .i64 (n : Int)) (.bool true) rfl rfl rfl (setRow_eq HB2.out) Tryz.underlying100 rfl info_part5) rfl ⟨frm_setRow HF.out _ _ (fun hk => absurd hk (by omega)), _, rfl, ?_⟩
      have hpt := HROW.out.part HNE.out
      rw [← HOP.out]
      refine hpt.go (fun g cur h1 h2 => ⟨by have h1' : w.heap.size + 1 + 1 + 1 ≤ g := h1; show w.heap.size ≤ g; omega, h2.frm (frm_setRow (S := At (w.heap.size + 1)) (Frm.refl _ _) _ _ (fun _ => rfl)) (fun h => by have h' : g = w.heap.size + 1 := h; have h1' : w.heap.size + 1 + 1 + 1 ≤ g := h1; omega)⟩) (fun fb ff h => Box.frm h (frm_setRow (S := At (w.heap.size + 1)) (Frm.refl _ _) _ _ (fun _ => rfl)) (fun h' => by have h2 : fb = w.heap.size + 1 := h'; subst h2; have h3 := box_ty HB2.out h; revert h3; decide))
end Go.Proofs.YtbfekknhmjndaaaGreat.part
