/- The document's reader of expressions: a set in brackets. -/
import Derived.Test.YtbfekknhmjndaaaGreatRefB
import Derived.Deep.Cut
namespace Go.Proofs.YtbfekknhmjndaaaGreat.doc3
set_option linter.unusedVariables false set_option linter.unusedSimpArgs false
set_option maxRecDepth 20000
open Go.ChangeShapes Go.WideShapes Go.ChangeAt Go.RowKit Go.Proofs.YtbfekknhmjndaaaGreat.base Go.Proofs.YtbfekknhmjndaaaGreat.read Go.Proofs.YtbfekknhmjndaaaGreat.spec Go.Proofs.YtbfekknhmjndaaaGreat.set Go.Proofs.YtbfekknhmjndaaaGreat.parts

set_option maxHeartbeats 40000000 in
theorem bracket_all (w : World) (R : Nat) (s : ByteArray) (d : Nat) (l : List UInt8) (hR : R < w.heap.size) (h : AS w R s d (91 :: l)) :
    Calls Tryz.prog 76 #[.pointer (some ⟨R, 0, none⟩)] w (DPost w R s d (brkR l)) := by
  generalize hres : brkR l = res
  obtain ⟨i, h, e⟩ := h
  have h1 := h.c1
  have hf := h.1.f 1
  have hz := h.2.2.1
  have hlt := sx_lt e
  have hmk := run_make_row' (P := Tryz.prog) 65 4 (.bool false) 1 Tryz.underlying65 info_bl rfl .i64 .i64 256 (by omega) (by omega)
  rw [made_bA] at hmk
  have e256 : ((256 : Nat) : Int) = 256 := rfl
  rw [e256] at hmk
  clear e256
  have HX0 := Lib.hid (show ASI (((w.setCell ⟨R, 1, none⟩ (.int .i64 ((i : Int) + 1))).alloc (.cells #[.string ⟨#[]⟩, .string ⟨#[]⟩, .slice none 0 0, .int .i64 0, .int .i64 0] 47)).alloc (.cells (bA emptyF) 4)) R s d (i + 1) ∧ Box (((w.setCell ⟨R, 1, none⟩ (.int .i64 ((i : Int) + 1))).alloc (.cells #[.string ⟨#[]⟩, .string ⟨#[]⟩, .slice none 0 0, .int .i64 0, .int .i64 0] 47)).alloc (.cells (bA emptyF) 4)) w.heap.size 47 zE ∧ Box (((w.setCell ⟨R, 1, none⟩ (.int .i64 ((i : Int) + 1))).alloc (.cells #[.string ⟨#[]⟩, .string ⟨#[]⟩, .slice none 0 0, .int .i64 0, .int .i64 0] 47)).alloc (.cells (bA emptyF) 4)) (w.heap.size + 1) 4 (bA emptyF) ∧ Frm (At R) w (((w.setCell ⟨R, 1, none⟩ (.int .i64 ((i : Int) + 1))).alloc (.cells #[.string ⟨#[]⟩, .string ⟨#[]⟩, .slice none 0 0, .int .i64 0, .int .i64 0] 47)).alloc (.cells (bA emptyF) 4)) from by
    have hB := h.set (i + 1) (by omega) ((i : Int) + 1) (by omega)
    have hZ := Box.new (w.setCell ⟨R, 1, none⟩ (.int .i64 ((i : Int) + 1))) 47 zE
    rw [show (w.setCell ⟨R, 1, none⟩ (.int .i64 ((i : Int) + 1))).heap.size = w.heap.size by simp] at hZ
    have hS := Box.new ((w.setCell ⟨R, 1, none⟩ (.int .i64 ((i : Int) + 1))).alloc (.cells zE 47)) 4 (bA emptyF)
    rw [World.size_alloc, show (w.setCell ⟨R, 1, none⟩ (.int .i64 ((i : Int) + 1))).heap.size = w.heap.size by simp] at hS
    exact ⟨⟨(hB.1.alloc _).alloc _, hB.2⟩, hZ.alloc _, hS, (((frm_at w R 1 _).alloc _).alloc _)⟩)
  have HE := Lib.hid (sx_tl e)
  have HRES := Lib.hid hres
  clear h e hres
  go_enter Tryz.func76, Tryz.ntmps76
  go_upto_region 4 with fail
  go_cut [27] (fun tv wx => tv = .bool (hd l 94) ∧ ∃ n, wx = World.drewN (((w.setCell ⟨R, 1, none⟩ (.int .i64 ((i : Int) + 1))).alloc (.cells #[.string ⟨#[]⟩, .string ⟨#[]⟩, .slice none 0 0, .int .i64 0, .int .i64 0] 47)).alloc (.cells (bA emptyF) 4)) n)
  case first =>
    have HAS := Lib.hid (show AS (((w.setCell ⟨R, 1, none⟩ (.int .i64 ((i : Int) + 1))).alloc (.cells #[.string ⟨#[]⟩, .string ⟨#[]⟩, .slice none 0 0, .int .i64 0, .int .i64 0] 47)).alloc (.cells (bA emptyF) 4)) R s d l from ⟨i + 1, HX0.out.1, HE.out⟩)
    cases l with
    | nil =>
      go_wp2_with (go_at_call 39; go_must (refine (more_as _ R s d [] false rfl (by exact HAS.out)).mono ?_; rintro en _ ⟨rfl, n1, rfl⟩))
      go_meet
      exact ⟨rfl, _, rfl⟩
    | cons c t =>
      by_cases h94 : c = 94
      · have n94 : ((c.toNat : Int) == 94) = true := by rw [h94]; rfl
        have HV := Lib.hid (show hd (c :: t) 94 = true by rw [h94]; rfl)
        clear h94
        go_wp2_with (first | (go_at_call 39; go_must (refine (more_as _ R s d (c :: t) true rfl (by exact HAS.out)).mono ?_; rintro en _ ⟨rfl, n1, rfl⟩)) | (go_at_call 40; go_must (refine (peek_as _ R s d c t (by exact HAS.out)).mono ?_; rintro en _ ⟨rfl, n2, rfl⟩)))
        go_meet
        exact ⟨by rw [HV.out], _, rfl⟩
      · have n94 : ((c.toNat : Int) == 94) = false := beq_no8 94 rfl h94
        have HV := Lib.hid (show hd (c :: t) 94 = false by show (c == 94) = false; simpa using h94)
        clear h94
        go_wp2_with (first | (go_at_call 39; go_must (refine (more_as _ R s d (c :: t) true rfl (by exact HAS.out)).mono ?_; rintro en _ ⟨rfl, n1, rfl⟩)) | (go_at_call 40; go_must (refine (peek_as _ R s d c t (by exact HAS.out)).mono ?_; rintro en _ ⟨rfl, n2, rfl⟩)))
        go_meet
        exact ⟨by rw [HV.out], _, rfl⟩
  case rest =>
  obtain ⟨rfl, n0, rfl⟩ := hcut
  have HX1 := Lib.hid (show ASI (World.drewN (((w.setCell ⟨R, 1, none⟩ (.int .i64 ((i : Int) + 1))).alloc (.cells #[.string ⟨#[]⟩, .string ⟨#[]⟩, .slice none 0 0, .int .i64 0, .int .i64 0] 47)).alloc (.cells (bA emptyF) 4)) n0) R s d (i + 1) ∧ Box (World.drewN (((w.setCell ⟨R, 1, none⟩ (.int .i64 ((i : Int) + 1))).alloc (.cells #[.string ⟨#[]⟩, .string ⟨#[]⟩, .slice none 0 0, .int .i64 0, .int .i64 0] 47)).alloc (.cells (bA emptyF) 4)) n0) w.heap.size 47 zE ∧ Box (World.drewN (((w.setCell ⟨R, 1, none⟩ (.int .i64 ((i : Int) + 1))).alloc (.cells #[.string ⟨#[]⟩, .string ⟨#[]⟩, .slice none 0 0, .int .i64 0, .int .i64 0] 47)).alloc (.cells (bA emptyF) 4)) n0) (w.heap.size + 1) 4 (bA emptyF) ∧ Frm (At R) w (World.drewN (((w.setCell ⟨R, 1, none⟩ (.int .i64 ((i : Int) + 1))).alloc (.cells #[.string ⟨#[]⟩, .string ⟨#[]⟩, .slice none 0 0, .int .i64 0, .int .i64 0] 47)).alloc (.cells (bA emptyF) 4)) n0) from ⟨HX0.out.1.drew _, HX0.out.2.1, HX0.out.2.2.1, HX0.out.2.2.2.drewN _⟩)
  go_upto_if 27 with fail
  generalize World.drewN (((w.setCell ⟨R, 1, none⟩ (.int .i64 ((i : Int) + 1))).alloc (.cells #[.string ⟨#[]⟩, .string ⟨#[]⟩, .slice none 0 0, .int .i64 0, .int .i64 0] 47)).alloc (.cells (bA emptyF) 4)) n0 = wA at HX1 ⊢
  have c1 := HX1.out.1.c1
  have cf := HX1.out.1.1.f 1
  go_cut [4] (fun nv wx => ∃ (b : Bool) (l' : List UInt8), BrkGo w R s d res nv wx b l')
  case first =>
    cases hq : hd l 94 with
    | false =>
      have HR := Lib.hid (show brkD false (itemsD (l.length + 1) true emptyF l) = res from by
        rw [← HRES.out]
        unfold brkR
        rw [hq]
        rfl)
      go_wp2
      go_meet
      exact ⟨false, l, rfl, HR.out, ⟨i + 1, HX1.out.1, HE.out⟩, HX1.out.2.1, HX1.out.2.2.1, HX1.out.2.2.2⟩
    | true =>
      obtain ⟨c, t, rfl⟩ : ∃ c t, l = c :: t := by cases l with
        | nil => cases hq
        | cons c t => exact ⟨c, t, rfl⟩
      have HR := Lib.hid (show brkD true (itemsD (t.length + 1) true emptyF t) = res from by
        rw [← HRES.out]
        unfold brkR
        rw [hq]
        rfl)
      have hlt2 := sx_lt HE.out
      have HT := Lib.hid (sx_tl HE.out)
      go_wp2
      go_meet
      exact ⟨true, t, rfl, HR.out, ⟨i + 2, HX1.out.1.set (i + 2) (by omega) _ (by omega), HT.out⟩, HX1.out.2.1.set_ne _ (by omega), HX1.out.2.2.1.set_ne _ (by omega), HX1.out.2.2.2.trans (frm_at _ R 1 _)⟩
  case rest =>
    obtain ⟨b, l', rfl, hr, has, hz2, hb2, hf2⟩ := hcut
    have HR := Lib.hid hr
    have HZ0 := Lib.hid hz2
    have HB0 := Lib.hid hb2
    have HF0 := Lib.hid hf2
    have HS0 := Lib.hid has
    obtain ⟨RI, hRI⟩ : ∃ x, x = itemsD (l'.length + 1) true emptyF l' := ⟨_, rfl⟩
    rw [← hRI] at HR
    have HRI0 := Lib.hid hRI.symm
    clear hr has hz2 hb2 hf2 hRI
    go_wp2
    go_loopg [5] (l'.length + 1) (fun k fv wr => ∃ first f l2, BrkAt w R s d RI k fv wr first f l2)
    case atStart => exact ⟨true, emptyF, l', rfl, by omega, HRI0.out, HS0.out, HB0.out, HZ0.out, HF0.out⟩
    case round =>
      obtain ⟨first, f, l2, rfl, hl2, hr2, has2, hb3, hz3, hf3⟩ := hrel
      obtain ⟨m, hm⟩ : ∃ m, gk = m + 1 := ⟨gk - 1, by omega⟩
      have HGK := Lib.hid hm
      rw [hm] at hr2 hl2
      have HL2 := Lib.hid hl2
      have HAS := Lib.hid has2
      have HBX := Lib.hid hb3
      have HZZ := Lib.hid hz3
      have HFF := Lib.hid hf3
      have HR2 := Lib.hid hr2
      obtain ⟨j, hj, hej⟩ := has2
      have c0 := hj.c0
      have c1 := hj.c1
      have c2 := hj.c2
      have cf := hj.1.f 1
      have hjs := hj.2.1
      have hjz := hj.2.2.1
      have HJ := Lib.hid hj
      have HEJ := Lib.hid hej
      clear hl2 hb3 hz3 hf3 hr2 hj hej hm
      cases l2 with
      | nil =>
        as_aux_lemma =>
        have HRI := Lib.hid (show RI = .bad 2 from by rw [← HR2.out, itemsD_nil])
        have hjn : s.size ≤ j := by
          have := congrArg List.length HEJ.out
          rw [sx_len] at this
          simp at this
          omega
        go_wp2
        go_quiet (fail)
        go_upto_region 13 with (first | (go_at_call 30; go_must (refine (fail_as _ R s d [] 2 (by decide) _ rfl (by exact HAS.out)).mono ?_; rintro en w9 ⟨rfl, haf, hf9⟩; have HF9 := Lib.hid ((HFF.out.drewN _).trans hf9); have HZ9 := Lib.hid (Box.frm (S := At R) (by exact HZZ.out) hf9 (fun e => by have e' : w.heap.size = R := e; omega)))))
        go_hide hQ
        go_wp2_with (refine wpList_store_row rfl 47 (.tmp 2) (.tmp 53) rfl w.heap.size #[.string ⟨#[]⟩, .string ⟨#[]⟩, .slice none 0 0, .int .i64 0, .int .i64 0] rfl rfl 47 zE HZ9.out info_er rfl (by simp [Value.oneCell']) ?_)
        rw [← hQ]
        simp only [Exit.inBlock, Exit.then]
        go_step
        go_step
        simp only [Exit.inBlock, Exit.then]
        refine bodyPost_ret (results_cell_row Tryz.results76 _ _ w.heap.size 47 _ (0, 0) _ rfl (setRow_eq HZ9.out) Tryz.underlying47 rfl info_er) rfl ?_
        rw [← HR.out, HRI.out]
        exact brk_bad hR (HF9.out) haf _
      | cons c t =>
        have hjlt : j < s.size := sx_lt HEJ.out
        have HT := Lib.hid (sx_tl HEJ.out)
        have g1 : decide ((s.size : Int) ≤ (j : Int)) = false := by rw [decide_eq_false_iff_not]; omega
        have g1n : decide (s.size ≤ j) = false := by rw [decide_eq_false_iff_not]; omega
        go_wp2
        go_quiet (fail)
        go_upto_region 14 with fail
        go_cut [60] (fun tv wx => tv = .bool (!first && (c == 93)) ∧ ∃ n, wx = World.drewN wr n)
        case first =>
          by_cases h93 : c = 93
          · have n93 : ((c.toNat : Int) == 93) = true := by rw [h93]; rfl
            have HV := Lib.hid (show (c == 93) = true by rw [h93]; rfl)
            clear h93
            cases first with
            | true =>
              go_wp2_with (go_at_call 40; go_must (refine (peek_as _ R s d c t (by exact HAS.out)).mono ?_; rintro en _ ⟨rfl, n2, rfl⟩))
              go_meet
              exact ⟨by rw [HV.out]; rfl, _, rfl⟩
            | false =>
              go_wp2_with (go_at_call 40; go_must (refine (peek_as _ R s d c t (by exact HAS.out)).mono ?_; rintro en _ ⟨rfl, n2, rfl⟩))
              go_meet
              exact ⟨by rw [HV.out]; rfl, _, rfl⟩
          · have n93 : ((c.toNat : Int) == 93) = false := beq_no8 93 rfl h93
            have HV := Lib.hid (show (c == 93) = false by simpa using h93)
            clear h93
            go_wp2_with (go_at_call 40; go_must (refine (peek_as _ R s d c t (by exact HAS.out)).mono ?_; rintro en _ ⟨rfl, n2, rfl⟩))
            go_meet
            exact ⟨by rw [HV.out]; simp, _, rfl⟩
        case rest =>
        obtain ⟨rfl, n3, rfl⟩ := hcut
        cases hq : (!first && (c == 93)) with
        | true =>
          as_aux_lemma =>
          have hff : first = false ∧ c = 93 := by
            cases first with
            | true => cases hq
            | false => exact ⟨rfl, by simpa using hq⟩
          obtain ⟨rfl, rfl⟩ := hff
          have HRI := Lib.hid (show RI = .ok f t from by rw [← HR2.out, itemsD_end])
          have HU := Lib.hid (show (Tryz.prog.info? 5).map (fun i => (i.zero, i.size, i.bytes)) = some (some (.int .u8 0), 1, 1) by kernel_rfl)
          obtain ⟨W1, hW1⟩ : ∃ W1, W1 = wr := ⟨_, rfl⟩
          subst hW1
          have HN1 := Lib.hid (show ∀ n x, ASI ((W1.drewN n).setCell ⟨R, 1, none⟩ (.int .i64 ((j : Int) + 1))) R s d (j + 1) ∧ Box ((W1.drewN n).setCell ⟨R, 1, none⟩ (.int .i64 ((j : Int) + 1))) w.heap.size 47 zE ∧ Box ((W1.drewN n).setCell ⟨R, 1, none⟩ (.int .i64 ((j : Int) + 1))) (w.heap.size + 1) 4 (bA f) ∧ Frm (At R) w ((W1.drewN n).setCell ⟨R, 1, none⟩ (.int .i64 ((j : Int) + 1))) ∧ ((W1.drewN n).setCell ⟨R, 1, none⟩ (.int .i64 ((j : Int) + 1))).heap.size = W1.heap.size from fun n (x : Unit) => ⟨(HJ.out.drew n).set (j + 1) (by omega) _ (by omega), Box.set_ne (w := W1.drewN n) HZZ.out _ (by omega), Box.set_ne (w := W1.drewN n) HBX.out _ (by omega), (HFF.out.drewN n).trans (frm_at _ R 1 _), by simp⟩)
          clear hq
          go_wp2
          go_loopw [11, 12] (fun bv cv wr2 => ∃ k : Nat, k ≤ 256 ∧ cv = .int .i64 (k : Int) ∧ Hid (OwnB wr2 W1.heap.size 5 bv (tx (fun k => f k != b) k)) ∧ ∃ n, Frm No ((W1.drewN n).setCell ⟨R, 1, none⟩ (.int .i64 ((j : Int) + 1))) wr2) (fun _ cv _ => 256 - (intOf cv).toNat)
          case atStart => exact ⟨0, by omega, rfl, Lib.hid (OwnB.nil _ _ _), _, Frm.refl No _⟩
          case round =>
            obtain ⟨k, hk, rfl, HO, n5, hf5⟩ := hrel
            obtain ⟨N1, N2, N3, N4, N5⟩ := HN1.out n5 ()
            have HF5 := Lib.hid hf5
            have HW5 := Lib.hid (show W1.heap.size ≤ wr.heap.size by rw [← N5]; exact hf5.size)
            have HB5 := Lib.hid (N3.frm hf5 id)
            have HZ5 := Lib.hid (N2.frm hf5 id)
            have HA5 := Lib.hid (show AS wr R s d t from (show AS _ R s d t from ⟨j + 1, N1, HT.out⟩).move hf5)
            have HG5 := Lib.hid (N4.then hf5 (fun _ _ e => e.elim))
            have HN5 := Lib.hid N5
            have hl5 := tx_len (fun k => f k != b) k
            have hw5 := HW5.out
            clear hf5 N1 N2 N3 N4 N5
            by_cases hlt5 : k < 256
            · have hk0 : (0 : Int) ≤ (k : Int) := by omega
              have hk1 : (k : Int) < 256 := by omega
              have q5 : wr.cell? ⟨w.heap.size + 1, k, none⟩ = some (.bool (f k)) := (HB5.out.cell k).trans (bA_get f k hlt5)
              have hcb : (k : Int) = ((UInt8.ofNat k).toNat : Int) := by simp; omega
              have HCB := Lib.hid hcb
              have hm5 : (k : Int) % 256 = (k : Int) := by omega
              have HST := Lib.hid (tx_step (fun k => f k != b) k)
              clear hcb
              cases hfb : (f k != b) with
              | true =>
                have hfb2 : (f k == b) = false := by simpa [bne] using hfb
                have HST' := Lib.hid (show tx (fun k => f k != b) (k + 1) = tx (fun k => f k != b) k ++ [UInt8.ofNat k] by rw [HST.out, if_pos hfb])
                clear HST
                go_wp2_with (at_builtin; go_must (refine wpList_app1 _ rfl (.tmp 175) (.tmp 178) 67 rfl W1.heap.size 5 Tryz.underlying67 HU.out _ _ rfl HO.out _ rfl (UInt8.ofNat k) HCB.out (by omega) (by omega) ?_; intro v' w1 hown' hb1))
                exact ⟨⟨k + 1, by omega, by go_num, Lib.hid (by rw [HST'.out]; exact hown'), n5, HF5.out.then (S' := fun k => W1.heap.size ≤ k) ⟨hb1.os, hb1.tape, hb1.output, hb1.size, fun k hk hn => hb1.block k (by omega)⟩ (fun k hk h => absurd hk (by rw [HN5.out]; omega))⟩, by simp [intOf]; omega⟩
              | false =>
                have hfb2 : (f k == b) = true := by simpa [bne] using hfb
                have HST' := Lib.hid (show tx (fun k => f k != b) (k + 1) = tx (fun k => f k != b) k by rw [HST.out, if_neg (by rw [hfb]; decide), List.append_nil])
                clear HST
                go_wp2
                exact ⟨⟨k + 1, by omega, by go_num, Lib.hid (by rw [HST'.out]; exact HO.out), n5, HF5.out⟩, by simp [intOf]; omega⟩
            · obtain rfl : k = 256 := by omega
              have hstr := HO.out.str (P := Tryz.prog) 67 9 Tryz.underlying67 Tryz.underlying5 Tryz.underlying9
              go_upto_region 42 with fail
              go_hide hQ
              go_wp2_with (refine wpList_store_row rfl 47 (.tmp 2) (.tmp 182) rfl w.heap.size #[.string ⟨#[115, 101, 116]⟩, .string ⟨(tx (fun k => f k != b) 256).toArray⟩, .slice none 0 0, .int .i64 0, .int .i64 0] rfl rfl 47 zE HZ5.out info_er rfl (by simp [Value.oneCell']) ?_)
              rw [← hQ]
              try simp only [Exit.inBlock, Exit.then]
              go_step
              go_step
              try simp only [Exit.inBlock, Exit.then]
              refine bodyPost_ret (results_cell_row Tryz.results76 _ _ w.heap.size 47 _ (0, 0) _ rfl (setRow_eq HZ5.out) Tryz.underlying47 rfl info_er) rfl ?_
              rw [← HR.out, HRI.out]
              exact ⟨frm_setRow HG5.out _ _ (fun hk => absurd hk (Nat.lt_irrefl _)), _, rfl, KV.nil _ _, HA5.out.frm (frm_setRow (S := At w.heap.size) (Frm.refl _ _) w.heap.size _ (fun _ => rfl)) (fun e => by have e' : R = w.heap.size := e; omega)⟩
        | false =>
          have HST := Lib.hid (show RI = (match moreD f (itemD f (c :: t)) with
            | .bad e => .bad e
            | .ok f' l' => itemsD m false f' l') from by rw [← HR2.out]; exact itemsD_more m first f c t hq)
          clear hq
          cases hit : itemD f (c :: t) with
          | bad e2 =>
            as_aux_lemma =>
            have HIT := Lib.hid hit
            have HRI := Lib.hid (show RI = .bad e2 by rw [HST.out, hit]; rfl)
            clear hit
            go_upto_region 18 with (first | (go_at_call 91; go_must (refine (item_all _ R (w.heap.size + 1) s d f (c :: t) (by simp) (by exact HAS.out) (by exact HBX.out)).mono ?_; intro en w4 hip; rw [HIT.out] at hip; obtain ⟨hf4, ⟨ib, rfl⟩, haf⟩ := hip; have HF4 := Lib.hid (frm_new (HFF.out.drewN n3) hf4 (Nat.le_succ _)); have HZ4 := Lib.hid (Box.frm (S := At2 R (w.heap.size + 1)) (by exact HZZ.out) hf4 (fun e => by rcases e with e | e <;> (have e' := (show (w.heap.size : Nat) = _ from e); omega))); obtain ⟨q4, hne4⟩ := af_cell haf; clear hf4)))
            go_hide hQ
            go_wp2_with (refine wpList_store_row rfl 47 (.tmp 2) (.tmp 79) rfl w.heap.size #[.string ⟨#[]⟩, .string ⟨#[]⟩, .slice none 0 0, .int .i64 0, .int .i64 0] rfl rfl 47 zE HZ4.out info_er rfl (by simp [Value.oneCell']) ?_)
            rw [← hQ]
            simp only [Exit.inBlock, Exit.then]
            go_step
            go_step
            simp only [Exit.inBlock, Exit.then]
            refine bodyPost_ret (results_cell_row Tryz.results76 _ _ w.heap.size 47 _ (0, 0) _ rfl (setRow_eq HZ4.out) Tryz.underlying47 rfl info_er) rfl ?_
            rw [← HR.out, HRI.out]
            exact brk_bad hR HF4.out haf _
          | cls g l3 =>
            as_aux_lemma =>
            have HIT := Lib.hid hit
            have HST2 := Lib.hid (show RI = (match (if rngD l3 then .bad 2 else .ok g l3 : Res (Nat → Bool)) with
              | .bad e => .bad e
              | .ok f' l' => itemsD m false f' l') by rw [HST.out, hit]; rfl)
            have HLN := Lib.hid (show rngD l3 = false → l3.length < m from fun h => by
              have := moreD_len (f := f) (l := c :: t) (g := g) (l' := l3) (by simp) (by rw [hit]; show (if rngD l3 then _ else _) = _; rw [h]; rfl)
              have := HL2.out
              omega)
            clear hit
            go_upto_region 19 with (first | (go_at_call 91; go_must (refine (item_all _ R (w.heap.size + 1) s d f (c :: t) (by simp) (by exact HAS.out) (by exact HBX.out)).mono ?_; intro en w4 hip; rw [HIT.out] at hip; obtain ⟨hf4, rfl, has4, hb4⟩ := hip; have HF4 := Lib.hid (frm_new (HFF.out.drewN n3) hf4 (Nat.le_succ _)); have HZ4 := Lib.hid (Box.frm (S := At2 R (w.heap.size + 1)) (by exact HZZ.out) hf4 (fun e => by rcases e with e | e <;> (have e' := (show (w.heap.size : Nat) = _ from e); omega))); have HB4 := Lib.hid hb4; have HS4 := Lib.hid has4; obtain ⟨j4, hj4, he4⟩ := has4; have HJ4 := Lib.hid (And.intro hj4 he4); have b0 := hj4.c0; have b1 := hj4.c1; have b2 := hj4.c2; have bz := hj4.2.1; have bs := hj4.2.2.1; clear hf4 hb4 hj4 he4)))
            go_cut [115] (fun tv wx => tv = .bool (rngD l3) ∧ ∃ n, wx = World.drewN w4 n)
            case first =>
              have hw4 := wrap_in5 ((j4 : Int) + 1) (by omega) (by omega)
              rcases rng_cases s j4 with ⟨hlt4, er⟩ | ⟨hlt4, m45, er⟩ | ⟨hlt4, m45, m93, er⟩ | ⟨hlt4, m45, m93, er⟩
              · have HER := Lib.hid (show rngD l3 = false by rw [← HJ4.out.2]; exact er)
                have g1 : decide ((j4 : Int) + 1 < (s.size : Int)) = false := by rw [decide_eq_false_iff_not]; omega
                have g1n : decide (j4 + 1 < s.size) = false := by rw [decide_eq_false_iff_not]; omega
                clear er
                go_quiet (fail)
                go_wp2
                go_meet
                exact ⟨by rw [HER.out], _, rfl⟩
              · have HER := Lib.hid (show rngD l3 = false by rw [← HJ4.out.2]; exact er)
                have hp0 : (0 : Int) ≤ (j4 : Int) := by omega
                have hp1 : (j4 : Int) < (s.size : Int) := by omega
                have hp2 : (j4 : Int) + 1 < (s.size : Int) := by omega
                clear er
                go_quiet (fail)
                go_wp2
                go_meet
                exact ⟨by rw [HER.out], _, rfl⟩
              · have HER := Lib.hid (show rngD l3 = false by rw [← HJ4.out.2]; exact er)
                have hp0 : (0 : Int) ≤ (j4 : Int) := by omega
                have hp1 : (j4 : Int) < (s.size : Int) := by omega
                have hp2 : (j4 : Int) + 1 < (s.size : Int) := by omega
                have hp3 : (0 : Int) ≤ (j4 : Int) + 1 := by omega
                clear er
                go_quiet (fail)
                go_wp2
                go_meet
                exact ⟨by rw [HER.out], _, rfl⟩
              · have HER := Lib.hid (show rngD l3 = true by rw [← HJ4.out.2]; exact er)
                have hp0 : (0 : Int) ≤ (j4 : Int) := by omega
                have hp1 : (j4 : Int) < (s.size : Int) := by omega
                have hp2 : (j4 : Int) + 1 < (s.size : Int) := by omega
                have hp3 : (0 : Int) ≤ (j4 : Int) + 1 := by omega
                clear er
                go_quiet (fail)
                go_wp2
                go_meet
                exact ⟨by rw [HER.out], _, rfl⟩
            case rest =>
            obtain ⟨rfl, n6, rfl⟩ := hcut
            clear b0 b1 b2 bz bs
            cases hrg : rngD l3 with
            | true =>
              have HRI := Lib.hid (show RI = .bad 2 by rw [HST2.out, hrg]; rfl)
              clear hrg
              go_upto_region 22 with (first | (go_at_call 30; go_must (refine (fail_as _ R s d _ 2 (by decide) _ rfl (by exact HS4.out)).mono ?_; rintro en w9 ⟨rfl, haf, hf9⟩; have HF9 := Lib.hid ((HF4.out.drewN _).trans hf9); have HZ9 := Lib.hid (Box.frm (S := At R) (by exact HZ4.out) hf9 (fun e => by have e' : w.heap.size = R := e; omega)))))
              go_hide hQ
              go_wp2_with (refine wpList_store_row rfl 47 (.tmp 2) (.tmp 120) rfl w.heap.size #[.string ⟨#[]⟩, .string ⟨#[]⟩, .slice none 0 0, .int .i64 0, .int .i64 0] rfl rfl 47 zE HZ9.out info_er rfl (by simp [Value.oneCell']) ?_)
              rw [← hQ]
              simp only [Exit.inBlock, Exit.then]
              go_step
              go_step
              simp only [Exit.inBlock, Exit.then]
              refine bodyPost_ret (results_cell_row Tryz.results76 _ _ w.heap.size 47 _ (0, 0) _ rfl (setRow_eq HZ9.out) Tryz.underlying47 rfl info_er) rfl ?_
              rw [← HR.out, HRI.out]
              exact brk_bad hR HF9.out haf _
            | false =>
              have HN5 := Lib.hid (show itemsD m false g l3 = RI by rw [HST2.out, hrg]; rfl)
              have HLN2 := Lib.hid (HLN.out hrg)
              clear hrg
              go_wp2
              go_roundg m
              case measure => have := HGK.out; omega
              case rel => exact ⟨false, g, l3, rfl, HLN2.out, HN5.out, HS4.out, HB4.out, HZ4.out, HF4.out.drewN _⟩
          | one b4 l3 =>
            have HIT := Lib.hid hit
            have HST2 := Lib.hid (show RI = (match (if rngD l3 then (match itemD emptyF l3.tail with
              | .bad e => .bad e
              | .cls _ _ => .bad 2
              | .one hi l' => if hi < b4 then .bad 2 else .ok (addF f b4 hi) l') else .ok (addF f b4 b4) l3 : Res (Nat → Bool)) with
              | .bad e => .bad e
              | .ok f' l' => itemsD m false f' l') by rw [HST.out, hit]; rfl)
            have HLN := Lib.hid (show ∀ g l', moreD f (.one b4 l3) = .ok g l' → l'.length < m from fun g l' h => by
              have := moreD_len (f := f) (l := c :: t) (g := g) (l' := l') (by simp) (by rw [hit]; exact h)
              have := HL2.out
              omega)
            clear hit
            go_upto_region 19 with (first | (go_at_call 91; go_must (refine (item_all _ R (w.heap.size + 1) s d f (c :: t) (by simp) (by exact HAS.out) (by exact HBX.out)).mono ?_; intro en w4 hip; rw [HIT.out] at hip; obtain ⟨hf4, rfl, has4, hb4⟩ := hip; have HF4 := Lib.hid (frm_new (HFF.out.drewN n3) hf4 (Nat.le_succ _)); have HZ4 := Lib.hid (Box.frm (S := At2 R (w.heap.size + 1)) (by exact HZZ.out) hf4 (fun e => by rcases e with e | e <;> (have e' := (show (w.heap.size : Nat) = _ from e); omega))); have HB4 := Lib.hid hb4; have HS4 := Lib.hid has4; obtain ⟨j4, hj4, he4⟩ := has4; have HJ4 := Lib.hid (And.intro hj4 he4); have b0 := hj4.c0; have b1 := hj4.c1; have b2 := hj4.c2; have bz := hj4.2.1; have bs := hj4.2.2.1; clear hf4 hb4 hj4 he4)))
            go_cut [115] (fun tv wx => tv = .bool (rngD l3) ∧ ∃ n, wx = World.drewN w4 n)
            case first =>
              have hw4 := wrap_in5 ((j4 : Int) + 1) (by omega) (by omega)
              rcases rng_cases s j4 with ⟨hlt4, er⟩ | ⟨hlt4, m45, er⟩ | ⟨hlt4, m45, m93, er⟩ | ⟨hlt4, m45, m93, er⟩
              · have HER := Lib.hid (show rngD l3 = false by rw [← HJ4.out.2]; exact er)
                have g1 : decide ((j4 : Int) + 1 < (s.size : Int)) = false := by rw [decide_eq_false_iff_not]; omega
                have g1n : decide (j4 + 1 < s.size) = false := by rw [decide_eq_false_iff_not]; omega
                clear er
                go_quiet (fail)
                go_wp2
                go_meet
                exact ⟨by rw [HER.out], _, rfl⟩
              · have HER := Lib.hid (show rngD l3 = false by rw [← HJ4.out.2]; exact er)
                have hp0 : (0 : Int) ≤ (j4 : Int) := by omega
                have hp1 : (j4 : Int) < (s.size : Int) := by omega
                have hp2 : (j4 : Int) + 1 < (s.size : Int) := by omega
                clear er
                go_quiet (fail)
                go_wp2
                go_meet
                exact ⟨by rw [HER.out], _, rfl⟩
              · have HER := Lib.hid (show rngD l3 = false by rw [← HJ4.out.2]; exact er)
                have hp0 : (0 : Int) ≤ (j4 : Int) := by omega
                have hp1 : (j4 : Int) < (s.size : Int) := by omega
                have hp2 : (j4 : Int) + 1 < (s.size : Int) := by omega
                have hp3 : (0 : Int) ≤ (j4 : Int) + 1 := by omega
                clear er
                go_quiet (fail)
                go_wp2
                go_meet
                exact ⟨by rw [HER.out], _, rfl⟩
              · have HER := Lib.hid (show rngD l3 = true by rw [← HJ4.out.2]; exact er)
                have hp0 : (0 : Int) ≤ (j4 : Int) := by omega
                have hp1 : (j4 : Int) < (s.size : Int) := by omega
                have hp2 : (j4 : Int) + 1 < (s.size : Int) := by omega
                have hp3 : (0 : Int) ≤ (j4 : Int) + 1 := by omega
                clear er
                go_quiet (fail)
                go_wp2
                go_meet
                exact ⟨by rw [HER.out], _, rfl⟩
            case rest =>
            obtain ⟨rfl, n6, rfl⟩ := hcut
            clear b0 b1 b2 bz bs
            cases hrg : rngD l3 with
            | true =>
              obtain ⟨y5, u5, hu5⟩ : ∃ y u, l3 = 45 :: y :: u := by
                match l3, hrg with
                | x :: y :: u, h =>
                  simp only [rngD, Bool.and_eq_true, beq_iff_eq] at h
                  exact ⟨y, u, by rw [h.1]⟩
              have HNE := Lib.hid (show l3.tail ≠ [] by rw [hu5]; simp)
              have HLN2 := Lib.hid (show ∀ g l', moreD f (.one b4 l3) = .ok g l' → l'.length < m from fun g l' h => HLN.out g l' h)
              have HRG := Lib.hid hrg
              have HST3 := Lib.hid (show RI = (match (match itemD emptyF l3.tail with
                | .bad e => .bad e
                | .cls _ _ => .bad 2
                | .one hi l' => if hi < b4 then .bad 2 else .ok (addF f b4 hi) l' : Res (Nat → Bool)) with
                | .bad e => .bad e
                | .ok f' l' => itemsD m false f' l') by rw [HST2.out, hrg]; rfl)
              have hlt4 : j4 < s.size := by
                have := HJ4.out.2
                rw [hu5] at this
                exact sx_lt this
              have HS5 := Lib.hid (show AS (((World.drewN w4 n6).setCell ⟨R, 1, none⟩ (.int .i64 ((j4 : Int) + 1))).alloc (.cells (bA emptyF) 4)) R s d l3.tail from AS.move (w := (World.drewN w4 n6).setCell ⟨R, 1, none⟩ (.int .i64 ((j4 : Int) + 1))) ⟨j4 + 1, ASI.set (w := World.drewN w4 n6) HJ4.out.1 (j4 + 1) (by omega) _ (by omega), by have := HJ4.out.2; rw [hu5] at this ⊢; exact sx_tl this⟩ ((Frm.refl No _).alloc _))
              have HB5 := Lib.hid (show Box (((World.drewN w4 n6).setCell ⟨R, 1, none⟩ (.int .i64 ((j4 : Int) + 1))).alloc (.cells (bA emptyF) 4)) w4.heap.size 4 (bA emptyF) from by
                have := Box.new ((World.drewN w4 n6).setCell ⟨R, 1, none⟩ (.int .i64 ((j4 : Int) + 1))) 4 (bA emptyF)
                rw [show ((World.drewN w4 n6).setCell ⟨R, 1, none⟩ (.int .i64 ((j4 : Int) + 1))).heap.size = w4.heap.size by simp] at this
                exact this)
              have h4lt := HB4.out.lt
              have HZ5 := Lib.hid (show Box (((World.drewN w4 n6).setCell ⟨R, 1, none⟩ (.int .i64 ((j4 : Int) + 1))).alloc (.cells (bA emptyF) 4)) w.heap.size 47 zE from (Box.set_ne (w := World.drewN w4 n6) HZ4.out _ (by omega)).alloc _)
              have HG5 := Lib.hid (show Box (((World.drewN w4 n6).setCell ⟨R, 1, none⟩ (.int .i64 ((j4 : Int) + 1))).alloc (.cells (bA emptyF) 4)) (w.heap.size + 1) 4 (bA f) from (Box.set_ne (w := World.drewN w4 n6) HB4.out _ (by omega)).alloc _)
              have HF5 := Lib.hid (show Frm (At R) w (((World.drewN w4 n6).setCell ⟨R, 1, none⟩ (.int .i64 ((j4 : Int) + 1))).alloc (.cells (bA emptyF) 4)) from ((HF4.out.drewN n6).trans (frm_at _ R 1 _)).alloc _)
              have r0 := HJ4.out.1.c0
              have r1 := HJ4.out.1.c1
              have rf1 := HJ4.out.1.1.f 1
              have rz := HJ4.out.1.2.2.1
              clear hrg hu5
              cases hi2 : itemD emptyF l3.tail with
              | bad e3 =>
                as_aux_lemma =>
                have HIT2 := Lib.hid hi2
                have HRI := Lib.hid (show RI = .bad e3 by rw [HST3.out, hi2])
                clear hi2
                go_upto_region 26 with (first | (go_at_call 91; go_must (refine (item_all _ R w4.heap.size s d emptyF l3.tail HNE.out (by exact HS5.out) (by exact HB5.out)).mono ?_; intro en w6 hip; rw [HIT2.out] at hip; obtain ⟨hf6, ⟨ib, rfl⟩, haf⟩ := hip; have hs6 := hf6.size; have HF6 := Lib.hid (frm_new HF5.out hf6 (by omega)); have HZ6 := Lib.hid (Box.frm (S := At2 R w4.heap.size) (by exact HZ5.out) hf6 (fun e => by rcases e with e | e <;> (have e' := (show (w.heap.size : Nat) = _ from e); omega))); obtain ⟨q6, hne6⟩ := af_cell haf; clear hf6)))
                go_hide hQ
                go_wp2_with (refine wpList_store_row rfl 47 (.tmp 2) (.tmp 139) rfl w.heap.size #[.string ⟨#[]⟩, .string ⟨#[]⟩, .slice none 0 0, .int .i64 0, .int .i64 0] rfl rfl 47 zE HZ6.out info_er rfl (by simp [Value.oneCell']) ?_)
                rw [← hQ]
                simp only [Exit.inBlock, Exit.then]
                go_step
                go_step
                simp only [Exit.inBlock, Exit.then]
                refine bodyPost_ret (results_cell_row Tryz.results76 _ _ w.heap.size 47 _ (0, 0) _ rfl (setRow_eq HZ6.out) Tryz.underlying47 rfl info_er) rfl ?_
                rw [← HR.out, HRI.out]
                exact brk_bad hR HF6.out haf _
              | cls g5 l5 =>
                as_aux_lemma =>
                have HIT2 := Lib.hid hi2
                have HRI := Lib.hid (show RI = .bad 2 by rw [HST3.out, hi2])
                clear hi2
                go_upto_region 29 with (first | (go_at_call 91; go_must (refine (item_all _ R w4.heap.size s d emptyF l3.tail HNE.out (by exact HS5.out) (by exact HB5.out)).mono ?_; intro en w6 hip; rw [HIT2.out] at hip; obtain ⟨hf6, rfl, has6, hb6⟩ := hip; have hs6 := hf6.size; have HF6 := Lib.hid (frm_new HF5.out hf6 (by omega)); have HZ6 := Lib.hid (Box.frm (S := At2 R w4.heap.size) (by exact HZ5.out) hf6 (fun e => by rcases e with e | e <;> (have e' := (show (w.heap.size : Nat) = _ from e); omega))); have HS6 := Lib.hid has6; obtain ⟨j6, hj6, _⟩ := has6; have q6 := hj6.c2; clear hf6 hb6 hj6)) | (go_at_call 30; go_must (refine (fail_as _ R s d _ 2 (by decide) _ rfl (by exact HS6.out)).mono ?_; rintro en w9 ⟨rfl, haf, hf9⟩; have HF9 := Lib.hid (HF6.out.trans hf9); have HZ9 := Lib.hid (Box.frm (S := At R) (by exact HZ6.out) hf9 (fun e => by have e' : w.heap.size = R := e; omega)))))
                go_hide hQ
                go_wp2_with (refine wpList_store_row rfl 47 (.tmp 2) (.tmp 149) rfl w.heap.size #[.string ⟨#[]⟩, .string ⟨#[]⟩, .slice none 0 0, .int .i64 0, .int .i64 0] rfl rfl 47 zE HZ9.out info_er rfl (by simp [Value.oneCell']) ?_)
                rw [← hQ]
                simp only [Exit.inBlock, Exit.then]
                go_step
                go_step
                simp only [Exit.inBlock, Exit.then]
                refine bodyPost_ret (results_cell_row Tryz.results76 _ _ w.heap.size 47 _ (0, 0) _ rfl (setRow_eq HZ9.out) Tryz.underlying47 rfl info_er) rfl ?_
                rw [← HR.out, HRI.out]
                exact brk_bad hR HF9.out haf _
              | one hi l5 =>
                have HIT2 := Lib.hid hi2
                have hblt := b4.toNat_lt
                have hhlt := hi.toNat_lt
                by_cases hcmp : hi < b4
                · as_aux_lemma =>
                  have HRI := Lib.hid (show RI = .bad 2 by rw [HST3.out, hi2]; simp only [if_pos hcmp])
                  have g3 : (hi.toNat : Int) < (b4.toNat : Int) := by have : hi.toNat < b4.toNat := hcmp; omega
                  have g3b : decide ((hi.toNat : Int) < (b4.toNat : Int)) = true := decide_eq_true g3
                  have g3n : decide (hi.toNat < b4.toNat) = true := decide_eq_true (by omega)
                  clear hi2
                  go_upto_region 29 with (first | (go_at_call 91; go_must (refine (item_all _ R w4.heap.size s d emptyF l3.tail HNE.out (by exact HS5.out) (by exact HB5.out)).mono ?_; intro en w6 hip; rw [HIT2.out] at hip; obtain ⟨hf6, rfl, has6, hb6⟩ := hip; have hs6 := hf6.size; have HF6 := Lib.hid (frm_new HF5.out hf6 (by omega)); have HZ6 := Lib.hid (Box.frm (S := At2 R w4.heap.size) (by exact HZ5.out) hf6 (fun e => by rcases e with e | e <;> (have e' := (show (w.heap.size : Nat) = _ from e); omega))); have HS6 := Lib.hid has6; obtain ⟨j6, hj6, _⟩ := has6; have q6 := hj6.c2; clear hf6 hb6 hj6)) | (go_at_call 30; go_must (refine (fail_as _ R s d _ 2 (by decide) _ rfl (by exact HS6.out)).mono ?_; rintro en w9 ⟨rfl, haf, hf9⟩; have HF9 := Lib.hid (HF6.out.trans hf9); have HZ9 := Lib.hid (Box.frm (S := At R) (by exact HZ6.out) hf9 (fun e => by have e' : w.heap.size = R := e; omega)))))
                  go_hide hQ
                  go_wp2_with (refine wpList_store_row rfl 47 (.tmp 2) (.tmp 149) rfl w.heap.size #[.string ⟨#[]⟩, .string ⟨#[]⟩, .slice none 0 0, .int .i64 0, .int .i64 0] rfl rfl 47 zE HZ9.out info_er rfl (by simp [Value.oneCell']) ?_)
                  rw [← hQ]
                  simp only [Exit.inBlock, Exit.then]
                  go_step
                  go_step
                  simp only [Exit.inBlock, Exit.then]
                  refine bodyPost_ret (results_cell_row Tryz.results76 _ _ w.heap.size 47 _ (0, 0) _ rfl (setRow_eq HZ9.out) Tryz.underlying47 rfl info_er) rfl ?_
                  rw [← HR.out, HRI.out]
                  exact brk_bad hR HF9.out haf _
                · as_aux_lemma =>
                  have HN5 := Lib.hid (show itemsD m false (addF f b4 hi) l5 = RI by rw [HST3.out, hi2]; simp only [if_neg hcmp])
                  have hle : b4.toNat ≤ hi.toNat := Nat.le_of_not_lt hcmp
                  have g3b : decide ((hi.toNat : Int) < (b4.toNat : Int)) = false := by rw [decide_eq_false_iff_not]; omega
                  have g3n : decide (hi.toNat < b4.toNat) = false := by rw [decide_eq_false_iff_not]; omega
                  have HL5 := Lib.hid (HLN2.out (addF f b4 hi) l5 (by show (if rngD l3 then _ else _) = _; rw [HRG.out, if_pos rfl, hi2]; simp only [if_neg hcmp]))
                  clear hi2 hcmp
                  go_wp2_with (go_at_call 91; go_must (refine (item_all _ R w4.heap.size s d emptyF l3.tail HNE.out (by exact HS5.out) (by exact HB5.out)).mono ?_; intro en w6 hip; rw [HIT2.out] at hip; obtain ⟨hf6, rfl, has6, hb6⟩ := hip; have hs6 := hf6.size; have HF6 := Lib.hid (frm_new HF5.out hf6 (by omega)); have HZ6 := Lib.hid (Box.frm (S := At2 R w4.heap.size) (by exact HZ5.out) hf6 (fun e => by rcases e with e | e <;> (have e' := (show (w.heap.size : Nat) = _ from e); omega))); have HS6 := Lib.hid has6; have HG6 := Lib.hid (Box.frm (S := At2 R w4.heap.size) (by exact HG5.out) hf6 (fun e => by rcases e with e | e <;> (have e' := (show (w.heap.size + 1 : Nat) = _ from e); omega))); obtain ⟨j6, hj6, _⟩ := has6; have q6 := hj6.c2; clear hf6 hb6 hj6))
                  go_loopw [10] (fun kv wq => ∃ k : Nat, k ≤ 256 ∧ kv = .int .i64 (k : Int) ∧ b4.toNat ≤ k ∧ k ≤ hi.toNat + 1 ∧ Hid (Box wq (w.heap.size + 1) 4 (bA fun x => f x || (decide (b4.toNat ≤ x) && decide (x < k)))) ∧ Hid (AS wq R s d l5) ∧ Hid (Box wq w.heap.size 47 zE) ∧ Frm (At R) w wq) (fun kv _ => 256 - (intOf kv).toNat)
                  case atStart => exact ⟨b4.toNat, by omega, rfl, by omega, by omega, Lib.hid (by rw [addF_begin]; exact HG6.out), HS6, HZ6, HF6.out⟩
                  case round =>
                    obtain ⟨k, hk, rfl, hbk, hkh, HBK, HSK, HZK, hfk⟩ := hrel
                    have HFK := Lib.hid hfk
                    clear hfk
                    by_cases hkle : k ≤ hi.toNat
                    · have hk0 : (0 : Int) ≤ (k : Int) := by omega
                      have hk1 : (k : Int) < 256 := by omega
                      have hk2 : (k : Int) ≤ (hi.toNat : Int) := by omega
                      have hfz := HBK.out.f k
                      obtain ⟨v7, q7⟩ : ∃ v7, wr.cell? ⟨w.heap.size + 1, k, none⟩ = some v7 := ⟨_, (HBK.out.cell k).trans (bA_get _ k (by omega))⟩
                      have HSTP := Lib.hid (addF_step f b4 k (by omega) hbk)
                      go_wp2
                      exact ⟨⟨k + 1, by omega, by go_num, by omega, by omega, Lib.hid (by rw [← HSTP.out]; exact HBK.out.set k (.bool true)), Lib.hid (HSK.out.frm (S := At (w.heap.size + 1)) ((Frm.refl _ wr).setCell ⟨w.heap.size + 1, k, none⟩ (.bool true) (fun _ => rfl)) (fun e => by have e' : R = w.heap.size + 1 := e; omega)), Lib.hid (HZK.out.set_ne (.bool true) (by omega)), HFK.out.setCell ⟨w.heap.size + 1, k, none⟩ _ (fun hk => absurd hk (by simp))⟩, by simp [intOf]; omega⟩
                    · obtain rfl : k = hi.toNat + 1 := by omega
                      have hk2 : ¬ ((hi.toNat + 1 : Nat) : Int) ≤ (hi.toNat : Int) := by omega
                      have HBE := Lib.hid (show Box wr (w.heap.size + 1) 4 (bA (addF f b4 hi)) by rw [← addF_end]; exact HBK.out)
                      go_wp2
                      go_roundg m
                      case measure => have := HGK.out; omega
                      case rel => exact ⟨false, addF f b4 hi, l5, rfl, HL5.out, HN5.out, HSK.out, HBE.out, HZK.out, HFK.out⟩
            | false =>
              as_aux_lemma =>
              have HN5 := Lib.hid (show itemsD m false (addF f b4 b4) l3 = RI by rw [HST2.out, hrg]; rfl)
              have HLN2 := Lib.hid (HLN.out (addF f b4 b4) l3 (by show (if rngD l3 then _ else _) = _; rw [hrg]; rfl))
              clear hrg
              have fz := HB4.out.f b4.toNat
              obtain ⟨v4, q4⟩ : ∃ v4, w4.cell? ⟨w.heap.size + 1, b4.toNat, none⟩ = some v4 := ⟨_, (HB4.out.cell b4.toNat).trans (bA_get _ b4.toNat b4.toNat_lt)⟩
              have hk0 : (0 : Int) ≤ (b4.toNat : Int) := by omega
              have hk1 : (b4.toNat : Int) < 256 := by have := b4.toNat_lt; omega
              have HSE := Lib.hid (addF_one f b4)
              go_wp2
              go_roundg m
              case measure => have := HGK.out; omega
              case rel => exact ⟨false, addF f b4 b4, l3, rfl, HLN2.out, HN5.out, HS4.out.frm (S := At (w.heap.size + 1)) (((Frm.refl _ w4).drewN n6).setCell ⟨w.heap.size + 1, b4.toNat, none⟩ (.bool true) (fun _ => rfl)) (fun e => by have e' : R = w.heap.size + 1 := e; omega), by rw [← HSE.out]; exact Box.set (w := w4.drewN n6) HB4.out b4.toNat (.bool true), Box.set_ne (w := w4.drewN n6) HZ4.out _ (by omega), (HF4.out.drewN n6).setCell ⟨w.heap.size + 1, b4.toNat, none⟩ _ (fun hk => absurd hk (by simp))⟩
end Go.Proofs.YtbfekknhmjndaaaGreat.doc3
