/- Contracts of ere's repeat, escaped and atom. -/
import Derived.Test.YtfgdhafpiikpjaaBracket
namespace Go.Proofs.Ytfgdhafpiikpjaa.items
set_option linter.unusedVariables false set_option linter.unusedSimpArgs false
open Go.ChangeShapes Go.WideShapes Go.ChangeAt Go.RowKit Go.Proofs.Ytfgdhafpiikpjaa.base Go.Proofs.Ytfgdhafpiikpjaa.read Go.Proofs.Ytfgdhafpiikpjaa.spec Go.Proofs.Ytfgdhafpiikpjaa.set Go.Proofs.Ytfgdhafpiikpjaa.nums Go.Proofs.Ytfgdhafpiikpjaa.parts

/-- What a repeat leaves. -/
def RepPost (w : World) (F : Nat → Prop) (R : Nat) (s : ByteArray) (d : Nat) (r : Res Part) (e : Ending) (w' : World) : Prop := match r with
  | .ok p l' => ∃ v, e = .returned (.tuple #[v, .int .i64 0]) ∧ PV w' (Or2 F w.heap.size) v p ∧ Rd w' R s d l' ∧ Frm (At R) w w'
  | .bad f => ∃ v, e = .returned (.tuple #[v, .int .i64 f]) ∧ Sh v ∧ 0 < f ∧ f ≤ 5 ∧ (∃ l', Rd w' R s d l') ∧ Frm (At R) w w'

set_option maxHeartbeats 1000000 in
theorem repeat_all (w : World) (F : Nat → Prop) (R : Nat) (s : ByteArray) (d : Nat) (v : Value) (p : Part) (l : List UInt8) (h : Rd w R s d l) (hp : PV w F v p) (ha : atRep l = true) :
    Calls Try.prog 73 #[.pointer (some ⟨R, 0, none⟩), v] w (RepPost w F R s d (repeatL p l)) := by
  have H := Lib.hid h
  have HPV := Lib.hid hp
  have hRlt := h.lt
  have hR0 := h.ne0
  obtain ⟨hn, a, cap, rfl, hk⟩ := hp
  cases l with
  | nil => simp [atRep, hd] at ha
  | cons c t =>
    clear h hk
    have HB1 := Lib.hid ((Box.new w 88 #[.string p.t.op, .string p.t.set, .slice a p.t.kids.len cap, .int .i64 p.t.lo, .int .i64 p.t.hi, .int .i64 p.n]).alloc (.cells zp 88))
    have HB2 := Lib.hid (Box.new (w.alloc (.cells #[.string p.t.op, .string p.t.set, .slice a p.t.kids.len cap, .int .i64 p.t.lo, .int .i64 p.t.hi, .int .i64 p.n] 88)) 88 zp)
    rw [World.size_alloc] at HB2
    have HF0 := Lib.hid (frm2 w (.cells #[.string p.t.op, .string p.t.set, .slice a p.t.kids.len cap, .int .i64 p.t.lo, .int .i64 p.t.hi, .int .i64 p.n] 88) (.cells zp 88))
    have HRA := Lib.hid ((H.out.alloc (.cells #[.string p.t.op, .string p.t.set, .slice a p.t.kids.len cap, .int .i64 p.t.lo, .int .i64 p.t.hi, .int .i64 p.n] 88)).alloc (.cells zp 88))
    have HN1 := Lib.hid (show ¬ At R w.heap.size from fun e => by have e' : w.heap.size = R := e; omega)
    have HN2 := Lib.hid (show ¬ At R (w.heap.size + 1) from fun e => by have e' : w.heap.size + 1 = R := e; omega)
    by_cases h42 : c = 42
    · subst h42
      rw [show repeatL p (42 :: t) = .ok (repP p 0 (-1)) t from rfl]
      go_enter Try.func73, Try.ntmps73
      go_wp2_with (first | (go_at_call 75; go_must (refine (next_all _ R s d 42 t (by exact HRA.out)).mono ?_; rintro e w2 ⟨rfl, hr2, hf2⟩; have HR2 := Lib.hid hr2; have HX1 := Lib.hid (HB1.out.frm hf2 HN1.out); have HX2 := Lib.hid (HB2.out.frm hf2 HN2.out); have HF2 := Lib.hid (show Frm (At R) w w2 from (HF0.out.mono (fun _ _ e => e.elim)).trans hf2); have HP2 := Lib.hid ((HPV.out.move HF0.out).rd hf2 HRA.out); clear hr2 hf2)) | (refine wpList_load_row rfl 88 (.tmp 3) rfl w.heap.size rfl 88 _ (0, 0) _ HX1.out Try.underlying88 rfl info_part ?_) | (go_at_call 84; go_must (refine (repeated_all _ F _ p 0 (-1) HP2.out (by omega) (by omega) (by omega)).mono ?_; rintro e w3 ⟨v3, rfl, hp3, hf3⟩; have HX3 := Lib.hid (show Box w3 (w.heap.size + 1) 88 zp from HX2.out.frm hf3 id); have HR3 := Lib.hid (HR2.out.move hf3); have HF3 := Lib.hid (HF2.out.then hf3 (fun _ _ e => e.elim)); have HP3 := Lib.hid hp3; obtain ⟨hn3, a3, cap3, rfl, hk3⟩ := hp3; clear hf3 hk3)) | (refine wpList_store_row rfl 88 (.tmp 4) (.tmp 14) rfl (w.heap.size + 1) _ rfl rfl 88 zp HX3.out info_part rfl (by simp [Value.oneCell']) ?_))
      refine bodyPost_ret (results_part2 Try.results73 _ _ (w.heap.size + 1) 88 _ (0, 0) _ (.int .i64 0) rfl rfl (setRow_eq HX3.out) Try.underlying88 rfl info_part) rfl ?_
      refine ⟨_, rfl, (PV.setRow HP3.out HX3.out (by decide) _).mono (fun g e _ => e.elim Or.inl (fun h => Or.inr (Nat.le_trans HF2.out.size h))), ?_, frm_setRow HF3.out _ _ (fun hk => by omega)⟩
      exact Rd.frm HR3.out (frm_setRow (S := At (w.heap.size + 1)) (Frm.refl _ _) _ _ (fun _ => rfl)) (fun e => HN2.out e.symm) (fun e => by have e' : 0 = w.heap.size + 1 := e; omega)
    have f42 : ((c.toNat : Int) == 42) = false := by rw [beq_eq_false_iff_ne]; intro e; exact h42 (UInt8.toNat_inj.1 (by show c.toNat = 42; omega))
    by_cases h43 : c = 43
    · subst h43
      rw [show repeatL p (43 :: t) = .ok (repP p 1 (-1)) t from rfl]
      go_enter Try.func73, Try.ntmps73
      go_wp2_with (first | (go_at_call 75; go_must (refine (next_all _ R s d 43 t (by exact HRA.out)).mono ?_; rintro e w2 ⟨rfl, hr2, hf2⟩; have HR2 := Lib.hid hr2; have HX1 := Lib.hid (HB1.out.frm hf2 HN1.out); have HX2 := Lib.hid (HB2.out.frm hf2 HN2.out); have HF2 := Lib.hid (show Frm (At R) w w2 from (HF0.out.mono (fun _ _ e => e.elim)).trans hf2); have HP2 := Lib.hid ((HPV.out.move HF0.out).rd hf2 HRA.out); clear hr2 hf2)) | (refine wpList_load_row rfl 88 (.tmp 3) rfl w.heap.size rfl 88 _ (0, 0) _ HX1.out Try.underlying88 rfl info_part ?_) | (go_at_call 84; go_must (refine (repeated_all _ F _ p 1 (-1) HP2.out (by omega) (by omega) (by omega)).mono ?_; rintro e w3 ⟨v3, rfl, hp3, hf3⟩; have HX3 := Lib.hid (show Box w3 (w.heap.size + 1) 88 zp from HX2.out.frm hf3 id); have HR3 := Lib.hid (HR2.out.move hf3); have HF3 := Lib.hid (HF2.out.then hf3 (fun _ _ e => e.elim)); have HP3 := Lib.hid hp3; obtain ⟨hn3, a3, cap3, rfl, hk3⟩ := hp3; clear hf3 hk3)) | (refine wpList_store_row rfl 88 (.tmp 4) (.tmp 18) rfl (w.heap.size + 1) _ rfl rfl 88 zp HX3.out info_part rfl (by simp [Value.oneCell']) ?_))
      refine bodyPost_ret (results_part2 Try.results73 _ _ (w.heap.size + 1) 88 _ (0, 0) _ (.int .i64 0) rfl rfl (setRow_eq HX3.out) Try.underlying88 rfl info_part) rfl ?_
      refine ⟨_, rfl, (PV.setRow HP3.out HX3.out (by decide) _).mono (fun g e _ => e.elim Or.inl (fun h => Or.inr (Nat.le_trans HF2.out.size h))), ?_, frm_setRow HF3.out _ _ (fun hk => by omega)⟩
      exact Rd.frm HR3.out (frm_setRow (S := At (w.heap.size + 1)) (Frm.refl _ _) _ _ (fun _ => rfl)) (fun e => HN2.out e.symm) (fun e => by have e' : 0 = w.heap.size + 1 := e; omega)
    have f43 : ((c.toNat : Int) == 43) = false := by rw [beq_eq_false_iff_ne]; intro e; exact h43 (UInt8.toNat_inj.1 (by show c.toNat = 43; omega))
    by_cases h63 : c = 63
    · subst h63
      rw [show repeatL p (63 :: t) = .ok (repP p 0 1) t from rfl]
      go_enter Try.func73, Try.ntmps73
      go_wp2_with (first | (go_at_call 75; go_must (refine (next_all _ R s d 63 t (by exact HRA.out)).mono ?_; rintro e w2 ⟨rfl, hr2, hf2⟩; have HR2 := Lib.hid hr2; have HX1 := Lib.hid (HB1.out.frm hf2 HN1.out); have HX2 := Lib.hid (HB2.out.frm hf2 HN2.out); have HF2 := Lib.hid (show Frm (At R) w w2 from (HF0.out.mono (fun _ _ e => e.elim)).trans hf2); have HP2 := Lib.hid ((HPV.out.move HF0.out).rd hf2 HRA.out); clear hr2 hf2)) | (refine wpList_load_row rfl 88 (.tmp 3) rfl w.heap.size rfl 88 _ (0, 0) _ HX1.out Try.underlying88 rfl info_part ?_) | (go_at_call 84; go_must (refine (repeated_all _ F _ p 0 1 HP2.out (by omega) (by omega) (by omega)).mono ?_; rintro e w3 ⟨v3, rfl, hp3, hf3⟩; have HX3 := Lib.hid (show Box w3 (w.heap.size + 1) 88 zp from HX2.out.frm hf3 id); have HR3 := Lib.hid (HR2.out.move hf3); have HF3 := Lib.hid (HF2.out.then hf3 (fun _ _ e => e.elim)); have HP3 := Lib.hid hp3; obtain ⟨hn3, a3, cap3, rfl, hk3⟩ := hp3; clear hf3 hk3)) | (refine wpList_store_row rfl 88 (.tmp 4) (.tmp 22) rfl (w.heap.size + 1) _ rfl rfl 88 zp HX3.out info_part rfl (by simp [Value.oneCell']) ?_))
      refine bodyPost_ret (results_part2 Try.results73 _ _ (w.heap.size + 1) 88 _ (0, 0) _ (.int .i64 0) rfl rfl (setRow_eq HX3.out) Try.underlying88 rfl info_part) rfl ?_
      refine ⟨_, rfl, (PV.setRow HP3.out HX3.out (by decide) _).mono (fun g e _ => e.elim Or.inl (fun h => Or.inr (Nat.le_trans HF2.out.size h))), ?_, frm_setRow HF3.out _ _ (fun hk => by omega)⟩
      exact Rd.frm HR3.out (frm_setRow (S := At (w.heap.size + 1)) (Frm.refl _ _) _ _ (fun _ => rfl)) (fun e => HN2.out e.symm) (fun e => by have e' : 0 = w.heap.size + 1 := e; omega)
    have f63 : ((c.toNat : Int) == 63) = false := by rw [beq_eq_false_iff_ne]; intro e; exact h63 (UInt8.toNat_inj.1 (by show c.toNat = 63; omega))
    have HRN := Lib.hid (show interval t = none → repeatL p (c :: t) = .bad 3 by
      intro h
      simp only [repeatL, if_neg h42, if_neg h43, if_neg h63, h])
    have HRS := Lib.hid (show ∀ lo hi t', interval t = some ((lo, hi), t') → repeatL p (c :: t) = .ok (repP p lo hi) t' by
      intro lo hi t' h
      simp only [repeatL, if_neg h42, if_neg h43, if_neg h63, h])
    clear h42 h43 h63
    cases hit : interval t with
    | none =>
      have HI := Lib.hid hit
      have HE := Lib.hid (HRN.out hit)
      clear hit
      go_enter Try.func73, Try.ntmps73
      go_wp2_with (first | (go_at_call 75; go_must (refine (next_all _ R s d c t (by exact HRA.out)).mono ?_; rintro e w2 ⟨rfl, hr2, hf2⟩; have HR2 := Lib.hid hr2; have HX1 := Lib.hid (HB1.out.frm hf2 HN1.out); have HX2 := Lib.hid (HB2.out.frm hf2 HN2.out); have HF2 := Lib.hid (show Frm (At R) w w2 from (HF0.out.mono (fun _ _ e => e.elim)).trans hf2); have HP2 := Lib.hid ((HPV.out.move HF0.out).rd hf2 HRA.out); clear hr2 hf2)) | (go_at_call 85; go_must (refine (interval_no _ R s d t (by exact HR2.out) HI.out).mono ?_; rintro e w3 ⟨x3, y3, l3, rfl, hr3, hf3⟩; have HX3 := Lib.hid (show Box w3 (w.heap.size + 1) 88 zp from HX2.out.frm hf3 HN2.out); have HR3 := Lib.hid hr3; have HF3 := Lib.hid (HF2.out.trans hf3); clear hr3 hf3)) | (refine wpList_store_row rfl 88 (.tmp 4) (.tmp 31) rfl (w.heap.size + 1) _ rfl rfl 88 zp HX3.out info_part rfl (by simp [Value.oneCell']) ?_))
      refine bodyPost_ret (results_part2 Try.results73 _ _ (w.heap.size + 1) 88 _ (0, 0) _ (.int .i64 3) rfl rfl (setRow_eq HX3.out) Try.underlying88 rfl info_part) rfl ?_
      rw [HE.out]
      exact ⟨_, rfl, ⟨⟨#[]⟩, ⟨#[]⟩, none, 0, 0, 0, 0, 0, rfl⟩, by omega, by omega, ⟨l3, Rd.frm HR3.out (frm_setRow (S := At (w.heap.size + 1)) (Frm.refl _ _) _ _ (fun _ => rfl)) (fun e => HN2.out e.symm) (fun e => by have e' : 0 = w.heap.size + 1 := e; omega)⟩, frm_setRow HF3.out _ _ (fun hk => by omega)⟩
    | some q =>
      obtain ⟨⟨lo, hi⟩, t'⟩ := q
      have HI := Lib.hid hit
      have HE := Lib.hid (HRS.out lo hi t' hit)
      clear hit
      go_enter Try.func73, Try.ntmps73
      go_wp2_with (first | (go_at_call 75; go_must (refine (next_all _ R s d c t (by exact HRA.out)).mono ?_; rintro e w2 ⟨rfl, hr2, hf2⟩; have HR2 := Lib.hid hr2; have HX1 := Lib.hid (HB1.out.frm hf2 HN1.out); have HX2 := Lib.hid (HB2.out.frm hf2 HN2.out); have HF2 := Lib.hid (show Frm (At R) w w2 from (HF0.out.mono (fun _ _ e => e.elim)).trans hf2); have HP2 := Lib.hid ((HPV.out.move HF0.out).rd hf2 HRA.out); clear hr2 hf2)) | (go_at_call 85; go_must (refine (interval_ok _ R s d lo hi t t' (by exact HR2.out) HI.out).mono ?_; rintro e w6 ⟨rfl, hb1, hb2, hb3, hr6, hf6⟩; have HX6 := Lib.hid (show Box w6 (w.heap.size + 1) 88 zp from HX2.out.frm hf6 HN2.out); have HY6 := Lib.hid (HX1.out.frm hf6 HN1.out); have HP6 := Lib.hid (HP2.out.rd hf6 HR2.out); have HR6 := Lib.hid hr6; have HF6 := Lib.hid (HF2.out.trans hf6); clear hr6 hf6)) | (refine wpList_load_row rfl 88 (.tmp 3) rfl w.heap.size rfl 88 _ (0, 0) _ HY6.out Try.underlying88 rfl info_part ?_) | (go_at_call 84; go_must (refine (repeated_all _ F _ p lo hi HP6.out hb1 hb2 hb3).mono ?_; rintro e w3 ⟨v3, rfl, hp3, hf3⟩; have HX3 := Lib.hid (show Box w3 (w.heap.size + 1) 88 zp from HX6.out.frm hf3 id); have HR3 := Lib.hid (HR6.out.move hf3); have HF3 := Lib.hid (HF6.out.then hf3 (fun _ _ e => e.elim)); have HP3 := Lib.hid hp3; obtain ⟨hn3, a3, cap3, rfl, hk3⟩ := hp3; clear hf3 hk3)) | (refine wpList_store_row rfl 88 (.tmp 4) (.tmp 35) rfl (w.heap.size + 1) _ rfl rfl 88 zp HX3.out info_part rfl (by simp [Value.oneCell']) ?_))
      refine bodyPost_ret (results_part2 Try.results73 _ _ (w.heap.size + 1) 88 _ (0, 0) _ (.int .i64 0) rfl rfl (setRow_eq HX3.out) Try.underlying88 rfl info_part) rfl ?_
      rw [HE.out]
      refine ⟨_, rfl, (PV.setRow HP3.out HX3.out (by decide) _).mono (fun g e _ => e.elim Or.inl (fun h => Or.inr (Nat.le_trans HF6.out.size h))), ?_, frm_setRow HF3.out _ _ (fun hk => by omega)⟩
      exact Rd.frm HR3.out (frm_setRow (S := At (w.heap.size + 1)) (Frm.refl _ _) _ _ (fun _ => rfl)) (fun e => HN2.out e.symm) (fun e => by have e' : 0 = w.heap.size + 1 := e; omega)
end Go.Proofs.Ytfgdhafpiikpjaa.items
