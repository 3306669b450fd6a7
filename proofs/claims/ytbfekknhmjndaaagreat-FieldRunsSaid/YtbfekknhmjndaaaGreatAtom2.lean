/- Contracts of ere's repeat, escaped and atom. Contracts of ere's escaped and atom. What each reader leaves is shorter than what it met. -/
import Derived.Test.YtbfekknhmjndaaaGreatBracket

namespace Go.Proofs.YtbfekknhmjndaaaGreat.items
set_option linter.unusedVariables false set_option linter.unusedSimpArgs false
open Go.ChangeShapes Go.WideShapes Go.ChangeAt Go.RowKit Go.Proofs.YtbfekknhmjndaaaGreat.base Go.Proofs.YtbfekknhmjndaaaGreat.read Go.Proofs.YtbfekknhmjndaaaGreat.spec Go.Proofs.YtbfekknhmjndaaaGreat.set Go.Proofs.YtbfekknhmjndaaaGreat.nums Go.Proofs.YtbfekknhmjndaaaGreat.parts

/-- What a repeat leaves. -/
def RepPost (w : World) (F : Nat → Prop) (R : Nat) (s : ByteArray) (d : Nat) (r : Res Part) (e : Ending) (w' : World) : Prop := match r with
  | .ok p l' => ∃ v, e = .returned (.tuple #[v, .int .i64 0]) ∧ PV w' (Or2 F w.heap.size) v p ∧ Rd w' R s d l' ∧ Frm (At R) w w'
  | .bad f => ∃ v, e = .returned (.tuple #[v, .int .i64 f]) ∧ Sh v ∧ 0 < f ∧ f ≤ 5 ∧ (∃ l', Rd w' R s d l') ∧ Frm (At R) w w'

set_option maxHeartbeats 1000000 in
theorem repeat_all (w : World) (F : Nat → Prop) (R : Nat) (s : ByteArray) (d : Nat) (v : Value) (p : Part) (l : List UInt8) (h : Rd w R s d l) (hp : PV w F v p) (ha : atRep l = true) :
    Calls Tryz.prog 94 #[.pointer (some ⟨R, 0, none⟩), v] w (RepPost w F R s d (repeatL p l)) := by
  have H := Lib.hid h
  have HPV := Lib.hid hp
  have hRlt := h.lt
  have hR0 := h.ne0
  obtain ⟨hn, a, cap, rfl, hk⟩ := hp
  cases l with
  | nil => simp [atRep, hd] at ha
  | cons c t =>
    clear h hk
    have HB1 := Lib.hid ((Box.new w 94 #[.string p.t.op, .string p.t.set, .slice a p.t.kids.len cap, .int .i64 p.t.lo, .int .i64 p.t.hi, .int .i64 p.n]).alloc (.cells zp 94))
    have HB2 := Lib.hid (Box.new (w.alloc (.cells #[.string p.t.op, .string p.t.set, .slice a p.t.kids.len cap, .int .i64 p.t.lo, .int .i64 p.t.hi, .int .i64 p.n] 94)) 94 zp)
    rw [World.size_alloc] at HB2
    have HF0 := Lib.hid (frm2 w (.cells #[.string p.t.op, .string p.t.set, .slice a p.t.kids.len cap, .int .i64 p.t.lo, .int .i64 p.t.hi, .int .i64 p.n] 94) (.cells zp 94))
    have HRA := Lib.hid ((H.out.alloc (.cells #[.string p.t.op, .string p.t.set, .slice a p.t.kids.len cap, .int .i64 p.t.lo, .int .i64 p.t.hi, .int .i64 p.n] 94)).alloc (.cells zp 94))
    have HN1 := Lib.hid (show ¬ At R w.heap.size from fun e => by have e' : w.heap.size = R := e; omega)
    have HN2 := Lib.hid (show ¬ At R (w.heap.size + 1) from fun e => by have e' : w.heap.size + 1 = R := e; omega)
    by_cases h42 : c = 42
    · subst h42
      rw [show repeatL p (42 :: t) = .ok (repP p 0 (-1)) t from rfl]
      go_enter Tryz.func94, Tryz.ntmps94
      go_wp2_with (first | (go_at_call 99; go_must (refine (next_all _ R s d 42 t (by exact HRA.out)).mono ?_; rintro e w2 ⟨rfl, hr2, hf2⟩; have HR2 := Lib.hid hr2; have HX1 := Lib.hid (HB1.out.frm hf2 HN1.out); have HX2 := Lib.hid (HB2.out.frm hf2 HN2.out); have HF2 := Lib.hid (show Frm (At R) w w2 from (HF0.out.mono (fun _ _ e => e.elim)).trans hf2); have HP2 := Lib.hid ((HPV.out.move HF0.out).rd hf2 HRA.out); clear hr2 hf2)) | (refine wpList_load_row rfl 94 (.tmp 3) rfl w.heap.size rfl 94 _ (0, 0) _ HX1.out Tryz.underlying94 rfl info_part ?_) | (go_at_call 108; go_must (refine (repeated_all _ F _ p 0 (-1) HP2.out (by omega) (by omega) (by omega)).mono ?_; rintro e w3 ⟨v3, rfl, hp3, hf3⟩; have HX3 := Lib.hid (show Box w3 (w.heap.size + 1) 94 zp from HX2.out.frm hf3 id); have HR3 := Lib.hid (HR2.out.move hf3); have HF3 := Lib.hid (HF2.out.then hf3 (fun _ _ e => e.elim)); have HP3 := Lib.hid hp3; obtain ⟨hn3, a3, cap3, rfl, hk3⟩ := hp3; clear hf3 hk3)) | (refine wpList_store_row rfl 94 (.tmp 4) (.tmp 14) rfl (w.heap.size + 1) _ rfl rfl 94 zp HX3.out info_part rfl (by simp [Value.oneCell']) ?_))
      refine bodyPost_ret (results_part2 Tryz.results94 _ _ (w.heap.size + 1) 94 _ (0, 0) _ (.int .i64 0) rfl rfl (setRow_eq HX3.out) Tryz.underlying94 rfl info_part) rfl ?_
      refine ⟨_, rfl, (PV.setRow HP3.out HX3.out (by decide) _).mono (fun g e _ => e.elim Or.inl (fun h => Or.inr (Nat.le_trans HF2.out.size h))), ?_, frm_setRow HF3.out _ _ (fun hk => by omega)⟩
      exact Rd.frm HR3.out (frm_setRow (S := At (w.heap.size + 1)) (Frm.refl _ _) _ _ (fun _ => rfl)) (fun e => HN2.out e.symm) (fun e => by have e' : 0 = w.heap.size + 1 := e; omega)
    have f42 : ((c.toNat : Int) == 42) = false := by rw [beq_eq_false_iff_ne]; intro e; exact h42 (UInt8.toNat_inj.1 (by show c.toNat = 42; omega))
    by_cases h43 : c = 43
    · subst h43
      rw [show repeatL p (43 :: t) = .ok (repP p 1 (-1)) t from rfl]
      go_enter Tryz.func94, Tryz.ntmps94
      go_wp2_with (first | (go_at_call 99; go_must (refine (next_all _ R s d 43 t (by exact HRA.out)).mono ?_; rintro e w2 ⟨rfl, hr2, hf2⟩; have HR2 := Lib.hid hr2; have HX1 := Lib.hid (HB1.out.frm hf2 HN1.out); have HX2 := Lib.hid (HB2.out.frm hf2 HN2.out); have HF2 := Lib.hid (show Frm (At R) w w2 from (HF0.out.mono (fun _ _ e => e.elim)).trans hf2); have HP2 := Lib.hid ((HPV.out.move HF0.out).rd hf2 HRA.out); clear hr2 hf2)) | (refine wpList_load_row rfl 94 (.tmp 3) rfl w.heap.size rfl 94 _ (0, 0) _ HX1.out Tryz.underlying94 rfl info_part ?_) | (go_at_call 108; go_must (refine (repeated_all _ F _ p 1 (-1) HP2.out (by omega) (by omega) (by omega)).mono ?_; rintro e w3 ⟨v3, rfl, hp3, hf3⟩; have HX3 := Lib.hid (show Box w3 (w.heap.size + 1) 94 zp from HX2.out.frm hf3 id); have HR3 := Lib.hid (HR2.out.move hf3); have HF3 := Lib.hid (HF2.out.then hf3 (fun _ _ e => e.elim)); have HP3 := Lib.hid hp3; obtain ⟨hn3, a3, cap3, rfl, hk3⟩ := hp3; clear hf3 hk3)) | (refine wpList_store_row rfl 94 (.tmp 4) (.tmp 18) rfl (w.heap.size + 1) _ rfl rfl 94 zp HX3.out info_part rfl (by simp [Value.oneCell']) ?_))
      refine bodyPost_ret (results_part2 Tryz.results94 _ _ (w.heap.size + 1) 94 _ (0, 0) _ (.int .i64 0) rfl rfl (setRow_eq HX3.out) Tryz.underlying94 rfl info_part) rfl ?_
      refine ⟨_, rfl, (PV.setRow HP3.out HX3.out (by decide) _).mono (fun g e _ => e.elim Or.inl (fun h => Or.inr (Nat.le_trans HF2.out.size h))), ?_, frm_setRow HF3.out _ _ (fun hk => by omega)⟩
      exact Rd.frm HR3.out (frm_setRow (S := At (w.heap.size + 1)) (Frm.refl _ _) _ _ (fun _ => rfl)) (fun e => HN2.out e.symm) (fun e => by have e' : 0 = w.heap.size + 1 := e; omega)
    have f43 : ((c.toNat : Int) == 43) = false := by rw [beq_eq_false_iff_ne]; intro e; exact h43 (UInt8.toNat_inj.1 (by show c.toNat = 43; omega))
    by_cases h63 : c = 63
    · subst h63
      rw [show repeatL p (63 :: t) = .ok (repP p 0 1) t from rfl]
      go_enter Tryz.func94, Tryz.ntmps94
      go_wp2_with (first | (go_at_call 99; go_must (refine (next_all _ R s d 63 t (by exact HRA.out)).mono ?_; rintro e w2 ⟨rfl, hr2, hf2⟩; have HR2 := Lib.hid hr2; have HX1 := Lib.hid (HB1.out.frm hf2 HN1.out); have HX2 := Lib.hid (HB2.out.frm hf2 HN2.out); have HF2 := Lib.hid (show Frm (At R) w w2 from (HF0.out.mono (fun _ _ e => e.elim)).trans hf2); have HP2 := Lib.hid ((HPV.out.move HF0.out).rd hf2 HRA.out); clear hr2 hf2)) | (refine wpList_load_row rfl 94 (.tmp 3) rfl w.heap.size rfl 94 _ (0, 0) _ HX1.out Tryz.underlying94 rfl info_part ?_) | (go_at_call 108; go_must (refine (repeated_all _ F _ p 0 1 HP2.out (by omega) (by omega) (by omega)).mono ?_; rintro e w3 ⟨v3, rfl, hp3, hf3⟩; have HX3 := Lib.hid (show Box w3 (w.heap.size + 1) 94 zp from HX2.out.frm hf3 id); have HR3 := Lib.hid (HR2.out.move hf3); have HF3 := Lib.hid (HF2.out.then hf3 (fun _ _ e => e.elim)); have HP3 := Lib.hid hp3; obtain ⟨hn3, a3, cap3, rfl, hk3⟩ := hp3; clear hf3 hk3)) | (refine wpList_store_row rfl 94 (.tmp 4) (.tmp 22) rfl (w.heap.size + 1) _ rfl rfl 94 zp HX3.out info_part rfl (by simp [Value.oneCell']) ?_))
      refine bodyPost_ret (results_part2 Tryz.results94 _ _ (w.heap.size + 1) 94 _ (0, 0) _ (.int .i64 0) rfl rfl (setRow_eq HX3.out) Tryz.underlying94 rfl info_part) rfl ?_
      refine ⟨_, rfl, (PV.setRow HP3.out HX3.out (by decide) _).mono (fun g e _ => e.elim Or.inl (fun h => Or.inr (Nat.le_trans HF2.out.size h))), ?_, frm_setRow HF3.out _ _ (fun hk => by omega)⟩
      exact Rd.frm HR3.out (frm_setRow (S := At (w.heap.size + 1)) (Frm.refl _ _) _ _ (fun _ => rfl)) (fun e => HN2.out e.symm) (fun e => by have e' : 0 = w.heap.size + 1 := e; omega)
    have f63 : ((c.toNat : Int) == 63) = false := by rw [beq_eq_false_iff_ne]; intro e; exact h63 (UInt8.toNat_inj.1 (by show c.toNat = 63; omega))
    have HRN := Lib.hid (show interval t = none → repeatL p (c :: t) = .bad 3 by
      intro h
      simp only [repeatL, if_neg h42, if_neg h43, if_neg h63, h])
    have HRS := Lib.hid (show ∀ lo hi t', interval t = some ((lo, hi), t') → repeatL p (c :: t) = .ok (repP p lo hi) t' by
      intro lo hi t' h
      simp only [repeatL, if_neg h42, if_neg h43, if_neg h63, h])
    clear h42 h43 h63
    cases hit : interval t with
    | none =>
      have HI := Lib.hid hit
      have HE := Lib.hid (HRN.out hit)
      clear hit
      go_enter Tryz.func94, Tryz.ntmps94
      go_wp2_with (first | (go_at_call 99; go_must (refine (next_all _ R s d c t (by exact HRA.out)).mono ?_; rintro e w2 ⟨rfl, hr2, hf2⟩; have HR2 := Lib.hid hr2; have HX1 := Lib.hid (HB1.out.frm hf2 HN1.out); have HX2 := Lib.hid (HB2.out.frm hf2 HN2.out); have HF2 := Lib.hid (show Frm (At R) w w2 from (HF0.out.mono (fun _ _ e => e.elim)).trans hf2); have HP2 := Lib.hid ((HPV.out.move HF0.out).rd hf2 HRA.out); clear hr2 hf2)) | (go_at_call 109; go_must (refine (interval_no _ R s d t (by exact HR2.out) HI.out).mono ?_; rintro e w3 ⟨x3, y3, l3, rfl, hr3, hf3⟩; have HX3 := Lib.hid (show Box w3 (w.heap.size + 1) 94 zp from HX2.out.frm hf3 HN2.out); have HR3 := Lib.hid hr3; have HF3 := Lib.hid (HF2.out.trans hf3); clear hr3 hf3)) | (refine wpList_store_row rfl 94 (.tmp 4) (.tmp 31) rfl (w.heap.size + 1) _ rfl rfl 94 zp HX3.out info_part rfl (by simp [Value.oneCell']) ?_))
      refine bodyPost_ret (results_part2 Tryz.results94 _ _ (w.heap.size + 1) 94 _ (0, 0) _ (.int .i64 3) rfl rfl (setRow_eq HX3.out) Tryz.underlying94 rfl info_part) rfl ?_
      rw [HE.out]
      exact ⟨_, rfl, ⟨⟨#[]⟩, ⟨#[]⟩, none, 0, 0, 0, 0, 0, rfl⟩, by omega, by omega, ⟨l3, Rd.frm HR3.out (frm_setRow (S := At (w.heap.size + 1)) (Frm.refl _ _) _ _ (fun _ => rfl)) (fun e => HN2.out e.symm) (fun e => by have e' : 0 = w.heap.size + 1 := e; omega)⟩, frm_setRow HF3.out _ _ (fun hk => by omega)⟩
    | some q =>
      obtain ⟨⟨lo, hi⟩, t'⟩ := q
      have HI := Lib.hid hit
      have HE := Lib.hid (HRS.out lo hi t' hit)
      clear hit
      go_enter Tryz.func94, Tryz.ntmps94
      go_wp2_with (first | (go_at_call 99; go_must (refine (next_all _ R s d c t (by exact HRA.out)).mono ?_; rintro e w2 ⟨rfl, hr2, hf2⟩; have HR2 := Lib.hid hr2; have HX1 := Lib.hid (HB1.out.frm hf2 HN1.out); have HX2 := Lib.hid (HB2.out.frm hf2 HN2.out); have HF2 := Lib.hid (show Frm (At R) w w2 from (HF0.out.mono (fun _ _ e => e.elim)).trans hf2); have HP2 := Lib.hid ((HPV.out.move HF0.out).rd hf2 HRA.out); clear hr2 hf2)) | (go_at_call 109; go_must (refine (interval_ok _ R s d lo hi t t' (by exact HR2.out) HI.out).mono ?_; rintro e w6 ⟨rfl, hb1, hb2, hb3, hr6, hf6⟩; have HX6 := Lib.hid (show Box w6 (w.heap.size + 1) 94 zp from HX2.out.frm hf6 HN2.out); have HY6 := Lib.hid (HX1.out.frm hf6 HN1.out); have HP6 := Lib.hid (HP2.out.rd hf6 HR2.out); have HR6 := Lib.hid hr6; have HF6 := Lib.hid (HF2.out.trans hf6); clear hr6 hf6)) | (refine wpList_load_row rfl 94 (.tmp 3) rfl w.heap.size rfl 94 _ (0, 0) _ HY6.out Tryz.underlying94 rfl info_part ?_) | (go_at_call 108; go_must (refine (repeated_all _ F _ p lo hi HP6.out hb1 hb2 hb3).mono ?_; rintro e w3 ⟨v3, rfl, hp3, hf3⟩; have HX3 := Lib.hid (show Box w3 (w.heap.size + 1) 94 zp from HX6.out.frm hf3 id); have HR3 := Lib.hid (HR6.out.move hf3); have HF3 := Lib.hid (HF6.out.then hf3 (fun _ _ e => e.elim)); have HP3 := Lib.hid hp3; obtain ⟨hn3, a3, cap3, rfl, hk3⟩ := hp3; clear hf3 hk3)) | (refine wpList_store_row rfl 94 (.tmp 4) (.tmp 35) rfl (w.heap.size + 1) _ rfl rfl 94 zp HX3.out info_part rfl (by simp [Value.oneCell']) ?_))
      refine bodyPost_ret (results_part2 Tryz.results94 _ _ (w.heap.size + 1) 94 _ (0, 0) _ (.int .i64 0) rfl rfl (setRow_eq HX3.out) Tryz.underlying94 rfl info_part) rfl ?_
      rw [HE.out]
      refine ⟨_, rfl, (PV.setRow HP3.out HX3.out (by decide) _).mono (fun g e _ => e.elim Or.inl (fun h => Or.inr (Nat.le_trans HF6.out.size h))), ?_, frm_setRow HF3.out _ _ (fun hk => by omega)⟩
      exact Rd.frm HR3.out (frm_setRow (S := At (w.heap.size + 1)) (Frm.refl _ _) _ _ (fun _ => rfl)) (fun e => HN2.out e.symm) (fun e => by have e' : 0 = w.heap.size + 1 := e; omega)
end Go.Proofs.YtbfekknhmjndaaaGreat.items

namespace Go.Proofs.YtbfekknhmjndaaaGreat.items
set_option linter.unusedVariables false set_option linter.unusedSimpArgs false
open Go.ChangeShapes Go.WideShapes Go.ChangeAt Go.RowKit Go.Proofs.YtbfekknhmjndaaaGreat.base Go.Proofs.YtbfekknhmjndaaaGreat.read Go.Proofs.YtbfekknhmjndaaaGreat.spec Go.Proofs.YtbfekknhmjndaaaGreat.set Go.Proofs.YtbfekknhmjndaaaGreat.nums Go.Proofs.YtbfekknhmjndaaaGreat.parts

def escP (l : List UInt8) : Res Part := match esc l with
  | .bad e => .bad e
  | .ok b t => .ok (oneP b) t

set_option maxHeartbeats 1000000 in
theorem escaped_all (w : World) (R : Nat) (s : ByteArray) (d : Nat) (l : List UInt8) (h : Rd w R s d l) :
    Calls Tryz.prog 102 #[.pointer (some ⟨R, 0, none⟩)] w (PartPost w R s d (escP l)) := by
  have hRlt := h.lt
  have hR0 := h.ne0
  have HA := Lib.hid (h.alloc (.cells zp 94))
  have HX0 := Lib.hid (Box.new w 94 zp)
  have HN := Lib.hid (show ¬ At R w.heap.size from fun e => by have e' : w.heap.size = R := e; omega)
  clear h
  cases he : esc l with
  | bad f =>
    have HI := Lib.hid he
    have HE := Lib.hid (show escP l = .bad f by rw [escP, he])
    obtain rfl : f = 4 := esc_bads he
    clear he
    go_enter Tryz.func102, Tryz.ntmps102
    go_wp2_with (first | (go_at_call 113; go_must (refine (escape_bad _ R s d 4 l (by exact HA.out) HI.out).mono ?_; rintro e w2 ⟨rfl, hf4, hr2, hf2⟩; have HR2 := Lib.hid hr2; have HX2 := Lib.hid (show Box w2 w.heap.size 94 zp from HX0.out.frm hf2 HN.out); have HF2 := Lib.hid (show Frm (At R) w w2 from ((Frm.refl (At R) w).alloc _).trans hf2); clear hr2 hf2)) | (go_at_call 106; go_must (refine (oneByte_all _ (fun k => w.heap.size ≤ k) 0).mono ?_; rintro e w3 ⟨v3, rfl, hp3, hf3⟩; have HX3 := Lib.hid (show Box w3 w.heap.size 94 zp from HX2.out.frm hf3 id); have HR3 := Lib.hid (HR2.out.move hf3); have HF3 := Lib.hid (HF2.out.then hf3 (fun _ _ e => e.elim)); have HP3 := Lib.hid hp3; obtain ⟨hn3, a3, cap3, rfl, hk3⟩ := hp3; clear hf3 hk3)) | (refine wpList_store_row rfl 94 (.tmp 2) (.tmp 12) rfl w.heap.size _ rfl rfl 94 zp HX3.out info_part rfl (by simp [Value.oneCell']) ?_))
    have hb0 : 0 < 4 := by omega
    have hb5 : 4 ≤ 5 := by omega
    refine bodyPost_ret (results_part2 Tryz.results102 _ _ w.heap.size 94 _ (0, 0) _ (.int .i64 4) rfl rfl (setRow_eq HX3.out) Tryz.underlying94 rfl info_part) rfl ?_
    rw [HE.out]
    exact ⟨_, rfl, ⟨_, _, _, _, _, _, _, _, rfl⟩, hb0, hb5, ⟨_, Rd.frm HR3.out (frm_setRow (S := At w.heap.size) (Frm.refl _ _) _ _ (fun _ => rfl)) (fun e => HN.out e.symm) (fun e => by have e' : 0 = w.heap.size := e; omega)⟩, frm_setRow HF3.out _ _ (fun hk => absurd hk (Nat.lt_irrefl _))⟩
  | ok b l' =>
    have HI := Lib.hid he
    have HE := Lib.hid (show escP l = .ok (oneP b) l' by rw [escP, he])
    clear he
    go_enter Tryz.func102, Tryz.ntmps102
    go_wp2_with (first | (go_at_call 113; go_must (refine (escape_ok _ R s d l l' b (by exact HA.out) HI.out).mono ?_; rintro e w2 ⟨rfl, hr2, hf2⟩; have HR2 := Lib.hid hr2; have HX2 := Lib.hid (show Box w2 w.heap.size 94 zp from HX0.out.frm hf2 HN.out); have HF2 := Lib.hid (show Frm (At R) w w2 from ((Frm.refl (At R) w).alloc _).trans hf2); clear hr2 hf2)) | (go_at_call 106; go_must (refine (oneByte_all _ (fun k => w.heap.size ≤ k) b).mono ?_; rintro e w3 ⟨v3, rfl, hp3, hf3⟩; have HX3 := Lib.hid (show Box w3 w.heap.size 94 zp from HX2.out.frm hf3 id); have HR3 := Lib.hid (HR2.out.move hf3); have HF3 := Lib.hid (HF2.out.then hf3 (fun _ _ e => e.elim)); have HP3 := Lib.hid hp3; obtain ⟨hn3, a3, cap3, rfl, hk3⟩ := hp3; clear hf3 hk3)) | (refine wpList_store_row rfl 94 (.tmp 2) (.tmp 12) rfl w.heap.size _ rfl rfl 94 zp HX3.out info_part rfl (by simp [Value.oneCell']) ?_))
    refine bodyPost_ret (results_part2 Tryz.results102 _ _ w.heap.size 94 _ (0, 0) _ (.int .i64 0) rfl rfl (setRow_eq HX3.out) Tryz.underlying94 rfl info_part) rfl ?_
    rw [HE.out]
    exact ⟨_, rfl, PV.setRow HP3.out HX3.out (by decide) _, Rd.frm HR3.out (frm_setRow (S := At w.heap.size) (Frm.refl _ _) _ _ (fun _ => rfl)) (fun e => HN.out e.symm) (fun e => by have e' : 0 = w.heap.size := e; omega), frm_setRow HF3.out _ _ (fun hk => absurd hk (Nat.lt_irrefl _))⟩

/-- The contract of group, as its callers meet it. -/
def GrpC (g : List UInt8 → Res Part) (d : Nat) : Prop := ∀ (w : World) (R : Nat) (s : ByteArray) (l : List UInt8), Rd w R s d l → Calls Tryz.prog 100 #[.pointer (some ⟨R, 0, none⟩)] w (PartPost w R s d (g l))

theorem ne_of {c : UInt8} {n : Nat} (k : UInt8) (hk : k.toNat = n) (h : c ≠ k) : ((c.toNat : Int) == (n : Int)) = false := by
  rw [beq_eq_false_iff_ne]
  intro e
  exact h (UInt8.toNat_inj.1 (by omega))

set_option maxRecDepth 100000 in
set_option maxHeartbeats 1000000 in
theorem atom_all (g : List UInt8 → Res Part) (w : World) (R : Nat) (s : ByteArray) (d : Nat) (G : GrpC g d) (l : List UInt8) (h : Rd w R s d l) (hne : l ≠ []) (Z D : Array Value) (hZ : Z = bA emptyF) (hD : D = bA fun k => !emptyF k) :
    Calls Tryz.prog 92 #[.pointer (some ⟨R, 0, none⟩)] w (PartPost w R s d (atom g l)) := by
  have hz0 : ∀ W, (zeroValue 154).run Tryz.prog W = .ok (.agg Z) W := by rw [hZ]; exact zero_set
  have HIZ := Lib.hid (show (Tryz.prog.info? 154).map (·.size) = some Z.size by rw [hZ]; exact info_set _)
  have HZ := Lib.hid hZ
  have HD := Lib.hid hD
  have hRlt := h.lt
  have hR0 := h.ne0
  have HG := Lib.hid G
  have HA := Lib.hid (h.alloc (.cells zp 94))
  have HX0 := Lib.hid (Box.new w 94 zp)
  have HN := Lib.hid (show ¬ At R w.heap.size from fun e => by have e' : w.heap.size = R := e; omega)
  clear h hZ hD G
  by_cases ha : atRep l = true
  · have HE := Lib.hid (show atom g l = .bad 3 by unfold atom; rw [if_pos ha])
    go_enter Tryz.func92, Tryz.ntmps92
    go_wp2_with (first | (go_at_call 93; go_must (refine (atRep_all _ R s d l (by exact HA.out)).mono ?_; rintro e w1 ⟨rfl, hf1⟩; have HR3 := Lib.hid (HA.out.move hf1); have HX3 := Lib.hid (show Box w1 w.heap.size 94 zp from HX0.out.frm hf1 id); have HF3 := Lib.hid (show Frm (At R) w w1 from (frm1 w _).then hf1 (fun _ _ e => e) |>.mono (fun _ _ e => e.elim)); clear hf1)) | (refine wpList_store_row rfl 94 (.tmp 2) (.tmp 8) rfl w.heap.size _ rfl rfl 94 zp HX3.out info_part rfl (by simp [Value.oneCell']) ?_))
    have hb0 : 0 < 3 := by omega
    have hb5 : 3 ≤ 5 := by omega
    refine bodyPost_ret (results_part2 Tryz.results92 _ _ w.heap.size 94 _ (0, 0) _ (.int .i64 3) rfl rfl (setRow_eq HX3.out) Tryz.underlying94 rfl info_part) rfl ?_
    rw [HE.out]
    exact ⟨_, rfl, ⟨_, _, _, _, _, _, _, _, rfl⟩, hb0, hb5, ⟨_, Rd.frm HR3.out (frm_setRow (S := At w.heap.size) (Frm.refl _ _) _ _ (fun _ => rfl)) (fun e => HN.out e.symm) (fun e => by have e' : 0 = w.heap.size := e; omega)⟩, frm_setRow HF3.out _ _ (fun hk => absurd hk (Nat.lt_irrefl _))⟩
  have ha' : atRep l = false := by simpa using ha
  clear ha
  obtain ⟨c, t, hl⟩ : ∃ c t, l = c :: t := by cases l with
    | nil => exact absurd rfl hne
    | cons c t => exact ⟨c, t, rfl⟩
  subst hl
  have HAT := Lib.hid (show atom g (c :: t) = if c = 40 then g t else if c = 91 then bracket t else if c = 92 then escP t
    else if c = 46 then .ok (setP fun k => !emptyF k) t else if c = 94 then .ok (edgeP bolW) t else if c = 36 then .ok (edgeP eolW) t else .ok (oneP c) t by
      rw [atom, if_neg (by rw [ha']; decide)]
      rfl)
  clear hne
  by_cases h40 : c = 40
  · subst h40
    have HAT2 := Lib.hid (show atom g (40 :: t) = g t by rw [HAT.out, if_pos rfl])
    cases hg : g t with
    | bad f =>
      have HI := Lib.hid hg
      have HE := Lib.hid (show atom g (40 :: t) = .bad f by rw [HAT2.out, hg])
      clear hg
      go_enter Tryz.func92, Tryz.ntmps92
      go_wp2_with (first | (go_at_call 93; go_must (refine (atRep_all _ R s d (40 :: t) (by exact HA.out)).mono ?_; rintro e w1 ⟨rfl, hf1⟩; have HR1 := Lib.hid (HA.out.move hf1); have HX1 := Lib.hid (show Box w1 w.heap.size 94 zp from HX0.out.frm hf1 id); have HF1 := Lib.hid (show Frm (At R) w w1 from (frm1 w _).then hf1 (fun _ _ e => e) |>.mono (fun _ _ e => e.elim)); clear hf1)) | (go_at_call 99; go_must (refine (next_all _ R s d 40 t (by exact HR1.out)).mono ?_; rintro e w2 ⟨rfl, hr2, hf2⟩; have HR2 := Lib.hid hr2; have HX2 := Lib.hid (show Box w2 w.heap.size 94 zp from HX1.out.frm hf2 HN.out); have HF2 := Lib.hid (HF1.out.trans hf2); clear hr2 hf2)) | (go_at_call 100; go_must (refine (HG.out _ R s t (by exact HR2.out)).mono ?_; intro e w3 hip; rw [HI.out] at hip; obtain ⟨v3, rfl, ⟨o3, s3, a3, n3, c3, x3, y3, m3, rfl⟩, hb0, hb5, ⟨l3, hr3⟩, hf3⟩ := hip; have HX3 := Lib.hid (show Box w3 w.heap.size 94 zp from HX2.out.frm hf3 HN.out); have HR3 := Lib.hid hr3; have HF3 := Lib.hid (HF2.out.trans hf3); clear hr3 hf3)) | (refine wpList_store_row rfl 94 (.tmp 2) (.tmp 16) rfl w.heap.size _ rfl rfl 94 zp HX3.out info_part rfl (by simp [Value.oneCell']) ?_))
      refine bodyPost_ret (results_part2 Tryz.results92 _ _ w.heap.size 94 _ (0, 0) _ (.int .i64 f) rfl rfl (setRow_eq HX3.out) Tryz.underlying94 rfl info_part) rfl ?_
      rw [HE.out]
      exact ⟨_, rfl, ⟨_, _, _, _, _, _, _, _, rfl⟩, hb0, hb5, ⟨_, Rd.frm HR3.out (frm_setRow (S := At w.heap.size) (Frm.refl _ _) _ _ (fun _ => rfl)) (fun e => HN.out e.symm) (fun e => by have e' : 0 = w.heap.size := e; omega)⟩, frm_setRow HF3.out _ _ (fun hk => absurd hk (Nat.lt_irrefl _))⟩
    | ok p l' =>
      have HI := Lib.hid hg
      have HE := Lib.hid (show atom g (40 :: t) = .ok p l' by rw [HAT2.out, hg])
      clear hg
      go_enter Tryz.func92, Tryz.ntmps92
      go_wp2_with (first | (go_at_call 93; go_must (refine (atRep_all _ R s d (40 :: t) (by exact HA.out)).mono ?_; rintro e w1 ⟨rfl, hf1⟩; have HR1 := Lib.hid (HA.out.move hf1); have HX1 := Lib.hid (show Box w1 w.heap.size 94 zp from HX0.out.frm hf1 id); have HF1 := Lib.hid (show Frm (At R) w w1 from (frm1 w _).then hf1 (fun _ _ e => e) |>.mono (fun _ _ e => e.elim)); clear hf1)) | (go_at_call 99; go_must (refine (next_all _ R s d 40 t (by exact HR1.out)).mono ?_; rintro e w2 ⟨rfl, hr2, hf2⟩; have HR2 := Lib.hid hr2; have HX2 := Lib.hid (show Box w2 w.heap.size 94 zp from HX1.out.frm hf2 HN.out); have HF2 := Lib.hid (HF1.out.trans hf2); clear hr2 hf2)) | (go_at_call 100; go_must (refine (HG.out _ R s t (by exact HR2.out)).mono ?_; intro e w3 hip; rw [HI.out] at hip; obtain ⟨v3, rfl, hp3, hr3, hf3⟩ := hip; have HX3 := Lib.hid (show Box w3 w.heap.size 94 zp from HX2.out.frm hf3 HN.out); have HR3 := Lib.hid hr3; have HF3 := Lib.hid (HF2.out.trans hf3); have HP3 := Lib.hid (hp3.mono (F' := fun k => w.heap.size ≤ k) (fun g h _ => Nat.le_trans HF2.out.size h)); obtain ⟨hn3, a3, cap3, rfl, hk3⟩ := hp3; clear hr3 hf3 hk3)) | (refine wpList_store_row rfl 94 (.tmp 2) (.tmp 16) rfl w.heap.size _ rfl rfl 94 zp HX3.out info_part rfl (by simp [Value.oneCell']) ?_))
      refine bodyPost_ret (results_part2 Tryz.results92 _ _ w.heap.size 94 _ (0, 0) _ (.int .i64 0) rfl rfl (setRow_eq HX3.out) Tryz.underlying94 rfl info_part) rfl ?_
      rw [HE.out]
      exact ⟨_, rfl, PV.setRow HP3.out HX3.out (by decide) _, Rd.frm HR3.out (frm_setRow (S := At w.heap.size) (Frm.refl _ _) _ _ (fun _ => rfl)) (fun e => HN.out e.symm) (fun e => by have e' : 0 = w.heap.size := e; omega), frm_setRow HF3.out _ _ (fun hk => absurd hk (Nat.lt_irrefl _))⟩
  have f40 := ne_of (c := c) (n := 40) 40 rfl h40
  by_cases h91 : c = 91
  · subst h91
    have HAT2 := Lib.hid (show atom g (91 :: t) = bracket t by rw [HAT.out, if_neg h40, if_pos rfl])
    cases hg : bracket t with
    | bad f =>
      have HI := Lib.hid hg
      have HE := Lib.hid (show atom g (91 :: t) = .bad f by rw [HAT2.out, hg])
      clear hg
      go_enter Tryz.func92, Tryz.ntmps92
      go_wp2_with (first | (go_at_call 93; go_must (refine (atRep_all _ R s d (91 :: t) (by exact HA.out)).mono ?_; rintro e w1 ⟨rfl, hf1⟩; have HR1 := Lib.hid (HA.out.move hf1); have HX1 := Lib.hid (show Box w1 w.heap.size 94 zp from HX0.out.frm hf1 id); have HF1 := Lib.hid (show Frm (At R) w w1 from (frm1 w _).then hf1 (fun _ _ e => e) |>.mono (fun _ _ e => e.elim)); clear hf1)) | (go_at_call 99; go_must (refine (next_all _ R s d 91 t (by exact HR1.out)).mono ?_; rintro e w2 ⟨rfl, hr2, hf2⟩; have HR2 := Lib.hid hr2; have HX2 := Lib.hid (show Box w2 w.heap.size 94 zp from HX1.out.frm hf2 HN.out); have HF2 := Lib.hid (HF1.out.trans hf2); clear hr2 hf2)) | (go_at_call 101; go_must (refine (bracket_all _ R s d t (by exact HR2.out)).mono ?_; intro e w3 hip; rw [HI.out] at hip; obtain ⟨v3, rfl, ⟨o3, s3, a3, n3, c3, x3, y3, m3, rfl⟩, hb0, hb5, ⟨l3, hr3⟩, hf3⟩ := hip; have HX3 := Lib.hid (show Box w3 w.heap.size 94 zp from HX2.out.frm hf3 HN.out); have HR3 := Lib.hid hr3; have HF3 := Lib.hid (HF2.out.trans hf3); clear hr3 hf3)) | (refine wpList_store_row rfl 94 (.tmp 2) (.tmp 22) rfl w.heap.size _ rfl rfl 94 zp HX3.out info_part rfl (by simp [Value.oneCell']) ?_))
      refine bodyPost_ret (results_part2 Tryz.results92 _ _ w.heap.size 94 _ (0, 0) _ (.int .i64 f) rfl rfl (setRow_eq HX3.out) Tryz.underlying94 rfl info_part) rfl ?_
      rw [HE.out]
      exact ⟨_, rfl, ⟨_, _, _, _, _, _, _, _, rfl⟩, hb0, hb5, ⟨_, Rd.frm HR3.out (frm_setRow (S := At w.heap.size) (Frm.refl _ _) _ _ (fun _ => rfl)) (fun e => HN.out e.symm) (fun e => by have e' : 0 = w.heap.size := e; omega)⟩, frm_setRow HF3.out _ _ (fun hk => absurd hk (Nat.lt_irrefl _))⟩
    | ok p l' =>
      have HI := Lib.hid hg
      have HE := Lib.hid (show atom g (91 :: t) = .ok p l' by rw [HAT2.out, hg])
      clear hg
      go_enter Tryz.func92, Tryz.ntmps92
      go_wp2_with (first | (go_at_call 93; go_must (refine (atRep_all _ R s d (91 :: t) (by exact HA.out)).mono ?_; rintro e w1 ⟨rfl, hf1⟩; have HR1 := Lib.hid (HA.out.move hf1); have HX1 := Lib.hid (show Box w1 w.heap.size 94 zp from HX0.out.frm hf1 id); have HF1 := Lib.hid (show Frm (At R) w w1 from (frm1 w _).then hf1 (fun _ _ e => e) |>.mono (fun _ _ e => e.elim)); clear hf1)) | (go_at_call 99; go_must (refine (next_all _ R s d 91 t (by exact HR1.out)).mono ?_; rintro e w2 ⟨rfl, hr2, hf2⟩; have HR2 := Lib.hid hr2; have HX2 := Lib.hid (show Box w2 w.heap.size 94 zp from HX1.out.frm hf2 HN.out); have HF2 := Lib.hid (HF1.out.trans hf2); clear hr2 hf2)) | (go_at_call 101; go_must (refine (bracket_all _ R s d t (by exact HR2.out)).mono ?_; intro e w3 hip; rw [HI.out] at hip; obtain ⟨v3, rfl, hp3, hr3, hf3⟩ := hip; have HX3 := Lib.hid (show Box w3 w.heap.size 94 zp from HX2.out.frm hf3 HN.out); have HR3 := Lib.hid hr3; have HF3 := Lib.hid (HF2.out.trans hf3); have HP3 := Lib.hid (hp3.mono (F' := fun k => w.heap.size ≤ k) (fun g h _ => Nat.le_trans HF2.out.size h)); obtain ⟨hn3, a3, cap3, rfl, hk3⟩ := hp3; clear hr3 hf3 hk3)) | (refine wpList_store_row rfl 94 (.tmp 2) (.tmp 22) rfl w.heap.size _ rfl rfl 94 zp HX3.out info_part rfl (by simp [Value.oneCell']) ?_))
      refine bodyPost_ret (results_part2 Tryz.results92 _ _ w.heap.size 94 _ (0, 0) _ (.int .i64 0) rfl rfl (setRow_eq HX3.out) Tryz.underlying94 rfl info_part) rfl ?_
      rw [HE.out]
      exact ⟨_, rfl, PV.setRow HP3.out HX3.out (by decide) _, Rd.frm HR3.out (frm_setRow (S := At w.heap.size) (Frm.refl _ _) _ _ (fun _ => rfl)) (fun e => HN.out e.symm) (fun e => by have e' : 0 = w.heap.size := e; omega), frm_setRow HF3.out _ _ (fun hk => absurd hk (Nat.lt_irrefl _))⟩
  have f91 := ne_of (c := c) (n := 91) 91 rfl h91
  by_cases h92 : c = 92
  · subst h92
    have HAT2 := Lib.hid (show atom g (92 :: t) = escP t by rw [HAT.out, if_neg h40, if_neg h91, if_pos rfl])
    cases hg : escP t with
    | bad f =>
      have HI := Lib.hid hg
      have HE := Lib.hid (show atom g (92 :: t) = .bad f by rw [HAT2.out, hg])
      clear hg
      go_enter Tryz.func92, Tryz.ntmps92
      go_wp2_with (first | (go_at_call 93; go_must (refine (atRep_all _ R s d (92 :: t) (by exact HA.out)).mono ?_; rintro e w1 ⟨rfl, hf1⟩; have HR1 := Lib.hid (HA.out.move hf1); have HX1 := Lib.hid (show Box w1 w.heap.size 94 zp from HX0.out.frm hf1 id); have HF1 := Lib.hid (show Frm (At R) w w1 from (frm1 w _).then hf1 (fun _ _ e => e) |>.mono (fun _ _ e => e.elim)); clear hf1)) | (go_at_call 99; go_must (refine (next_all _ R s d 92 t (by exact HR1.out)).mono ?_; rintro e w2 ⟨rfl, hr2, hf2⟩; have HR2 := Lib.hid hr2; have HX2 := Lib.hid (show Box w2 w.heap.size 94 zp from HX1.out.frm hf2 HN.out); have HF2 := Lib.hid (HF1.out.trans hf2); clear hr2 hf2)) | (go_at_call 102; go_must (refine (escaped_all _ R s d t (by exact HR2.out)).mono ?_; intro e w3 hip; rw [HI.out] at hip; obtain ⟨v3, rfl, ⟨o3, s3, a3, n3, c3, x3, y3, m3, rfl⟩, hb0, hb5, ⟨l3, hr3⟩, hf3⟩ := hip; have HX3 := Lib.hid (show Box w3 w.heap.size 94 zp from HX2.out.frm hf3 HN.out); have HR3 := Lib.hid hr3; have HF3 := Lib.hid (HF2.out.trans hf3); clear hr3 hf3)) | (refine wpList_store_row rfl 94 (.tmp 2) (.tmp 28) rfl w.heap.size _ rfl rfl 94 zp HX3.out info_part rfl (by simp [Value.oneCell']) ?_))
      refine bodyPost_ret (results_part2 Tryz.results92 _ _ w.heap.size 94 _ (0, 0) _ (.int .i64 f) rfl rfl (setRow_eq HX3.out) Tryz.underlying94 rfl info_part) rfl ?_
      rw [HE.out]
      exact ⟨_, rfl, ⟨_, _, _, _, _, _, _, _, rfl⟩, hb0, hb5, ⟨_, Rd.frm HR3.out (frm_setRow (S := At w.heap.size) (Frm.refl _ _) _ _ (fun _ => rfl)) (fun e => HN.out e.symm) (fun e => by have e' : 0 = w.heap.size := e; omega)⟩, frm_setRow HF3.out _ _ (fun hk => absurd hk (Nat.lt_irrefl _))⟩
    | ok p l' =>
      have HI := Lib.hid hg
      have HE := Lib.hid (show atom g (92 :: t) = .ok p l' by rw [HAT2.out, hg])
      clear hg
      go_enter Tryz.func92, Tryz.ntmps92
      go_wp2_with (first | (go_at_call 93; go_must (refine (atRep_all _ R s d (92 :: t) (by exact HA.out)).mono ?_; rintro e w1 ⟨rfl, hf1⟩; have HR1 := Lib.hid (HA.out.move hf1); have HX1 := Lib.hid (show Box w1 w.heap.size 94 zp from HX0.out.frm hf1 id); have HF1 := Lib.hid (show Frm (At R) w w1 from (frm1 w _).then hf1 (fun _ _ e => e) |>.mono (fun _ _ e => e.elim)); clear hf1)) | (go_at_call 99; go_must (refine (next_all _ R s d 92 t (by exact HR1.out)).mono ?_; rintro e w2 ⟨rfl, hr2, hf2⟩; have HR2 := Lib.hid hr2; have HX2 := Lib.hid (show Box w2 w.heap.size 94 zp from HX1.out.frm hf2 HN.out); have HF2 := Lib.hid (HF1.out.trans hf2); clear hr2 hf2)) | (go_at_call 102; go_must (refine (escaped_all _ R s d t (by exact HR2.out)).mono ?_; intro e w3 hip; rw [HI.out] at hip; obtain ⟨v3, rfl, hp3, hr3, hf3⟩ := hip; have HX3 := Lib.hid (show Box w3 w.heap.size 94 zp from HX2.out.frm hf3 HN.out); have HR3 := Lib.hid hr3; have HF3 := Lib.hid (HF2.out.trans hf3); have HP3 := Lib.hid (hp3.mono (F' := fun k => w.heap.size ≤ k) (fun g h _ => Nat.le_trans HF2.out.size h)); obtain ⟨hn3, a3, cap3, rfl, hk3⟩ := hp3; clear hr3 hf3 hk3)) | (refine wpList_store_row rfl 94 (.tmp 2) (.tmp 28) rfl w.heap.size _ rfl rfl 94 zp HX3.out info_part rfl (by simp [Value.oneCell']) ?_))
      refine bodyPost_ret (results_part2 Tryz.results92 _ _ w.heap.size 94 _ (0, 0) _ (.int .i64 0) rfl rfl (setRow_eq HX3.out) Tryz.underlying94 rfl info_part) rfl ?_
      rw [HE.out]
      exact ⟨_, rfl, PV.setRow HP3.out HX3.out (by decide) _, Rd.frm HR3.out (frm_setRow (S := At w.heap.size) (Frm.refl _ _) _ _ (fun _ => rfl)) (fun e => HN.out e.symm) (fun e => by have e' : 0 = w.heap.size := e; omega), frm_setRow HF3.out _ _ (fun hk => absurd hk (Nat.lt_irrefl _))⟩
  have f92 := ne_of (c := c) (n := 92) 92 rfl h92
  by_cases h46 : c = 46
  · subst h46
    have HE := Lib.hid (show atom g (46 :: t) = .ok (setP fun k => !emptyF k) t by rw [HAT.out, if_neg h40, if_neg h91, if_neg h92, if_pos rfl])
    go_enter Tryz.func92, Tryz.ntmps92
    go_wp2_with (first | (go_at_call 93; go_must (refine (atRep_all _ R s d (46 :: t) (by exact HA.out)).mono ?_; rintro e w1 ⟨rfl, hf1⟩; have HR1 := Lib.hid (HA.out.move hf1); have HX1 := Lib.hid (show Box w1 w.heap.size 94 zp from HX0.out.frm hf1 id); have HF1 := Lib.hid (show Frm (At R) w w1 from (frm1 w _).then hf1 (fun _ _ e => e) |>.mono (fun _ _ e => e.elim)); clear hf1)) | (go_at_call 99; go_must (refine (next_all _ R s d 46 t (by exact HR1.out)).mono ?_; rintro e w2 ⟨rfl, hr2, hf2⟩; have HR2 := Lib.hid hr2; have HX2 := Lib.hid (show Box w2 w.heap.size 94 zp from HX1.out.frm hf2 HN.out); have HF2 := Lib.hid (HF1.out.trans hf2); clear hr2 hf2)) | (refine wpList_load_row rfl 154 (.tmp 5) rfl w2.heap.size rfl 154 Z (0, 0) _ (Box.new w2 _ _) Tryz.underlying154 rfl HIZ.out ?_) | (go_at_call 104; go_must (refine (others_c _ emptyF Z Z D HZ.out HZ.out HD.out).mono ?_; rintro e w4 ⟨rfl, hf4⟩; have HX4 := Lib.hid (show Box w4 w.heap.size 94 zp from (HX2.out.alloc _).frm hf4 id); have HR4 := Lib.hid ((HR2.out.alloc _).move hf4); have HF4 := Lib.hid ((HF2.out.alloc _).then hf4 (fun _ _ e => e.elim)); clear hf4)) | (go_at_call 103; go_must (refine (setOf_all _ (fun k => w.heap.size ≤ k) (fun k => !emptyF k) D HD.out).mono ?_; rintro e w3 ⟨v3, rfl, hp3, hf3⟩; have HX3 := Lib.hid (show Box w3 w.heap.size 94 zp from HX4.out.frm hf3 id); have HR3 := Lib.hid (HR4.out.move hf3); have HF3 := Lib.hid (HF4.out.then hf3 (fun _ _ e => e.elim)); have HP3 := Lib.hid hp3; obtain ⟨hn3, a3, cap3, rfl, hk3⟩ := hp3; clear hf3 hk3)) | (refine wpList_store_row rfl 94 (.tmp 2) (.tmp 34) rfl w.heap.size _ rfl rfl 94 zp HX3.out info_part rfl (by simp [Value.oneCell']) ?_))
    refine bodyPost_ret (results_part2 Tryz.results92 _ _ w.heap.size 94 _ (0, 0) _ (.int .i64 0) rfl rfl (setRow_eq HX3.out) Tryz.underlying94 rfl info_part) rfl ?_
    rw [HE.out]
    exact ⟨_, rfl, PV.setRow HP3.out HX3.out (by decide) _, Rd.frm HR3.out (frm_setRow (S := At w.heap.size) (Frm.refl _ _) _ _ (fun _ => rfl)) (fun e => HN.out e.symm) (fun e => by have e' : 0 = w.heap.size := e; omega), frm_setRow HF3.out _ _ (fun hk => absurd hk (Nat.lt_irrefl _))⟩
  have f46 := ne_of (c := c) (n := 46) 46 rfl h46
  by_cases h94 : c = 94
  · subst h94
    have HE := Lib.hid (show atom g (94 :: t) = .ok (edgeP bolW) t by rw [HAT.out, if_neg h40, if_neg h91, if_neg h92, if_neg h46, if_pos rfl])
    go_enter Tryz.func92, Tryz.ntmps92
    go_wp2_with (first | (go_at_call 93; go_must (refine (atRep_all _ R s d (94 :: t) (by exact HA.out)).mono ?_; rintro e w1 ⟨rfl, hf1⟩; have HR1 := Lib.hid (HA.out.move hf1); have HX1 := Lib.hid (show Box w1 w.heap.size 94 zp from HX0.out.frm hf1 id); have HF1 := Lib.hid (show Frm (At R) w w1 from (frm1 w _).then hf1 (fun _ _ e => e) |>.mono (fun _ _ e => e.elim)); clear hf1)) | (go_at_call 99; go_must (refine (next_all _ R s d 94 t (by exact HR1.out)).mono ?_; rintro e w2 ⟨rfl, hr2, hf2⟩; have HR2 := Lib.hid hr2; have HX2 := Lib.hid (show Box w2 w.heap.size 94 zp from HX1.out.frm hf2 HN.out); have HF2 := Lib.hid (HF1.out.trans hf2); clear hr2 hf2)) | (go_at_call 105; go_must (refine (edge_all _ (fun k => w.heap.size ≤ k) bolW).mono ?_; rintro e w3 ⟨v3, rfl, hp3, hf3⟩; have HX3 := Lib.hid (show Box w3 w.heap.size 94 zp from HX2.out.frm hf3 id); have HR3 := Lib.hid (HR2.out.move hf3); have HF3 := Lib.hid (HF2.out.then hf3 (fun _ _ e => e.elim)); have HP3 := Lib.hid hp3; obtain ⟨hn3, a3, cap3, rfl, hk3⟩ := hp3; clear hf3 hk3)) | (refine wpList_store_row rfl 94 (.tmp 2) (.tmp 37) rfl w.heap.size _ rfl rfl 94 zp HX3.out info_part rfl (by simp [Value.oneCell']) ?_))
    refine bodyPost_ret (results_part2 Tryz.results92 _ _ w.heap.size 94 _ (0, 0) _ (.int .i64 0) rfl rfl (setRow_eq HX3.out) Tryz.underlying94 rfl info_part) rfl ?_
    rw [HE.out]
    exact ⟨_, rfl, PV.setRow HP3.out HX3.out (by decide) _, Rd.frm HR3.out (frm_setRow (S := At w.heap.size) (Frm.refl _ _) _ _ (fun _ => rfl)) (fun e => HN.out e.symm) (fun e => by have e' : 0 = w.heap.size := e; omega), frm_setRow HF3.out _ _ (fun hk => absurd hk (Nat.lt_irrefl _))⟩
  have f94 := ne_of (c := c) (n := 94) 94 rfl h94
  by_cases h36 : c = 36
  · subst h36
    have HE := Lib.hid (show atom g (36 :: t) = .ok (edgeP eolW) t by rw [HAT.out, if_neg h40, if_neg h91, if_neg h92, if_neg h46, if_neg h94, if_pos rfl])
    go_enter Tryz.func92, Tryz.ntmps92
    go_wp2_with (first | (go_at_call 93; go_must (refine (atRep_all _ R s d (36 :: t) (by exact HA.out)).mono ?_; rintro e w1 ⟨rfl, hf1⟩; have HR1 := Lib.hid (HA.out.move hf1); have HX1 := Lib.hid (show Box w1 w.heap.size 94 zp from HX0.out.frm hf1 id); have HF1 := Lib.hid (show Frm (At R) w w1 from (frm1 w _).then hf1 (fun _ _ e => e) |>.mono (fun _ _ e => e.elim)); clear hf1)) | (go_at_call 99; go_must (refine (next_all _ R s d 36 t (by exact HR1.out)).mono ?_; rintro e w2 ⟨rfl, hr2, hf2⟩; have HR2 := Lib.hid hr2; have HX2 := Lib.hid (show Box w2 w.heap.size 94 zp from HX1.out.frm hf2 HN.out); have HF2 := Lib.hid (HF1.out.trans hf2); clear hr2 hf2)) | (go_at_call 105; go_must (refine (edge_all _ (fun k => w.heap.size ≤ k) eolW).mono ?_; rintro e w3 ⟨v3, rfl, hp3, hf3⟩; have HX3 := Lib.hid (show Box w3 w.heap.size 94 zp from HX2.out.frm hf3 id); have HR3 := Lib.hid (HR2.out.move hf3); have HF3 := Lib.hid (HF2.out.then hf3 (fun _ _ e => e.elim)); have HP3 := Lib.hid hp3; obtain ⟨hn3, a3, cap3, rfl, hk3⟩ := hp3; clear hf3 hk3)) | (refine wpList_store_row rfl 94 (.tmp 2) (.tmp 40) rfl w.heap.size _ rfl rfl 94 zp HX3.out info_part rfl (by simp [Value.oneCell']) ?_))
    refine bodyPost_ret (results_part2 Tryz.results92 _ _ w.heap.size 94 _ (0, 0) _ (.int .i64 0) rfl rfl (setRow_eq HX3.out) Tryz.underlying94 rfl info_part) rfl ?_
    rw [HE.out]
    exact ⟨_, rfl, PV.setRow HP3.out HX3.out (by decide) _, Rd.frm HR3.out (frm_setRow (S := At w.heap.size) (Frm.refl _ _) _ _ (fun _ => rfl)) (fun e => HN.out e.symm) (fun e => by have e' : 0 = w.heap.size := e; omega), frm_setRow HF3.out _ _ (fun hk => absurd hk (Nat.lt_irrefl _))⟩
  have f36 := ne_of (c := c) (n := 36) 36 rfl h36
  have HE := Lib.hid (show atom g (c :: t) = .ok (oneP c) t by rw [HAT.out, if_neg h40, if_neg h91, if_neg h92, if_neg h46, if_neg h94, if_neg h36])
  clear h40 h91 h92 h46 h94 h36
  go_enter Tryz.func92, Tryz.ntmps92
  go_wp2_with (first | (go_at_call 93; go_must (refine (atRep_all _ R s d (c :: t) (by exact HA.out)).mono ?_; rintro e w1 ⟨rfl, hf1⟩; have HR1 := Lib.hid (HA.out.move hf1); have HX1 := Lib.hid (show Box w1 w.heap.size 94 zp from HX0.out.frm hf1 id); have HF1 := Lib.hid (show Frm (At R) w w1 from (frm1 w _).then hf1 (fun _ _ e => e) |>.mono (fun _ _ e => e.elim)); clear hf1)) | (go_at_call 99; go_must (refine (next_all _ R s d c t (by exact HR1.out)).mono ?_; rintro e w2 ⟨rfl, hr2, hf2⟩; have HR2 := Lib.hid hr2; have HX2 := Lib.hid (show Box w2 w.heap.size 94 zp from HX1.out.frm hf2 HN.out); have HF2 := Lib.hid (HF1.out.trans hf2); clear hr2 hf2)) | (go_at_call 106; go_must (refine (oneByte_all _ (fun k => w.heap.size ≤ k) c).mono ?_; rintro e w3 ⟨v3, rfl, hp3, hf3⟩; have HX3 := Lib.hid (show Box w3 w.heap.size 94 zp from HX2.out.frm hf3 id); have HR3 := Lib.hid (HR2.out.move hf3); have HF3 := Lib.hid (HF2.out.then hf3 (fun _ _ e => e.elim)); have HP3 := Lib.hid hp3; obtain ⟨hn3, a3, cap3, rfl, hk3⟩ := hp3; clear hf3 hk3)) | (refine wpList_store_row rfl 94 (.tmp 2) (.tmp 42) rfl w.heap.size _ rfl rfl 94 zp HX3.out info_part rfl (by simp [Value.oneCell']) ?_))
  refine bodyPost_ret (results_part2 Tryz.results92 _ _ w.heap.size 94 _ (0, 0) _ (.int .i64 0) rfl rfl (setRow_eq HX3.out) Tryz.underlying94 rfl info_part) rfl ?_
  rw [HE.out]
  exact ⟨_, rfl, PV.setRow HP3.out HX3.out (by decide) _, Rd.frm HR3.out (frm_setRow (S := At w.heap.size) (Frm.refl _ _) _ _ (fun _ => rfl)) (fun e => HN.out e.symm) (fun e => by have e' : 0 = w.heap.size := e; omega), frm_setRow HF3.out _ _ (fun hk => absurd hk (Nat.lt_irrefl _))⟩
end Go.Proofs.YtbfekknhmjndaaaGreat.items

namespace Go.Proofs.YtbfekknhmjndaaaGreat.items
set_option linter.unusedVariables false set_option linter.unusedSimpArgs false
open Go.Proofs.YtbfekknhmjndaaaGreat.base Go.Proofs.YtbfekknhmjndaaaGreat.read Go.Proofs.YtbfekknhmjndaaaGreat.spec Go.Proofs.YtbfekknhmjndaaaGreat.nums

theorem tail_len (l : List UInt8) : l.tail.length ≤ l.length := by rw [List.length_tail]; omega
theorem cnt_len (s : Nat) (sm : Bool) (l : List UInt8) : (cnt s sm l).2.2.length ≤ l.length := by
  induction l generalizing s sm with
  | nil => exact Nat.le_refl _
  | cons x t ih =>
    rw [cnt]
    split
    · have := ih (min (s * 10 + (x - 48).toNat) 256) true
      simp only [List.length_cons]
      omega
    · exact Nat.le_refl _
theorem count_len {l l' : List UInt8} {n : Nat} (h : count l = some (n, l')) : l'.length ≤ l.length := by
  unfold count at h
  split at h
  · cases h; exact cnt_len _ _ _
  · cases h
theorem upper_len {lo : Nat} {hi : Int} {l l' : List UInt8} (h : upper lo l = some (hi, l')) : l'.length ≤ l.length := by
  unfold upper at h
  split at h
  · cases h; exact Nat.le_refl _
  · split at h
    · cases h
    · have := count_len (by assumption)
      split at h
      · cases h; exact this
      · cases h
theorem interval_len {l l' : List UInt8} {q : Nat × Int} (h : interval l = some (q, l')) : l'.length ≤ l.length := by
  unfold interval at h
  split at h
  · cases h
  · rename_i lo l1 hc
    have h1 := count_len hc
    split at h
    · split at h
      · cases h
      · rename_i hi l2 hu
        have h2 := upper_len hu
        have h3 := tail_len l1
        split at h
        · cases h
          have h4 := tail_len l2
          omega
        · cases h
    · split at h
      · cases h
        have := tail_len l1
        omega
      · cases h
theorem repeatL_len {p p' : Part} {l l' : List UInt8} (h : repeatL p l = .ok p' l') : l'.length < l.length := by
  cases l with
  | nil => cases h
  | cons c t =>
    unfold repeatL at h
    simp only at h
    split at h
    · cases h; simp
    · split at h
      · cases h; simp
      · split at h
        · cases h; simp
        · split at h
          · cases h
          · rename_i lo hi t' hi'
            have := interval_len hi'
            cases h
            simp only [List.length_cons]
            omega
theorem repeatL_bads {p : Part} {l : List UInt8} {f : Nat} (h : repeatL p l = .bad f) (hl : l ≠ []) : f = 3 := by
  cases l with
  | nil => exact absurd rfl hl
  | cons c t =>
    unfold repeatL at h
    simp only at h
    repeat' split at h
    all_goals first | (cases h; rfl) | cases h
theorem repsF_len {n : Nat} {p p' : Part} {l l' : List UInt8} (h : repsF n p l = .ok p' l') : l'.length ≤ l.length := by
  induction n generalizing p l with
  | zero => cases h
  | succ n ih =>
    rw [repsF] at h
    split at h
    · split at h
      · cases h
      · rename_i p1 l1 hr
        have := repeatL_len hr
        have := ih h
        omega
    · cases h; exact Nat.le_refl _
theorem items_len {n : Nat} {b : Bool} {f f' : Nat → Bool} {l l' : List UInt8} (h : items n b f l = .ok f' l') : l'.length ≤ l.length := by
  induction n generalizing b f l with
  | zero => cases h
  | succ n ih =>
    rw [items] at h
    split at h
    · cases h; exact tail_len l
    · split at h
      · cases h
      · have h1 := item_len (by assumption)
        have h2 := ih h
        omega
theorem bracket_len {p : Part} {l l' : List UInt8} (h : bracket l = .ok p l') : l'.length ≤ l.length := by
  unfold bracket at h
  split at h
  · split at h
    · cases h
    · have h1 := items_len (by assumption)
      have h2 := tail_len l
      cases h
      omega
  · split at h
    · cases h
    · have h1 := items_len (by assumption)
      cases h
      exact h1

/-- A group's reader doesn't make the rest longer. -/
def Short (g : List UInt8 → Res Part) : Prop := ∀ l p l', g l = .ok p l' → l'.length ≤ l.length
theorem atom_len {g : List UInt8 → Res Part} (hg : Short g) {p : Part} {l l' : List UInt8} (h : atom g l = .ok p l') : l'.length < l.length := by
  unfold atom at h
  split at h
  · cases h
  · cases l with
    | nil => cases h
    | cons c t =>
      simp only at h
      simp only [List.length_cons]
      split at h
      · have := hg _ _ _ h; omega
      · split at h
        · have := bracket_len h; omega
        · split at h
          · split at h
            · cases h
            · have := esc_len (by assumption)
              cases h
              omega
          · repeat' split at h
            all_goals cases h
            all_goals omega
theorem piece_len {g : List UInt8 → Res Part} (hg : Short g) {p : Part} {l l' : List UInt8} (h : piece g l = .ok p l') : l'.length < l.length := by
  unfold piece at h
  split at h
  · cases h
  · have h1 := atom_len hg (by assumption)
    have h2 := repsF_len h
    omega
theorem branchF_len {g : List UInt8 → Res Part} (hg : Short g) {n : Nat} {r r' : Row} {l l' : List UInt8} (h : branchF g n r l = .ok r' l') : l'.length ≤ l.length := by
  induction n generalizing r l with
  | zero => cases h
  | succ n ih =>
    rw [branchF] at h
    split at h
    · cases h; exact Nat.le_refl _
    · split at h
      · cases h
      · have h1 := piece_len hg (by assumption)
        have h2 := ih h
        omega
theorem branch_len {g : List UInt8 → Res Part} (hg : Short g) {p : Part} {l l' : List UInt8} (h : branch g l = .ok p l') : l'.length ≤ l.length := by
  unfold branch at h
  split at h
  · cases h
  · have h1 := branchF_len hg (by assumption)
    cases h
    exact h1
theorem exprF_len {g : List UInt8 → Res Part} (hg : Short g) {n : Nat} {r r' : Row} {l l' : List UInt8} (h : exprF g n r l = .ok r' l') : l'.length ≤ l.length := by
  induction n generalizing r l with
  | zero => cases h
  | succ n ih =>
    rw [exprF] at h
    split at h
    · cases h
    · rename_i p1 l1 hb
      have h1 := branch_len hg hb
      split at h
      · have h2 := ih h
        have h3 := tail_len l1
        omega
      · cases h; exact h1
theorem expr_len {g : List UInt8 → Res Part} (hg : Short g) {p : Part} {l l' : List UInt8} (h : expr g l = .ok p l') : l'.length ≤ l.length := by
  unfold expr at h
  split at h
  · cases h
  · have h1 := exprF_len hg (by assumption)
    cases h
    exact h1
theorem groupN_short (d : Nat) : Short (groupN d) := by
  induction d with
  | zero => intro l p l' h; cases h
  | succ d ih =>
    intro l p l' h
    simp only [groupN] at h
    split at h
    · cases h
    · rename_i p1 l1 he
      have h1 := expr_len ih he
      split at h
      · cases h
        have := tail_len l1
        omega
      · cases h
end Go.Proofs.YtbfekknhmjndaaaGreat.items
