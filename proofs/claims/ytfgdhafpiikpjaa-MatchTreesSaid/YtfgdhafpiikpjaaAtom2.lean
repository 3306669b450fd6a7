/- Contracts of ere's escaped and atom. -/
import Derived.Test.YtfgdhafpiikpjaaAtom
namespace Go.Proofs.Ytfgdhafpiikpjaa.items
set_option linter.unusedVariables false set_option linter.unusedSimpArgs false
open Go.ChangeShapes Go.WideShapes Go.ChangeAt Go.RowKit Go.Proofs.Ytfgdhafpiikpjaa.base Go.Proofs.Ytfgdhafpiikpjaa.read Go.Proofs.Ytfgdhafpiikpjaa.spec Go.Proofs.Ytfgdhafpiikpjaa.set Go.Proofs.Ytfgdhafpiikpjaa.nums Go.Proofs.Ytfgdhafpiikpjaa.parts

def escP (l : List UInt8) : Res Part := match esc l with
  | .bad e => .bad e
  | .ok b t => .ok (oneP b) t

set_option maxHeartbeats 1000000 in
theorem escaped_all (w : World) (R : Nat) (s : ByteArray) (d : Nat) (l : List UInt8) (h : Rd w R s d l) :
    Calls Try.prog 78 #[.pointer (some ⟨R, 0, none⟩)] w (PartPost w R s d (escP l)) := by
  have hRlt := h.lt
  have hR0 := h.ne0
  have HA := Lib.hid (h.alloc (.cells zp 88))
  have HX0 := Lib.hid (Box.new w 88 zp)
  have HN := Lib.hid (show ¬ At R w.heap.size from fun e => by have e' : w.heap.size = R := e; omega)
  clear h
  cases he : esc l with
  | bad f =>
    have HI := Lib.hid he
    have HE := Lib.hid (show escP l = .bad f by rw [escP, he])
    obtain rfl : f = 4 := esc_bads he
    clear he
    go_enter Try.func78, Try.ntmps78
    go_wp2_with (first | (go_at_call 87; go_must (refine (escape_bad _ R s d 4 l (by exact HA.out) HI.out).mono ?_; rintro e w2 ⟨rfl, hf4, hr2, hf2⟩; have HR2 := Lib.hid hr2; have HX2 := Lib.hid (show Box w2 w.heap.size 88 zp from HX0.out.frm hf2 HN.out); have HF2 := Lib.hid (show Frm (At R) w w2 from ((Frm.refl (At R) w).alloc _).trans hf2); clear hr2 hf2)) | (go_at_call 82; go_must (refine (oneByte_all _ (fun k => w.heap.size ≤ k) 0).mono ?_; rintro e w3 ⟨v3, rfl, hp3, hf3⟩; have HX3 := Lib.hid (show Box w3 w.heap.size 88 zp from HX2.out.frm hf3 id); have HR3 := Lib.hid (HR2.out.move hf3); have HF3 := Lib.hid (HF2.out.then hf3 (fun _ _ e => e.elim)); have HP3 := Lib.hid hp3; obtain ⟨hn3, a3, cap3, rfl, hk3⟩ := hp3; clear hf3 hk3)) | (refine wpList_store_row rfl 88 (.tmp 2) (.tmp 12) rfl w.heap.size _ rfl rfl 88 zp HX3.out info_part rfl (by simp [Value.oneCell']) ?_))
    have hb0 : 0 < 4 := by omega
    have hb5 : 4 ≤ 5 := by omega
    refine bodyPost_ret (results_part2 Try.results78 _ _ w.heap.size 88 _ (0, 0) _ (.int .i64 4) rfl rfl (setRow_eq HX3.out) Try.underlying88 rfl info_part) rfl ?_
    rw [HE.out]
    exact ⟨_, rfl, ⟨_, _, _, _, _, _, _, _, rfl⟩, hb0, hb5, ⟨_, Rd.frm HR3.out (frm_setRow (S := At w.heap.size) (Frm.refl _ _) _ _ (fun _ => rfl)) (fun e => HN.out e.symm) (fun e => by have e' : 0 = w.heap.size := e; omega)⟩, frm_setRow HF3.out _ _ (fun hk => absurd hk (Nat.lt_irrefl _))⟩
  | ok b l' =>
    have HI := Lib.hid he
    have HE := Lib.hid (show escP l = .ok (oneP b) l' by rw [escP, he])
    clear he
    go_enter Try.func78, Try.ntmps78
    go_wp2_with (first | (go_at_call 87; go_must (refine (escape_ok _ R s d l l' b (by exact HA.out) HI.out).mono ?_; rintro e w2 ⟨rfl, hr2, hf2⟩; have HR2 := Lib.hid hr2; have HX2 := Lib.hid (show Box w2 w.heap.size 88 zp from HX0.out.frm hf2 HN.out); have HF2 := Lib.hid (show Frm (At R) w w2 from ((Frm.refl (At R) w).alloc _).trans hf2); clear hr2 hf2)) | (go_at_call 82; go_must (refine (oneByte_all _ (fun k => w.heap.size ≤ k) b).mono ?_; rintro e w3 ⟨v3, rfl, hp3, hf3⟩; have HX3 := Lib.hid (show Box w3 w.heap.size 88 zp from HX2.out.frm hf3 id); have HR3 := Lib.hid (HR2.out.move hf3); have HF3 := Lib.hid (HF2.out.then hf3 (fun _ _ e => e.elim)); have HP3 := Lib.hid hp3; obtain ⟨hn3, a3, cap3, rfl, hk3⟩ := hp3; clear hf3 hk3)) | (refine wpList_store_row rfl 88 (.tmp 2) (.tmp 12) rfl w.heap.size _ rfl rfl 88 zp HX3.out info_part rfl (by simp [Value.oneCell']) ?_))
    refine bodyPost_ret (results_part2 Try.results78 _ _ w.heap.size 88 _ (0, 0) _ (.int .i64 0) rfl rfl (setRow_eq HX3.out) Try.underlying88 rfl info_part) rfl ?_
    rw [HE.out]
    exact ⟨_, rfl, PV.setRow HP3.out HX3.out (by decide) _, Rd.frm HR3.out (frm_setRow (S := At w.heap.size) (Frm.refl _ _) _ _ (fun _ => rfl)) (fun e => HN.out e.symm) (fun e => by have e' : 0 = w.heap.size := e; omega), frm_setRow HF3.out _ _ (fun hk => absurd hk (Nat.lt_irrefl _))⟩

/-- The contract of group, as its callers meet it. -/
def GrpC (g : List UInt8 → Res Part) (d : Nat) : Prop := ∀ (w : World) (R : Nat) (s : ByteArray) (l : List UInt8), Rd w R s d l → Calls Try.prog 76 #[.pointer (some ⟨R, 0, none⟩)] w (PartPost w R s d (g l))

theorem ne_of {c : UInt8} {n : Nat} (k : UInt8) (hk : k.toNat = n) (h : c ≠ k) : ((c.toNat : Int) == (n : Int)) = false := by
  rw [beq_eq_false_iff_ne]
  intro e
  exact h (UInt8.toNat_inj.1 (by omega))

set_option maxRecDepth 100000 in
set_option maxHeartbeats 1000000 in
theorem atom_all (g : List UInt8 → Res Part) (w : World) (R : Nat) (s : ByteArray) (d : Nat) (G : GrpC g d) (l : List UInt8) (h : Rd w R s d l) (hne : l ≠ []) (Z D : Array Value) (hZ : Z = bA emptyF) (hD : D = bA fun k => !emptyF k) :
    Calls Try.prog 71 #[.pointer (some ⟨R, 0, none⟩)] w (PartPost w R s d (atom g l)) := by
  have hz0 : ∀ W, (zeroValue 116).run Try.prog W = .ok (.agg Z) W := by rw [hZ]; exact zero_set
  have HIZ := Lib.hid (show (Try.prog.info? 116).map (·.size) = some Z.size by rw [hZ]; exact info_set _)
  have HZ := Lib.hid hZ
  have HD := Lib.hid hD
  have hRlt := h.lt
  have hR0 := h.ne0
  have HG := Lib.hid G
  have HA := Lib.hid (h.alloc (.cells zp 88))
  have HX0 := Lib.hid (Box.new w 88 zp)
  have HN := Lib.hid (show ¬ At R w.heap.size from fun e => by have e' : w.heap.size = R := e; omega)
  clear h hZ hD G
  by_cases ha : atRep l = true
  · have HE := Lib.hid (show atom g l = .bad 3 by unfold atom; rw [if_pos ha])
    go_enter Try.func71, Try.ntmps71
    go_wp2_with (first | (go_at_call 72; go_must (refine (atRep_all _ R s d l (by exact HA.out)).mono ?_; rintro e w1 ⟨rfl, hf1⟩; have HR3 := Lib.hid (HA.out.move hf1); have HX3 := Lib.hid (show Box w1 w.heap.size 88 zp from HX0.out.frm hf1 id); have HF3 := Lib.hid (show Frm (At R) w w1 from (frm1 w _).then hf1 (fun _ _ e => e) |>.mono (fun _ _ e => e.elim)); clear hf1)) | (refine wpList_store_row rfl 88 (.tmp 2) (.tmp 8) rfl w.heap.size _ rfl rfl 88 zp HX3.out info_part rfl (by simp [Value.oneCell']) ?_))
    have hb0 : 0 < 3 := by omega
    have hb5 : 3 ≤ 5 := by omega
    refine bodyPost_ret (results_part2 Try.results71 _ _ w.heap.size 88 _ (0, 0) _ (.int .i64 3) rfl rfl (setRow_eq HX3.out) Try.underlying88 rfl info_part) rfl ?_
    rw [HE.out]
    exact ⟨_, rfl, ⟨_, _, _, _, _, _, _, _, rfl⟩, hb0, hb5, ⟨_, Rd.frm HR3.out (frm_setRow (S := At w.heap.size) (Frm.refl _ _) _ _ (fun _ => rfl)) (fun e => HN.out e.symm) (fun e => by have e' : 0 = w.heap.size := e; omega)⟩, frm_setRow HF3.out _ _ (fun hk => absurd hk (Nat.lt_irrefl _))⟩
  have ha' : atRep l = false := by simpa using ha
  clear ha
  obtain ⟨c, t, hl⟩ : ∃ c t, l = c :: t := by cases l with
    | nil => exact absurd rfl hne
    | cons c t => exact ⟨c, t, rfl⟩
  subst hl
  have HAT := Lib.hid (show atom g (c :: t) = if c = 40 then g t else if c = 91 then bracket t else if c = 92 then escP t
    else if c = 46 then .ok (setP fun k => !emptyF k) t else if c = 94 then .ok (edgeP bolW) t else if c = 36 then .ok (edgeP eolW) t else .ok (oneP c) t by
      rw [atom, if_neg (by rw [ha']; decide)]
      rfl)
  clear hne
  by_cases h40 : c = 40
  · subst h40
    have HAT2 := Lib.hid (show atom g (40 :: t) = g t by rw [HAT.out, if_pos rfl])
    cases hg : g t with
    | bad f =>
      have HI := Lib.hid hg
      have HE := Lib.hid (show atom g (40 :: t) = .bad f by rw [HAT2.out, hg])
      clear hg
      go_enter Try.func71, Try.ntmps71
      go_wp2_with (first | (go_at_call 72; go_must (refine (atRep_all _ R s d (40 :: t) (by exact HA.out)).mono ?_; rintro e w1 ⟨rfl, hf1⟩; have HR1 := Lib.hid (HA.out.move hf1); have HX1 := Lib.hid (show Box w1 w.heap.size 88 zp from HX0.out.frm hf1 id); have HF1 := Lib.hid (show Frm (At R) w w1 from (frm1 w _).then hf1 (fun _ _ e => e) |>.mono (fun _ _ e => e.elim)); clear hf1)) | (go_at_call 75; go_must (refine (next_all _ R s d 40 t (by exact HR1.out)).mono ?_; rintro e w2 ⟨rfl, hr2, hf2⟩; have HR2 := Lib.hid hr2; have HX2 := Lib.hid (show Box w2 w.heap.size 88 zp from HX1.out.frm hf2 HN.out); have HF2 := Lib.hid (HF1.out.trans hf2); clear hr2 hf2)) | (go_at_call 76; go_must (refine (HG.out _ R s t (by exact HR2.out)).mono ?_; intro e w3 hip; rw [HI.out] at hip; obtain ⟨v3, rfl, ⟨o3, s3, a3, n3, c3, x3, y3, m3, rfl⟩, hb0, hb5, ⟨l3, hr3⟩, hf3⟩ := hip; have HX3 := Lib.hid (show Box w3 w.heap.size 88 zp from HX2.out.frm hf3 HN.out); have HR3 := Lib.hid hr3; have HF3 := Lib.hid (HF2.out.trans hf3); clear hr3 hf3)) | (refine wpList_store_row rfl 88 (.tmp 2) (.tmp 16) rfl w.heap.size _ rfl rfl 88 zp HX3.out info_part rfl (by simp [Value.oneCell']) ?_))
      refine bodyPost_ret (results_part2 Try.results71 _ _ w.heap.size 88 _ (0, 0) _ (.int .i64 f) rfl rfl (setRow_eq HX3.out) Try.underlying88 rfl info_part) rfl ?_
      rw [HE.out]
      exact ⟨_, rfl, ⟨_, _, _, _, _, _, _, _, rfl⟩, hb0, hb5, ⟨_, Rd.frm HR3.out (frm_setRow (S := At w.heap.size) (Frm.refl _ _) _ _ (fun _ => rfl)) (fun e => HN.out e.symm) (fun e => by have e' : 0 = w.heap.size := e; omega)⟩, frm_setRow HF3.out _ _ (fun hk => absurd hk (Nat.lt_irrefl _))⟩
    | ok p l' =>
      have HI := Lib.hid hg
      have HE := Lib.hid (show atom g (40 :: t) = .ok p l' by rw [HAT2.out, hg])
      clear hg
      go_enter Try.func71, Try.ntmps71
      go_wp2_with (first | (go_at_call 72; go_must (refine (atRep_all _ R s d (40 :: t) (by exact HA.out)).mono ?_; rintro e w1 ⟨rfl, hf1⟩; have HR1 := Lib.hid (HA.out.move hf1); have HX1 := Lib.hid (show Box w1 w.heap.size 88 zp from HX0.out.frm hf1 id); have HF1 := Lib.hid (show Frm (At R) w w1 from (frm1 w _).then hf1 (fun _ _ e => e) |>.mono (fun _ _ e => e.elim)); clear hf1)) | (go_at_call 75; go_must (refine (next_all _ R s d 40 t (by exact HR1.out)).mono ?_; rintro e w2 ⟨rfl, hr2, hf2⟩; have HR2 := Lib.hid hr2; have HX2 := Lib.hid (show Box w2 w.heap.size 88 zp from HX1.out.frm hf2 HN.out); have HF2 := Lib.hid (HF1.out.trans hf2); clear hr2 hf2)) | (go_at_call 76; go_must (refine (HG.out _ R s t (by exact HR2.out)).mono ?_; intro e w3 hip; rw [HI.out] at hip; obtain ⟨v3, rfl, hp3, hr3, hf3⟩ := hip; have HX3 := Lib.hid (show Box w3 w.heap.size 88 zp from HX2.out.frm hf3 HN.out); have HR3 := Lib.hid hr3; have HF3 := Lib.hid (HF2.out.trans hf3); have HP3 := Lib.hid (hp3.mono (F' := fun k => w.heap.size ≤ k) (fun g h _ => Nat.le_trans HF2.out.size h)); obtain ⟨hn3, a3, cap3, rfl, hk3⟩ := hp3; clear hr3 hf3 hk3)) | (refine wpList_store_row rfl 88 (.tmp 2) (.tmp 16) rfl w.heap.size _ rfl rfl 88 zp HX3.out info_part rfl (by simp [Value.oneCell']) ?_))
      refine bodyPost_ret (results_part2 Try.results71 _ _ w.heap.size 88 _ (0, 0) _ (.int .i64 0) rfl rfl (setRow_eq HX3.out) Try.underlying88 rfl info_part) rfl ?_
      rw [HE.out]
      exact ⟨_, rfl, PV.setRow HP3.out HX3.out (by decide) _, Rd.frm HR3.out (frm_setRow (S := At w.heap.size) (Frm.refl _ _) _ _ (fun _ => rfl)) (fun e => HN.out e.symm) (fun e => by have e' : 0 = w.heap.size := e; omega), frm_setRow HF3.out _ _ (fun hk => absurd hk (Nat.lt_irrefl _))⟩
  have f40 := ne_of (c := c) (n := 40) 40 rfl h40
  by_cases h91 : c = 91
  · subst h91
    have HAT2 := Lib.hid (show atom g (91 :: t) = bracket t by rw [HAT.out, if_neg h40, if_pos rfl])
    cases hg : bracket t with
    | bad f =>
      have HI := Lib.hid hg
      have HE := Lib.hid (show atom g (91 :: t) = .bad f by rw [HAT2.out, hg])
      clear hg
      go_enter Try.func71, Try.ntmps71
      go_wp2_with (first | (go_at_call 72; go_must (refine (atRep_all _ R s d (91 :: t) (by exact HA.out)).mono ?_; rintro e w1 ⟨rfl, hf1⟩; have HR1 := Lib.hid (HA.out.move hf1); have HX1 := Lib.hid (show Box w1 w.heap.size 88 zp from HX0.out.frm hf1 id); have HF1 := Lib.hid (show Frm (At R) w w1 from (frm1 w _).then hf1 (fun _ _ e => e) |>.mono (fun _ _ e => e.elim)); clear hf1)) | (go_at_call 75; go_must (refine (next_all _ R s d 91 t (by exact HR1.out)).mono ?_; rintro e w2 ⟨rfl, hr2, hf2⟩; have HR2 := Lib.hid hr2; have HX2 := Lib.hid (show Box w2 w.heap.size 88 zp from HX1.out.frm hf2 HN.out); have HF2 := Lib.hid (HF1.out.trans hf2); clear hr2 hf2)) | (go_at_call 77; go_must (refine (bracket_all _ R s d t (by exact HR2.out)).mono ?_; intro e w3 hip; rw [HI.out] at hip; obtain ⟨v3, rfl, ⟨o3, s3, a3, n3, c3, x3, y3, m3, rfl⟩, hb0, hb5, ⟨l3, hr3⟩, hf3⟩ := hip; have HX3 := Lib.hid (show Box w3 w.heap.size 88 zp from HX2.out.frm hf3 HN.out); have HR3 := Lib.hid hr3; have HF3 := Lib.hid (HF2.out.trans hf3); clear hr3 hf3)) | (refine wpList_store_row rfl 88 (.tmp 2) (.tmp 22) rfl w.heap.size _ rfl rfl 88 zp HX3.out info_part rfl (by simp [Value.oneCell']) ?_))
      refine bodyPost_ret (results_part2 Try.results71 _ _ w.heap.size 88 _ (0, 0) _ (.int .i64 f) rfl rfl (setRow_eq HX3.out) Try.underlying88 rfl info_part) rfl ?_
      rw [HE.out]
      exact ⟨_, rfl, ⟨_, _, _, _, _, _, _, _, rfl⟩, hb0, hb5, ⟨_, Rd.frm HR3.out (frm_setRow (S := At w.heap.size) (Frm.refl _ _) _ _ (fun _ => rfl)) (fun e => HN.out e.symm) (fun e => by have e' : 0 = w.heap.size := e; omega)⟩, frm_setRow HF3.out _ _ (fun hk => absurd hk (Nat.lt_irrefl _))⟩
    | ok p l' =>
      have HI := Lib.hid hg
      have HE := Lib.hid (show atom g (91 :: t) = .ok p l' by rw [HAT2.out, hg])
      clear hg
      go_enter Try.func71, Try.ntmps71
      go_wp2_with (first | (go_at_call 72; go_must (refine (atRep_all _ R s d (91 :: t) (by exact HA.out)).mono ?_; rintro e w1 ⟨rfl, hf1⟩; have HR1 := Lib.hid (HA.out.move hf1); have HX1 := Lib.hid (show Box w1 w.heap.size 88 zp from HX0.out.frm hf1 id); have HF1 := Lib.hid (show Frm (At R) w w1 from (frm1 w _).then hf1 (fun _ _ e => e) |>.mono (fun _ _ e => e.elim)); clear hf1)) | (go_at_call 75; go_must (refine (next_all _ R s d 91 t (by exact HR1.out)).mono ?_; rintro e w2 ⟨rfl, hr2, hf2⟩; have HR2 := Lib.hid hr2; have HX2 := Lib.hid (show Box w2 w.heap.size 88 zp from HX1.out.frm hf2 HN.out); have HF2 := Lib.hid (HF1.out.trans hf2); clear hr2 hf2)) | (go_at_call 77; go_must (refine (bracket_all _ R s d t (by exact HR2.out)).mono ?_; intro e w3 hip; rw [HI.out] at hip; obtain ⟨v3, rfl, hp3, hr3, hf3⟩ := hip; have HX3 := Lib.hid (show Box w3 w.heap.size 88 zp from HX2.out.frm hf3 HN.out); have HR3 := Lib.hid hr3; have HF3 := Lib.hid (HF2.out.trans hf3); have HP3 := Lib.hid (hp3.mono (F' := fun k => w.heap.size ≤ k) (fun g h _ => Nat.le_trans HF2.out.size h)); obtain ⟨hn3, a3, cap3, rfl, hk3⟩ := hp3; clear hr3 hf3 hk3)) | (refine wpList_store_row rfl 88 (.tmp 2) (.tmp 22) rfl w.heap.size _ rfl rfl 88 zp HX3.out info_part rfl (by simp [Value.oneCell']) ?_))
      refine bodyPost_ret (results_part2 Try.results71 _ _ w.heap.size 88 _ (0, 0) _ (.int .i64 0) rfl rfl (setRow_eq HX3.out) Try.underlying88 rfl info_part) rfl ?_
      rw [HE.out]
      exact ⟨_, rfl, PV.setRow HP3.out HX3.out (by decide) _, Rd.frm HR3.out (frm_setRow (S := At w.heap.size) (Frm.refl _ _) _ _ (fun _ => rfl)) (fun e => HN.out e.symm) (fun e => by have e' : 0 = w.heap.size := e; omega), frm_setRow HF3.out _ _ (fun hk => absurd hk (Nat.lt_irrefl _))⟩
  have f91 := ne_of (c := c) (n := 91) 91 rfl h91
  by_cases h92 : c = 92
  · subst h92
    have HAT2 := Lib.hid (show atom g (92 :: t) = escP t by rw [HAT.out, if_neg h40, if_neg h91, if_pos rfl])
    cases hg : escP t with
    | bad f =>
      have HI := Lib.hid hg
      have HE := Lib.hid (show atom g (92 :: t) = .bad f by rw [HAT2.out, hg])
      clear hg
      go_enter Try.func71, Try.ntmps71
      go_wp2_with (first | (go_at_call 72; go_must (refine (atRep_all _ R s d (92 :: t) (by exact HA.out)).mono ?_; rintro e w1 ⟨rfl, hf1⟩; have HR1 := Lib.hid (HA.out.move hf1); have HX1 := Lib.hid (show Box w1 w.heap.size 88 zp from HX0.out.frm hf1 id); have HF1 := Lib.hid (show Frm (At R) w w1 from (frm1 w _).then hf1 (fun _ _ e => e) |>.mono (fun _ _ e => e.elim)); clear hf1)) | (go_at_call 75; go_must (refine (next_all _ R s d 92 t (by exact HR1.out)).mono ?_; rintro e w2 ⟨rfl, hr2, hf2⟩; have HR2 := Lib.hid hr2; have HX2 := Lib.hid (show Box w2 w.heap.size 88 zp from HX1.out.frm hf2 HN.out); have HF2 := Lib.hid (HF1.out.trans hf2); clear hr2 hf2)) | (go_at_call 78; go_must (refine (escaped_all _ R s d t (by exact HR2.out)).mono ?_; intro e w3 hip; rw [HI.out] at hip; obtain ⟨v3, rfl, ⟨o3, s3, a3, n3, c3, x3, y3, m3, rfl⟩, hb0, hb5, ⟨l3, hr3⟩, hf3⟩ := hip; have HX3 := Lib.hid (show Box w3 w.heap.size 88 zp from HX2.out.frm hf3 HN.out); have HR3 := Lib.hid hr3; have HF3 := Lib.hid (HF2.out.trans hf3); clear hr3 hf3)) | (refine wpList_store_row rfl 88 (.tmp 2) (.tmp 28) rfl w.heap.size _ rfl rfl 88 zp HX3.out info_part rfl (by simp [Value.oneCell']) ?_))
      refine bodyPost_ret (results_part2 Try.results71 _ _ w.heap.size 88 _ (0, 0) _ (.int .i64 f) rfl rfl (setRow_eq HX3.out) Try.underlying88 rfl info_part) rfl ?_
      rw [HE.out]
      exact ⟨_, rfl, ⟨_, _, _, _, _, _, _, _, rfl⟩, hb0, hb5, ⟨_, Rd.frm HR3.out (frm_setRow (S := At w.heap.size) (Frm.refl _ _) _ _ (fun _ => rfl)) (fun e => HN.out e.symm) (fun e => by have e' : 0 = w.heap.size := e; omega)⟩, frm_setRow HF3.out _ _ (fun hk => absurd hk (Nat.lt_irrefl _))⟩
    | ok p l' =>
      have HI := Lib.hid hg
      have HE := Lib.hid (show atom g (92 :: t) = .ok p l' by rw [HAT2.out, hg])
      clear hg
      go_enter Try.func71, Try.ntmps71
      go_wp2_with (first | (go_at_call 72; go_must (refine (atRep_all _ R s d (92 :: t) (by exact HA.out)).mono ?_; rintro e w1 ⟨rfl, hf1⟩; have HR1 := Lib.hid (HA.out.move hf1); have HX1 := Lib.hid (show Box w1 w.heap.size 88 zp from HX0.out.frm hf1 id); have HF1 := Lib.hid (show Frm (At R) w w1 from (frm1 w _).then hf1 (fun _ _ e => e) |>.mono (fun _ _ e => e.elim)); clear hf1)) | (go_at_call 75; go_must (refine (next_all _ R s d 92 t (by exact HR1.out)).mono ?_; rintro e w2 ⟨rfl, hr2, hf2⟩; have HR2 := Lib.hid hr2; have HX2 := Lib.hid (show Box w2 w.heap.size 88 zp from HX1.out.frm hf2 HN.out); have HF2 := Lib.hid (HF1.out.trans hf2); clear hr2 hf2)) | (go_at_call 78; go_must (refine (escaped_all _ R s d t (by exact HR2.out)).mono ?_; intro e w3 hip; rw [HI.out] at hip; obtain ⟨v3, rfl, hp3, hr3, hf3⟩ := hip; have HX3 := Lib.hid (show Box w3 w.heap.size 88 zp from HX2.out.frm hf3 HN.out); have HR3 := Lib.hid hr3; have HF3 := Lib.hid (HF2.out.trans hf3); have HP3 := Lib.hid (hp3.mono (F' := fun k => w.heap.size ≤ k) (fun g h _ => Nat.le_trans HF2.out.size h)); obtain ⟨hn3, a3, cap3, rfl, hk3⟩ := hp3; clear hr3 hf3 hk3)) | (refine wpList_store_row rfl 88 (.tmp 2) (.tmp 28) rfl w.heap.size _ rfl rfl 88 zp HX3.out info_part rfl (by simp [Value.oneCell']) ?_))
      refine bodyPost_ret (results_part2 Try.results71 _ _ w.heap.size 88 _ (0, 0) _ (.int .i64 0) rfl rfl (setRow_eq HX3.out) Try.underlying88 rfl info_part) rfl ?_
      rw [HE.out]
      exact ⟨_, rfl, PV.setRow HP3.out HX3.out (by decide) _, Rd.frm HR3.out (frm_setRow (S := At w.heap.size) (Frm.refl _ _) _ _ (fun _ => rfl)) (fun e => HN.out e.symm) (fun e => by have e' : 0 = w.heap.size := e; omega), frm_setRow HF3.out _ _ (fun hk => absurd hk (Nat.lt_irrefl _))⟩
  have f92 := ne_of (c := c) (n := 92) 92 rfl h92
  by_cases h46 : c = 46
  · subst h46
    have HE := Lib.hid (show atom g (46 :: t) = .ok (setP fun k => !emptyF k) t by rw [HAT.out, if_neg h40, if_neg h91, if_neg h92, if_pos rfl])
    go_enter Try.func71, Try.ntmps71
    go_wp2_with (first | (go_at_call 72; go_must (refine (atRep_all _ R s d (46 :: t) (by exact HA.out)).mono ?_; rintro e w1 ⟨rfl, hf1⟩; have HR1 := Lib.hid (HA.out.move hf1); have HX1 := Lib.hid (show Box w1 w.heap.size 88 zp from HX0.out.frm hf1 id); have HF1 := Lib.hid (show Frm (At R) w w1 from (frm1 w _).then hf1 (fun _ _ e => e) |>.mono (fun _ _ e => e.elim)); clear hf1)) | (go_at_call 75; go_must (refine (next_all _ R s d 46 t (by exact HR1.out)).mono ?_; rintro e w2 ⟨rfl, hr2, hf2⟩; have HR2 := Lib.hid hr2; have HX2 := Lib.hid (show Box w2 w.heap.size 88 zp from HX1.out.frm hf2 HN.out); have HF2 := Lib.hid (HF1.out.trans hf2); clear hr2 hf2)) | (refine wpList_load_row rfl 116 (.tmp 5) rfl w2.heap.size rfl 116 Z (0, 0) _ (Box.new w2 _ _) Try.underlying116 rfl HIZ.out ?_) | (go_at_call 80; go_must (refine (others_c _ emptyF Z Z D HZ.out HZ.out HD.out).mono ?_; rintro e w4 ⟨rfl, hf4⟩; have HX4 := Lib.hid (show Box w4 w.heap.size 88 zp from (HX2.out.alloc _).frm hf4 id); have HR4 := Lib.hid ((HR2.out.alloc _).move hf4); have HF4 := Lib.hid ((HF2.out.alloc _).then hf4 (fun _ _ e => e.elim)); clear hf4)) | (go_at_call 79; go_must (refine (setOf_all _ (fun k => w.heap.size ≤ k) (fun k => !emptyF k) D HD.out).mono ?_; rintro e w3 ⟨v3, rfl, hp3, hf3⟩; have HX3 := Lib.hid (show Box w3 w.heap.size 88 zp from HX4.out.frm hf3 id); have HR3 := Lib.hid (HR4.out.move hf3); have HF3 := Lib.hid (HF4.out.then hf3 (fun _ _ e => e.elim)); have HP3 := Lib.hid hp3; obtain ⟨hn3, a3, cap3, rfl, hk3⟩ := hp3; clear hf3 hk3)) | (refine wpList_store_row rfl 88 (.tmp 2) (.tmp 34) rfl w.heap.size _ rfl rfl 88 zp HX3.out info_part rfl (by simp [Value.oneCell']) ?_))
    refine bodyPost_ret (results_part2 Try.results71 _ _ w.heap.size 88 _ (0, 0) _ (.int .i64 0) rfl rfl (setRow_eq HX3.out) Try.underlying88 rfl info_part) rfl ?_
    rw [HE.out]
    exact ⟨_, rfl, PV.setRow HP3.out HX3.out (by decide) _, Rd.frm HR3.out (frm_setRow (S := At w.heap.size) (Frm.refl _ _) _ _ (fun _ => rfl)) (fun e => HN.out e.symm) (fun e => by have e' : 0 = w.heap.size := e; omega), frm_setRow HF3.out _ _ (fun hk => absurd hk (Nat.lt_irrefl _))⟩
  have f46 := ne_of (c := c) (n := 46) 46 rfl h46
  by_cases h94 : c = 94
  · subst h94
    have HE := Lib.hid (show atom g (94 :: t) = .ok (edgeP bolW) t by rw [HAT.out, if_neg h40, if_neg h91, if_neg h92, if_neg h46, if_pos rfl])
    go_enter Try.func71, Try.ntmps71
    go_wp2_with (first | (go_at_call 72; go_must (refine (atRep_all _ R s d (94 :: t) (by exact HA.out)).mono ?_; rintro e w1 ⟨rfl, hf1⟩; have HR1 := Lib.hid (HA.out.move hf1); have HX1 := Lib.hid (show Box w1 w.heap.size 88 zp from HX0.out.frm hf1 id); have HF1 := Lib.hid (show Frm (At R) w w1 from (frm1 w _).then hf1 (fun _ _ e => e) |>.mono (fun _ _ e => e.elim)); clear hf1)) | (go_at_call 75; go_must (refine (next_all _ R s d 94 t (by exact HR1.out)).mono ?_; rintro e w2 ⟨rfl, hr2, hf2⟩; have HR2 := Lib.hid hr2; have HX2 := Lib.hid (show Box w2 w.heap.size 88 zp from HX1.out.frm hf2 HN.out); have HF2 := Lib.hid (HF1.out.trans hf2); clear hr2 hf2)) | (go_at_call 81; go_must (refine (edge_all _ (fun k => w.heap.size ≤ k) bolW).mono ?_; rintro e w3 ⟨v3, rfl, hp3, hf3⟩; have HX3 := Lib.hid (show Box w3 w.heap.size 88 zp from HX2.out.frm hf3 id); have HR3 := Lib.hid (HR2.out.move hf3); have HF3 := Lib.hid (HF2.out.then hf3 (fun _ _ e => e.elim)); have HP3 := Lib.hid hp3; obtain ⟨hn3, a3, cap3, rfl, hk3⟩ := hp3; clear hf3 hk3)) | (refine wpList_store_row rfl 88 (.tmp 2) (.tmp 37) rfl w.heap.size _ rfl rfl 88 zp HX3.out info_part rfl (by simp [Value.oneCell']) ?_))
    refine bodyPost_ret (results_part2 Try.results71 _ _ w.heap.size 88 _ (0, 0) _ (.int .i64 0) rfl rfl (setRow_eq HX3.out) Try.underlying88 rfl info_part) rfl ?_
    rw [HE.out]
    exact ⟨_, rfl, PV.setRow HP3.out HX3.out (by decide) _, Rd.frm HR3.out (frm_setRow (S := At w.heap.size) (Frm.refl _ _) _ _ (fun _ => rfl)) (fun e => HN.out e.symm) (fun e => by have e' : 0 = w.heap.size := e; omega), frm_setRow HF3.out _ _ (fun hk => absurd hk (Nat.lt_irrefl _))⟩
  have f94 := ne_of (c := c) (n := 94) 94 rfl h94
  by_cases h36 : c = 36
  · subst h36
    have HE := Lib.hid (show atom g (36 :: t) = .ok (edgeP eolW) t by rw [HAT.out, if_neg h40, if_neg h91, if_neg h92, if_neg h46, if_neg h94, if_pos rfl])
    go_enter Try.func71, Try.ntmps71
    go_wp2_with (first | (go_at_call 72; go_must (refine (atRep_all _ R s d (36 :: t) (by exact HA.out)).mono ?_; rintro e w1 ⟨rfl, hf1⟩; have HR1 := Lib.hid (HA.out.move hf1); have HX1 := Lib.hid (show Box w1 w.heap.size 88 zp from HX0.out.frm hf1 id); have HF1 := Lib.hid (show Frm (At R) w w1 from (frm1 w _).then hf1 (fun _ _ e => e) |>.mono (fun _ _ e => e.elim)); clear hf1)) | (go_at_call 75; go_must (refine (next_all _ R s d 36 t (by exact HR1.out)).mono ?_; rintro e w2 ⟨rfl, hr2, hf2⟩; have HR2 := Lib.hid hr2; have HX2 := Lib.hid (show Box w2 w.heap.size 88 zp from HX1.out.frm hf2 HN.out); have HF2 := Lib.hid (HF1.out.trans hf2); clear hr2 hf2)) | (go_at_call 81; go_must (refine (edge_all _ (fun k => w.heap.size ≤ k) eolW).mono ?_; rintro e w3 ⟨v3, rfl, hp3, hf3⟩; have HX3 := Lib.hid (show Box w3 w.heap.size 88 zp from HX2.out.frm hf3 id); have HR3 := Lib.hid (HR2.out.move hf3); have HF3 := Lib.hid (HF2.out.then hf3 (fun _ _ e => e.elim)); have HP3 := Lib.hid hp3; obtain ⟨hn3, a3, cap3, rfl, hk3⟩ := hp3; clear hf3 hk3)) | (refine wpList_store_row rfl 88 (.tmp 2) (.tmp 40) rfl w.heap.size _ rfl rfl 88 zp HX3.out info_part rfl (by simp [Value.oneCell']) ?_))
    refine bodyPost_ret (results_part2 Try.results71 _ _ w.heap.size 88 _ (0, 0) _ (.int .i64 0) rfl rfl (setRow_eq HX3.out) Try.underlying88 rfl info_part) rfl ?_
    rw [HE.out]
    exact ⟨_, rfl, PV.setRow HP3.out HX3.out (by decide) _, Rd.frm HR3.out (frm_setRow (S := At w.heap.size) (Frm.refl _ _) _ _ (fun _ => rfl)) (fun e => HN.out e.symm) (fun e => by have e' : 0 = w.heap.size := e; omega), frm_setRow HF3.out _ _ (fun hk => absurd hk (Nat.lt_irrefl _))⟩
  have f36 := ne_of (c := c) (n := 36) 36 rfl h36
  have HE := Lib.hid (show atom g (c :: t) = .ok (oneP c) t by rw [HAT.out, if_neg h40, if_neg h91, if_neg h92, if_neg h46, if_neg h94, if_neg h36])
  clear h40 h91 h92 h46 h94 h36
  go_enter Try.func71, Try.ntmps71
  go_wp2_with (first | (go_at_call 72; go_must (refine (atRep_all _ R s d (c :: t) (by exact HA.out)).mono ?_; rintro e w1 ⟨rfl, hf1⟩; have HR1 := Lib.hid (HA.out.move hf1); have HX1 := Lib.hid (show Box w1 w.heap.size 88 zp from HX0.out.frm hf1 id); have HF1 := Lib.hid (show Frm (At R) w w1 from (frm1 w _).then hf1 (fun _ _ e => e) |>.mono (fun _ _ e => e.elim)); clear hf1)) | (go_at_call 75; go_must (refine (next_all _ R s d c t (by exact HR1.out)).mono ?_; rintro e w2 ⟨rfl, hr2, hf2⟩; have HR2 := Lib.hid hr2; have HX2 := Lib.hid (show Box w2 w.heap.size 88 zp from HX1.out.frm hf2 HN.out); have HF2 := Lib.hid (HF1.out.trans hf2); clear hr2 hf2)) | (go_at_call 82; go_must (refine (oneByte_all _ (fun k => w.heap.size ≤ k) c).mono ?_; rintro e w3 ⟨v3, rfl, hp3, hf3⟩; have HX3 := Lib.hid (show Box w3 w.heap.size 88 zp from HX2.out.frm hf3 id); have HR3 := Lib.hid (HR2.out.move hf3); have HF3 := Lib.hid (HF2.out.then hf3 (fun _ _ e => e.elim)); have HP3 := Lib.hid hp3; obtain ⟨hn3, a3, cap3, rfl, hk3⟩ := hp3; clear hf3 hk3)) | (refine wpList_store_row rfl 88 (.tmp 2) (.tmp 42) rfl w.heap.size _ rfl rfl 88 zp HX3.out info_part rfl (by simp [Value.oneCell']) ?_))
  refine bodyPost_ret (results_part2 Try.results71 _ _ w.heap.size 88 _ (0, 0) _ (.int .i64 0) rfl rfl (setRow_eq HX3.out) Try.underlying88 rfl info_part) rfl ?_
  rw [HE.out]
  exact ⟨_, rfl, PV.setRow HP3.out HX3.out (by decide) _, Rd.frm HR3.out (frm_setRow (S := At w.heap.size) (Frm.refl _ _) _ _ (fun _ => rfl)) (fun e => HN.out e.symm) (fun e => by have e' : 0 = w.heap.size := e; omega), frm_setRow HF3.out _ _ (fun hk => absurd hk (Nat.lt_irrefl _))⟩
end Go.Proofs.Ytfgdhafpiikpjaa.items
