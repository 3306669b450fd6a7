/- The document's reader of expressions: repeat. The document's reader of expressions: repeat at a brace. -/
import Derived.Test.YtbfekknhmjndaaaGreatRefA
import Derived.Deep.Cut
import Derived.Deep.DeepCutAuto

namespace Go.Proofs.YtbfekknhmjndaaaGreat.doc3
set_option linter.unusedVariables false set_option linter.unusedSimpArgs false
set_option maxRecDepth 20000
open Go.ChangeShapes Go.WideShapes Go.ChangeAt Go.RowKit Go.Proofs.YtbfekknhmjndaaaGreat.base Go.Proofs.YtbfekknhmjndaaaGreat.read Go.Proofs.YtbfekknhmjndaaaGreat.spec

/-- The greater bound, and what is behind it; m: the lesser one, l: what is behind that. -/
def repHi (m : Nat) (l : List UInt8) : Int × List UInt8 :=
  if hd l 44 then ((if (cntD 0 false l.tail).2.1 then ((cntD 0 false l.tail).1 : Int) else -1), (cntD 0 false l.tail).2.2) else ((m : Int), l)
def repEnd (m : Nat) (b : Int × List UInt8) : Res (Int × Int) :=
  if hd b.2 125 = true ∧ m ≤ 255 ∧ b.1 ≤ 255 ∧ ¬ (0 ≤ b.1 ∧ b.1 < m) then .ok ((m : Int), b.1) b.2.tail else .bad 3
/-- What is behind a {. -/
def repB (l : List UInt8) : Res (Int × Int) := repEnd (cntD 0 false l).1 (repHi (cntD 0 false l).1 (cntD 0 false l).2.2)
def digHd (l : List UInt8) : Bool := match l with
  | [] => false
  | x :: _ => decide (48 ≤ x.toNat) && decide (x.toNat ≤ 57)
/-- The bounds that stand here, or that there are none. -/
def repD (l : List UInt8) : Option (Res (Int × Int)) := match l with
  | [] => none
  | c :: t => if c = 42 then some (.ok (0, -1) t) else if c = 43 then some (.ok (1, -1) t) else if c = 63 then some (.ok (0, 1) t)
    else if c = 123 then (if digHd t then some (repB t) else none) else none
def RepPost (w : World) (R : Nat) (s : ByteArray) (d : Nat) (l : List UInt8) (r : Option (Res (Int × Int))) (en : Ending) (w' : World) : Prop := Frm (At R) w w' ∧ match r with
  | none => en = .returned (.tuple #[.int .i64 0, .int .i64 0, .bool false]) ∧ AS w' R s d l
  | some (.bad e) => en = .returned (.tuple #[.int .i64 0, .int .i64 0, .bool false]) ∧ AF w' R e
  | some (.ok b l') => en = .returned (.tuple #[.int .i64 b.1, .int .i64 b.2, .bool true]) ∧ AS w' R s d l'

theorem wrap_in (x : Int) (h1 : 0 ≤ x) (h2 : x ≤ 3000000) : IntKind.i64.wrap x = x := by
  rw [IntKind.wrap_i64]
  have h2 : wrap64 x = x := IntWalk.wrap64_in _ ⟨by omega, by omega⟩
  unfold wrap64 at h2
  omega
theorem repeat_nil (w : World) (R : Nat) (s : ByteArray) (d : Nat) (h : AS w R s d []) :
    Calls Tryz.prog 57 #[.pointer (some ⟨R, 0, none⟩)] w (RepPost w R s d [] none) := by
  have HA := Lib.hid h
  clear h
  go_enter Tryz.func57, Tryz.ntmps57
  go_wp2_with (go_at_call 39; go_must (refine (more_as _ R s d [] false rfl (by exact HA.out)).mono ?_; rintro en _ ⟨rfl, n1, rfl⟩))
  refine bodyPost_ret (v := .tuple #[.int .i64 0, .int .i64 0, .bool false]) (by simp [results, Tryz.results57, go_sem]) rfl ⟨(Frm.refl _ w).drewN _, rfl, HA.out.drew _⟩

set_option maxHeartbeats 2000000 in
theorem repeat_plain (w : World) (R : Nat) (s : ByteArray) (d : Nat) (c : UInt8) (t : List UInt8) (h : AS w R s d (c :: t)) (hno : c ≠ 123) :
    Calls Tryz.prog 57 #[.pointer (some ⟨R, 0, none⟩)] w (RepPost w R s d (c :: t) (repD (c :: t))) := by
  have HA := Lib.hid h
  obtain ⟨i, h, e⟩ := h
  have h1 := h.c1
  have hf := h.1.f 1
  have hz := h.2.2.1
  have hlt := sx_lt e
  have HX := Lib.hid (show ∀ n, AS ((w.drewN n).setCell ⟨R, 1, none⟩ (.int .i64 ((i : Int) + 1))) R s d t ∧ Frm (At R) w ((w.drewN n).setCell ⟨R, 1, none⟩ (.int .i64 ((i : Int) + 1))) from fun n => ⟨⟨i + 1, (h.drew n).set (i + 1) (by omega) _ (by omega), sx_tl e⟩, ((Frm.refl (At R) w).drewN n).trans (frm_at _ R 1 _)⟩)
  clear h e
  by_cases c42 : c = 42
  · have hv : (c.toNat : Int) = 42 := by rw [c42]; rfl
    have HB := Lib.hid (show repD (c :: t) = some (.ok (0, -1) t) by unfold repD; simp only; rw [if_pos c42])
    rw [HB.out]
    clear c42 hno
    go_enter Tryz.func57, Tryz.ntmps57
    go_wp2_with (first | (go_at_call 39; go_must (refine (more_as _ R s d (c :: t) true rfl (by exact HA.out)).mono ?_; rintro en _ ⟨rfl, n1, rfl⟩)) | (go_at_call 40; go_must (refine (peek_as _ R s d c t (by exact HA.out)).mono ?_; rintro en _ ⟨rfl, n2, rfl⟩)))
    refine bodyPost_ret (v := .tuple #[.int .i64 0, .int .i64 (-1), .bool true]) (by simp [results, Tryz.results57, go_sem]) rfl ⟨(HX.out _).2, rfl, (HX.out _).1⟩
  have n42 : ((c.toNat : Int) == 42) = false := beq_no8 42 rfl c42
  by_cases c43 : c = 43
  · have hv : (c.toNat : Int) = 43 := by rw [c43]; rfl
    have HB := Lib.hid (show repD (c :: t) = some (.ok (1, -1) t) by unfold repD; simp only; rw [if_neg c42, if_pos c43])
    rw [HB.out]
    clear c43 hno
    go_enter Tryz.func57, Tryz.ntmps57
    go_wp2_with (first | (go_at_call 39; go_must (refine (more_as _ R s d (c :: t) true rfl (by exact HA.out)).mono ?_; rintro en _ ⟨rfl, n1, rfl⟩)) | (go_at_call 40; go_must (refine (peek_as _ R s d c t (by exact HA.out)).mono ?_; rintro en _ ⟨rfl, n2, rfl⟩)))
    refine bodyPost_ret (v := .tuple #[.int .i64 1, .int .i64 (-1), .bool true]) (by simp [results, Tryz.results57, go_sem]) rfl ⟨(HX.out _).2, rfl, (HX.out _).1⟩
  have n43 : ((c.toNat : Int) == 43) = false := beq_no8 43 rfl c43
  by_cases c63 : c = 63
  · have hv : (c.toNat : Int) = 63 := by rw [c63]; rfl
    have HB := Lib.hid (show repD (c :: t) = some (.ok (0, 1) t) by unfold repD; simp only; rw [if_neg c42, if_neg c43, if_pos c63])
    rw [HB.out]
    clear c63 hno
    go_enter Tryz.func57, Tryz.ntmps57
    go_wp2_with (first | (go_at_call 39; go_must (refine (more_as _ R s d (c :: t) true rfl (by exact HA.out)).mono ?_; rintro en _ ⟨rfl, n1, rfl⟩)) | (go_at_call 40; go_must (refine (peek_as _ R s d c t (by exact HA.out)).mono ?_; rintro en _ ⟨rfl, n2, rfl⟩)))
    refine bodyPost_ret (v := .tuple #[.int .i64 0, .int .i64 1, .bool true]) (by simp [results, Tryz.results57, go_sem]) rfl ⟨(HX.out _).2, rfl, (HX.out _).1⟩
  have n63 : ((c.toNat : Int) == 63) = false := beq_no8 63 rfl c63
  have n123 : ((c.toNat : Int) == 123) = false := beq_no8 123 rfl hno
  have HB := Lib.hid (show repD (c :: t) = none by unfold repD; simp only; rw [if_neg c42, if_neg c43, if_neg c63, if_neg hno])
  rw [HB.out]
  clear c42 c43 c63 hno
  go_enter Tryz.func57, Tryz.ntmps57
  go_wp2_with (first | (go_at_call 39; go_must (refine (more_as _ R s d (c :: t) true rfl (by exact HA.out)).mono ?_; rintro en _ ⟨rfl, n1, rfl⟩)) | (go_at_call 40; go_must (refine (peek_as _ R s d c t (by exact HA.out)).mono ?_; rintro en _ ⟨rfl, n2, rfl⟩)))
  refine bodyPost_ret (v := .tuple #[.int .i64 0, .int .i64 0, .bool false]) (by simp [results, Tryz.results57, go_sem]) rfl ⟨(Frm.refl _ w).drewN _, rfl, HA.out.drew _⟩

set_option maxHeartbeats 2000000 in
theorem repeat_bare (w : World) (R : Nat) (s : ByteArray) (d : Nat) (c : UInt8) (t : List UInt8) (h : AS w R s d (c :: t)) (hc : c = 123) (hdg : digHd t = false) :
    Calls Tryz.prog 57 #[.pointer (some ⟨R, 0, none⟩)] w (RepPost w R s d (c :: t) none) := by
  have HA := Lib.hid h
  obtain ⟨i, h, e⟩ := h
  have h0 := h.c0
  have h1 := h.c1
  have hz := h.2.2.1
  have hlt := sx_lt e
  have e2 := sx_tl e
  have hv : (c.toNat : Int) = 123 := by rw [hc]; rfl
  have hw := wrap_in ((i : Int) + 1) (by omega) (by omega)
  have hcase : (¬ i + 1 < s.size) ∨ (∃ hlt2 : i + 1 < s.size, s[i + 1].toNat < 48) ∨ (∃ hlt2 : i + 1 < s.size, 48 ≤ s[i + 1].toNat ∧ 57 < s[i + 1].toNat) := by
    by_cases h2 : i + 1 < s.size
    · rw [sx_cons s (i + 1) h2] at e2
      subst e2
      simp only [digHd] at hdg
      rw [Bool.and_eq_false_iff] at hdg
      simp only [decide_eq_false_iff_not] at hdg
      by_cases h3 : s[i + 1].toNat < 48
      · exact Or.inr (Or.inl ⟨h2, h3⟩)
      · exact Or.inr (Or.inr ⟨h2, by omega, by omega⟩)
    · exact Or.inl h2
  clear h e e2 hc hdg
  rcases hcase with h2 | ⟨h2, hy⟩ | ⟨h2, hy1, hy2⟩
  · have h3 : (s.size : Int) ≤ (i : Int) + 1 := by omega
    go_enter Tryz.func57, Tryz.ntmps57
    go_wp2_with (first | (go_at_call 39; go_must (refine (more_as _ R s d (c :: t) true rfl (by exact HA.out)).mono ?_; rintro en _ ⟨rfl, n1, rfl⟩)) | (go_at_call 40; go_must (refine (peek_as _ R s d c t (by exact HA.out)).mono ?_; rintro en _ ⟨rfl, n2, rfl⟩)))
    go_quiet (fail)
    go_wp2
    refine bodyPost_ret (v := .tuple #[.int .i64 0, .int .i64 0, .bool false]) (by simp [results, Tryz.results57, go_sem]) rfl ⟨((Frm.refl _ w).drewN _).drewN _, rfl, (HA.out.drew _).drew _⟩
  · have h3 : decide ((s.size : Int) ≤ (i : Int) + 1) = false := by rw [decide_eq_false_iff_not]; omega
    have h3n : decide (s.size ≤ i + 1) = false := by rw [decide_eq_false_iff_not]; omega
    have hp0 : (0 : Int) ≤ (i : Int) + 1 := by omega
    have hp1 : (i : Int) + 1 < (s.size : Int) := by omega
    have hy' : ((s[i + 1]'h2).toNat : Int) < 48 := by omega
    clear hy
    go_enter Tryz.func57, Tryz.ntmps57
    go_wp2_with (first | (go_at_call 39; go_must (refine (more_as _ R s d (c :: t) true rfl (by exact HA.out)).mono ?_; rintro en _ ⟨rfl, n1, rfl⟩)) | (go_at_call 40; go_must (refine (peek_as _ R s d c t (by exact HA.out)).mono ?_; rintro en _ ⟨rfl, n2, rfl⟩)))
    go_quiet (fail)
    go_wp2
    refine bodyPost_ret (v := .tuple #[.int .i64 0, .int .i64 0, .bool false]) (by simp [results, Tryz.results57, go_sem]) rfl ⟨((Frm.refl _ w).drewN _).drewN _, rfl, (HA.out.drew _).drew _⟩
  · have h3 : decide ((s.size : Int) ≤ (i : Int) + 1) = false := by rw [decide_eq_false_iff_not]; omega
    have h3n : decide (s.size ≤ i + 1) = false := by rw [decide_eq_false_iff_not]; omega
    have hp0 : (0 : Int) ≤ (i : Int) + 1 := by omega
    have hp1 : (i : Int) + 1 < (s.size : Int) := by omega
    have hy1' : decide (((s[i + 1]'h2).toNat : Int) < 48) = false := by rw [decide_eq_false_iff_not]; omega
    have hy2' : (57 : Int) < ((s[i + 1]'h2).toNat : Int) := by omega
    clear hy1 hy2
    go_enter Tryz.func57, Tryz.ntmps57
    go_wp2_with (first | (go_at_call 39; go_must (refine (more_as _ R s d (c :: t) true rfl (by exact HA.out)).mono ?_; rintro en _ ⟨rfl, n1, rfl⟩)) | (go_at_call 40; go_must (refine (peek_as _ R s d c t (by exact HA.out)).mono ?_; rintro en _ ⟨rfl, n2, rfl⟩)))
    go_quiet (fail)
    go_wp2
    refine bodyPost_ret (v := .tuple #[.int .i64 0, .int .i64 0, .bool false]) (by simp [results, Tryz.results57, go_sem]) rfl ⟨((Frm.refl _ w).drewN _).drewN _, rfl, (HA.out.drew _).drew _⟩

end Go.Proofs.YtbfekknhmjndaaaGreat.doc3

namespace Go.Proofs.YtbfekknhmjndaaaGreat.doc3
set_option linter.unusedVariables false set_option linter.unusedSimpArgs false
set_option maxRecDepth 20000
open Go.ChangeShapes Go.WideShapes Go.ChangeAt Go.RowKit Go.Proofs.YtbfekknhmjndaaaGreat.base Go.Proofs.YtbfekknhmjndaaaGreat.read Go.Proofs.YtbfekknhmjndaaaGreat.spec


theorem repEnd_bad {m : Nat} {n : Int} {l : List UInt8} (h : (¬ hd l 125 = true) ∨ 255 < m ∨ 255 < n ∨ (0 ≤ n ∧ n < m)) : repEnd m (n, l) = .bad 3 := by
  unfold repEnd
  rw [if_neg]
  rintro ⟨h1, h2, h3, h4⟩
  rcases h with h | h | h | h
  · exact h h1
  · omega
  · exact absurd h3 (by show ¬ n ≤ 255; omega)
  · exact h4 h
theorem repEnd_ok {m : Nat} {n : Int} {s : ByteArray} {j : Nat} (hj : j ≤ s.size) (h1 : j < s.size) (h2 : s[j] = 125) (h3 : m ≤ 255) (h4 : n ≤ 255) (h5 : n < 0 ∨ (m : Int) ≤ n) : repEnd m (n, sx s j) = .ok ((m : Int), n) (sx s (j + 1)) := by
  unfold repEnd
  rw [sx_cons s j h1]
  rw [if_pos ⟨by show (s[j] == 125) = true; rw [h2]; rfl, h3, h4, by show ¬ (0 ≤ n ∧ n < m); omega⟩]
  rfl
theorem hd_at {s : ByteArray} {j : Nat} (h : j < s.size) (c : UInt8) : hd (sx s j) c = (s[j] == c) := by rw [sx_cons s j h]; rfl

set_option maxRecDepth 20000 in
set_option maxHeartbeats 8000000 in
theorem repeat_many (w : World) (R : Nat) (s : ByteArray) (d : Nat) (c : UInt8) (t : List UInt8) (h : AS w R s d (c :: t)) (hc : c = 123) (hdg : digHd t = true) :
    Calls Tryz.prog 57 #[.pointer (some ⟨R, 0, none⟩)] w (RepPost w R s d (c :: t) (some (repB t))) := by
  have HA := Lib.hid h
  obtain ⟨i, h, e⟩ := h
  have h0 := h.c0
  have h1 := h.c1
  have hf := h.1.f 1
  have hz := h.2.2.1
  have hlt := sx_lt e
  have e2 := sx_tl e
  have hv : (c.toNat : Int) = 123 := by rw [hc]; rfl
  have h2 : i + 1 < s.size := by
    cases t with
    | nil => cases hdg
    | cons x t => exact sx_lt e2
  have hy : 48 ≤ (s[i + 1]'h2).toNat ∧ (s[i + 1]'h2).toNat ≤ 57 := by
    rw [sx_cons s (i + 1) h2] at e2
    subst e2
    simp only [digHd, Bool.and_eq_true, decide_eq_true_eq] at hdg
    exact hdg
  have hw := wrap_in ((i : Int) + 1) (by omega) (by omega)
  have h3 : decide ((s.size : Int) ≤ (i : Int) + 1) = false := by rw [decide_eq_false_iff_not]; omega
  have h3n : decide (s.size ≤ i + 1) = false := by rw [decide_eq_false_iff_not]; omega
  have hp0 : (0 : Int) ≤ (i : Int) + 1 := by omega
  have hp1 : (i : Int) + 1 < (s.size : Int) := by omega
  have hy1 : decide (((s[i + 1]'h2).toNat : Int) < 48) = false := by rw [decide_eq_false_iff_not]; omega
  have hy2 : decide ((57 : Int) < ((s[i + 1]'h2).toNat : Int)) = false := by rw [decide_eq_false_iff_not]; omega
  have HX := Lib.hid (show ∀ n, AS ((w.drewN n).setCell ⟨R, 1, none⟩ (.int .i64 ((i : Int) + 1))) R s d t ∧ Frm (At R) w ((w.drewN n).setCell ⟨R, 1, none⟩ (.int .i64 ((i : Int) + 1))) from fun n => ⟨⟨i + 1, (h.drew n).set (i + 1) (by omega) _ (by omega), e2⟩, ((Frm.refl (At R) w).drewN n).trans (frm_at _ R 1 _)⟩)
  obtain ⟨⟨mm, sm, l1⟩, hra⟩ : ∃ r, cntD 0 false t = r := ⟨_, rfl⟩
  have HRA := Lib.hid hra
  have HRES1 := Lib.hid (show repB t = repEnd mm (repHi mm l1) by unfold repB; rw [hra])
  clear h e e2 hc hdg hy hra
  go_enter Tryz.func57, Tryz.ntmps57
  go_upto_region 14 with (first | (go_at_call 39; go_must (refine (more_as _ R s d (c :: t) true rfl (by exact HA.out)).mono ?_; rintro en _ ⟨rfl, n1, rfl⟩)) | (go_at_call 40; go_must (refine (peek_as _ R s d c t (by exact HA.out)).mono ?_; rintro en _ ⟨rfl, n2, rfl⟩)))
  go_quiet (fail)
  go_upto_region 19 with (go_at_call 74; go_must (refine (number_all _ R s d t (mm, sm, l1) HRA.out (HX.out _).1).mono ?_; rintro en w1 ⟨rfl, ha1, hf1⟩))
  have HF1 := Lib.hid ((HX.out _).2.trans hf1)
  obtain ⟨j, ha1, rfl⟩ := ha1
  have HA1 := Lib.hid ha1
  have k0 := ha1.c0
  have k1 := ha1.c1
  have kf := ha1.1.f 1
  have hj := ha1.2.1
  clear ha1 hf1
  by_cases hcm : hd (sx s j) 44 = true
  · have f0 : j < s.size := by
      refine Nat.lt_of_not_le (fun h => ?_)
      rw [sx_nil s j h] at hcm
      cases hcm
    have f44 : (s[j].toNat : Int) = 44 := by
      rw [hd_at f0, beq_iff_eq] at hcm
      rw [hcm]; rfl
    obtain ⟨⟨kk, some, l2⟩, hrb⟩ : ∃ r, cntD 0 false (sx s (j + 1)) = r := ⟨_, rfl⟩
    have HRB := Lib.hid hrb
    have HRH := Lib.hid (show repHi mm (sx s j) = ((if some then (kk : Int) else -1), l2) by
      unfold repHi
      rw [if_pos hcm, sx_cons s j f0, List.tail_cons, hrb])
    have HX2 := Lib.hid (show ∀ n, AS ((w1.drewN n).setCell ⟨R, 1, none⟩ (.int .i64 ((j : Int) + 1))) R s d (sx s (j + 1)) ∧ Frm (At R) w ((w1.drewN n).setCell ⟨R, 1, none⟩ (.int .i64 ((j : Int) + 1))) from fun n => ⟨⟨j + 1, (HA1.out.drew n).set (j + 1) (by omega) _ (by omega), rfl⟩, (HF1.out.drewN n).trans (frm_at _ R 1 _)⟩)
    clear hcm hrb
    go_quiet (fail)
    go_upto_region 23 with (go_at_call 74; go_must (refine (number_all _ R s d (sx s (j + 1)) (kk, some, l2) HRB.out (HX2.out _).1).mono ?_; rintro en w2 ⟨rfl, ha2, hf2⟩))
    have HF2 := Lib.hid ((HX2.out _).2.trans hf2)
    obtain ⟨j2, ha2, rfl⟩ := ha2
    have HA2 := Lib.hid ha2
    have m0 := ha2.c0
    have m1 := ha2.c1
    have mf := ha2.1.f 1
    have hj2 := ha2.2.1
    clear ha2 hf2 k0 k1 kf
    cases some with
    | true =>
      have HRES := Lib.hid (show repB t = repEnd mm ((kk : Int), sx s j2) by rw [HRES1.out, HRH.out]; rfl)
      by_cases f1 : j2 < s.size
      · by_cases f2 : s[j2] = 125
        · by_cases f3 : mm ≤ 255
          · by_cases f4 : (kk : Int) ≤ 255
            · by_cases f5 : 0 ≤ (kk : Int)
              · by_cases f6 : (kk : Int) < (mm : Int)
                · have g1 : decide ((s.size : Int) ≤ (j2 : Int)) = false := by rw [decide_eq_false_iff_not]; omega
                  have g1n : decide (s.size ≤ j2) = false := by rw [decide_eq_false_iff_not]; omega
                  have g2 : (s[j2].toNat : Int) = 125 := by rw [f2]; rfl
                  have g3 : decide ((255 : Int) < (mm : Int)) = false := by rw [decide_eq_false_iff_not]; omega
                  have g4 : decide ((255 : Int) < (kk : Int)) = false := by rw [decide_eq_false_iff_not]; omega
                  have g6 : (kk : Int) < (mm : Int) := f6
                  go_wp2
                  go_quiet (fail)
                  go_wp2_with (go_at_call 30; go_must (refine (fail_as _ R s d _ 3 (by decide) _ rfl ⟨j2, (by exact HA2.out), rfl⟩).mono ?_; rintro en w9 ⟨rfl, haf, hf9⟩))
                  refine bodyPost_ret (v := .tuple #[.int .i64 0, .int .i64 0, .bool false]) (by simp [results, Tryz.results57, go_sem]) rfl ?_
                  rw [HRES.out, repEnd_bad (Or.inr (Or.inr (Or.inr ⟨f5, f6⟩)))]
                  exact ⟨(HF2.out.drewN _).trans hf9, rfl, haf⟩
                · have g1 : decide ((s.size : Int) ≤ (j2 : Int)) = false := by rw [decide_eq_false_iff_not]; omega
                  have g1n : decide (s.size ≤ j2) = false := by rw [decide_eq_false_iff_not]; omega
                  have g2 : (s[j2].toNat : Int) = 125 := by rw [f2]; rfl
                  have g3 : decide ((255 : Int) < (mm : Int)) = false := by rw [decide_eq_false_iff_not]; omega
                  have g4 : decide ((255 : Int) < (kk : Int)) = false := by rw [decide_eq_false_iff_not]; omega
                  have g6 : decide ((kk : Int) < (mm : Int)) = false := by rw [decide_eq_false_iff_not]; omega
                  have HOK := Lib.hid (show repEnd mm ((kk : Int), sx s j2) = .ok ((mm : Int), (kk : Int)) (sx s (j2 + 1)) from repEnd_ok (by omega) f1 f2 (by omega) (by omega) (by omega))
                  go_wp2
                  go_quiet (fail)
                  go_wp2
                  refine bodyPost_ret (v := .tuple #[.int .i64 (mm : Int), .int .i64 (kk : Int), .bool true]) (by simp [results, Tryz.results57, go_sem]) rfl ?_
                  rw [HRES.out, HOK.out]
                  exact ⟨(HF2.out.drewN _).trans (frm_at _ R 1 _), rfl, ⟨j2 + 1, (HA2.out.drew _).set (j2 + 1) (by omega) _ (by omega), rfl⟩⟩
              · omega
            · have g1 : decide ((s.size : Int) ≤ (j2 : Int)) = false := by rw [decide_eq_false_iff_not]; omega
              have g1n : decide (s.size ≤ j2) = false := by rw [decide_eq_false_iff_not]; omega
              have g2 : (s[j2].toNat : Int) = 125 := by rw [f2]; rfl
              have g3 : decide ((255 : Int) < (mm : Int)) = false := by rw [decide_eq_false_iff_not]; omega
              have g4 : (255 : Int) < (kk : Int) := by omega
              go_wp2
              go_quiet (fail)
              go_wp2_with (go_at_call 30; go_must (refine (fail_as _ R s d _ 3 (by decide) _ rfl ⟨j2, (by exact HA2.out), rfl⟩).mono ?_; rintro en w9 ⟨rfl, haf, hf9⟩))
              refine bodyPost_ret (v := .tuple #[.int .i64 0, .int .i64 0, .bool false]) (by simp [results, Tryz.results57, go_sem]) rfl ?_
              rw [HRES.out, repEnd_bad (Or.inr (Or.inr (Or.inl (by show (255 : Int) < (kk : Int); omega))))]
              exact ⟨(HF2.out.drewN _).trans hf9, rfl, haf⟩
          · have g1 : decide ((s.size : Int) ≤ (j2 : Int)) = false := by rw [decide_eq_false_iff_not]; omega
            have g1n : decide (s.size ≤ j2) = false := by rw [decide_eq_false_iff_not]; omega
            have g2 : (s[j2].toNat : Int) = 125 := by rw [f2]; rfl
            have g3 : (255 : Int) < (mm : Int) := by omega
            go_wp2
            go_quiet (fail)
            go_wp2_with (go_at_call 30; go_must (refine (fail_as _ R s d _ 3 (by decide) _ rfl ⟨j2, (by exact HA2.out), rfl⟩).mono ?_; rintro en w9 ⟨rfl, haf, hf9⟩))
            refine bodyPost_ret (v := .tuple #[.int .i64 0, .int .i64 0, .bool false]) (by simp [results, Tryz.results57, go_sem]) rfl ?_
            rw [HRES.out, repEnd_bad (Or.inr (Or.inl (by omega)))]
            exact ⟨(HF2.out.drewN _).trans hf9, rfl, haf⟩
        · have g1 : decide ((s.size : Int) ≤ (j2 : Int)) = false := by rw [decide_eq_false_iff_not]; omega
          have g1n : decide (s.size ≤ j2) = false := by rw [decide_eq_false_iff_not]; omega
          have g2 : ((s[j2].toNat : Int) == 125) = false := beq_no8 125 rfl f2
          have g2p : ((s[j2].toNat : Int) != 125) = true := by simp [bne, g2]
          go_wp2
          go_quiet (fail)
          go_wp2_with (go_at_call 30; go_must (refine (fail_as _ R s d _ 3 (by decide) _ rfl ⟨j2, (by exact HA2.out), rfl⟩).mono ?_; rintro en w9 ⟨rfl, haf, hf9⟩))
          refine bodyPost_ret (v := .tuple #[.int .i64 0, .int .i64 0, .bool false]) (by simp [results, Tryz.results57, go_sem]) rfl ?_
          rw [HRES.out, repEnd_bad (Or.inl (fun h => by rw [sx_cons s j2 f1] at h; exact f2 (beq_iff_eq.1 h)))]
          exact ⟨(HF2.out.drewN _).trans hf9, rfl, haf⟩
      · have g1 : s.size ≤ j2 := by omega
        go_wp2
        go_quiet (fail)
        go_wp2_with (go_at_call 30; go_must (refine (fail_as _ R s d _ 3 (by decide) _ rfl ⟨j2, (by exact HA2.out), rfl⟩).mono ?_; rintro en w9 ⟨rfl, haf, hf9⟩))
        refine bodyPost_ret (v := .tuple #[.int .i64 0, .int .i64 0, .bool false]) (by simp [results, Tryz.results57, go_sem]) rfl ?_
        rw [HRES.out, repEnd_bad (Or.inl (fun h => by rw [sx_nil s j2 (by omega)] at h; cases h))]
        exact ⟨(HF2.out.drewN _).trans hf9, rfl, haf⟩
    | false =>
      have HRES := Lib.hid (show repB t = repEnd mm (-1, sx s j2) by rw [HRES1.out, HRH.out]; rfl)
      by_cases f1 : j2 < s.size
      · by_cases f2 : s[j2] = 125
        · by_cases f3 : mm ≤ 255
          · have g1 : decide ((s.size : Int) ≤ (j2 : Int)) = false := by rw [decide_eq_false_iff_not]; omega
            have g1n : decide (s.size ≤ j2) = false := by rw [decide_eq_false_iff_not]; omega
            have g2 : (s[j2].toNat : Int) = 125 := by rw [f2]; rfl
            have g3 : decide ((255 : Int) < (mm : Int)) = false := by rw [decide_eq_false_iff_not]; omega
            have HOK := Lib.hid (show repEnd mm (-1, sx s j2) = .ok ((mm : Int), -1) (sx s (j2 + 1)) from repEnd_ok (by omega) f1 f2 (by omega) (by omega) (by omega))
            go_wp2
            go_quiet (fail)
            go_wp2
            refine bodyPost_ret (v := .tuple #[.int .i64 (mm : Int), .int .i64 (-1), .bool true]) (by simp [results, Tryz.results57, go_sem]) rfl ?_
            rw [HRES.out, HOK.out]
            exact ⟨(HF2.out.drewN _).trans (frm_at _ R 1 _), rfl, ⟨j2 + 1, (HA2.out.drew _).set (j2 + 1) (by omega) _ (by omega), rfl⟩⟩
          · have g1 : decide ((s.size : Int) ≤ (j2 : Int)) = false := by rw [decide_eq_false_iff_not]; omega
            have g1n : decide (s.size ≤ j2) = false := by rw [decide_eq_false_iff_not]; omega
            have g2 : (s[j2].toNat : Int) = 125 := by rw [f2]; rfl
            have g3 : (255 : Int) < (mm : Int) := by omega
            go_wp2
            go_quiet (fail)
            go_wp2_with (go_at_call 30; go_must (refine (fail_as _ R s d _ 3 (by decide) _ rfl ⟨j2, (by exact HA2.out), rfl⟩).mono ?_; rintro en w9 ⟨rfl, haf, hf9⟩))
            refine bodyPost_ret (v := .tuple #[.int .i64 0, .int .i64 0, .bool false]) (by simp [results, Tryz.results57, go_sem]) rfl ?_
            rw [HRES.out, repEnd_bad (Or.inr (Or.inl (by omega)))]
            exact ⟨(HF2.out.drewN _).trans hf9, rfl, haf⟩
        · have g1 : decide ((s.size : Int) ≤ (j2 : Int)) = false := by rw [decide_eq_false_iff_not]; omega
          have g1n : decide (s.size ≤ j2) = false := by rw [decide_eq_false_iff_not]; omega
          have g2 : ((s[j2].toNat : Int) == 125) = false := beq_no8 125 rfl f2
          have g2p : ((s[j2].toNat : Int) != 125) = true := by simp [bne, g2]
          go_wp2
          go_quiet (fail)
          go_wp2_with (go_at_call 30; go_must (refine (fail_as _ R s d _ 3 (by decide) _ rfl ⟨j2, (by exact HA2.out), rfl⟩).mono ?_; rintro en w9 ⟨rfl, haf, hf9⟩))
          refine bodyPost_ret (v := .tuple #[.int .i64 0, .int .i64 0, .bool false]) (by simp [results, Tryz.results57, go_sem]) rfl ?_
          rw [HRES.out, repEnd_bad (Or.inl (fun h => by rw [sx_cons s j2 f1] at h; exact f2 (beq_iff_eq.1 h)))]
          exact ⟨(HF2.out.drewN _).trans hf9, rfl, haf⟩
      · have g1 : s.size ≤ j2 := by omega
        go_wp2
        go_quiet (fail)
        go_wp2_with (go_at_call 30; go_must (refine (fail_as _ R s d _ 3 (by decide) _ rfl ⟨j2, (by exact HA2.out), rfl⟩).mono ?_; rintro en w9 ⟨rfl, haf, hf9⟩))
        refine bodyPost_ret (v := .tuple #[.int .i64 0, .int .i64 0, .bool false]) (by simp [results, Tryz.results57, go_sem]) rfl ?_
        rw [HRES.out, repEnd_bad (Or.inl (fun h => by rw [sx_nil s j2 (by omega)] at h; cases h))]
        exact ⟨(HF2.out.drewN _).trans hf9, rfl, haf⟩
  · have HRH := Lib.hid (show repHi mm (sx s j) = ((mm : Int), sx s j) by unfold repHi; rw [if_neg hcm])
    have HRES := Lib.hid (show repB t = repEnd mm ((mm : Int), sx s j) by rw [HRES1.out, HRH.out])
    by_cases f0 : j < s.size
    · have f44 : ((s[j].toNat : Int) == 44) = false := beq_no8 44 rfl (fun h => hcm (by rw [hd_at f0, h]; rfl))
      clear hcm
      go_quiet (fail)
      go_upto_region 25 with fail
      by_cases f1 : j < s.size
      · by_cases f2 : s[j] = 125
        · by_cases f3 : mm ≤ 255
          · by_cases f4 : (mm : Int) ≤ 255
            · by_cases f5 : 0 ≤ (mm : Int)
              · by_cases f6 : (mm : Int) < (mm : Int)
                · omega
                · have g1 : decide ((s.size : Int) ≤ (j : Int)) = false := by rw [decide_eq_false_iff_not]; omega
                  have g1n : decide (s.size ≤ j) = false := by rw [decide_eq_false_iff_not]; omega
                  have g2 : (s[j].toNat : Int) = 125 := by rw [f2]; rfl
                  have g3 : decide ((255 : Int) < (mm : Int)) = false := by rw [decide_eq_false_iff_not]; omega
                  have g4 : decide ((255 : Int) < (mm : Int)) = false := by rw [decide_eq_false_iff_not]; omega
                  have g6 : decide ((mm : Int) < (mm : Int)) = false := by rw [decide_eq_false_iff_not]; omega
                  have HOK := Lib.hid (show repEnd mm ((mm : Int), sx s j) = .ok ((mm : Int), (mm : Int)) (sx s (j + 1)) from repEnd_ok (by omega) f1 f2 (by omega) (by omega) (by omega))
                  go_wp2
                  go_quiet (fail)
                  go_wp2
                  refine bodyPost_ret (v := .tuple #[.int .i64 (mm : Int), .int .i64 (mm : Int), .bool true]) (by simp [results, Tryz.results57, go_sem]) rfl ?_
                  rw [HRES.out, HOK.out]
                  exact ⟨(HF1.out.drewN _).trans (frm_at _ R 1 _), rfl, ⟨j + 1, (HA1.out.drew _).set (j + 1) (by omega) _ (by omega), rfl⟩⟩
              · omega
            · omega
          · have g1 : decide ((s.size : Int) ≤ (j : Int)) = false := by rw [decide_eq_false_iff_not]; omega
            have g1n : decide (s.size ≤ j) = false := by rw [decide_eq_false_iff_not]; omega
            have g2 : (s[j].toNat : Int) = 125 := by rw [f2]; rfl
            have g3 : (255 : Int) < (mm : Int) := by omega
            go_wp2
            go_quiet (fail)
            go_wp2_with (go_at_call 30; go_must (refine (fail_as _ R s d _ 3 (by decide) _ rfl ⟨j, (by exact HA1.out), rfl⟩).mono ?_; rintro en w9 ⟨rfl, haf, hf9⟩))
            refine bodyPost_ret (v := .tuple #[.int .i64 0, .int .i64 0, .bool false]) (by simp [results, Tryz.results57, go_sem]) rfl ?_
            rw [HRES.out, repEnd_bad (Or.inr (Or.inl (by omega)))]
            exact ⟨(HF1.out.drewN _).trans hf9, rfl, haf⟩
        · have g1 : decide ((s.size : Int) ≤ (j : Int)) = false := by rw [decide_eq_false_iff_not]; omega
          have g1n : decide (s.size ≤ j) = false := by rw [decide_eq_false_iff_not]; omega
          have g2 : ((s[j].toNat : Int) == 125) = false := beq_no8 125 rfl f2
          have g2p : ((s[j].toNat : Int) != 125) = true := by simp [bne, g2]
          go_wp2
          go_quiet (fail)
          go_wp2_with (go_at_call 30; go_must (refine (fail_as _ R s d _ 3 (by decide) _ rfl ⟨j, (by exact HA1.out), rfl⟩).mono ?_; rintro en w9 ⟨rfl, haf, hf9⟩))
          refine bodyPost_ret (v := .tuple #[.int .i64 0, .int .i64 0, .bool false]) (by simp [results, Tryz.results57, go_sem]) rfl ?_
          rw [HRES.out, repEnd_bad (Or.inl (fun h => by rw [sx_cons s j f1] at h; exact f2 (beq_iff_eq.1 h)))]
          exact ⟨(HF1.out.drewN _).trans hf9, rfl, haf⟩
      · exact absurd f0 f1
    · have f0' : ¬ j < s.size := f0
      clear hcm
      go_quiet (fail)
      go_upto_region 25 with fail
      have g1 : s.size ≤ j := by omega
      go_wp2
      go_quiet (fail)
      go_wp2_with (go_at_call 30; go_must (refine (fail_as _ R s d _ 3 (by decide) _ rfl ⟨j, (by exact HA1.out), rfl⟩).mono ?_; rintro en w9 ⟨rfl, haf, hf9⟩))
      refine bodyPost_ret (v := .tuple #[.int .i64 0, .int .i64 0, .bool false]) (by simp [results, Tryz.results57, go_sem]) rfl ?_
      rw [HRES.out, repEnd_bad (Or.inl (fun h => by rw [sx_nil s j (by omega)] at h; cases h))]
      exact ⟨(HF1.out.drewN _).trans hf9, rfl, haf⟩
      

/-- A call of repeat. -/
theorem repeat_all (w : World) (R : Nat) (s : ByteArray) (d : Nat) (l : List UInt8) (h : AS w R s d l) :
    Calls Tryz.prog 57 #[.pointer (some ⟨R, 0, none⟩)] w (RepPost w R s d l (repD l)) := by
  cases l with
  | nil => exact repeat_nil w R s d h
  | cons c t =>
    by_cases hc : c = 123
    · have he : repD (c :: t) = if digHd t then some (repB t) else none := by
        subst hc; rfl
      rw [he]
      cases hd : digHd t with
      | true => exact repeat_many w R s d c t h hc hd
      | false => exact repeat_bare w R s d c t h hc hd
    · exact repeat_plain w R s d c t h hc
end Go.Proofs.YtbfekknhmjndaaaGreat.doc3
