/- The document's reader of expressions (tedderref03): its state, and more, peek, fail, escape. The document's reader of expressions: escape behind digits of base 8, number. -/
import Derived.Test.YtbfekknhmjndaaaGreatParse
import Derived.Deep.LoopGhost

namespace Go.Proofs.YtbfekknhmjndaaaGreat.doc3
set_option linter.unusedVariables false set_option linter.unusedSimpArgs false
open Go.ChangeShapes Go.WideShapes Go.ChangeAt Go.RowKit Go.Proofs.YtbfekknhmjndaaaGreat.base Go.Proofs.YtbfekknhmjndaaaGreat.read Go.Proofs.YtbfekknhmjndaaaGreat.spec

/-- The reader at the place i, where nothing is wrong yet. -/
def ASI (w : World) (R : Nat) (s : ByteArray) (d i : Nat) : Prop := Box w R 62 #[.string s, .int .i64 i, .int .i64 0, .int .i64 d] ∧ i ≤ s.size ∧ s.size ≤ 1000 ∧ d ≤ 100
/-- The reader, by what is left. -/
def AS (w : World) (R : Nat) (s : ByteArray) (d : Nat) (l : List UInt8) : Prop := ∃ i, ASI w R s d i ∧ sx s i = l
/-- The reader behind the fault e. -/
def AF (w : World) (R e : Nat) : Prop := e ≠ 0 ∧ ∃ (s : ByteArray) (i d : Int), Box w R 62 #[.string s, .int .i64 i, .int .i64 (e : Nat), .int .i64 d]
theorem ASI.set {w : World} {R : Nat} {s : ByteArray} {d i : Nat} (h : ASI w R s d i) (j : Nat) (hj : j ≤ s.size) (n : Int) (hn : n = (j : Int)) : ASI (w.setCell ⟨R, 1, none⟩ (.int .i64 n)) R s d j := by
  subst hn
  exact ⟨h.1.set 1 _, hj, h.2.2⟩
theorem ASI.deep {w : World} {R : Nat} {s : ByteArray} {d i : Nat} (h : ASI w R s d i) (j : Nat) (hj : j ≤ 100) (n : Int) (hn : n = (j : Int)) : ASI (w.setCell ⟨R, 3, none⟩ (.int .i64 n)) R s j i := by
  subst hn
  exact ⟨h.1.set 3 _, h.2.1, h.2.2.1, hj⟩
theorem ASI.fail {w : World} {R : Nat} {s : ByteArray} {d i : Nat} (h : ASI w R s d i) (e : Nat) (he : e ≠ 0) (n : Int) (hn : n = (e : Int)) : AF (w.setCell ⟨R, 2, none⟩ (.int .i64 n)) R e := by
  subst hn
  exact ⟨he, s, i, d, h.1.set 2 _⟩
theorem ASI.c0 {w : World} {R : Nat} {s : ByteArray} {d i : Nat} (h : ASI w R s d i) : w.cell? ⟨R, 0, none⟩ = some (.string s) := h.1.cell 0
theorem ASI.c1 {w : World} {R : Nat} {s : ByteArray} {d i : Nat} (h : ASI w R s d i) : w.cell? ⟨R, 1, none⟩ = some (.int .i64 i) := h.1.cell 1
theorem ASI.c2 {w : World} {R : Nat} {s : ByteArray} {d i : Nat} (h : ASI w R s d i) : w.cell? ⟨R, 2, none⟩ = some (.int .i64 0) := h.1.cell 2
theorem ASI.c3 {w : World} {R : Nat} {s : ByteArray} {d i : Nat} (h : ASI w R s d i) : w.cell? ⟨R, 3, none⟩ = some (.int .i64 d) := h.1.cell 3
theorem AS.frm {S : Nat → Prop} {w w' : World} {R : Nat} {s : ByteArray} {d : Nat} {l : List UInt8} (h : AS w R s d l) (k : Frm S w w') (hs : ¬ S R) : AS w' R s d l := by
  obtain ⟨i, ⟨h1, h2⟩, e⟩ := h
  exact ⟨i, ⟨h1.frm k hs, h2⟩, e⟩
theorem AF.frm {S : Nat → Prop} {w w' : World} {R e : Nat} (h : AF w R e) (k : Frm S w w') (hs : ¬ S R) : AF w' R e := by
  obtain ⟨h0, s, i, d, h1⟩ := h
  exact ⟨h0, s, i, d, h1.frm k hs⟩
theorem AS.move {w w' : World} {R : Nat} {s : ByteArray} {d : Nat} {l : List UInt8} (h : AS w R s d l) (k : Frm No w w') : AS w' R s d l := h.frm k id
theorem AF.move {w w' : World} {R e : Nat} (h : AF w R e) (k : Frm No w w') : AF w' R e := h.frm k id
theorem AS.len {w : World} {R : Nat} {s : ByteArray} {d : Nat} {l : List UInt8} (h : AS w R s d l) : l.length ≤ 1000 := by
  obtain ⟨i, h, e⟩ := h
  rw [← e, sx_len]
  have := h.2.2.1
  omega
theorem AS.deep {w : World} {R : Nat} {s : ByteArray} {d : Nat} {l : List UInt8} (h : AS w R s d l) : d ≤ 100 := by
  obtain ⟨i, h, e⟩ := h
  exact h.2.2.2
theorem ASI.drew {w : World} {R : Nat} {s : ByteArray} {d i : Nat} (h : ASI w R s d i) (n : Nat) : ASI (w.drewN n) R s d i := h
theorem AS.drew {w : World} {R : Nat} {s : ByteArray} {d : Nat} {l : List UInt8} (h : AS w R s d l) (n : Nat) : AS (w.drewN n) R s d l := h
theorem AF.drew {w : World} {R e : Nat} (h : AF w R e) (n : Nat) : AF (w.drewN n) R e := h
theorem frm_at (w : World) (R o : Nat) (v : Value) : Frm (At R) w (w.setCell ⟨R, o, none⟩ v) := Frm.setCell (Frm.refl (At R) w) ⟨R, o, none⟩ v (fun _ => rfl)

theorem more_as (w : World) (R : Nat) (s : ByteArray) (d : Nat) (l : List UInt8) (b : Bool) (hb : (!l.isEmpty) = b) (h : AS w R s d l) :
    Calls Tryz.prog 39 #[.pointer (some ⟨R, 0, none⟩)] w fun e w' => e = .returned (.bool b) ∧ ∃ n, w' = w.drewN n := by
  subst hb
  obtain ⟨i, h, e⟩ := h
  have h0 := h.c0
  have h1 := h.c1
  have h2 := h.c2
  have hz := h.2.2.1
  cases l with
  | nil =>
    have hlt : ¬ i < s.size := by
      have := congrArg List.length e
      rw [sx_len] at this
      simp at this
      omega
    clear h e
    go_enter Tryz.func39, Tryz.ntmps39
    go_wp2
    go_quiet (fail)
    go_wp2
    go_ret
    exact ⟨rfl, _, rfl⟩
  | cons c t =>
    have hlt : i < s.size := sx_lt e
    clear h e
    go_enter Tryz.func39, Tryz.ntmps39
    go_wp2
    go_quiet (fail)
    go_wp2
    go_ret
    exact ⟨rfl, _, rfl⟩
theorem more_af (w : World) (R e : Nat) (h : AF w R e) :
    Calls Tryz.prog 39 #[.pointer (some ⟨R, 0, none⟩)] w fun en w' => en = .returned (.bool false) ∧ ∃ n, w' = w.drewN n := by
  obtain ⟨h0, s, i, d, h⟩ := h
  have h2 : w.cell? ⟨R, 2, none⟩ = some (.int .i64 (e : Nat)) := h.cell 2
  have hne : ((e : Nat) : Int) ≠ 0 := by omega
  have hneb : (((e : Nat) : Int) == 0) = false := by simp; omega
  clear h h0
  go_enter Tryz.func39, Tryz.ntmps39
  go_wp2
  go_quiet (fail)
  go_wp2
  go_ret
  exact ⟨rfl, _, rfl⟩
theorem peek_as (w : World) (R : Nat) (s : ByteArray) (d : Nat) (c : UInt8) (t : List UInt8) (h : AS w R s d (c :: t)) :
    Calls Tryz.prog 40 #[.pointer (some ⟨R, 0, none⟩)] w fun e w' => e = .returned (.int .u8 (c.toNat : Int)) ∧ ∃ n, w' = w.drewN n := by
  obtain ⟨i, h, e⟩ := h
  have h0 := h.c0
  have h1 := h.c1
  have hz := h.2.2.1
  have hlt := sx_lt e
  have HX := Lib.hid (congrArg (fun c : UInt8 => (c.toNat : Int)) (sx_hd e))
  clear h
  go_enter Tryz.func40, Tryz.ntmps40
  go_wp2
  go_quiet (fail)
  go_wp2
  go_ret
  exact ⟨ret_int (by exact HX.out), _, rfl⟩
theorem fail_as (w : World) (R : Nat) (s : ByteArray) (d : Nat) (l : List UInt8) (e : Nat) (he : e ≠ 0) (n : Int) (hn : n = (e : Int)) (h : AS w R s d l) :
    Calls Tryz.prog 30 #[.pointer (some ⟨R, 0, none⟩), .int .i64 n] w fun en w' => en = .returned (.tuple #[]) ∧ AF w' R e ∧ Frm (At R) w w' := by
  subst hn
  obtain ⟨i, h, _⟩ := h
  have h2 := h.c2
  have hf := h.1.f 2
  have H := Lib.hid h
  clear h
  go_enter Tryz.func30, Tryz.ntmps30
  go_wp2
  refine bodyPost_end (v := .tuple #[]) (by simp [results, Tryz.results30, go_sem]) rfl ⟨rfl, H.out.fail e he _ rfl, frm_at _ _ _ _⟩

/-- What is behind a backslash: the answer and the state. -/
def EscPost (w : World) (R : Nat) (s : ByteArray) (d : Nat) (r : Res UInt8) (en : Ending) (w' : World) : Prop := Frm (At R) w w' ∧ match r with
  | .ok b l' => en = .returned (.int .u8 (b.toNat : Int)) ∧ AS w' R s d l'
  | .bad e => en = .returned (.int .u8 0) ∧ AF w' R e
theorem esc_nil (w : World) (R : Nat) (s : ByteArray) (d : Nat) (h : AS w R s d [92]) :
    Calls Tryz.prog 77 #[.pointer (some ⟨R, 0, none⟩)] w (EscPost w R s d (esc [])) := by
  obtain ⟨i, h, e⟩ := h
  have h1 := h.c1
  have hf := h.1.f 1
  have hz := h.2.2.1
  have hlt := sx_lt e
  have HA := Lib.hid (show AS (w.setCell ⟨R, 1, none⟩ (.int .i64 ((i : Int) + 1))) R s d [] from ⟨i + 1, h.set (i + 1) (by omega) _ (by omega), sx_tl e⟩)
  clear h e
  go_enter Tryz.func77, Tryz.ntmps77
  go_wp2_with (first | (go_at_call 39; go_must (refine (more_as _ R s d [] false rfl (by exact HA.out)).mono ?_; rintro e _ ⟨rfl, n1, rfl⟩)) | (go_at_call 30; go_must (refine (fail_as _ R s d [] 4 (by decide) _ rfl (by exact HA.out)).mono ?_; rintro e w2 ⟨rfl, haf, hf2⟩)))
  go_ret
  exact ⟨((frm_at w R 1 _).drewN n1).trans hf2, rfl, haf⟩

theorem beq_no8 {a : UInt8} {n : Nat} (k : UInt8) (hk : k.toNat = n) (h : a ≠ k) : ((a.toNat : Int) == (n : Int)) = false := by
  rw [beq_eq_false_iff_ne]; intro e; exact h (UInt8.toNat_inj.1 (by omega))
theorem dgt8 (x : UInt8) : (decide ((x - 48).toNat < 8)) = (decide (48 ≤ x.toNat) && decide (x.toNat ≤ 55)) := by
  have h : ∀ n : Fin 256, (decide ((UInt8.ofNat n.val - 48).toNat < 8)) = (decide (48 ≤ n.val) && decide (n.val ≤ 55)) := by decide +kernel
  have := h ⟨x.toNat, x.toNat_lt⟩
  simpa using this
theorem sub48 (x : UInt8) (h : 48 ≤ x.toNat) : (x - 48).toNat = x.toNat - 48 := by
  have h2 : ∀ n : Fin 256, 48 ≤ n.val → (UInt8.ofNat n.val - 48).toNat = n.val - 48 := by decide +kernel
  have := h2 ⟨x.toNat, x.toNat_lt⟩ h
  simpa using this
theorem dgt8_no {l : List UInt8} (h : l = [] ∨ (∃ x t, l = x :: t ∧ (x.toNat < 48 ∨ 55 < x.toNat))) : dgt 8 l = none := by
  rcases h with rfl | ⟨x, t, rfl, h⟩
  · rfl
  · show (if (x - 48).toNat < 8 then _ else _) = _
    rw [if_neg]
    intro hh
    have := decide_eq_true hh
    rw [dgt8] at this
    simp at this
    omega
theorem dgt8_yes {x : UInt8} {t : List UInt8} (h1 : 48 ≤ x.toNat) (h2 : x.toNat ≤ 55) : dgt 8 (x :: t) = some (x.toNat - 48, t) := by
  show (if (x - 48).toNat < 8 then _ else _) = _
  have h3 : (x - 48).toNat < 8 := of_decide_eq_true (by rw [dgt8]; simp; omega)
  rw [if_pos h3, sub48 x h1]

theorem octF_sm (k : Nat) : ∀ (n : Nat) (l : List UInt8), (octF k n true l).2.1 = true := by
  induction k with
  | zero => intro n l; rfl
  | succ k ih =>
    intro n l
    rw [octF]
    cases dgt 8 l with
    | none => rfl
    | some x => exact ih _ _
theorem octF_yes (k n : Nat) (sm : Bool) (x : UInt8) (t : List UInt8) (h1 : 48 ≤ x.toNat) (h2 : x.toNat ≤ 55) : octF (k + 1) n sm (x :: t) = octF k (n * 8 + (x.toNat - 48)) true t := by
  rw [octF, dgt8_yes h1 h2]
theorem octF_no (k n : Nat) (sm : Bool) (l : List UInt8) (h : dgt 8 l = none) : octF k n sm l = (n, sm, l) := by
  cases k with
  | zero => rfl
  | succ k => rw [octF, h]
theorem esc_no {x : UInt8} {t : List UInt8} (h : x.toNat < 48 ∨ 55 < x.toNat) : esc (x :: t) = .ok (escByte x) t := by
  unfold esc
  simp only
  rw [octF_no 3 0 false (x :: t) (dgt8_no (Or.inr ⟨x, t, rfl, h⟩))]
  rfl
theorem esc_yes {x : UInt8} {t : List UInt8} (h1 : 48 ≤ x.toNat) (h2 : x.toNat ≤ 55) : esc (x :: t) = .ok (UInt8.ofNat (octF 3 0 true (x :: t)).1) (octF 3 0 true (x :: t)).2.2 := by
  unfold esc
  simp only
  rw [octF_yes 2 0 false x t h1 h2, octF_yes 2 0 true x t h1 h2, octF_sm]
  rfl

set_option maxHeartbeats 2000000 in
theorem esc_plain (w : World) (R : Nat) (s : ByteArray) (d : Nat) (x : UInt8) (t : List UInt8) (hx : x.toNat < 48 ∨ 55 < x.toNat) (h : AS w R s d (92 :: x :: t)) :
    Calls Tryz.prog 77 #[.pointer (some ⟨R, 0, none⟩)] w (EscPost w R s d (.ok (escByte x) t)) := by
  obtain ⟨i, h, e⟩ := h
  have h1 := h.c1
  have hf := h.1.f 1
  have hz := h.2.2.1
  have hlt := sx_lt e
  have e2 := sx_tl e
  have hlt2 := sx_lt e2
  have HI := Lib.hid h
  have HA := Lib.hid (show AS (w.setCell ⟨R, 1, none⟩ (.int .i64 ((i : Int) + 1))) R s d (x :: t) from ⟨i + 1, h.set (i + 1) (by omega) _ (by omega), e2⟩)
  have HE := Lib.hid (sx_tl e2)
  have k1 : (w.setCell ⟨R, 1, none⟩ (.int .i64 ((i : Int) + 1))).cell? ⟨R, 1, none⟩ = some (.int .i64 ((i : Int) + 1)) := (h.1.set 1 (.int .i64 ((i : Int) + 1))).cell 1
  have kf := (h.1.set 1 (.int .i64 ((i : Int) + 1))).f 1
  have hx0 : (0 : Int) ≤ (x.toNat : Int) := by omega
  have A2 : ASI (w.setCell ⟨R, 1, none⟩ (.int .i64 ((i : Int) + 1))) R s d (i + 1) := h.set (i + 1) (by omega) _ (by omega)
  have hFIN := Lib.hid (show ∀ n, AS ((World.drewN (w.setCell ⟨R, 1, none⟩ (.int .i64 ((i : Int) + 1))) n).setCell ⟨R, 1, none⟩ (.int .i64 ((i : Int) + 1 + 1))) R s d t ∧ Frm (At R) w ((World.drewN (w.setCell ⟨R, 1, none⟩ (.int .i64 ((i : Int) + 1))) n).setCell ⟨R, 1, none⟩ (.int .i64 ((i : Int) + 1 + 1))) from fun n => ⟨⟨i + 2, (A2.drew n).set (i + 2) (by omega) _ (by omega), HE.out⟩, ((frm_at w R 1 _).drewN n).trans (frm_at _ R 1 _)⟩)
  have hxx : ((x.toNat : Int) < 48) ∨ (48 ≤ (x.toNat : Int) ∧ 55 < (x.toNat : Int)) := by omega
  clear h e e2 hx A2
  by_cases c97 : x = 97
  · have hv : (x.toNat : Int) = 97 := by rw [c97]; rfl
    have HB := Lib.hid (show escByte x = 7 by rw [c97]; rfl)
    rw [HB.out]
    have hs : 55 < (x.toNat : Int) := by omega
    clear hxx c97
    go_enter Tryz.func77, Tryz.ntmps77
    go_wp2_with (first | (go_at_call 39; go_must (refine (more_as _ R s d (x :: t) true rfl (by exact HA.out)).mono ?_; rintro e _ ⟨rfl, n1, rfl⟩)) | (go_at_call 40; go_must (refine (peek_as _ R s d x t (by exact HA.out)).mono ?_; rintro e _ ⟨rfl, n2, rfl⟩)))
    go_ret
    exact ⟨(hFIN.out _).2, rfl, (hFIN.out _).1⟩
  have n97 : ((x.toNat : Int) == 97) = false := beq_no8 97 rfl c97
  by_cases c98 : x = 98
  · have hv : (x.toNat : Int) = 98 := by rw [c98]; rfl
    have HB := Lib.hid (show escByte x = 8 by rw [c98]; rfl)
    rw [HB.out]
    have hs : 55 < (x.toNat : Int) := by omega
    clear hxx c98
    go_enter Tryz.func77, Tryz.ntmps77
    go_wp2_with (first | (go_at_call 39; go_must (refine (more_as _ R s d (x :: t) true rfl (by exact HA.out)).mono ?_; rintro e _ ⟨rfl, n1, rfl⟩)) | (go_at_call 40; go_must (refine (peek_as _ R s d x t (by exact HA.out)).mono ?_; rintro e _ ⟨rfl, n2, rfl⟩)))
    go_ret
    exact ⟨(hFIN.out _).2, rfl, (hFIN.out _).1⟩
  have n98 : ((x.toNat : Int) == 98) = false := beq_no8 98 rfl c98
  by_cases c102 : x = 102
  · have hv : (x.toNat : Int) = 102 := by rw [c102]; rfl
    have HB := Lib.hid (show escByte x = 12 by rw [c102]; rfl)
    rw [HB.out]
    have hs : 55 < (x.toNat : Int) := by omega
    clear hxx c102
    go_enter Tryz.func77, Tryz.ntmps77
    go_wp2_with (first | (go_at_call 39; go_must (refine (more_as _ R s d (x :: t) true rfl (by exact HA.out)).mono ?_; rintro e _ ⟨rfl, n1, rfl⟩)) | (go_at_call 40; go_must (refine (peek_as _ R s d x t (by exact HA.out)).mono ?_; rintro e _ ⟨rfl, n2, rfl⟩)))
    go_ret
    exact ⟨(hFIN.out _).2, rfl, (hFIN.out _).1⟩
  have n102 : ((x.toNat : Int) == 102) = false := beq_no8 102 rfl c102
  by_cases c110 : x = 110
  · have hv : (x.toNat : Int) = 110 := by rw [c110]; rfl
    have HB := Lib.hid (show escByte x = 10 by rw [c110]; rfl)
    rw [HB.out]
    have hs : 55 < (x.toNat : Int) := by omega
    clear hxx c110
    go_enter Tryz.func77, Tryz.ntmps77
    go_wp2_with (first | (go_at_call 39; go_must (refine (more_as _ R s d (x :: t) true rfl (by exact HA.out)).mono ?_; rintro e _ ⟨rfl, n1, rfl⟩)) | (go_at_call 40; go_must (refine (peek_as _ R s d x t (by exact HA.out)).mono ?_; rintro e _ ⟨rfl, n2, rfl⟩)))
    go_ret
    exact ⟨(hFIN.out _).2, rfl, (hFIN.out _).1⟩
  have n110 : ((x.toNat : Int) == 110) = false := beq_no8 110 rfl c110
  by_cases c114 : x = 114
  · have hv : (x.toNat : Int) = 114 := by rw [c114]; rfl
    have HB := Lib.hid (show escByte x = 13 by rw [c114]; rfl)
    rw [HB.out]
    have hs : 55 < (x.toNat : Int) := by omega
    clear hxx c114
    go_enter Tryz.func77, Tryz.ntmps77
    go_wp2_with (first | (go_at_call 39; go_must (refine (more_as _ R s d (x :: t) true rfl (by exact HA.out)).mono ?_; rintro e _ ⟨rfl, n1, rfl⟩)) | (go_at_call 40; go_must (refine (peek_as _ R s d x t (by exact HA.out)).mono ?_; rintro e _ ⟨rfl, n2, rfl⟩)))
    go_ret
    exact ⟨(hFIN.out _).2, rfl, (hFIN.out _).1⟩
  have n114 : ((x.toNat : Int) == 114) = false := beq_no8 114 rfl c114
  by_cases c116 : x = 116
  · have hv : (x.toNat : Int) = 116 := by rw [c116]; rfl
    have HB := Lib.hid (show escByte x = 9 by rw [c116]; rfl)
    rw [HB.out]
    have hs : 55 < (x.toNat : Int) := by omega
    clear hxx c116
    go_enter Tryz.func77, Tryz.ntmps77
    go_wp2_with (first | (go_at_call 39; go_must (refine (more_as _ R s d (x :: t) true rfl (by exact HA.out)).mono ?_; rintro e _ ⟨rfl, n1, rfl⟩)) | (go_at_call 40; go_must (refine (peek_as _ R s d x t (by exact HA.out)).mono ?_; rintro e _ ⟨rfl, n2, rfl⟩)))
    go_ret
    exact ⟨(hFIN.out _).2, rfl, (hFIN.out _).1⟩
  have n116 : ((x.toNat : Int) == 116) = false := beq_no8 116 rfl c116
  by_cases c118 : x = 118
  · have hv : (x.toNat : Int) = 118 := by rw [c118]; rfl
    have HB := Lib.hid (show escByte x = 11 by rw [c118]; rfl)
    rw [HB.out]
    have hs : 55 < (x.toNat : Int) := by omega
    clear hxx c118
    go_enter Tryz.func77, Tryz.ntmps77
    go_wp2_with (first | (go_at_call 39; go_must (refine (more_as _ R s d (x :: t) true rfl (by exact HA.out)).mono ?_; rintro e _ ⟨rfl, n1, rfl⟩)) | (go_at_call 40; go_must (refine (peek_as _ R s d x t (by exact HA.out)).mono ?_; rintro e _ ⟨rfl, n2, rfl⟩)))
    go_ret
    exact ⟨(hFIN.out _).2, rfl, (hFIN.out _).1⟩
  have n118 : ((x.toNat : Int) == 118) = false := beq_no8 118 rfl c118
  have HB := Lib.hid (show escByte x = x by unfold escByte; rw [if_neg c97, if_neg c98, if_neg c102, if_neg c110, if_neg c114, if_neg c116, if_neg c118])
  rw [HB.out]
  clear c97 c98 c102 c110 c114 c116 c118
  rcases hxx with hs | ⟨hs1, hs⟩
  · go_enter Tryz.func77, Tryz.ntmps77
    go_wp2_with (first | (go_at_call 39; go_must (refine (more_as _ R s d (x :: t) true rfl (by exact HA.out)).mono ?_; rintro e _ ⟨rfl, n1, rfl⟩)) | (go_at_call 40; go_must (refine (peek_as _ R s d x t (by exact HA.out)).mono ?_; rintro e _ ⟨rfl, n2, rfl⟩)))
    go_ret
    exact ⟨(hFIN.out _).2, rfl, (hFIN.out _).1⟩
  · go_enter Tryz.func77, Tryz.ntmps77
    go_wp2_with (first | (go_at_call 39; go_must (refine (more_as _ R s d (x :: t) true rfl (by exact HA.out)).mono ?_; rintro e _ ⟨rfl, n1, rfl⟩)) | (go_at_call 40; go_must (refine (peek_as _ R s d x t (by exact HA.out)).mono ?_; rintro e _ ⟨rfl, n2, rfl⟩)))
    go_ret
    exact ⟨(hFIN.out _).2, rfl, (hFIN.out _).1⟩
end Go.Proofs.YtbfekknhmjndaaaGreat.doc3

namespace Go.Proofs.YtbfekknhmjndaaaGreat.doc3
set_option linter.unusedVariables false set_option linter.unusedSimpArgs false
open Go.ChangeShapes Go.WideShapes Go.ChangeAt Go.RowKit Go.Proofs.YtbfekknhmjndaaaGreat.base Go.Proofs.YtbfekknhmjndaaaGreat.read Go.Proofs.YtbfekknhmjndaaaGreat.spec

/-- The state of the loop over digits of base 8. -/
structure OctAt (w : World) (R : Nat) (s : ByteArray) (d : Nat) (r : Nat × Bool × List UInt8) (k : Nat) (nv kv : Value) (wr : World) (kk nn i : Nat) : Prop where
  hk : kk ≤ 3
  hkv : kv = .int .i64 (kk : Int)
  hnv : nv = .int .i64 (nn : Int)
  hm : k = 3 - kk
  hb : (kk = 0 ∧ nn = 0) ∨ (kk = 1 ∧ nn < 8) ∨ (kk = 2 ∧ nn < 64) ∨ (kk = 3 ∧ nn < 512)
  hr : octF (3 - kk) nn true (sx s i) = r
  has : ASI wr R s d i
  hf : Frm (At R) w wr
theorem ofNat_mod (n : Nat) : ((UInt8.ofNat n).toNat : Int) = (n : Int) % 256 := by
  rw [UInt8.toNat_ofNat']
  omega

set_option maxRecDepth 20000 in
set_option maxHeartbeats 4000000 in
theorem esc_oct (w : World) (R : Nat) (s : ByteArray) (d : Nat) (x : UInt8) (t : List UInt8) (hx1 : 48 ≤ x.toNat) (hx2 : x.toNat ≤ 55) (h : AS w R s d (92 :: x :: t)) :
    Calls Tryz.prog 77 #[.pointer (some ⟨R, 0, none⟩)] w (EscPost w R s d (esc (x :: t))) := by
  rw [esc_yes hx1 hx2]
  generalize hr : octF 3 0 true (x :: t) = r
  obtain ⟨i, h, e⟩ := h
  have h1 := h.c1
  have hf := h.1.f 1
  have hz := h.2.2.1
  have hlt := sx_lt e
  have e2 := sx_tl e
  have A2 : ASI (w.setCell ⟨R, 1, none⟩ (.int .i64 ((i : Int) + 1))) R s d (i + 1) := h.set (i + 1) (by omega) _ (by omega)
  have HA := Lib.hid (show AS (w.setCell ⟨R, 1, none⟩ (.int .i64 ((i : Int) + 1))) R s d (x :: t) from ⟨i + 1, A2, e2⟩)
  have HA2 := Lib.hid A2
  have HR := Lib.hid (show octF 3 0 true (sx s (i + 1)) = r by rw [e2]; exact hr)
  have hxi1 : (48 : Int) ≤ (x.toNat : Int) := by omega
  have hxi2 : (x.toNat : Int) ≤ 55 := by omega
  clear h e e2 A2 hr
  go_enter Tryz.func77, Tryz.ntmps77
  go_wp2_with (first | (go_at_call 39; go_must (refine (more_as _ R s d (x :: t) true rfl (by exact HA.out)).mono ?_; rintro e _ ⟨rfl, n1, rfl⟩)) | (go_at_call 40; go_must (refine (peek_as _ R s d x t (by exact HA.out)).mono ?_; rintro e _ ⟨rfl, n2, rfl⟩)))
  go_loopg [4, 5] 3 (fun k nv kv wr => ∃ kk nn j, OctAt w R s d r k nv kv wr kk nn j)
  case atStart => exact ⟨0, 0, i + 1, by omega, rfl, rfl, rfl, Or.inl ⟨rfl, rfl⟩, HR.out, HA2.out.drew _, (frm_at w R 1 _).drewN _⟩
  case round =>
    obtain ⟨kk, nn, j, hk, rfl, rfl, hm, hb, hrr, has, hfr⟩ := hrel
    have HAS := Lib.hid has
    have HF := Lib.hid hfr
    have HRR := Lib.hid hrr
    have g0 := has.c0
    have g1 := has.c1
    have gf := has.1.f 1
    have hj := has.2.1
    have hnn : (nn : Int) < 512 := by omega
    have HB := Lib.hid hb
    have HM := Lib.hid hm
    clear hb has hfr hrr hm
    by_cases hend : kk = 3 ∨ j = s.size ∨ ∃ hlt : j < s.size, (s[j].toNat < 48 ∨ 55 < s[j].toNat)
    · have HE := Lib.hid (show octF (3 - kk) nn true (sx s j) = (nn, true, sx s j) by
        by_cases hk3 : kk = 3
        · subst hk3; rfl
        · apply octF_no
          rcases hend with h | h | ⟨hlt, h⟩
          · exact absurd h hk3
          · exact dgt8_no (Or.inl (sx_nil s j (by omega)))
          · exact dgt8_no (Or.inr ⟨s[j], sx s (j + 1), sx_cons s j hlt, h⟩))
      have HEN := Lib.hid (show r = (nn, true, sx s j) from HRR.out.symm.trans HE.out)
      have HV := Lib.hid (ofNat_mod nn)
      have hcase : kk = 3 ∨ (kk < 3 ∧ j = s.size) ∨ (kk < 3 ∧ ∃ hlt : j < s.size, s[j].toNat < 48) ∨ (kk < 3 ∧ ∃ hlt : j < s.size, 48 ≤ s[j].toNat ∧ 55 < s[j].toNat) := by
        by_cases hk3 : kk = 3
        · exact Or.inl hk3
        · rcases hend with h | h | ⟨hlt, h | h⟩
          · exact absurd h hk3
          · exact Or.inr (Or.inl ⟨by omega, h⟩)
          · exact Or.inr (Or.inr (Or.inl ⟨by omega, hlt, h⟩))
          · exact Or.inr (Or.inr (Or.inr ⟨by omega, hlt, by omega, h⟩))
      clear hend
      rcases hcase with hk3 | ⟨hk3, hje⟩ | ⟨hk3, hlt, hy⟩ | ⟨hk3, hlt, hy1, hy2⟩
      · have hk3' : decide ((kk : Int) < 3) = false := by rw [decide_eq_false_iff_not]; omega
        clear hk3
        go_wp2
        go_quiet (fail)
        go_wp2
        go_ret
        rw [HEN.out]
        exact ⟨HF.out.drewN _, ret_int (by exact HV.out.symm), ⟨_, HAS.out.drew _, rfl⟩⟩
      · have hk3' : (kk : Int) < 3 := by omega
        have hjn : ¬ j < s.size := by omega
        clear hje
        go_wp2
        go_quiet (fail)
        go_wp2
        go_ret
        rw [HEN.out]
        exact ⟨HF.out.drewN _, ret_int (by exact HV.out.symm), ⟨_, HAS.out.drew _, rfl⟩⟩
      · have hk3' : (kk : Int) < 3 := by omega
        have hy' : decide ((48 : Int) ≤ ((s[j]'hlt).toNat : Int)) = false := by rw [decide_eq_false_iff_not]; omega
        clear hy
        go_wp2
        go_quiet (fail)
        go_wp2
        go_ret
        rw [HEN.out]
        exact ⟨HF.out.drewN _, ret_int (by exact HV.out.symm), ⟨_, HAS.out.drew _, rfl⟩⟩
      · have hk3' : (kk : Int) < 3 := by omega
        have hy1' : (48 : Int) ≤ ((s[j]'hlt).toNat : Int) := by omega
        have hy2' : decide (((s[j]'hlt).toNat : Int) ≤ 55) = false := by rw [decide_eq_false_iff_not]; omega
        clear hy1 hy2
        go_wp2
        go_quiet (fail)
        go_wp2
        go_ret
        rw [HEN.out]
        exact ⟨HF.out.drewN _, ret_int (by exact HV.out.symm), ⟨_, HAS.out.drew _, rfl⟩⟩
    · have hk3 : kk < 3 := by omega
      have hlt : j < s.size := by omega
      have hy1 : 48 ≤ s[j].toNat := Nat.le_of_not_lt (fun h => hend (Or.inr (Or.inr ⟨hlt, Or.inl h⟩)))
      have hy2 : s[j].toNat ≤ 55 := Nat.le_of_not_lt (fun h => hend (Or.inr (Or.inr ⟨hlt, Or.inr h⟩)))
      have HNX := Lib.hid (show octF (3 - (kk + 1)) (nn * 8 + (s[j].toNat - 48)) true (sx s (j + 1)) = r by
        rw [← HRR.out, sx_cons s j hlt, show 3 - kk = (3 - (kk + 1)) + 1 by omega, octF_yes _ _ _ _ _ hy1 hy2])
      have HB2 := Lib.hid (show (kk + 1 = 0 ∧ nn * 8 + (s[j].toNat - 48) = 0) ∨ (kk + 1 = 1 ∧ nn * 8 + (s[j].toNat - 48) < 8) ∨ (kk + 1 = 2 ∧ nn * 8 + (s[j].toNat - 48) < 64) ∨ (kk + 1 = 3 ∧ nn * 8 + (s[j].toNat - 48) < 512) by have := HB.out; omega)
      have hk3' : (kk : Int) < 3 := by omega
      have hy1' : (48 : Int) ≤ (s[j].toNat : Int) := by omega
      have hy2' : (s[j].toNat : Int) ≤ 55 := by omega
      have HY := Lib.hid (show (8 * (nn : Int)) + ((s[j].toNat : Int) - 48) = ((nn * 8 + (s[j].toNat - 48) : Nat) : Int) by omega)
      clear hend hy1 hy2
      go_wp2
      go_quiet (fail)
      go_wp2
      go_quiet (fail)
      go_wp2
      go_roundg (3 - (kk + 1))
      case measure => have := HM.out; omega
      case rel =>
        exact ⟨kk + 1, nn * 8 + (s[j].toNat - 48), j + 1, by omega, by go_num, by rw [← HY.out], rfl, HB2.out, HNX.out, (HAS.out.drew _).set (j + 1) (by omega) _ (by omega), (HF.out.drewN _).trans (frm_at _ R 1 _)⟩

/-- A call of escape at a backslash. -/
theorem escape_all (w : World) (R : Nat) (s : ByteArray) (d : Nat) (t : List UInt8) (h : AS w R s d (92 :: t)) :
    Calls Tryz.prog 77 #[.pointer (some ⟨R, 0, none⟩)] w (EscPost w R s d (esc t)) := by
  cases t with
  | nil => exact esc_nil w R s d h
  | cons x t =>
    by_cases hx : 48 ≤ x.toNat ∧ x.toNat ≤ 55
    · exact esc_oct w R s d x t hx.1 hx.2 h
    · rw [esc_no (by omega)]
      exact esc_plain w R s d x t (by omega) h

/-- Digits as the document counts them. -/
def cntD (n : Nat) (sm : Bool) : List UInt8 → Nat × Bool × List UInt8
  | [] => (n, sm, [])
  | x :: t => if 48 ≤ x.toNat ∧ x.toNat ≤ 57 then cntD (min (10 * n + (x.toNat - 48)) 1000) true t else (n, sm, x :: t)
structure CntAt (w : World) (R : Nat) (s : ByteArray) (d : Nat) (r : Nat × Bool × List UInt8) (k : Nat) (nv mv : Value) (wr : World) (nn : Nat) (sm : Bool) (i : Nat) : Prop where
  hnv : nv = .int .i64 (nn : Int)
  hmv : mv = .bool sm
  hn : nn ≤ 1000
  hm : k = s.size - i
  hr : cntD nn sm (sx s i) = r
  has : ASI wr R s d i
  hf : Frm (At R) w wr
set_option maxRecDepth 20000 in
set_option maxHeartbeats 4000000 in
theorem number_all (w : World) (R : Nat) (s : ByteArray) (d : Nat) (l : List UInt8) (r : Nat × Bool × List UInt8) (hr : cntD 0 false l = r) (h : AS w R s d l) :
    Calls Tryz.prog 74 #[.pointer (some ⟨R, 0, none⟩)] w fun e w' => e = .returned (.tuple #[.int .i64 (r.1 : Int), .bool r.2.1]) ∧ AS w' R s d r.2.2 ∧ Frm (At R) w w' := by
  obtain ⟨i, h, rfl⟩ := h
  have HA := Lib.hid h
  have HR := Lib.hid hr
  clear h hr
  go_enter Tryz.func74, Tryz.ntmps74
  go_wp2
  go_loopg [4, 5] (s.size - i) (fun k nv mv wr => ∃ nn sm j, CntAt w R s d r k nv mv wr nn sm j)
  case atStart => exact ⟨0, false, i, rfl, rfl, by omega, rfl, HR.out, HA.out, Frm.refl _ w⟩
  case round =>
    obtain ⟨nn, sm, j, rfl, rfl, hn, hm, hrr, has, hfr⟩ := hrel
    have HAS := Lib.hid has
    have HF := Lib.hid hfr
    have HRR := Lib.hid hrr
    have g0 := has.c0
    have g1 := has.c1
    have gf := has.1.f 1
    have hj := has.2.1
    have hz := has.2.2.1
    have HM := Lib.hid hm
    have hn' : (nn : Int) ≤ 1000 := by omega
    clear has hfr hrr hm
    by_cases hend : j = s.size ∨ ∃ hlt : j < s.size, (s[j].toNat < 48 ∨ 57 < s[j].toNat)
    · have HEN := Lib.hid (show r = (nn, sm, sx s j) by
        rw [← HRR.out]
        rcases hend with h | ⟨hlt, h⟩
        · rw [sx_nil s j (by omega)]; rfl
        · rw [sx_cons s j hlt, cntD, if_neg (by omega)])
      have hcase : (j = s.size) ∨ (∃ hlt : j < s.size, s[j].toNat < 48) ∨ (∃ hlt : j < s.size, 48 ≤ s[j].toNat ∧ 57 < s[j].toNat) := by
        rcases hend with h | ⟨hlt, h | h⟩
        · exact Or.inl h
        · exact Or.inr (Or.inl ⟨hlt, h⟩)
        · exact Or.inr (Or.inr ⟨hlt, by omega, h⟩)
      clear hend
      rcases hcase with hje | ⟨hlt, hy⟩ | ⟨hlt, hy1, hy2⟩
      · have hjn : ¬ j < s.size := by omega
        clear hje
        go_wp2
        go_quiet (fail)
        go_wp2
        go_ret2
        rw [HEN.out]
        exact ⟨rfl, ⟨_, HAS.out.drew _, rfl⟩, HF.out.drewN _⟩
      · have hy' : decide ((48 : Int) ≤ ((s[j]'hlt).toNat : Int)) = false := by rw [decide_eq_false_iff_not]; omega
        clear hy
        go_wp2
        go_quiet (fail)
        go_wp2
        go_ret2
        rw [HEN.out]
        exact ⟨rfl, ⟨_, HAS.out.drew _, rfl⟩, HF.out.drewN _⟩
      · have hy1' : (48 : Int) ≤ ((s[j]'hlt).toNat : Int) := by omega
        have hy2' : decide (((s[j]'hlt).toNat : Int) ≤ 57) = false := by rw [decide_eq_false_iff_not]; omega
        clear hy1 hy2
        go_wp2
        go_quiet (fail)
        go_wp2
        go_ret2
        rw [HEN.out]
        exact ⟨rfl, ⟨_, HAS.out.drew _, rfl⟩, HF.out.drewN _⟩
    · have hlt : j < s.size := by omega
      have hy1 : 48 ≤ s[j].toNat := Nat.le_of_not_lt (fun h => hend (Or.inr ⟨hlt, Or.inl h⟩))
      have hy2 : s[j].toNat ≤ 57 := Nat.le_of_not_lt (fun h => hend (Or.inr ⟨hlt, Or.inr h⟩))
      have HNX := Lib.hid (show cntD (min (10 * nn + (s[j].toNat - 48)) 1000) true (sx s (j + 1)) = r by
        rw [← HRR.out, sx_cons s j hlt, cntD, if_pos ⟨hy1, hy2⟩])
      have hy1' : (48 : Int) ≤ (s[j].toNat : Int) := by omega
      have hy2' : (s[j].toNat : Int) ≤ 57 := by omega
      have HY := Lib.hid (show min ((10 * (nn : Int)) + ((s[j].toNat : Int) - 48)) 1000 = ((min (10 * nn + (s[j].toNat - 48)) 1000 : Nat) : Int) by omega)
      clear hend hy1 hy2
      go_wp2
      go_quiet (fail)
      go_wp2
      go_quiet (fail)
      go_wp2
      go_roundg (s.size - (j + 1))
      case measure => have := HM.out; omega
      case rel =>
        exact ⟨min (10 * nn + (s[j].toNat - 48)) 1000, true, j + 1, by rw [← HY.out], rfl, Nat.min_le_right _ _, rfl, HNX.out, (HAS.out.drew _).set (j + 1) (by omega) _ (by omega), (HF.out.drewN _).trans (frm_at _ R 1 _)⟩
end Go.Proofs.YtbfekknhmjndaaaGreat.doc3
