/- The document's Split whole; the law's acts; two records side by side; the law FieldRuns. The law FieldRuns: where there are no fields; its acts. The law FieldRuns whole; acts as they are read. -/
import Derived.Test.YtbfekknhmjndaaaGreatFrY
import Derived.Test.YtbfekknhmjndaaaGreatFrS
import Derived.Deep.DeepCutAuto
import Derived.BigQuiet
import Derived.OpenShut

namespace Go.Proofs.YtbfekknhmjndaaaGreat.flds
set_option linter.unusedVariables false set_option linter.unusedSimpArgs false
open Go.ChangeShapes Go.WideShapes Go.ChangeAt Go.RowKit Go.Proofs.YtbfekknhmjndaaaGreat.base Go.Proofs.YtbfekknhmjndaaaGreat.spec Go.Proofs.YtbfekknhmjndaaaGreat.nfa Go.Proofs.YtbfekknhmjndaaaGreat.set Go.Proofs.YtbfekknhmjndaaaGreat.parts Go.Proofs.YtbfekknhmjndaaaGreat.items Go.Proofs.YtbfekknhmjndaaaGreat.part Go.Proofs.YtbfekknhmjndaaaGreat.fldp

theorem empty_of {s : ByteArray} (h : s.size = 0) : s = ⟨#[]⟩ := by
  apply ByteArray.ext
  exact Array.eq_empty_of_size_eq_zero h
theorem one_of {s : ByteArray} (h : s.size = 1) : ∃ b : UInt8, s = ⟨#[b]⟩ := by
  obtain ⟨⟨l⟩⟩ := s
  have hl : l.length = 1 := h
  obtain ⟨b, rfl⟩ := List.length_eq_one_iff.1 hl
  exact ⟨b, rfl⟩

set_option maxRecDepth 20000 in
theorem dsplit_none (sep : ByteArray) (w : World) (h1 : ¬ 1 < sep.size) :
    Calls Tryz.prog 6 #[.string ⟨#[]⟩, .string sep, .bool false] w fun e w' => e = .returned (.tuple #[.slice none 0 0, .bool true]) ∧ w' = w := by
  have h1' : ¬ (1 : Int) < (sep.size : Int) := by omega
  clear h1
  go_enter Tryz.func6, Tryz.ntmps6
  go_wp2
  go_ret2
  exact ⟨rfl, rfl⟩

theorem dsplit_all (w : World) (s sep : ByteArray) (hs : s.size ≤ 1000) (hz : sep.size ≤ 200) :
    Calls Tryz.prog 6 #[.string s, .string sep, .bool false] w (PartP w (spl s sep)) := by
  by_cases h1 : 1 < sep.size
  · rw [show spl s sep = if (parse sep.data.toList).2 = 0 then some (exprF s sep) else none by unfold spl exprF; rw [if_pos h1]]
    exact dsplit_expr w s sep h1 hs hz
  · by_cases hs0 : s.size = 0
    · obtain rfl := empty_of hs0
      rw [show spl ⟨#[]⟩ sep = some [] by unfold spl; rw [if_neg h1]; rfl]
      exact (dsplit_none sep w h1).mono fun e w' ⟨he, hw⟩ => ⟨_, he, OwnS.nil _ _, hw ▸ Frm.refl _ _⟩
    · by_cases h0 : sep.size = 0
      · obtain rfl := empty_of h0
        rw [show spl s ⟨#[]⟩ = some (bytesL s) by unfold spl; rw [if_neg h1, if_neg hs0]; rfl]
        exact (dsplit_bytes s hs0 w hs).mono fun e w' ⟨v, he, ho, hb⟩ => ⟨v, he, ho, Frm.ofBelow hb (Nat.le_refl _)⟩
      · obtain ⟨b, rfl⟩ := one_of (show sep.size = 1 by omega)
        by_cases hb : b = 32
        · subst hb
          rw [show spl s ⟨#[32]⟩ = some (Lib.goFieldsP pB s) by unfold spl; rw [if_neg h1, if_neg hs0, dif_neg h0]; exact if_pos rfl]
          refine (dsplit_blank s hs0 w hs).mono fun e w' ⟨v, L, he, ho, hl, hbl⟩ => ⟨v, he, ?_, Frm.ofBelow hbl (Nat.le_refl _)⟩
          have h2 := fields_words s
          rw [← hl] at h2
          have h3 : Lib.goFieldsP pB s = L := lists_inj _ _ h2
          rw [h3]
          exact ho
        · rw [show spl s ⟨#[b]⟩ = some (unl (parts b s.data.toList [])) by unfold spl; rw [if_neg h1, if_neg hs0, dif_neg h0]; exact if_neg hb]
          refine (dsplit_byte s b hb hs0 w hs).mono fun e w' ⟨v, L, he, ho, hl, hbl⟩ => ⟨v, he, ?_, Frm.ofBelow hbl (Nat.le_refl _)⟩
          rw [← unl_of hl]
          exact ho

/-- Fields are no longer than the text, and there are not many more of them. -/
theorem spl_le {s sep : ByteArray} {L : List ByteArray} (h : spl s sep = some L) : L.length ≤ s.size + 3 ∧ ∀ x ∈ L, x.size ≤ s.size := by
  unfold spl at h
  split at h
  · split at h
    · cases h
      split
      · exact ⟨by simp, fun x hx => by cases hx⟩
      · refine ⟨?_, fun x hx => rest_le _ _ _ _ _ x hx⟩
        have := rest_len (fdR (relT (parse sep.data.toList).1) s.data.toList) s (s.size + 2 - 0) 0 0
        unfold rst
        omega
    · cases h
  · split at h
    · cases h
      exact ⟨by simp, fun x hx => by cases hx⟩
    · split at h
      · cases h
        refine ⟨by rw [bytesL_len]; omega, fun x hx => ?_⟩
        obtain ⟨i, hi, rfl⟩ := List.mem_map.1 hx
        simp
        omega
      · split at h
        · cases h
          have h2 := fields_words s
          have hl : s.data.toList.length = s.size := by simp
          refine ⟨?_, fun x hx => ?_⟩
          · have h3 := congrArg List.length h2
            rw [List.length_map] at h3
            have := words_len s.data.toList []
            omega
          · have h3 : x.data.toList ∈ words s.data.toList [] := by rw [← h2]; exact List.mem_map.2 ⟨x, hx, rfl⟩
            have := words_le s.size s.data.toList [] (by simp) _ h3
            simpa using this
        · cases h
          have hl : s.data.toList.length = s.size := by simp
          refine ⟨?_, fun x hx => ?_⟩
          · unfold unl
            rw [List.length_map]
            have := parts_len (sep[0]'(by omega)) s.data.toList []
            omega
          · obtain ⟨y, hy, rfl⟩ := List.mem_map.1 hx
            have := parts_le (sep[0]'(by omega)) s.size s.data.toList [] (by simp) _ hy
            show y.toArray.size ≤ s.size
            rw [List.size_toArray]
            exact this

/-! A record that is none. -/
theorem nf_nil (w : World) : Calls Tryz.prog 7 #[.pointer none] w fun e w' => e = .returned (.int .i64 0) ∧ w' = w := by
  go_enter Tryz.func7, Tryz.ntmps7
  go_wp2
  go_ret
  exact ⟨rfl, rfl⟩
theorem line_nil (w : World) : Calls Tryz.prog 8 #[.pointer none] w fun e w' => e = .returned (.string ⟨#[]⟩) ∧ w' = w := by
  go_enter Tryz.func8, Tryz.ntmps8
  go_wp2
  go_ret
  exact ⟨rfl, rfl⟩
theorem mayHave_nil (w : World) : Calls Tryz.prog 19 #[.pointer none, .int .i64 1] w fun e w' => e = .returned (.bool false) ∧ w' = w := by
  go_enter Tryz.func19, Tryz.ntmps19
  go_wp2
  go_ret
  exact ⟨rfl, rfl⟩
theorem set_nil (w : World) : Calls Tryz.prog 9 #[.pointer none, .int .i64 1, .string ⟨#[]⟩, .string ⟨#[]⟩] w fun e w' => e = .returned (.bool false) ∧ w' = w := by
  go_enter Tryz.func9, Tryz.ntmps9
  go_wp2_with (go_at_call 19; go_must (refine (mayHave_nil _).mono ?_; rintro e w1 ⟨rfl, rfl⟩))
  go_ret
  exact ⟨rfl, rfl⟩

/-! Two records side by side. -/
def Disj (v u : Value) : Prop := ∀ k, v.ownBlock = some k → u.ownBlock ≠ some k
theorem box_ne {w : World} {b R : Nat} {t T : TypeId} {C D : Array Value} (h : Box w b t C) (k : Box w R T D) (ht : t ≠ T) : b ≠ R := by
  intro e
  subst e
  have h : w.heap[b]? = _ := h
  have k : w.heap[b]? = _ := k
  rw [h] at k
  injection k with k
  injection k with _ k
  exact ht k
/-- A box of another type is none of a record's blocks. -/
theorem box_p {w : World} {B R b : Nat} {v : Value} {line : ByteArray} {L : List ByteArray} {t : TypeId} {C : Array Value} (h : RecV w B R v line L) (hb : Box w b t C) (h1 : t ≠ 44) (h2 : t ≠ 9) : ¬ At2v R v b := by
  rintro (e | e)
  · exact box_ne hb h.1 h1 e
  · exact apart_of h.2.1 hb h2 e
theorem box_d {w : World} {B R b : Nat} {v : Value} {line : ByteArray} {L : List ByteArray} {t : TypeId} {C : Array Value} (h : DRec w B R v line L) (hb : Box w b t C) (h1 : t ≠ 35) (h2 : t ≠ 9) : ¬ At2v R v b := by
  rintro (e | e)
  · exact box_ne hb h.1 h1 e
  · exact apart_of h.2.1 hb h2 e
theorem sep_pd {w : World} {B R Q : Nat} {vp vd : Value} {line line2 : ByteArray} {L L2 : List ByteArray} (hp : RecV w B R vp line L) (hd : DRec w B Q vd line2 L2) (hv : Disj vp vd) : ∀ k, At2v Q vd k → ¬ At2v R vp k := by
  rintro k (rfl | e)
  · exact box_p hp hd.1 (by decide) (by decide)
  · rintro (e2 | e2)
    · subst e2
      exact apart_of hd.2.1 hp.1 (by decide) e
    · exact hv k e2 e
theorem sep_dp {w : World} {B R Q : Nat} {vp vd : Value} {line line2 : ByteArray} {L L2 : List ByteArray} (hp : RecV w B R vp line L) (hd : DRec w B Q vd line2 L2) (hv : Disj vp vd) : ∀ k, At2v R vp k → ¬ At2v Q vd k := fun k h1 h2 => sep_pd hp hd hv k h2 h1
/-- Behind what the program does with its record. -/
theorem step_p {w w1 : World} {B R Q : Nat} {vp vd : Value} {line line1 line2 : ByteArray} {L L1 L2 : List ByteArray} (hp : RecV w B R vp line L) (hd : DRec w B Q vd line2 L2) (hv : Disj vp vd) (ha : After w w1 B R vp line1 L1) :
    ∃ vp', RecV w1 B R vp' line1 L1 ∧ DRec w1 B Q vd line2 L2 ∧ Disj vp' vd ∧ Frm (At2v R vp) w w1 := by
  obtain ⟨v', h1, h2, h3⟩ := ha
  refine ⟨v', h1, hd.frm h2 (sep_pd hp hd hv), fun k e1 e2 => ?_, h2⟩
  rcases h3 k e1 with h | h
  · exact hv k h e2
  · have := (hd.lt k (.inr e2)).2
    omega
theorem step_d {w w1 : World} {B R Q : Nat} {vp vd : Value} {line line1 line2 : ByteArray} {L L1 L2 : List ByteArray} (hp : RecV w B R vp line L) (hd : DRec w B Q vd line2 L2) (hv : Disj vp vd) (ha : DAfter w w1 B Q vd line1 L1) :
    ∃ vd', DRec w1 B Q vd' line1 L1 ∧ RecV w1 B R vp line L ∧ Disj vp vd' ∧ Frm (At2v Q vd) w w1 := by
  obtain ⟨v', h1, h2, h3⟩ := ha
  refine ⟨v', h1, hp.frm h2 (sep_dp hp hd hv), fun k e1 e2 => ?_, h2⟩
  rcases h3 k e2 with h | h
  · exact hv k e1 h
  · have := (hp.lt k (.inr e1)).2
    omega

/-- An act. -/
structure Ac where
  what : Int
  i : Int
  s : ByteArray
  ofs : ByteArray
abbrev aC (x : Ac) : Array Value := #[.int .i64 x.what, .int .i64 x.i, .string x.s, .string x.ofs]
def AcOk (x : Ac) : Prop := -9223372036854775808 ≤ x.i ∧ x.i ≤ 9223372036854775807
/-- v is a slice that reads as these acts. -/
def RdA (w : World) (v : Value) (A : List Ac) : Prop :=
  ∃ p c, v = .slice p A.length c ∧ (A = [] ∨ ∃ g o, p = some ⟨g, o, none⟩ ∧ ∀ k x, A[k]? = some x → AcOk x ∧ ∀ j, j < 4 → w.cell? ⟨g, o + k * 4 + j, none⟩ = (aC x)[j]?)

/-- Both records hold the same. -/
def Two (w : World) (B R Q : Nat) : Prop := ∃ (vp vd : Value) (line : ByteArray) (L : List ByteArray), RecV w B R vp line L ∧ DRec w B Q vd line L ∧ Disj vp vd ∧ L.length ≤ 1000 ∧ ∀ x ∈ L, x.size ≤ 60

end Go.Proofs.YtbfekknhmjndaaaGreat.flds

namespace Go.Proofs.YtbfekknhmjndaaaGreat.flds
set_option linter.unusedVariables false set_option linter.unusedSimpArgs false
open Go.ChangeShapes Go.WideShapes Go.ChangeAt Go.RowKit Go.Proofs.YtbfekknhmjndaaaGreat.base Go.Proofs.YtbfekknhmjndaaaGreat.spec Go.Proofs.YtbfekknhmjndaaaGreat.nfa Go.Proofs.YtbfekknhmjndaaaGreat.set Go.Proofs.YtbfekknhmjndaaaGreat.parts Go.Proofs.YtbfekknhmjndaaaGreat.items Go.Proofs.YtbfekknhmjndaaaGreat.part Go.Proofs.YtbfekknhmjndaaaGreat.fldp
attribute [local go_sem ↓] Go.wp_at_zero Go.wp_at_succ

theorem awake_f (w : World) : Calls Tryz.prog 4 #[] w fun e w' => e = .returned (.bool true) ∧ Frm No w w' :=
  (awake_all w).mono fun e w' ⟨h1, h2⟩ => ⟨h1, Frm.ofBelow h2 (Nat.le_refl _)⟩

set_option maxHeartbeats 4000000 in
set_option maxRecDepth 20000 in
theorem runs_none (w : World) (line sep : ByteArray) (v : Value) (N : Nat) (hm : Mx w) (hl : line.size ≤ 60) (hs : sep.size ≤ 60) (hsp : spl line sep = none) :
    Calls Tryz.prog 3 #[.string line, .string sep, v] w fun e w' => e = .returned (.bool true) ∧ Frm No w w' := by
  have HN := Lib.hid (fun (W : World) (hf : Frm No w W) => new_p W line sep (hm.frm hf id) (by omega) (by omega))
  have HD := Lib.hid (fun (W : World) => dsplit_all W line sep (by omega) (by omega))
  rw [hsp] at HN HD
  have hl' : (line.size : Int) ≤ 60 := by omega
  have hs' : (sep.size : Int) ≤ 60 := by omega
  clear hm hsp hl hs
  go_enter Tryz.func3, Tryz.ntmps3
  go_wp2_with (first
    | (go_at_call 4; go_must (refine (awake_f _).mono ?_; rintro e w1 ⟨rfl, hf1⟩; have HF1 := Lib.hid hf1; clear hf1))
    | (go_at_call 5; go_must (refine (HN.out _ HF1.out).mono ?_; rintro e w2 ⟨rfl, hf2⟩; have HF2 := Lib.hid (HF1.out.trans hf2); clear hf2))
    | (go_at_call 6; go_must (refine (HD.out _).mono ?_; rintro e w3 ⟨rfl, hf3⟩; have HF3 := Lib.hid (HF2.out.trans hf3); clear hf3))
    | (go_at_call 7; go_must (refine (nf_nil _).mono ?_; rintro e w4 ⟨rfl, rfl⟩))
    | (go_at_call 8; go_must (refine (line_nil _).mono ?_; rintro e w4 ⟨rfl, rfl⟩))
    | (go_at_call 9; go_must (refine (set_nil _).mono ?_; rintro e w4 ⟨rfl, rfl⟩)))
  go_ret
  exact ⟨rfl, HF3.out⟩

theorem RecV.mono {w : World} {B B' R : Nat} {v : Value} {line : ByteArray} {L : List ByteArray} (h : RecV w B R v line L) (hb : B' ≤ B) : RecV w B' R v line L := ⟨h.1, h.2.1.mono hb, Nat.le_trans hb h.2.2⟩
theorem Two.move {w w' : World} {B R Q : Nat} (h : Two w B R Q) (hf : Frm No w w') : Two w' B R Q := by
  obtain ⟨vp, vd, line, L, h1, h2, h3, h4, h5⟩ := h
  exact ⟨vp, vd, line, L, h1.frm hf (fun _ _ => id), h2.frm hf (fun _ _ => id), h3, h4, h5⟩
/-- The act's cells. -/
def Act4 (W : World) (b : Nat) (what i : Int) (s ofs : ByteArray) : Prop := Box W b 37 #[.int .i64 what, .int .i64 i, .string s, .string ofs]
/-- What the program's record leaves alone. -/
theorem keep_p {w w1 W0 : World} {B R b : Nat} {vp : Value} {line : ByteArray} {L : List ByteArray} {what i : Int} {s ofs : ByteArray} (hp : RecV w B R vp line L) (ha : Act4 w b what i s ofs) (hf : Frm No W0 w) (hB : W0.heap.size ≤ B) (h : Frm (At2v R vp) w w1) : Act4 w1 b what i s ofs ∧ Frm No W0 w1 :=
  ⟨ha.frm h (box_p hp ha (by decide) (by decide)), hf.then h (fun k hk e => by have := (hp.lt k e).1; omega)⟩
theorem keep_d {w w1 W0 : World} {B R b : Nat} {vp : Value} {line : ByteArray} {L : List ByteArray} {what i : Int} {s ofs : ByteArray} (hp : DRec w B R vp line L) (ha : Act4 w b what i s ofs) (hf : Frm No W0 w) (hB : W0.heap.size ≤ B) (h : Frm (At2v R vp) w w1) : Act4 w1 b what i s ofs ∧ Frm No W0 w1 :=
  ⟨ha.frm h (box_d hp ha (by decide) (by decide)), hf.then h (fun k hk e => by have := (hp.lt k e).1; omega)⟩
/-- Behind what the program does with its record, and behind what the document does. -/
theorem do_p {W0 w w1 : World} {B R Q b : Nat} {vp vd : Value} {line line1 line2 : ByteArray} {L L1 L2 : List ByteArray} {what i : Int} {s ofs : ByteArray} (ha : After w w1 B R vp line1 L1) (hp : RecV w B R vp line L) (hd : DRec w B Q vd line2 L2) (hv : Disj vp vd) (hb : Act4 w b what i s ofs) (hf : Frm No W0 w) (hB : W0.heap.size ≤ B) :
    ∃ vp', RecV w1 B R vp' line1 L1 ∧ DRec w1 B Q vd line2 L2 ∧ Disj vp' vd ∧ Act4 w1 b what i s ofs ∧ Frm No W0 w1 := by
  obtain ⟨vp', h1, h2, h3, h4⟩ := step_p hp hd hv ha
  obtain ⟨h5, h6⟩ := keep_p hp hb hf hB h4
  exact ⟨vp', h1, h2, h3, h5, h6⟩
theorem do_d {W0 w w1 : World} {B R Q b : Nat} {vp vd : Value} {line line1 line2 : ByteArray} {L L1 L2 : List ByteArray} {what i : Int} {s ofs : ByteArray} (ha : DAfter w w1 B Q vd line1 L1) (hp : RecV w B R vp line L) (hd : DRec w B Q vd line2 L2) (hv : Disj vp vd) (hb : Act4 w b what i s ofs) (hf : Frm No W0 w) (hB : W0.heap.size ≤ B) :
    ∃ vd', DRec w1 B Q vd' line1 L1 ∧ RecV w1 B R vp line L ∧ Disj vp vd' ∧ Act4 w1 b what i s ofs ∧ Frm No W0 w1 := by
  obtain ⟨vd', h1, h2, h3, h4⟩ := step_d hp hd hv ha
  obtain ⟨h5, h6⟩ := keep_d hd hb hf hB h4
  exact ⟨vd', h1, h2, h3, h5, h6⟩
theorem act_cells {w : World} {b : Nat} {what i : Int} {s ofs : ByteArray} (h : Act4 w b what i s ofs) : w.cell? ⟨b, 1, none⟩ = some (.int .i64 i) ∧ w.cell? ⟨b, 2, none⟩ = some (.string s) ∧ w.cell? ⟨b, 3, none⟩ = some (.string ofs) := ⟨Box.cell h 1, Box.cell h 2, Box.cell h 3⟩
theorem line_small (L : List ByteArray) (sep : ByteArray) (h1 : L.length ≤ 2000) (h2 : ∀ x ∈ L, x.size ≤ 60) (h3 : sep.size ≤ 60) : (joinL L sep).size ≤ 140737488355328 := by
  have h := joinL_le L sep 60 h2
  have h4 : L.length * (sep.size + 60) ≤ 2000 * 120 := Nat.mul_le_mul h1 (by omega)
  omega

/-- At the beginning. -/
theorem two_start {w2 w3 : World} {B R B2 : Nat} {vp vd : Value} {line : ByteArray} {L : List ByteArray} (hr : RecV w2 B2 R vp line L) (hf : Frm No w2 w3) (ho : OwnS w3 w2.heap.size vd L) (hB : B ≤ B2) (hB2 : B ≤ w2.heap.size) (h1 : L.length ≤ 1000) (h2 : ∀ x ∈ L, x.size ≤ 60) :
    Two (w3.alloc (.cells #[.string line, vd] 35)) B R w3.heap.size := by
  have hfa : Frm No w3 (w3.alloc (.cells #[.string line, vd] 35)) := (Frm.refl No w3).alloc _
  refine ⟨vp, vd, line, L, ((hr.mono hB).frm hf (fun _ _ => id)).frm hfa (fun _ _ => id), ⟨Box.new _ _ _, OwnS.mono (ho.frm hfa (fun _ _ => id)) hB2, Nat.le_trans hB2 hf.size⟩, fun k e1 e2 => ?_, h1, h2⟩
  have g1 := (hr.lt k (.inr e1)).2
  have g2 := (World.ownsRow.lt ho k e2).1
  omega

set_option maxHeartbeats 4000000 in
set_option maxRecDepth 20000 in
theorem runs_some (w : World) (line sep : ByteArray) (v : Value) (A : List Ac) (hA : RdA w v A) (hm : Mx w) (hl : line.size ≤ 60) (hs : sep.size ≤ 60) (L0 : List ByteArray) (hsp : spl line sep = some L0) :
    Calls Tryz.prog 3 #[.string line, .string sep, v] w fun e w' => e = .returned (.bool true) ∧ Frm No w w' := by
  have HN := Lib.hid (fun (W : World) (hf : Frm No w W) => new_p W line sep (hm.frm hf id) (by omega) (by omega))
  have HD := Lib.hid (fun (W : World) => dsplit_all W line sep (by omega) (by omega))
  have HL0 := Lib.hid (spl_le hsp)
  rw [hsp] at HN HD
  have hl' : (line.size : Int) ≤ 60 := by omega
  have hs' : (sep.size : Int) ≤ 60 := by omega
  have HLZ := Lib.hid hl
  obtain ⟨p, c, rfl, hp⟩ := hA
  have HP := Lib.hid hp
  obtain ⟨N, hN⟩ : ∃ N, A.length = N := ⟨_, rfl⟩
  have HNN := Lib.hid hN
  rw [hN]
  clear hm hsp hl hs hp hN
  go_enter Tryz.func3, Tryz.ntmps3
  go_upto_region 11 with (first
    | (go_at_call 4; go_must (refine (awake_f _).mono ?_; rintro e w1 ⟨rfl, hf1⟩; have HF1 := Lib.hid hf1; clear hf1))
    | (go_at_call 5; go_must (refine (HN.out _ HF1.out).mono ?_; rintro e w2 ⟨R, vp, rfl, hr2, hf2⟩; have HR2 := Lib.hid hr2; have HF2 := Lib.hid (HF1.out.trans hf2); clear hr2 hf2))
    | (go_at_call 6; go_must (refine (HD.out _).mono ?_; rintro e w3 ⟨vd, rfl, ho3, hf3⟩; obtain ⟨ad, cd, rfl⟩ := ho3.form; have HO3 := Lib.hid ho3; have HF3 := Lib.hid (HF2.out.trans hf3); have HF23 := Lib.hid hf3; clear ho3 hf3)))
  have HTW := Lib.hid (two_start (B := w.heap.size) HR2.out (show Frm No w2 w3 from HF23.out) HO3.out HF1.out.size HF2.out.size (by have := HL0.out.1; have := HLZ.out; omega) (fun x hx => by have := HL0.out.2 x hx; have := HLZ.out; omega))
  have HF4 := Lib.hid (HF3.out.alloc (.cells #[.string line, .slice ad L0.length cd] 35))
  generalize w3.alloc (.cells #[.string line, .slice ad L0.length cd] 35) = W4 at HTW HF4 ⊢
  obtain ⟨Q, hQ⟩ : ∃ Q, w3.heap.size = Q := ⟨_, rfl⟩
  rw [hQ] at HTW ⊢
  clear hQ
  go_loopw [70] (fun iv wr => ∃ k : Nat, k ≤ N ∧ k ≤ 40 ∧ iv = .int .i64 (k : Int) ∧ Two wr w.heap.size R Q ∧ Frm No w wr) (fun iv _ => N - (intOf iv).toNat)
  case atStart => exact ⟨0, Nat.zero_le _, Nat.zero_le _, rfl, HTW.out, HF4.out⟩
  case round =>
    obtain ⟨k, hk, hk40, rfl, htw, hf⟩ := hrel
    have HT := Lib.hid htw
    have HF := Lib.hid hf
    clear htw hf
    by_cases hlt : k < N
    · obtain ⟨x, hx⟩ : ∃ x, A[k]? = some x := ⟨_, List.getElem?_eq_getElem (by rw [HNN.out]; exact hlt)⟩
      obtain ⟨g, o, rfl, ht⟩ : ∃ g o, p = some ⟨g, o, none⟩ ∧ ∀ k x, A[k]? = some x → AcOk x ∧ ∀ j, j < 4 → w.cell? ⟨g, o + k * 4 + j, none⟩ = (aC x)[j]? := by
        rcases HP.out with h | h
        · subst h; cases hx
        · exact h
      obtain ⟨hok, hc⟩ := ht k x hx
      have d0 : wr.cell? ⟨g, o + k * 4, none⟩ = some (.int .i64 x.what) := cell_move (hc 0 (by omega)) HF.out
      have d1 : wr.cell? ⟨g, o + k * 4 + 1, none⟩ = some (.int .i64 x.i) := cell_move (hc 1 (by omega)) HF.out
      have d2 : wr.cell? ⟨g, o + k * 4 + 2, none⟩ = some (.string x.s) := cell_move (hc 2 (by omega)) HF.out
      have d3 : wr.cell? ⟨g, o + k * 4 + 3, none⟩ = some (.string x.ofs) := cell_move (hc 3 (by omega)) HF.out
      have HOK := Lib.hid hok
      have hk0 : (0 : Int) ≤ (k : Int) := by omega
      have hk1 : (k : Int) < (N : Int) := by omega
      clear hx ht hok hc
      obtain ⟨what, i, s, ofs⟩ := x
      simp only [] at d0 d1 d2 d3 HOK
      by_cases h40 : k = 40
      · have h40b : ((k : Int) == 40) = true := by rw [h40]; rfl
        clear h40
        go_wp2
        go_ret
        exact ⟨rfl, HF.out.alloc _⟩
      · have h40b : ((k : Int) == 40) = false := by rw [beq_eq_false_iff_ne]; omega
        have hk39 : k < 40 := by omega
        clear h40
        by_cases hs6 : s.size ≤ 60
        · have hs6' : ¬ (60 : Int) < (s.size : Int) := by omega
          by_cases ho2 : ofs.size ≤ 20
          · have ho2' : ¬ (20 : Int) < (ofs.size : Int) := by omega
            go_upto_block 2 with (fail)
            have hbn := Box.new wr 37 #[.int .i64 what, .int .i64 i, .string s, .string ofs]
            have HA5 := Lib.hid (show Act4 (wr.alloc (.cells #[.int .i64 what, .int .i64 i, .string s, .string ofs] 37)) wr.heap.size what i s ofs from hbn)
            have HT5 := Lib.hid (HT.out.move ((Frm.refl No wr).alloc (.cells #[.int .i64 what, .int .i64 i, .string s, .string ofs] 37)))
            have HF5 := Lib.hid (HF.out.alloc (.cells #[.int .i64 what, .int .i64 i, .string s, .string ofs] 37))
            clear hbn d0 d1 d2 d3
            generalize wr.alloc (.cells #[.int .i64 what, .int .i64 i, .string s, .string ofs] 37) = W5 at HA5 HT5 HF5 ⊢
            obtain ⟨b, hb⟩ : ∃ b, wr.heap.size = b := ⟨_, rfl⟩
            rw [hb] at HA5 ⊢
            clear hb
            go_cut [108] (fun _ wx => Two wx w.heap.size R Q ∧ Act4 wx b what i s ofs ∧ Frm No w wx)
            case first =>
              obtain ⟨vp, vd, ln, L, hrp, hrd, hdj, hL, hLx⟩ := HT5.out
              have HRP := Lib.hid hrp
              have HRD := Lib.hid hrd
              have HDJ := Lib.hid hdj
              have HLX := Lib.hid (And.intro hL hLx)
              have e0 := Box.cell (show Box W5 b 37 #[.int .i64 what, .int .i64 i, .string s, .string ofs] from HA5.out) 0
              have e1 := Box.cell (show Box W5 b 37 #[.int .i64 what, .int .i64 i, .string s, .string ofs] from HA5.out) 1
              have e2 := Box.cell (show Box W5 b 37 #[.int .i64 what, .int .i64 i, .string s, .string ofs] from HA5.out) 2
              have e3 := Box.cell (show Box W5 b 37 #[.int .i64 what, .int .i64 i, .string s, .string ofs] from HA5.out) 3
              clear hrp hrd hdj hL hLx
              by_cases hw0 : what = 0
              · have hw0b : (what == 0) = true := by rw [hw0]; rfl
                clear hw0
                cases hms : maySet i L.length
                · have HS1 := Lib.hid (fun (W : World) (hr : RecV W w.heap.size R vp ln L) => set_all W w.heap.size R vp ln L hr i HOK.out.1 HOK.out.2 s ofs (by have := HLX.out.1; omega) (by omega) (fun hm => line_small _ _ (by rw [setL_len]; unfold maySet at hm; rw [decide_eq_true_eq] at hm; have := HLX.out.1; omega) (setL_le L i.toNat 60 s HLX.out.2 hs6) (by omega)))
                  have HS2 := Lib.hid (fun (W : World) (hr : DRec W w.heap.size Q vd ln L) => dset_all W w.heap.size Q vd ln L hr i HOK.out.1 HOK.out.2 s ofs HLX.out.1 hs6 (by omega) HLX.out.2)
                  rw [hms] at HS1 HS2
                  simp only [Bool.false_eq_true, if_false] at HS1 HS2
                  clear hms
                  go_wp2
                  go_region_held3 (fun W => W.cell? ⟨b, 1, none⟩ = some (.int .i64 i) ∧ W.cell? ⟨b, 2, none⟩ = some (.string s) ∧ W.cell? ⟨b, 3, none⟩ = some (.string ofs)) (first | assumption | exact act_cells HA5.out | exact act_cells HA6.out | exact act_cells HA7.out | (go_keep; done)) (first | (go_at_call 9; refine (HS1.out _ (by exact HRP.out)).mono ?_; rintro en w5 ⟨rfl, rfl⟩) | (go_at_call 10; refine (HS2.out _ (by exact HRD.out)).mono ?_; rintro en w6 ⟨rfl, rfl⟩))
                  all_goals
                    go_wp2
                    go_meet
                    exact ⟨⟨vp, vd, ln, L, HRP.out, HRD.out, HDJ.out, HLX.out.1, HLX.out.2⟩, HA5.out, by first | exact HF5.out | exact HF5.out.drew | exact HF5.out.drewN _⟩
                · have HS1 := Lib.hid (fun (W : World) (hr : RecV W w.heap.size R vp ln L) => set_all W w.heap.size R vp ln L hr i HOK.out.1 HOK.out.2 s ofs (by have := HLX.out.1; omega) (by omega) (fun hm => line_small _ _ (by rw [setL_len]; unfold maySet at hm; rw [decide_eq_true_eq] at hm; have := HLX.out.1; omega) (setL_le L i.toNat 60 s HLX.out.2 hs6) (by omega)))
                  have HS2 := Lib.hid (fun (W : World) (hr : DRec W w.heap.size Q vd ln L) => dset_all W w.heap.size Q vd ln L hr i HOK.out.1 HOK.out.2 s ofs HLX.out.1 hs6 (by omega) HLX.out.2)
                  rw [hms] at HS1 HS2
                  simp only [if_true] at HS1 HS2
                  have HNL := Lib.hid (show (setL L i.toNat s).length ≤ 1000 ∧ ∀ x ∈ setL L i.toNat s, x.size ≤ 60 from ⟨by rw [setL_len]; unfold maySet at hms; rw [decide_eq_true_eq] at hms; have := HLX.out.1; omega, setL_le L i.toNat 60 s HLX.out.2 hs6⟩)
                  generalize setL L i.toNat s = L' at HS1 HS2 HNL
                  generalize joinL L' ofs = ln' at HS1 HS2
                  clear hms
                  go_wp2
                  go_region_held3 (fun W => W.cell? ⟨b, 1, none⟩ = some (.int .i64 i) ∧ W.cell? ⟨b, 2, none⟩ = some (.string s) ∧ W.cell? ⟨b, 3, none⟩ = some (.string ofs)) (first | assumption | exact act_cells HA5.out | exact act_cells HA6.out | exact act_cells HA7.out | (go_keep; done)) (first | (go_at_call 9; refine (HS1.out _ (by exact HRP.out)).mono ?_; rintro en w5 ⟨rfl, ha⟩; obtain ⟨vp', hp6, hd6, hdj6, ha6, hf6⟩ := do_p ha (by exact HRP.out) (by exact HRD.out) HDJ.out (by exact HA5.out) (show Frm No w _ from by first | exact HF5.out | exact HF5.out.drew | exact HF5.out.drewN _) (Nat.le_refl _); have HRP6 := Lib.hid hp6; have HRD6 := Lib.hid hd6; have HDJ6 := Lib.hid hdj6; have HA6 := Lib.hid ha6; have HF6 := Lib.hid hf6; have hS6 := act_cells ha6; clear ha hp6 hd6 hdj6 ha6 hf6) | (go_at_call 10; refine (HS2.out _ (by exact HRD6.out)).mono ?_; rintro en w6 ⟨rfl, ha⟩; obtain ⟨vd', hd7, hp7, hdj7, ha7, hf7⟩ := do_d ha (by exact HRP6.out) (by exact HRD6.out) HDJ6.out (by exact HA6.out) (show Frm No w _ from by first | exact HF6.out | exact HF6.out.drew | exact HF6.out.drewN _) (Nat.le_refl _); have HRP7 := Lib.hid hp7; have HRD7 := Lib.hid hd7; have HDJ7 := Lib.hid hdj7; have HA7 := Lib.hid ha7; have HF7 := Lib.hid hf7; have hS7 := act_cells ha7; clear ha hp7 hd7 hdj7 ha7 hf7))
                  all_goals
                    go_wp2
                    go_meet
                    exact ⟨⟨vp', vd', ln', L', HRP7.out, HRD7.out, HDJ7.out, HNL.out.1, HNL.out.2⟩, HA7.out, by first | exact HF7.out | exact HF7.out.drew | exact HF7.out.drewN _⟩
              · have hw0b : (what == 0) = false := by simpa using hw0
                by_cases hw1 : what = 1
                · have hw1b : (what == 1) = true := by rw [hw1]; rfl
                  clear hw0 hw1
                  cases hms : mayH i L.length
                  · have HS1 := Lib.hid (fun (W : World) (hr : RecV W w.heap.size R vp ln L) => setnf_all W w.heap.size R vp ln L hr i HOK.out.1 HOK.out.2 ofs (by have := HLX.out.1; omega) (fun hm => line_small _ _ (by rw [resz_len]; unfold mayH at hm; rw [decide_eq_true_eq] at hm; have := HLX.out.1; omega) (resz_le L i.toNat 60 HLX.out.2) (by omega)))
                    have HS2 := Lib.hid (fun (W : World) (hr : DRec W w.heap.size Q vd ln L) => dsetnf_all W w.heap.size Q vd ln L hr i HOK.out.1 HOK.out.2 ofs HLX.out.1 (by omega) HLX.out.2)
                    rw [hms] at HS1 HS2
                    simp only [Bool.false_eq_true, if_false] at HS1 HS2
                    clear hms
                    go_wp2
                    go_region_held3 (fun W => W.cell? ⟨b, 1, none⟩ = some (.int .i64 i) ∧ W.cell? ⟨b, 2, none⟩ = some (.string s) ∧ W.cell? ⟨b, 3, none⟩ = some (.string ofs)) (first | assumption | exact act_cells HA5.out | exact act_cells HA6.out | exact act_cells HA7.out | (go_keep; done)) (first | (go_at_call 11; refine (HS1.out _ (by exact HRP.out)).mono ?_; rintro en w5 ⟨rfl, rfl⟩) | (go_at_call 12; refine (HS2.out _ (by exact HRD.out)).mono ?_; rintro en w6 ⟨rfl, rfl⟩))
                    all_goals
                      go_wp2
                      go_meet
                      exact ⟨⟨vp, vd, ln, L, HRP.out, HRD.out, HDJ.out, HLX.out.1, HLX.out.2⟩, HA5.out, by first | exact HF5.out | exact HF5.out.drew | exact HF5.out.drewN _⟩
                  · have HS1 := Lib.hid (fun (W : World) (hr : RecV W w.heap.size R vp ln L) => setnf_all W w.heap.size R vp ln L hr i HOK.out.1 HOK.out.2 ofs (by have := HLX.out.1; omega) (fun hm => line_small _ _ (by rw [resz_len]; unfold mayH at hm; rw [decide_eq_true_eq] at hm; have := HLX.out.1; omega) (resz_le L i.toNat 60 HLX.out.2) (by omega)))
                    have HS2 := Lib.hid (fun (W : World) (hr : DRec W w.heap.size Q vd ln L) => dsetnf_all W w.heap.size Q vd ln L hr i HOK.out.1 HOK.out.2 ofs HLX.out.1 (by omega) HLX.out.2)
                    rw [hms] at HS1 HS2
                    simp only [if_true] at HS1 HS2
                    have HNL := Lib.hid (show (resz L i.toNat).length ≤ 1000 ∧ ∀ x ∈ resz L i.toNat, x.size ≤ 60 from ⟨by rw [resz_len]; unfold mayH at hms; rw [decide_eq_true_eq] at hms; have := HLX.out.1; omega, resz_le L i.toNat 60 HLX.out.2⟩)
                    generalize resz L i.toNat = L' at HS1 HS2 HNL
                    generalize joinL L' ofs = ln' at HS1 HS2
                    clear hms
                    go_wp2
                    go_region_held3 (fun W => W.cell? ⟨b, 1, none⟩ = some (.int .i64 i) ∧ W.cell? ⟨b, 2, none⟩ = some (.string s) ∧ W.cell? ⟨b, 3, none⟩ = some (.string ofs)) (first | assumption | exact act_cells HA5.out | exact act_cells HA6.out | exact act_cells HA7.out | (go_keep; done)) (first | (go_at_call 11; refine (HS1.out _ (by exact HRP.out)).mono ?_; rintro en w5 ⟨rfl, ha⟩; obtain ⟨vp', hp6, hd6, hdj6, ha6, hf6⟩ := do_p ha (by exact HRP.out) (by exact HRD.out) HDJ.out (by exact HA5.out) (show Frm No w _ from by first | exact HF5.out | exact HF5.out.drew | exact HF5.out.drewN _) (Nat.le_refl _); have HRP6 := Lib.hid hp6; have HRD6 := Lib.hid hd6; have HDJ6 := Lib.hid hdj6; have HA6 := Lib.hid ha6; have HF6 := Lib.hid hf6; have hS6 := act_cells ha6; clear ha hp6 hd6 hdj6 ha6 hf6) | (go_at_call 12; refine (HS2.out _ (by exact HRD6.out)).mono ?_; rintro en w6 ⟨rfl, ha⟩; obtain ⟨vd', hd7, hp7, hdj7, ha7, hf7⟩ := do_d ha (by exact HRP6.out) (by exact HRD6.out) HDJ6.out (by exact HA6.out) (show Frm No w _ from by first | exact HF6.out | exact HF6.out.drew | exact HF6.out.drewN _) (Nat.le_refl _); have HRP7 := Lib.hid hp7; have HRD7 := Lib.hid hd7; have HDJ7 := Lib.hid hdj7; have HA7 := Lib.hid ha7; have HF7 := Lib.hid hf7; have hS7 := act_cells ha7; clear ha hp7 hd7 hdj7 ha7 hf7))
                    all_goals
                      go_wp2
                      go_meet
                      exact ⟨⟨vp', vd', ln', L', HRP7.out, HRD7.out, HDJ7.out, HNL.out.1, HNL.out.2⟩, HA7.out, by first | exact HF7.out | exact HF7.out.drew | exact HF7.out.drewN _⟩
                · have hw1b : (what == 1) = false := by simpa using hw1
                  clear hw0 hw1
                  go_wp2
                  go_meet
                  exact ⟨⟨vp, vd, ln, L, HRP.out, HRD.out, HDJ.out, HLX.out.1, HLX.out.2⟩, HA5.out, HF5.out⟩
            case rest =>
              obtain ⟨htw6, ha6, hf6⟩ := hcut
              obtain ⟨vp, vd, ln, L, hrp, hrd, hdj, hL, hLx⟩ := htw6
              obtain ⟨a9, c9, hvd⟩ := hrd.2.1.form
              subst hvd
              have HRP := Lib.hid hrp
              have HRD := Lib.hid hrd
              have HTW6 := Lib.hid (show Two _ w.heap.size R Q from ⟨vp, _, ln, L, hrp, hrd, hdj, hL, hLx⟩)
              have HF6 := Lib.hid hf6
              have e1 := Box.cell (show Box _ b 37 #[.int .i64 what, .int .i64 i, .string s, .string ofs] from ha6) 1
              have q0 := hrd.1.cell 0
              have q1 := hrd.1.cell 1
              have HG1 := Lib.hid (get_all _ w.heap.size R vp ln L hrp i HOK.out.1 HOK.out.2 (by omega))
              have HG2 := Lib.hid (dget_all _ w.heap.size Q _ ln L hrd i HOK.out.1 HOK.out.2 hL)
              have HNF := Lib.hid (fun (W : World) (hr : RecV W w.heap.size R vp ln L) => (nf_all W w.heap.size R vp ln L hr).mono (R' := fun e w' => e = .returned (.int .i64 L.length) ∧ ∃ n, w' = W.drewN n) (fun e w' h => ⟨h.1, 0, by rw [h.2]; rfl⟩))
              have HLI := Lib.hid (fun (W : World) (hr : RecV W w.heap.size R vp ln L) => (line_all W w.heap.size R vp ln L hr).mono (R' := fun e w' => e = .returned (.string ln) ∧ ∃ n, w' = W.drewN n) (fun e w' h => ⟨h.1, 0, by rw [h.2]; rfl⟩))
              obtain ⟨gs, gb⟩ := getR ln L i
              have hs1 : (!(gs.toList == gs.toList)) = false := str_ne rfl
              have hl1 : (!(ln.toList == ln.toList)) = false := str_ne rfl
              have hb1 : (gb != gb) = false := by cases gb <;> rfl
              have hn1 : ((L.length : Int) != (L.length : Int)) = false := by simp
              clear hrp hrd hdj hL hLx ha6 hf6
              go_wp2_with (first | (go_at_call 13; go_must (refine HG1.out.mono ?_; rintro e w8 ⟨rfl, rfl⟩)) | (go_at_call 14; go_must (refine HG2.out.mono ?_; rintro e w8 ⟨rfl, rfl⟩)))
              go_quiet ((first | (go_at_call 7; go_must (exact Calls.quiet_of (HNF.out _ (by exact HRP.out)))) | (go_at_call 8; go_must (exact Calls.quiet_of (HLI.out _ (by exact HRP.out))))))
              go_wp2
              go_roundw
              case rel => exact ⟨k + 1, by omega, by omega, by go_num, HTW6.out.move ((Frm.refl No _).drewN _), HF6.out.drewN _⟩
              case measure => simp [intOf]; omega
          · have ho2' : (20 : Int) < (ofs.size : Int) := by omega
            go_wp2
            go_ret
            exact ⟨rfl, HF.out.alloc _⟩
        · have hs6' : (60 : Int) < (s.size : Int) := by omega
          go_wp2
          go_ret
          exact ⟨rfl, HF.out.alloc _⟩
    · go_wp2
      go_ret
      exact ⟨rfl, HF.out⟩
end Go.Proofs.YtbfekknhmjndaaaGreat.flds

namespace Go.Proofs.YtbfekknhmjndaaaGreat.flds
set_option linter.unusedVariables false set_option linter.unusedSimpArgs false
open Go.ChangeShapes Go.WideShapes Go.ChangeAt Go.RowKit Go.Proofs.YtbfekknhmjndaaaGreat.base

set_option maxRecDepth 20000 in
theorem runs_big (w : World) (line sep : ByteArray) (v : Value) (h : ¬ (line.size ≤ 60 ∧ sep.size ≤ 60)) :
    Calls Tryz.prog 3 #[.string line, .string sep, v] w fun e w' => e = .returned (.bool true) ∧ Frm No w w' := by
  by_cases h1 : line.size ≤ 60
  · have h1' : ¬ (60 : Int) < (line.size : Int) := by omega
    have h2' : (60 : Int) < (sep.size : Int) := by omega
    clear h h1
    go_enter Tryz.func3, Tryz.ntmps3
    go_wp2_with (go_at_call 4; go_must (refine (awake_f _).mono ?_; rintro e w1 ⟨rfl, hf1⟩; have HF1 := Lib.hid hf1; clear hf1))
    go_ret
    exact ⟨rfl, HF1.out⟩
  · have h1' : (60 : Int) < (line.size : Int) := by omega
    clear h h1
    go_enter Tryz.func3, Tryz.ntmps3
    go_wp2_with (go_at_call 4; go_must (refine (awake_f _).mono ?_; rintro e w1 ⟨rfl, hf1⟩; have HF1 := Lib.hid hf1; clear hf1))
    go_ret
    exact ⟨rfl, HF1.out⟩

theorem runs_all (w : World) (line sep : ByteArray) (v : Value) (A : List Ac) (hA : RdA w v A) (hm : Mx w) :
    Calls Tryz.prog 3 #[.string line, .string sep, v] w fun e w' => e = .returned (.bool true) ∧ Frm No w w' := by
  by_cases h : line.size ≤ 60 ∧ sep.size ≤ 60
  · cases hsp : spl line sep with
    | none => exact runs_none w line sep v A.length hm h.1 h.2 hsp
    | some L0 => exact runs_some w line sep v A hA hm h.1 h.2 L0 hsp
  · exact runs_big w line sep v h

theorem cells_act : Tryz.prog.cellsOf 37 = 4 := by kernel_rfl
theorem cells_s1 : Tryz.prog.cellsOf 9 = 1 := by kernel_rfl
theorem cells_i1 : Tryz.prog.cellsOf 3 = 1 := by kernel_rfl
theorem four' {l : List Value} (h : l.length = 4) : ∃ v0 v1 v2 v3, l = [v0, v1, v2, v3] := by
  match l, h with
  | [v0, v1, v2, v3], _ => exact ⟨v0, v1, v2, v3, rfl⟩
theorem act_open {H : Type} {enc : TypeId × Value → H} {w : World} {base : Nat} {sp : Nat → Bool} {held : Bool} {n : Nat} {cs : List Value} {x : DataW H × List MemPlace} (h : DataW.trod enc Tryz.prog w base sp held n 37 cs = some x) :
    ∃ a : Ac, cs = (aC a).toList ∧ AcOk a := by
  obtain ⟨xs, m, rfl, _, hl, hxs, hf⟩ := DataW.trod_struct Tryz.underlying37 h
  rw [cells_act] at hl
  obtain ⟨v0, v1, v2, v3, rfl⟩ := four' hl
  have hx4 : xs.length = 4 := hxs
  have g0 : DataW.trod enc Tryz.prog w base sp held m 3 ((([v0, v1, v2, v3] : List Value).drop 0).take (Tryz.prog.cellsOf 3)) = xs[0]? := by have h := hf 0 _ rfl; exact h
  have g1 : DataW.trod enc Tryz.prog w base sp held m 3 ((([v0, v1, v2, v3] : List Value).drop 1).take (Tryz.prog.cellsOf 3)) = xs[1]? := by have h := hf 1 _ rfl; exact h
  have g2 : DataW.trod enc Tryz.prog w base sp held m 9 ((([v0, v1, v2, v3] : List Value).drop 2).take (Tryz.prog.cellsOf 9)) = xs[2]? := by have h := hf 2 _ rfl; exact h
  have g3 : DataW.trod enc Tryz.prog w base sp held m 9 ((([v0, v1, v2, v3] : List Value).drop 3).take (Tryz.prog.cellsOf 9)) = xs[3]? := by have h := hf 3 _ rfl; exact h
  rw [cells_i1] at g0 g1
  rw [cells_s1] at g2 g3
  simp only [List.drop_zero, List.drop_succ_cons, List.take_succ_cons, List.take_zero] at g0 g1 g2 g3
  rw [List.getElem?_eq_getElem (by omega)] at g0 g1 g2 g3
  obtain ⟨i0, e0, _, _⟩ := DataW.trod_int Tryz.underlying3 g0
  obtain ⟨i1, e1, _, hw⟩ := DataW.trod_int Tryz.underlying3 g1
  obtain ⟨s2, e2, _, _⟩ := DataW.trod_string Tryz.underlying9 g2
  obtain ⟨s3, e3, _, _⟩ := DataW.trod_string Tryz.underlying9 g3
  cases e0; cases e1; cases e2; cases e3
  have hb : -9223372036854775808 ≤ i1 ∧ i1 ≤ 9223372036854775807 := by
    simpa [Lit.wf, IntKind.min, IntKind.max, IntKind.signed, IntKind.bits] using hw
  exact ⟨⟨i0, i1, s2, s3⟩, rfl, hb⟩

theorem addr_none {a : Addr} (h : a.spot = none) (n : Nat) : a.add n = ⟨a.block, a.off + n, none⟩ := by
  obtain ⟨b, o, s⟩ := a
  simp only at h
  subst h
  unfold Addr.add
  split
  · next e => subst e; rfl
  · rfl
theorem acts_of {w : World} (len : Nat) {b o : Nat} (h : ∀ i, i < len → ∃ x : Ac, AcOk x ∧ ∀ j, j < 4 → w.cell? ⟨b, o + i * 4 + j, none⟩ = (aC x)[j]?) :
    ∃ A : List Ac, A.length = len ∧ ∀ k x, A[k]? = some x → AcOk x ∧ ∀ j, j < 4 → w.cell? ⟨b, o + k * 4 + j, none⟩ = (aC x)[j]? := by
  induction len with
  | zero => exact ⟨[], rfl, fun k x hk => by cases hk⟩
  | succ n ih =>
    obtain ⟨A, hA, hB⟩ := ih (fun i hi => h i (by omega))
    obtain ⟨x, hx⟩ := h n (by omega)
    refine ⟨A ++ [x], by rw [List.length_append, hA]; rfl, fun k y hk => ?_⟩
    rw [List.getElem?_append] at hk
    split at hk
    · exact hB k y hk
    · rename_i hge
      rw [hA] at hk hge
      have hkn : k = n := by
        have := (List.getElem?_eq_some_iff.1 hk).1
        simp at this
        omega
      subst hkn
      rw [Nat.sub_self] at hk
      cases hk
      exact hx
theorem acts_open {H : Type} {enc : TypeId × Value → H} {w : World} {base : Nat} {sp : Nat → Bool} {held : Bool} {n : Nat} {v : Value} {x : DataW H × List MemPlace} (h : DataW.trod enc Tryz.prog w base sp held n 22 [v] = some x) :
    ∃ A : List Ac, RdA w v A := by
  rcases DataW.trod_slice Tryz.underlying22 h with ⟨e2, _⟩ | ⟨a, len, cap, elems, rest, k, rfl, e2, _, _, hlc, hcm, hlen, hel, _⟩
  · cases e2
    exact ⟨[], none, 0, rfl, .inl rfl⟩
  · cases e2
    have each : ∀ i, i < len → ∃ (c4 : List Value) (x : Ac), w.cells? base (a.add (i * 4)) 4 = some c4 ∧ c4 = (aC x).toList ∧ AcOk x := fun i hi => by
      have h1 := hel i hi
      rw [List.getElem?_eq_getElem (by rw [hlen]; exact hi), cells_act] at h1
      obtain ⟨c4, h2, h3⟩ := Option.bind_eq_some_iff.1 h1
      obtain ⟨x, h4, h5⟩ := act_open h3
      exact ⟨c4, x, h2, h4, h5⟩
    by_cases h0 : len = 0
    · subst h0
      exact ⟨[], some a, cap, rfl, .inl rfl⟩
    have hs : a.spot = none := by
      obtain ⟨c4, x, h2, h3, _⟩ := each 0 (by omega)
      obtain ⟨_, h5, h4⟩ := World.cells?_some h2
      have h6 := h4 0 (by omega)
      rw [List.getElem?_eq_getElem (by omega)] at h6
      have h7 := World.cell?_spot h6
      rw [Nat.zero_mul] at h7
      simpa [Addr.add] using h7
    obtain ⟨A, hA, hB⟩ := acts_of (w := w) (b := a.block) (o := a.off) len (fun i hi => by
      obtain ⟨c4, x, h2, rfl, hok⟩ := each i hi
      obtain ⟨_, _, h4⟩ := World.cells?_some h2
      rw [addr_none hs] at h4
      refine ⟨x, hok, fun j hj => ?_⟩
      have := h4 j hj
      rw [addr_none rfl] at this
      rw [this]
      simp)
    refine ⟨A, some a, cap, by rw [hA], .inr ⟨a.block, a.off, by rw [← hs], hB⟩⟩
end Go.Proofs.YtbfekknhmjndaaaGreat.flds
