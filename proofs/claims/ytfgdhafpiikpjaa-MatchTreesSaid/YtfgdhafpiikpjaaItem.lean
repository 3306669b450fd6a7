/- Contracts of a set's items: itemByte, atRange, rangeEnd, classPairs. -/
import Derived.Test.YtfgdhafpiikpjaaAdd2
import Derived.Test.YtfgdhafpiikpjaaShelf
namespace Go.Proofs.Ytfgdhafpiikpjaa.items
set_option linter.unusedVariables false set_option linter.unusedSimpArgs false
open Go.ChangeShapes Go.WideShapes Go.ChangeAt Go.RowKit Go.Proofs.Ytfgdhafpiikpjaa.base Go.Proofs.Ytfgdhafpiikpjaa.read Go.Proofs.Ytfgdhafpiikpjaa.spec Go.Proofs.Ytfgdhafpiikpjaa.set Go.Proofs.Ytfgdhafpiikpjaa.nums Go.Proofs.Ytfgdhafpiikpjaa.parts

theorem atRange_all (w : World) (R : Nat) (s : ByteArray) (d : Nat) (l : List UInt8) (h : Rd w R s d l) :
    Calls Try.prog 94 #[.pointer (some ⟨R, 0, none⟩)] w fun e w' => e = .returned (.bool (atRange l)) ∧ ∃ n, w' = w.drewN n := by
  have H := Lib.hid h
  clear h
  by_cases h1 : hd l 45 = true
  · have HE := Lib.hid (show (!pre2 l 45 93) = atRange l by simp [atRange, h1])
    go_enter Try.func94, Try.ntmps94
    go_wp2_with (first | (go_at_call 67; go_must (refine (at_all _ R s d l 45 _ rfl (by exact H.out)).mono ?_; rintro e _ ⟨rfl, n1, rfl⟩)) | (go_at_call 91; go_must (refine (sees_all _ R s d l 45 93 (by exact H.out)).mono ?_; rintro e _ ⟨rfl, n2, rfl⟩)))
    go_ret
    exact ⟨ret_bool HE.out, _, rfl⟩
  · have f1 : hd l 45 = false := by simpa using h1
    have HE := Lib.hid (show false = atRange l by simp [atRange, f1])
    clear h1
    go_enter Try.func94, Try.ntmps94
    go_wp2_with (first | (go_at_call 67; go_must (refine (at_all _ R s d l 45 _ rfl (by exact H.out)).mono ?_; rintro e _ ⟨rfl, n1, rfl⟩)))
    go_ret
    exact ⟨ret_bool HE.out, _, rfl⟩

theorem itemByte_ok (w : World) (R : Nat) (s : ByteArray) (d : Nat) (l l' : List UInt8) (b : UInt8) (h : Rd w R s d l) (he : itemByte l = .ok b l') :
    Calls Try.prog 93 #[.pointer (some ⟨R, 0, none⟩)] w fun e w' => e = .returned (.tuple #[.int .u8 (b.toNat : Int), .int .i64 0]) ∧ Rd w' R s d l' ∧ Frm (At R) w w' := by
  have H := Lib.hid h
  clear h
  cases l with
  | nil => cases he
  | cons c t =>
    by_cases hc : c = 92
    · subst hc
      have HS := Lib.hid (show esc t = .ok b l' by simpa [itemByte] using he)
      clear he
      have hh : hd (92 :: t) 92 = true := rfl
      go_enter Try.func93, Try.ntmps93
      go_wp2_with (first | (go_at_call 46; go_must (refine (done_all _ R s d _ (by exact H.out)).mono ?_; rintro e _ ⟨rfl, n1, rfl⟩)) | (go_at_call 60; go_must (refine (take_all _ R s d (92 :: t) 92 _ rfl (by exact H.out)).mono ?_; rintro e w1 ⟨rfl, hr1, hf1⟩; rw [if_pos hh] at hr1; have HR1 := Lib.hid hr1; have HF1 := Lib.hid hf1; clear hr1 hf1)) | (go_at_call 87; go_must (refine (escape_ok _ R s d t l' b (by exact HR1.out) HS.out).mono ?_; rintro e w2 ⟨rfl, hr2, hf2⟩)))
      exact bodyPost_ret (v := .tuple #[.int .u8 (b.toNat : Int), .int .i64 0]) (by simp [results, Try.results93, go_sem]) rfl ⟨rfl, hr2, ((Frm.refl (At R) w).drewN n1).trans (HF1.out.trans hf2)⟩
    · obtain ⟨rfl, rfl⟩ : c = b ∧ t = l' := by
        simp only [itemByte, if_neg hc] at he
        cases he
        exact ⟨rfl, rfl⟩
      have hh : hd (c :: t) 92 = false := by simpa [hd] using hc
      clear he hc
      go_enter Try.func93, Try.ntmps93
      go_wp2_with (first | (go_at_call 46; go_must (refine (done_all _ R s d _ (by exact H.out)).mono ?_; rintro e _ ⟨rfl, n1, rfl⟩)) | (go_at_call 60; go_must (refine (take_all _ R s d (c :: t) 92 _ rfl (by exact H.out)).mono ?_; rintro e w1 ⟨rfl, hr1, hf1⟩; rw [if_neg (by rw [hh]; decide)] at hr1; have HR1 := Lib.hid hr1; have HF1 := Lib.hid hf1; clear hr1 hf1)) | (go_at_call 75; go_must (refine (next_all _ R s d c t (by exact HR1.out)).mono ?_; rintro e w2 ⟨rfl, hr2, hf2⟩)))
      exact bodyPost_ret (v := .tuple #[.int .u8 (c.toNat : Int), .int .i64 0]) (by simp [results, Try.results93, go_sem]) rfl ⟨rfl, hr2, ((Frm.refl (At R) w).drewN n1).trans (HF1.out.trans hf2)⟩

theorem itemByte_bad (w : World) (R : Nat) (s : ByteArray) (d f : Nat) (l : List UInt8) (h : Rd w R s d l) (he : itemByte l = .bad f) :
    Calls Try.prog 93 #[.pointer (some ⟨R, 0, none⟩)] w fun e w' => ∃ l', e = .returned (.tuple #[.int .u8 0, .int .i64 f]) ∧ (f = 2 ∨ f = 4) ∧ Rd w' R s d l' ∧ Frm (At R) w w' := by
  have H := Lib.hid h
  clear h
  cases l with
  | nil =>
    cases he
    go_enter Try.func93, Try.ntmps93
    go_wp2_with (first | (go_at_call 46; go_must (refine (done_all _ R s d _ (by exact H.out)).mono ?_; rintro e _ ⟨rfl, n1, rfl⟩)))
    refine bodyPost_ret (v := .tuple #[.int .u8 0, .int .i64 2]) (by simp [results, Try.results93, go_sem]) rfl ?_
    exact ⟨[], rfl, by decide, H.out, (Frm.refl (At R) w).drewN n1⟩
  | cons c t =>
    by_cases hc : c = 92
    · subst hc
      have HS := Lib.hid (show esc t = .bad f by simpa [itemByte] using he)
      clear he
      have hh : hd (92 :: t) 92 = true := rfl
      go_enter Try.func93, Try.ntmps93
      go_wp2_with (first | (go_at_call 46; go_must (refine (done_all _ R s d _ (by exact H.out)).mono ?_; rintro e _ ⟨rfl, n1, rfl⟩)) | (go_at_call 60; go_must (refine (take_all _ R s d (92 :: t) 92 _ rfl (by exact H.out)).mono ?_; rintro e w1 ⟨rfl, hr1, hf1⟩; rw [if_pos hh] at hr1; have HR1 := Lib.hid hr1; have HF1 := Lib.hid hf1; clear hr1 hf1)) | (go_at_call 87; go_must (refine (escape_bad _ R s d f t (by exact HR1.out) HS.out).mono ?_; rintro e w2 ⟨rfl, hf4, hr2, hf2⟩)))
      refine bodyPost_ret (v := .tuple #[.int .u8 0, .int .i64 f]) (by simp [results, Try.results93, go_sem, hf4]) rfl ?_
      exact ⟨t, rfl, Or.inr hf4, hr2, ((Frm.refl (At R) w).drewN n1).trans (HF1.out.trans hf2)⟩
    · simp only [itemByte, if_neg hc] at he
      cases he

theorem rangeEnd_ok (w : World) (R : Nat) (s : ByteArray) (d : Nat) (l l' : List UInt8) (b : UInt8) (h : Rd w R s d l) (he : rangeEnd l = .ok b l') :
    Calls Try.prog 95 #[.pointer (some ⟨R, 0, none⟩)] w fun e w' => e = .returned (.tuple #[.int .u8 (b.toNat : Int), .int .i64 0]) ∧ Rd w' R s d l' ∧ Frm (At R) w w' := by
  have H := Lib.hid h
  clear h
  by_cases hp : pre2 l 91 58 = true
  · simp only [rangeEnd, if_pos hp] at he
    cases he
  · have f1 : pre2 l 91 58 = false := by simpa using hp
    have HS := Lib.hid (show itemByte l = .ok b l' by simpa [rangeEnd, f1] using he)
    clear hp he
    go_enter Try.func95, Try.ntmps95
    go_wp2_with (first | (go_at_call 91; go_must (refine (sees_all _ R s d l 91 58 (by exact H.out)).mono ?_; rintro e _ ⟨rfl, n2, rfl⟩)) | (go_at_call 93; go_must (refine (itemByte_ok _ R s d l l' b (by exact H.out) HS.out).mono ?_; rintro e w2 ⟨rfl, hr2, hf2⟩)))
    exact bodyPost_ret (v := .tuple #[.int .u8 (b.toNat : Int), .int .i64 0]) (by simp [results, Try.results95, go_sem]) rfl ⟨rfl, hr2, ((Frm.refl (At R) w).drewN n2).trans hf2⟩
theorem rangeEnd_bad (w : World) (R : Nat) (s : ByteArray) (d f : Nat) (l : List UInt8) (h : Rd w R s d l) (he : rangeEnd l = .bad f) :
    Calls Try.prog 95 #[.pointer (some ⟨R, 0, none⟩)] w fun e w' => ∃ l', e = .returned (.tuple #[.int .u8 0, .int .i64 f]) ∧ (f = 2 ∨ f = 4) ∧ Rd w' R s d l' ∧ Frm (At R) w w' := by
  have H := Lib.hid h
  clear h
  by_cases hp : pre2 l 91 58 = true
  · simp only [rangeEnd, if_pos hp] at he
    cases he
    go_enter Try.func95, Try.ntmps95
    go_wp2_with (first | (go_at_call 91; go_must (refine (sees_all _ R s d l 91 58 (by exact H.out)).mono ?_; rintro e _ ⟨rfl, n2, rfl⟩)))
    refine bodyPost_ret (v := .tuple #[.int .u8 0, .int .i64 2]) (by simp [results, Try.results95, go_sem]) rfl ?_
    exact ⟨l, rfl, by decide, H.out, (Frm.refl (At R) w).drewN n2⟩
  · have f1 : pre2 l 91 58 = false := by simpa using hp
    have HS := Lib.hid (show itemByte l = .bad f by simpa [rangeEnd, f1] using he)
    clear hp he
    go_enter Try.func95, Try.ntmps95
    go_wp2_with (first | (go_at_call 91; go_must (refine (sees_all _ R s d l 91 58 (by exact H.out)).mono ?_; rintro e _ ⟨rfl, n2, rfl⟩)) | (go_at_call 93; go_must (refine (itemByte_bad _ R s d f l (by exact H.out) HS.out).mono ?_; rintro e w2 ⟨l2, rfl, hf4, hr2, hf2⟩)))
    refine bodyPost_ret (v := .tuple #[.int .u8 0, .int .i64 f]) (by simp [results, Try.results95, go_sem]) rfl ?_
    exact ⟨l2, rfl, hf4, hr2, ((Frm.refl (At R) w).drewN n2).trans hf2⟩

set_option maxHeartbeats 1000000 in
theorem classPairs_all (w : World) (nm : ByteArray) :
    Calls Try.prog 101 #[.string nm] w fun e w' => e = .returned (.string ⟨(pairs nm.toList).toArray⟩) ∧ w' = w := by
  go_enter Try.func101, Try.ntmps101
  go_wp2
  all_goals go_ret
  all_goals
    refine ⟨?_, rfl⟩
    generalize nm.toList = L at *
    simp only [beq_iff_eq, beq_eq_false_iff_ne, ne_eq] at *
    simp_all [pairs]

def evenB (l : List UInt8) : Bool := decide (l.length % 2 = 0) && decide (l.length ≤ 8)
theorem ite_even (c : Prop) [Decidable c] (a b : List UInt8) (ha : evenB a = true) (hb : evenB b = true) : evenB (if c then a else b) = true := by
  by_cases h : c
  · rw [if_pos h]; exact ha
  · rw [if_neg h]; exact hb
theorem pairs_even' (n : List UInt8) : evenB (pairs n) = true := by
  unfold pairs
  iterate 12 (refine ite_even _ _ _ rfl ?_)
  rfl
theorem pairs_even (n : List UInt8) : (pairs n).length % 2 = 0 ∧ (pairs n).length ≤ 8 := by
  have := pairs_even' n
  simpa [evenB] using this

theorem cut_index (l : List UInt8) : match cutC l with
    | some (a, b) => Lib.index l [58, 93] = (a.length : Nat) ∧ l = a ++ 58 :: 93 :: b
    | none => Lib.index l [58, 93] = -1 := by
  induction l with
  | nil => rfl
  | cons x l ih =>
    cases l with
    | nil =>
      show Lib.index [x] [58, 93] = -1
      simp [Lib.index, List.isPrefixOf]
    | cons y t =>
      by_cases h : x = 58 ∧ y = 93
      · obtain ⟨rfl, rfl⟩ := h
        simp only [cutC, and_self, if_true]
        refine ⟨?_, rfl⟩
        simp [Lib.index, List.isPrefixOf]
      · have hp : List.isPrefixOf [58, 93] (x :: y :: t) = false := by
          rw [Bool.eq_false_iff]
          intro e
          simp [List.isPrefixOf] at e
          exact h ⟨e.1.symm, e.2.symm⟩
        have hi : Lib.index (x :: y :: t) [58, 93] = if Lib.index (y :: t) [58, 93] == -1 then -1 else Lib.index (y :: t) [58, 93] + 1 := by
          rw [Lib.index, hp]; rfl
        simp only [cutC, if_neg h]
        cases hc : cutC (y :: t) with
        | none =>
          rw [hc] at ih
          simp only [Option.map_none]
          rw [hi, show Lib.index (y :: t) [58, 93] = -1 from ih]
          rfl
        | some p =>
          obtain ⟨a, b⟩ := p
          rw [hc] at ih
          obtain ⟨h1, h2⟩ := ih
          simp only [Option.map_some]
          refine ⟨?_, by rw [h2]; rfl⟩
          rw [hi, h1]
          have : (((a.length : Nat) : Int) == -1) = false := by simp
          rw [this]
          simp
/-- 'strings.Cut' at ":]". -/
theorem cut_some {l a b : List UInt8} (h : cutC l = some (a, b)) : Lib.cut l [58, 93] = (a, b, true) := by
  have := cut_index l
  rw [h] at this
  obtain ⟨h1, h2⟩ := this
  unfold Lib.cut
  rw [h1, if_pos (by omega)]
  subst h2
  simp
theorem cut_none {l : List UInt8} (h : cutC l = none) : Lib.cut l [58, 93] = (l, [], false) := by
  have := cut_index l
  rw [h] at this
  unfold Lib.cut
  rw [this]
  rfl
end Go.Proofs.Ytfgdhafpiikpjaa.items
