/- Contracts of a set's items: itemByte, atRange, rangeEnd, classPairs. Contracts of a set's items: classItem, item. Contract of ere's item of a set. -/
import Derived.Test.YtbfekknhmjndaaaGreatAdd2
import Derived.Test.YtbfekknhmjndaaaGreatShelf

namespace Go.Proofs.YtbfekknhmjndaaaGreat.items
set_option linter.unusedVariables false set_option linter.unusedSimpArgs false
open Go.ChangeShapes Go.WideShapes Go.ChangeAt Go.RowKit Go.Proofs.YtbfekknhmjndaaaGreat.base Go.Proofs.YtbfekknhmjndaaaGreat.read Go.Proofs.YtbfekknhmjndaaaGreat.spec Go.Proofs.YtbfekknhmjndaaaGreat.set Go.Proofs.YtbfekknhmjndaaaGreat.nums Go.Proofs.YtbfekknhmjndaaaGreat.parts

theorem atRange_all (w : World) (R : Nat) (s : ByteArray) (d : Nat) (l : List UInt8) (h : Rd w R s d l) :
    Calls Tryz.prog 121 #[.pointer (some ⟨R, 0, none⟩)] w fun e w' => e = .returned (.bool (atRange l)) ∧ ∃ n, w' = w.drewN n := by
  have H := Lib.hid h
  clear h
  by_cases h1 : hd l 45 = true
  · have HE := Lib.hid (show (!pre2 l 45 93) = atRange l by simp [atRange, h1])
    go_enter Tryz.func121, Tryz.ntmps121
    go_wp2_with (first | (go_at_call 80; go_must (refine (at_all _ R s d l 45 _ rfl (by exact H.out)).mono ?_; rintro e _ ⟨rfl, n1, rfl⟩)) | (go_at_call 118; go_must (refine (sees_all _ R s d l 45 93 (by exact H.out)).mono ?_; rintro e _ ⟨rfl, n2, rfl⟩)))
    go_ret
    exact ⟨ret_bool HE.out, _, rfl⟩
  · have f1 : hd l 45 = false := by simpa using h1
    have HE := Lib.hid (show false = atRange l by simp [atRange, f1])
    clear h1
    go_enter Tryz.func121, Tryz.ntmps121
    go_wp2_with (first | (go_at_call 80; go_must (refine (at_all _ R s d l 45 _ rfl (by exact H.out)).mono ?_; rintro e _ ⟨rfl, n1, rfl⟩)))
    go_ret
    exact ⟨ret_bool HE.out, _, rfl⟩

theorem itemByte_ok (w : World) (R : Nat) (s : ByteArray) (d : Nat) (l l' : List UInt8) (b : UInt8) (h : Rd w R s d l) (he : itemByte l = .ok b l') :
    Calls Tryz.prog 120 #[.pointer (some ⟨R, 0, none⟩)] w fun e w' => e = .returned (.tuple #[.int .u8 (b.toNat : Int), .int .i64 0]) ∧ Rd w' R s d l' ∧ Frm (At R) w w' := by
  have H := Lib.hid h
  clear h
  cases l with
  | nil => cases he
  | cons c t =>
    by_cases hc : c = 92
    · subst hc
      have HS := Lib.hid (show esc t = .ok b l' by simpa [itemByte] using he)
      clear he
      have hh : hd (92 :: t) 92 = true := rfl
      go_enter Tryz.func120, Tryz.ntmps120
      go_wp2_with (first | (go_at_call 48; go_must (refine (done_all _ R s d _ (by exact H.out)).mono ?_; rintro e _ ⟨rfl, n1, rfl⟩)) | (go_at_call 63; go_must (refine (take_all _ R s d (92 :: t) 92 _ rfl (by exact H.out)).mono ?_; rintro e w1 ⟨rfl, hr1, hf1⟩; rw [if_pos hh] at hr1; have HR1 := Lib.hid hr1; have HF1 := Lib.hid hf1; clear hr1 hf1)) | (go_at_call 113; go_must (refine (escape_ok _ R s d t l' b (by exact HR1.out) HS.out).mono ?_; rintro e w2 ⟨rfl, hr2, hf2⟩)))
      exact bodyPost_ret (v := .tuple #[.int .u8 (b.toNat : Int), .int .i64 0]) (by simp [results, Tryz.results120, go_sem]) rfl ⟨rfl, hr2, ((Frm.refl (At R) w).drewN n1).trans (HF1.out.trans hf2)⟩
    · obtain ⟨rfl, rfl⟩ : c = b ∧ t = l' := by
        simp only [itemByte, if_neg hc] at he
        cases he
        exact ⟨rfl, rfl⟩
      have hh : hd (c :: t) 92 = false := by simpa [hd] using hc
      clear he hc
      go_enter Tryz.func120, Tryz.ntmps120
      go_wp2_with (first | (go_at_call 48; go_must (refine (done_all _ R s d _ (by exact H.out)).mono ?_; rintro e _ ⟨rfl, n1, rfl⟩)) | (go_at_call 63; go_must (refine (take_all _ R s d (c :: t) 92 _ rfl (by exact H.out)).mono ?_; rintro e w1 ⟨rfl, hr1, hf1⟩; rw [if_neg (by rw [hh]; decide)] at hr1; have HR1 := Lib.hid hr1; have HF1 := Lib.hid hf1; clear hr1 hf1)) | (go_at_call 99; go_must (refine (next_all _ R s d c t (by exact HR1.out)).mono ?_; rintro e w2 ⟨rfl, hr2, hf2⟩)))
      exact bodyPost_ret (v := .tuple #[.int .u8 (c.toNat : Int), .int .i64 0]) (by simp [results, Tryz.results120, go_sem]) rfl ⟨rfl, hr2, ((Frm.refl (At R) w).drewN n1).trans (HF1.out.trans hf2)⟩

theorem itemByte_bad (w : World) (R : Nat) (s : ByteArray) (d f : Nat) (l : List UInt8) (h : Rd w R s d l) (he : itemByte l = .bad f) :
    Calls Tryz.prog 120 #[.pointer (some ⟨R, 0, none⟩)] w fun e w' => ∃ l', e = .returned (.tuple #[.int .u8 0, .int .i64 f]) ∧ (f = 2 ∨ f = 4) ∧ Rd w' R s d l' ∧ Frm (At R) w w' := by
  have H := Lib.hid h
  clear h
  cases l with
  | nil =>
    cases he
    go_enter Tryz.func120, Tryz.ntmps120
    go_wp2_with (first | (go_at_call 48; go_must (refine (done_all _ R s d _ (by exact H.out)).mono ?_; rintro e _ ⟨rfl, n1, rfl⟩)))
    refine bodyPost_ret (v := .tuple #[.int .u8 0, .int .i64 2]) (by simp [results, Tryz.results120, go_sem]) rfl ?_
    exact ⟨[], rfl, by decide, H.out, (Frm.refl (At R) w).drewN n1⟩
  | cons c t =>
    by_cases hc : c = 92
    · subst hc
      have HS := Lib.hid (show esc t = .bad f by simpa [itemByte] using he)
      clear he
      have hh : hd (92 :: t) 92 = true := rfl
      go_enter Tryz.func120, Tryz.ntmps120
      go_wp2_with (first | (go_at_call 48; go_must (refine (done_all _ R s d _ (by exact H.out)).mono ?_; rintro e _ ⟨rfl, n1, rfl⟩)) | (go_at_call 63; go_must (refine (take_all _ R s d (92 :: t) 92 _ rfl (by exact H.out)).mono ?_; rintro e w1 ⟨rfl, hr1, hf1⟩; rw [if_pos hh] at hr1; have HR1 := Lib.hid hr1; have HF1 := Lib.hid hf1; clear hr1 hf1)) | (go_at_call 113; go_must (refine (escape_bad _ R s d f t (by exact HR1.out) HS.out).mono ?_; rintro e w2 ⟨rfl, hf4, hr2, hf2⟩)))
      refine bodyPost_ret (v := .tuple #[.int .u8 0, .int .i64 f]) (by simp [results, Tryz.results120, go_sem, hf4]) rfl ?_
      exact ⟨t, rfl, Or.inr hf4, hr2, ((Frm.refl (At R) w).drewN n1).trans (HF1.out.trans hf2)⟩
    · simp only [itemByte, if_neg hc] at he
      cases he

theorem rangeEnd_ok (w : World) (R : Nat) (s : ByteArray) (d : Nat) (l l' : List UInt8) (b : UInt8) (h : Rd w R s d l) (he : rangeEnd l = .ok b l') :
    Calls Tryz.prog 122 #[.pointer (some ⟨R, 0, none⟩)] w fun e w' => e = .returned (.tuple #[.int .u8 (b.toNat : Int), .int .i64 0]) ∧ Rd w' R s d l' ∧ Frm (At R) w w' := by
  have H := Lib.hid h
  clear h
  by_cases hp : pre2 l 91 58 = true
  · simp only [rangeEnd, if_pos hp] at he
    cases he
  · have f1 : pre2 l 91 58 = false := by simpa using hp
    have HS := Lib.hid (show itemByte l = .ok b l' by simpa [rangeEnd, f1] using he)
    clear hp he
    go_enter Tryz.func122, Tryz.ntmps122
    go_wp2_with (first | (go_at_call 118; go_must (refine (sees_all _ R s d l 91 58 (by exact H.out)).mono ?_; rintro e _ ⟨rfl, n2, rfl⟩)) | (go_at_call 120; go_must (refine (itemByte_ok _ R s d l l' b (by exact H.out) HS.out).mono ?_; rintro e w2 ⟨rfl, hr2, hf2⟩)))
    exact bodyPost_ret (v := .tuple #[.int .u8 (b.toNat : Int), .int .i64 0]) (by simp [results, Tryz.results122, go_sem]) rfl ⟨rfl, hr2, ((Frm.refl (At R) w).drewN n2).trans hf2⟩
theorem rangeEnd_bad (w : World) (R : Nat) (s : ByteArray) (d f : Nat) (l : List UInt8) (h : Rd w R s d l) (he : rangeEnd l = .bad f) :
    Calls Tryz.prog 122 #[.pointer (some ⟨R, 0, none⟩)] w fun e w' => ∃ l', e = .returned (.tuple #[.int .u8 0, .int .i64 f]) ∧ (f = 2 ∨ f = 4) ∧ Rd w' R s d l' ∧ Frm (At R) w w' := by
  have H := Lib.hid h
  clear h
  by_cases hp : pre2 l 91 58 = true
  · simp only [rangeEnd, if_pos hp] at he
    cases he
    go_enter Tryz.func122, Tryz.ntmps122
    go_wp2_with (first | (go_at_call 118; go_must (refine (sees_all _ R s d l 91 58 (by exact H.out)).mono ?_; rintro e _ ⟨rfl, n2, rfl⟩)))
    refine bodyPost_ret (v := .tuple #[.int .u8 0, .int .i64 2]) (by simp [results, Tryz.results122, go_sem]) rfl ?_
    exact ⟨l, rfl, by decide, H.out, (Frm.refl (At R) w).drewN n2⟩
  · have f1 : pre2 l 91 58 = false := by simpa using hp
    have HS := Lib.hid (show itemByte l = .bad f by simpa [rangeEnd, f1] using he)
    clear hp he
    go_enter Tryz.func122, Tryz.ntmps122
    go_wp2_with (first | (go_at_call 118; go_must (refine (sees_all _ R s d l 91 58 (by exact H.out)).mono ?_; rintro e _ ⟨rfl, n2, rfl⟩)) | (go_at_call 120; go_must (refine (itemByte_bad _ R s d f l (by exact H.out) HS.out).mono ?_; rintro e w2 ⟨l2, rfl, hf4, hr2, hf2⟩)))
    refine bodyPost_ret (v := .tuple #[.int .u8 0, .int .i64 f]) (by simp [results, Tryz.results122, go_sem]) rfl ?_
    exact ⟨l2, rfl, hf4, hr2, ((Frm.refl (At R) w).drewN n2).trans hf2⟩

set_option maxHeartbeats 1000000 in
theorem classPairs_all (w : World) (nm : ByteArray) :
    Calls Tryz.prog 128 #[.string nm] w fun e w' => e = .returned (.string ⟨(pairs nm.toList).toArray⟩) ∧ w' = w := by
  go_enter Tryz.func128, Tryz.ntmps128
  go_wp2
  all_goals go_ret
  all_goals
    refine ⟨?_, rfl⟩
    generalize nm.toList = L at *
    simp only [beq_iff_eq, beq_eq_false_iff_ne, ne_eq] at *
    simp_all [pairs]

def evenB (l : List UInt8) : Bool := decide (l.length % 2 = 0) && decide (l.length ≤ 8)
theorem ite_even (c : Prop) [Decidable c] (a b : List UInt8) (ha : evenB a = true) (hb : evenB b = true) : evenB (if c then a else b) = true := by
  by_cases h : c
  · rw [if_pos h]; exact ha
  · rw [if_neg h]; exact hb
theorem pairs_even' (n : List UInt8) : evenB (pairs n) = true := by
  unfold pairs
  iterate 12 (refine ite_even _ _ _ rfl ?_)
  rfl
theorem pairs_even (n : List UInt8) : (pairs n).length % 2 = 0 ∧ (pairs n).length ≤ 8 := by
  have := pairs_even' n
  simpa [evenB] using this

theorem cut_index (l : List UInt8) : match cutC l with
    | some (a, b) => Lib.index l [58, 93] = (a.length : Nat) ∧ l = a ++ 58 :: 93 :: b
    | none => Lib.index l [58, 93] = -1 := by
  induction l with
  | nil => rfl
  | cons x l ih =>
    cases l with
    | nil =>
      show Lib.index [x] [58, 93] = -1
      simp [Lib.index, List.isPrefixOf]
    | cons y t =>
      by_cases h : x = 58 ∧ y = 93
      · obtain ⟨rfl, rfl⟩ := h
        simp only [cutC, and_self, if_true]
        refine ⟨?_, rfl⟩
        simp [Lib.index, List.isPrefixOf]
      · have hp : List.isPrefixOf [58, 93] (x :: y :: t) = false := by
          rw [Bool.eq_false_iff]
          intro e
          simp [List.isPrefixOf] at e
          exact h ⟨e.1.symm, e.2.symm⟩
        have hi : Lib.index (x :: y :: t) [58, 93] = if Lib.index (y :: t) [58, 93] == -1 then -1 else Lib.index (y :: t) [58, 93] + 1 := by
          rw [Lib.index, hp]; rfl
        simp only [cutC, if_neg h]
        cases hc : cutC (y :: t) with
        | none =>
          rw [hc] at ih
          simp only [Option.map_none]
          rw [hi, show Lib.index (y :: t) [58, 93] = -1 from ih]
          rfl
        | some p =>
          obtain ⟨a, b⟩ := p
          rw [hc] at ih
          obtain ⟨h1, h2⟩ := ih
          simp only [Option.map_some]
          refine ⟨?_, by rw [h2]; rfl⟩
          rw [hi, h1]
          have : (((a.length : Nat) : Int) == -1) = false := by simp
          rw [this]
          simp
/-- 'strings.Cut' at ":]". -/
theorem cut_some {l a b : List UInt8} (h : cutC l = some (a, b)) : Lib.cut l [58, 93] = (a, b, true) := by
  have := cut_index l
  rw [h] at this
  obtain ⟨h1, h2⟩ := this
  unfold Lib.cut
  rw [h1, if_pos (by omega)]
  subst h2
  simp
theorem cut_none {l : List UInt8} (h : cutC l = none) : Lib.cut l [58, 93] = (l, [], false) := by
  have := cut_index l
  rw [h] at this
  unfold Lib.cut
  rw [this]
  rfl
end Go.Proofs.YtbfekknhmjndaaaGreat.items

namespace Go.Proofs.YtbfekknhmjndaaaGreat.items
set_option linter.unusedVariables false set_option linter.unusedSimpArgs false
open Go.ChangeShapes Go.WideShapes Go.ChangeAt Go.RowKit Go.Proofs.YtbfekknhmjndaaaGreat.base Go.Proofs.YtbfekknhmjndaaaGreat.read Go.Proofs.YtbfekknhmjndaaaGreat.spec Go.Proofs.YtbfekknhmjndaaaGreat.set Go.Proofs.YtbfekknhmjndaaaGreat.nums Go.Proofs.YtbfekknhmjndaaaGreat.parts

/-- The set in the variable Q. -/
def SV (w : World) (Q : Nat) (f : Nat → Bool) : Prop := Box w Q 154 (bA f)
theorem SV.frm {S : Nat → Prop} {w w' : World} {Q : Nat} {f : Nat → Bool} (h : SV w Q f) (k : Frm S w w') (hs : ¬ S Q) : SV w' Q f := Box.frm h k hs

theorem pre2_len {l : List UInt8} {a b : UInt8} (h : pre2 l a b = true) : 2 ≤ l.length := by
  match l with
  | [] => cases h
  | [x] => cases h
  | x :: y :: t => simp

/-- The reader behind what is behind a place. -/
theorem RdI.at {w : World} {R : Nat} {s : ByteArray} {d i : Nat} (h : RdI w R s d i) (a b : List UInt8) (e : sx s i = a ++ b) : sx s (s.size - b.length) = b ∧ b.length ≤ s.size := by
  have hl := sx_len s i
  rw [e, List.length_append] at hl
  have hi := h.2.1
  refine ⟨?_, by omega⟩
  have : s.size - b.length = i + a.length := by omega
  rw [this]
  unfold sx at *
  rw [← List.drop_drop, e, List.drop_left]

theorem ext_list (s : ByteArray) (a b : Nat) : (s.extract a b).data.toList = (s.data.toList.take b).drop a := by rw [extract_list]
theorem rest_list {s : ByteArray} {i : Nat} {l : List UInt8} (e : sx s i = l) : (s.extract i s.size).data.toList = l := by
  rw [ext_list, ← e, sx, List.take_of_length_le (by simp)]
theorem rest2_list {s : ByteArray} {i : Nat} {l : List UInt8} (e : sx s i = l) : ((s.extract i s.size).extract 2 (s.size - i)).data.toList = l.drop 2 := by
  rw [ext_list, rest_list e, List.take_of_length_le (by rw [← e, sx_len]; exact Nat.le_refl _)]

theorem cutCall_some (w : World) (X : ByteArray) (hx : X.size ≤ 100000) (hm : Mx w) (l a b : List UInt8) (hl : X.data.toList = l) (hc : cutC l = some (a, b)) :
    Calls Tryz.prog 127 #[.string X, .string ⟨#[58, 93]⟩] w fun e w' => e = .returned (.tuple #[.string ⟨a.toArray⟩, .string ⟨b.toArray⟩, .bool true]) ∧ ∃ n, w' = w.drewN n := by
  obtain ⟨m, hm⟩ := hm
  refine (Tryz.strings_Cut X ⟨#[58, 93]⟩ m w (by omega) hm).mono ?_
  rintro e w' ⟨rfl, h⟩
  rw [hl]
  have : Lib.cut l (⟨#[58, 93]⟩ : ByteArray).data.toList = (a, b, true) := cut_some hc
  rw [this]
  exact ⟨rfl, h⟩
theorem cutCall_none (w : World) (X : ByteArray) (hx : X.size ≤ 100000) (hm : Mx w) (l : List UInt8) (hl : X.data.toList = l) (hc : cutC l = none) :
    Calls Tryz.prog 127 #[.string X, .string ⟨#[58, 93]⟩] w fun e w' => e = .returned (.tuple #[.string ⟨l.toArray⟩, .string ⟨#[]⟩, .bool false]) ∧ ∃ n, w' = w.drewN n := by
  obtain ⟨m, hm⟩ := hm
  refine (Tryz.strings_Cut X ⟨#[58, 93]⟩ m w (by omega) hm).mono ?_
  rintro e w' ⟨rfl, h⟩
  rw [hl]
  have : Lib.cut l (⟨#[58, 93]⟩ : ByteArray).data.toList = (l, [], false) := cut_none hc
  rw [this]
  exact ⟨rfl, h⟩
theorem classPairs_c (w : World) (a : List UInt8) :
    Calls Tryz.prog 128 #[.string ⟨a.toArray⟩] w fun e w' => e = .returned (.string ⟨(pairs a).toArray⟩) ∧ w' = w := by
  have := classPairs_all w ⟨a.toArray⟩
  rw [ByteArray.toList_mk] at this
  exact this

set_option maxHeartbeats 1000000 in
theorem classItem_bad1 (w : World) (R Q : Nat) (s : ByteArray) (d : Nat) (l : List UInt8) (h : Rd w R s d l) (hp : 2 ≤ l.length) (he : cutC (l.drop 2) = none) :
    Calls Tryz.prog 119 #[.pointer (some ⟨R, 0, none⟩), .pointer (some ⟨Q, 0, none⟩)] w fun e w' => e = .returned (.int .i64 2) ∧ ∃ n, w' = w.drewN n := by
  obtain ⟨i, h, e⟩ := h
  have hl := sx_len s i
  rw [e] at hl
  have hi := h.2.1
  have hz := h.2.2.1
  have hsz : (s.extract i s.size).size = s.size - i := by simp
  have hX2 : ((s.extract i s.size).extract 2 (s.size - i)).size ≤ 100000 := by simp; omega
  have HM := Lib.hid h.2.2.2.2.2
  have HH := Lib.hid h
  have HX := Lib.hid (rest2_list e)
  have HE := Lib.hid he
  clear h e he
  go_enter Tryz.func119, Tryz.ntmps119
  go_wp2_with (first | (go_at_call 126; go_must (refine (rest_all _ R s d i (by exact HH.out)).mono ?_; rintro e _ ⟨rfl, n1, rfl⟩)) | (go_at_call 127; go_must (refine (cutCall_none _ _ hX2 (by exact HM.out) (l.drop 2) HX.out HE.out).mono ?_; rintro e _ ⟨rfl, n2, rfl⟩)) | (go_at_call 128; go_must (refine (classPairs_c _ _).mono ?_; rintro e _ ⟨rfl, rfl⟩)))
  go_ret
  exact ⟨rfl, _, rfl⟩

set_option maxHeartbeats 1000000 in
theorem classItem_bad2 (w : World) (R Q : Nat) (s : ByteArray) (d : Nat) (l a b : List UInt8) (h : Rd w R s d l) (hp : 2 ≤ l.length) (he : cutC (l.drop 2) = some (a, b)) (hq : pairs a = []) :
    Calls Tryz.prog 119 #[.pointer (some ⟨R, 0, none⟩), .pointer (some ⟨Q, 0, none⟩)] w fun e w' => e = .returned (.int .i64 2) ∧ ∃ n, w' = w.drewN n := by
  obtain ⟨i, h, e⟩ := h
  have hl := sx_len s i
  rw [e] at hl
  have hi := h.2.1
  have hz := h.2.2.1
  have hsz : (s.extract i s.size).size = s.size - i := by simp
  have hX2 : ((s.extract i s.size).extract 2 (s.size - i)).size ≤ 100000 := by simp; omega
  have HM := Lib.hid h.2.2.2.2.2
  have HH := Lib.hid h
  have HX := Lib.hid (rest2_list e)
  have HE := Lib.hid he
  have HP := Lib.hid hq
  clear h e he hq
  go_enter Tryz.func119, Tryz.ntmps119
  go_wp2_with (first | (go_at_call 126; go_must (refine (rest_all _ R s d i (by exact HH.out)).mono ?_; rintro e _ ⟨rfl, n1, rfl⟩)) | (go_at_call 127; go_must (refine (cutCall_some _ _ hX2 (by exact HM.out) (l.drop 2) a b HX.out HE.out).mono ?_; rintro e _ ⟨rfl, n2, rfl⟩)) | (go_at_call 128; go_must (refine (classPairs_c _ a).mono ?_; rintro e _ ⟨rfl, rfl⟩; rw [HP.out])))
  go_ret
  exact ⟨rfl, _, rfl⟩

/-- Behind a class: the reader stands behind what was cut. -/
theorem cut_rd {w : World} {R : Nat} {s : ByteArray} {d i : Nat} {l a b : List UInt8} (h : RdI w R s d i) (e : sx s i = l) (hp : 2 ≤ l.length) (he : cutC (l.drop 2) = some (a, b)) (n : Nat) (m : Int) (hm : m = (s.size : Int) - (b.length : Int)) :
    Rd ((w.drewN n).setCell ⟨R, 1, none⟩ (.int .i64 m)) R s d b ∧ b.length ≤ s.size := by
  have hc := cut_index (l.drop 2)
  rw [he] at hc
  have hl : l = (l.take 2 ++ a ++ [58, 93]) ++ b := by
    conv => lhs; rw [← List.take_append_drop 2 l, hc.2]
    simp
  obtain ⟨h1, h2⟩ := RdI.at h _ b (e.trans hl)
  exact ⟨⟨s.size - b.length, RdI.set (w := w.drewN n) h (s.size - b.length) (by omega) m (by omega), h1⟩, h2⟩

set_option maxHeartbeats 1000000 in
theorem classItem_bad3 (w : World) (R Q : Nat) (s : ByteArray) (d : Nat) (l a b : List UInt8) (h : Rd w R s d l) (hp : 2 ≤ l.length) (he : cutC (l.drop 2) = some (a, b)) (ps : List UInt8) (hq : pairs a = ps) (hne : ps ≠ []) (hr : atRange b = true) :
    Calls Tryz.prog 119 #[.pointer (some ⟨R, 0, none⟩), .pointer (some ⟨Q, 0, none⟩)] w fun e w' => e = .returned (.int .i64 2) ∧ Rd w' R s d b ∧ Frm (At R) w w' := by
  obtain ⟨i, h, e⟩ := h
  have hl := sx_len s i
  rw [e] at hl
  have hi := h.2.1
  have hz := h.2.2.1
  have hsz : (s.extract i s.size).size = s.size - i := by simp
  have hX2 : ((s.extract i s.size).extract 2 (s.size - i)).size ≤ 100000 := by simp; omega
  have HM := Lib.hid h.2.2.2.2.2
  have HH := Lib.hid h
  have HX := Lib.hid (rest2_list e)
  have HE := Lib.hid he
  have HP := Lib.hid hq
  have hpe : ((⟨ps.toArray⟩ : ByteArray).toList == []) = false := by rw [ByteArray.toList_mk]; cases ps with
    | nil => exact absurd rfl hne
    | cons x t => rfl
  have hpe2 : (ps == []) = false := by cases ps with
    | nil => exact absurd rfl hne
    | cons x t => rfl
  have hpe3 : ps.isEmpty = false := by cases ps with
    | nil => exact absurd rfl hne
    | cons x t => rfl
  have hpe4 : ¬ ps = [] := hne
  have hbs : (⟨b.toArray⟩ : ByteArray).size = b.length := by simp [ByteArray.size]
  have HR2 := Lib.hid (fun n m hm => (cut_rd h e hp he n m hm).1)
  have hbl : b.length ≤ s.size := (cut_rd h e hp he 0 _ rfl).2
  have c0 := h.c0
  have c1 := h.c1
  have cf := h.1.f 1
  clear h e he hq hne
  go_enter Tryz.func119, Tryz.ntmps119
  go_wp2_with (first | (go_at_call 126; go_must (refine (rest_all _ R s d i (by exact HH.out)).mono ?_; rintro e _ ⟨rfl, n1, rfl⟩)) | (go_at_call 127; go_must (refine (cutCall_some _ _ hX2 (by exact HM.out) (l.drop 2) a b HX.out HE.out).mono ?_; rintro e _ ⟨rfl, n2, rfl⟩)) | (go_at_call 128; go_must (refine (classPairs_c _ a).mono ?_; rintro e _ ⟨rfl, rfl⟩; rw [HP.out])) | (go_at_call 121; go_must (refine (atRange_all _ R s d b (by exact HR2.out _ _ rfl)).mono ?_; rintro e _ ⟨rfl, n3, rfl⟩)))
  go_ret
  exact ⟨rfl, HR2.out _ _ rfl, Frm.drewN (Frm.setCell ((Frm.refl (At R) w).drewN _) ⟨R, 1, none⟩ _ (fun _ => rfl)) n3⟩

theorem rd_ne {w : World} {R Q : Nat} {s : ByteArray} {d : Nat} {l : List UInt8} {f : Nat → Bool} (h : Rd w R s d l) (h2 : SV w Q f) : Q ≠ R ∧ Q ≠ 0 := by
  obtain ⟨m, hm⟩ := h.mx
  obtain ⟨i, h, _⟩ := h
  refine ⟨fun e => ?_, fun e => ?_⟩
  · subst e
    have := box_type h.1 h2
    revert this
    decide
  · subst e
    have h3 := Box.cell h2 0
    rw [bA_get f 0 (by omega)] at h3
    have hm' : w.cell? ⟨0, 0, none⟩ = some (.int .i64 m) := hm
    rw [h3] at hm'
    cases hm'

theorem drop_two (ps : List UInt8) (k : Nat) (h : k + 1 < ps.length) : ps.drop k = ps[k] :: ps[k + 1] :: ps.drop (k + 2) := by
  rw [List.drop_eq_getElem_cons (by omega), List.drop_eq_getElem_cons (i := k + 1) (by omega)]

set_option maxHeartbeats 1000000 in
theorem classItem_ok (w : World) (R Q : Nat) (s : ByteArray) (d : Nat) (l a b : List UInt8) (f : Nat → Bool) (h : Rd w R s d l) (hsv : SV w Q f) (hp : 2 ≤ l.length) (he : cutC (l.drop 2) = some (a, b)) (ps : List UInt8) (hq : pairs a = ps) (hne : ps ≠ []) (hr : atRange b = false) :
    Calls Tryz.prog 119 #[.pointer (some ⟨R, 0, none⟩), .pointer (some ⟨Q, 0, none⟩)] w fun e w' => e = .returned (.int .i64 0) ∧ Rd w' R s d b ∧ SV w' Q (addPairs f ps) ∧ Frm (At2 R Q) w w' := by
  obtain ⟨hQR, hQ0⟩ := rd_ne h hsv
  have HSV := Lib.hid hsv
  have hev := pairs_even a
  rw [hq] at hev
  obtain ⟨i, h, e⟩ := h
  have hl := sx_len s i
  rw [e] at hl
  have hi := h.2.1
  have hz := h.2.2.1
  have hsz : (s.extract i s.size).size = s.size - i := by simp
  have hX2 : ((s.extract i s.size).extract 2 (s.size - i)).size ≤ 100000 := by simp; omega
  have HM := Lib.hid h.2.2.2.2.2
  have HH := Lib.hid h
  have HX := Lib.hid (rest2_list e)
  have HE := Lib.hid he
  have HP := Lib.hid hq
  have hpe : ((⟨ps.toArray⟩ : ByteArray).toList == []) = false := by rw [ByteArray.toList_mk]; cases ps with
    | nil => exact absurd rfl hne
    | cons x t => rfl
  have hpe2 : (ps == []) = false := by cases ps with
    | nil => exact absurd rfl hne
    | cons x t => rfl
  have hpe3 : ps.isEmpty = false := by cases ps with
    | nil => exact absurd rfl hne
    | cons x t => rfl
  have hpe4 : ¬ ps = [] := hne
  have hbs : (⟨b.toArray⟩ : ByteArray).size = b.length := by simp [ByteArray.size]
  have hps : (⟨ps.toArray⟩ : ByteArray).size = ps.length := by simp [ByteArray.size]
  have HR2 := Lib.hid (fun n m hm => (cut_rd h e hp he n m hm).1)
  have hbl : b.length ≤ s.size := (cut_rd h e hp he 0 _ rfl).2
  have c0 := h.c0
  have c1 := h.c1
  have cf := h.1.f 1
  clear h e he hq hne hsv
  go_enter Tryz.func119, Tryz.ntmps119
  go_wp2_with (first | (go_at_call 126; go_must (refine (rest_all _ R s d i (by exact HH.out)).mono ?_; rintro e _ ⟨rfl, n1, rfl⟩)) | (go_at_call 127; go_must (refine (cutCall_some _ _ hX2 (by exact HM.out) (l.drop 2) a b HX.out HE.out).mono ?_; rintro e _ ⟨rfl, n2, rfl⟩)) | (go_at_call 128; go_must (refine (classPairs_c _ a).mono ?_; rintro e _ ⟨rfl, rfl⟩; rw [HP.out])) | (go_at_call 121; go_must (refine (atRange_all _ R s d b (by exact HR2.out _ _ rfl)).mono ?_; rintro e _ ⟨rfl, n3, rfl⟩)))
  go_loopw [9] (fun iv wr => ∃ (k : Nat) (g : Nat → Bool), k ≤ ps.length ∧ iv = .int .i64 k ∧ k % 2 = 0 ∧ addPairs g (ps.drop k) = addPairs f ps ∧ SV wr Q g ∧ Rd wr R s d b ∧ Frm (At2 R Q) w wr) (fun iv _ => (ps.length - intOf iv).toNat)
  case atStart =>
    refine ⟨0, f, by omega, rfl, rfl, rfl, ?_, HR2.out _ _ rfl, Frm.drewN (Frm.setCell ((Frm.refl (At2 R Q) w).drewN _) ⟨R, 1, none⟩ _ (fun _ => Or.inl rfl)) n3⟩
    exact SV.frm HSV.out (Frm.drewN (Frm.setCell ((Frm.refl (At R) w).drewN _) ⟨R, 1, none⟩ _ (fun _ => rfl)) n3) hQR
  case round =>
    obtain ⟨k, g, hk, rfl, hk2, hg, hsv, hrd, hf⟩ := hrel
    have HG := Lib.hid hg
    have HS := Lib.hid hsv
    have HRD := Lib.hid hrd
    have HF := Lib.hid hf
    clear hg hsv hrd hf
    by_cases hlt : k < ps.length
    · have hlt2 : k + 1 < ps.length := by omega
      have HD := Lib.hid (drop_two ps k hlt2)
      have hx0 : (0 : Int) ≤ (k : Int) := by omega
      have hx1 : (k : Int) < ((⟨ps.toArray⟩ : ByteArray).size : Int) := by rw [hps]; omega
      have hx2 : (k : Int) + 1 < ((⟨ps.toArray⟩ : ByteArray).size : Int) := by rw [hps]; omega
      have hx3 : (k : Int) < (ps.length : Int) := by omega
      have hx4 : (k : Int) + 1 < (ps.length : Int) := by omega
      have hw1 : IntKind.i64.wrap ((k : Int) + 1) = (k : Int) + 1 := by
        rw [IntKind.wrap_i64]
        have : wrap64 ((k : Int) + 1) = (k : Int) + 1 := IntWalk.wrap64_in _ ⟨by omega, by omega⟩
        unfold wrap64 at this
        omega
      go_wp2
      go_region_held3 (fun w' => True) (trivial) (first | (go_at_call 123; refine (add_all _ Q g _ _ (by exact HS.out)).mono ?_; rintro e w2 ⟨rfl, hb2, hf2⟩))
      go_wp2
      all_goals exact ⟨⟨k + 2, addF g ps[k] ps[k + 1], by omega, by go_num, by omega, by rw [← HG.out, HD.out]; rfl, hb2, Rd.frm (S := At Q) (by exact HRD.out) hf2 (fun e => hQR e.symm) (fun e => hQ0 e.symm), (HF.out.drew).then hf2 (fun k _ e => Or.inr e)⟩, by simp [intOf]; omega⟩
    · obtain rfl : k = ps.length := by omega
      go_wp2
      go_ret
      refine ⟨rfl, HRD.out, ?_, HF.out⟩
      have := HG.out
      rw [List.drop_length] at this
      rw [← this]
      exact HS.out
end Go.Proofs.YtbfekknhmjndaaaGreat.items

namespace Go.Proofs.YtbfekknhmjndaaaGreat.items
set_option linter.unusedVariables false set_option linter.unusedSimpArgs false
open Go.ChangeShapes Go.WideShapes Go.ChangeAt Go.RowKit Go.Proofs.YtbfekknhmjndaaaGreat.base Go.Proofs.YtbfekknhmjndaaaGreat.read Go.Proofs.YtbfekknhmjndaaaGreat.spec Go.Proofs.YtbfekknhmjndaaaGreat.set Go.Proofs.YtbfekknhmjndaaaGreat.nums Go.Proofs.YtbfekknhmjndaaaGreat.parts

/-- What an item leaves. -/
def ItemPost (w : World) (R Q : Nat) (s : ByteArray) (d : Nat) (r : Res (Nat → Bool)) (e : Ending) (w' : World) : Prop := match r with
  | .ok f' l' => e = .returned (.int .i64 0) ∧ Rd w' R s d l' ∧ SV w' Q f' ∧ Frm (At2 R Q) w w'
  | .bad f => e = .returned (.int .i64 f) ∧ (f = 2 ∨ f = 4) ∧ (∃ l', Rd w' R s d l') ∧ Frm (At2 R Q) w w'

theorem esc_bads {l : List UInt8} {f : Nat} (h : esc l = .bad f) : f = 4 := by
  cases l with
  | nil => cases h; rfl
  | cons c t =>
    simp only [esc] at h
    split at h <;> cases h
theorem itemByte_bads {l : List UInt8} {f : Nat} (h : itemByte l = .bad f) : f = 2 ∨ f = 4 := by
  cases l with
  | nil => cases h; exact Or.inl rfl
  | cons c t =>
    simp only [itemByte] at h
    split at h
    · exact Or.inr (esc_bads h)
    · cases h
theorem rangeEnd_bads {l : List UInt8} {f : Nat} (h : rangeEnd l = .bad f) : f = 2 ∨ f = 4 := by
  unfold rangeEnd at h
  split at h
  · cases h; exact Or.inl rfl
  · exact itemByte_bads h
theorem at2 {R Q : Nat} {w w' : World} (h : Frm (At R) w w') : Frm (At2 R Q) w w' := h.mono (fun _ _ e => Or.inl e)

set_option maxHeartbeats 1000000 in
theorem item_all (w : World) (R Q : Nat) (s : ByteArray) (d : Nat) (f : Nat → Bool) (l : List UInt8) (h : Rd w R s d l) (hsv : SV w Q f) :
    Calls Tryz.prog 112 #[.pointer (some ⟨R, 0, none⟩), .pointer (some ⟨Q, 0, none⟩)] w fun e w' => ItemPost w R Q s d (item f l) e w' := by
  obtain ⟨hQR, hQ0⟩ := rd_ne h hsv
  have H := Lib.hid h
  have HS := Lib.hid hsv
  clear h hsv
  by_cases hp : pre2 l 91 58 = true
  · have h2 := pre2_len hp
    rw [item, if_pos hp, classItem]
    cases hc : cutC (l.drop 2) with
    | none =>
      have HC := Lib.hid hc
      clear hc
      go_enter Tryz.func112, Tryz.ntmps112
      go_wp2_with (first | (go_at_call 118; go_must (refine (sees_all _ R s d l 91 58 (by exact H.out)).mono ?_; rintro e _ ⟨rfl, n1, rfl⟩)) | (go_at_call 119; go_must (refine (classItem_bad1 _ R Q s d l (by exact H.out) h2 HC.out).mono ?_; rintro e _ ⟨rfl, n2, rfl⟩)))
      go_ret
      exact ⟨rfl, Or.inl rfl, ⟨l, H.out⟩, (Frm.refl _ w).drewN _⟩
    | some p =>
      obtain ⟨a, b⟩ := p
      have HC := Lib.hid hc
      clear hc
      simp only
      by_cases hps : pairs a = []
      · rw [if_pos hps]
        have HP := Lib.hid hps
        clear hps
        go_enter Tryz.func112, Tryz.ntmps112
        go_wp2_with (first | (go_at_call 118; go_must (refine (sees_all _ R s d l 91 58 (by exact H.out)).mono ?_; rintro e _ ⟨rfl, n1, rfl⟩)) | (go_at_call 119; go_must (refine (classItem_bad2 _ R Q s d l a b (by exact H.out) h2 HC.out HP.out).mono ?_; rintro e _ ⟨rfl, n2, rfl⟩)))
        go_ret
        exact ⟨rfl, Or.inl rfl, ⟨l, H.out⟩, (Frm.refl _ w).drewN _⟩
      · rw [if_neg hps]
        have HP := Lib.hid hps
        clear hps
        by_cases hr : atRange b = true
        · rw [if_pos hr]
          have HR := Lib.hid hr
          clear hr
          go_enter Tryz.func112, Tryz.ntmps112
          go_wp2_with (first | (go_at_call 118; go_must (refine (sees_all _ R s d l 91 58 (by exact H.out)).mono ?_; rintro e _ ⟨rfl, n1, rfl⟩)) | (go_at_call 119; go_must (refine (classItem_bad3 _ R Q s d l a b (by exact H.out) h2 HC.out (pairs a) rfl HP.out HR.out).mono ?_; rintro e w2 ⟨rfl, hr2, hf2⟩)))
          go_ret
          exact ⟨rfl, Or.inl rfl, ⟨b, hr2⟩, at2 (((Frm.refl _ w).drewN n1).trans hf2)⟩
        · rw [if_neg hr]
          have HR := Lib.hid (show atRange b = false by simpa using hr)
          clear hr
          go_enter Tryz.func112, Tryz.ntmps112
          go_wp2_with (first | (go_at_call 118; go_must (refine (sees_all _ R s d l 91 58 (by exact H.out)).mono ?_; rintro e _ ⟨rfl, n1, rfl⟩)) | (go_at_call 119; go_must (refine (classItem_ok _ R Q s d l a b f (by exact H.out) (by exact HS.out) h2 HC.out (pairs a) rfl HP.out HR.out).mono ?_; rintro e w2 ⟨rfl, hr2, hs2, hf2⟩)))
          go_ret
          exact ⟨rfl, hr2, hs2, ((Frm.refl _ w).drewN n1).trans hf2⟩
  · have f1 : pre2 l 91 58 = false := by simpa using hp
    rw [item, if_neg hp]
    clear hp
    cases hi : itemByte l with
    | bad e1 =>
      have HI := Lib.hid hi
      clear hi
      by_cases h24 : e1 = 2 ∨ e1 = 4
      · have h0 : (((e1 : Nat) : Int) == 0) = false := by simp; omega
        go_enter Tryz.func112, Tryz.ntmps112
        go_wp2_with (first | (go_at_call 118; go_must (refine (sees_all _ R s d l 91 58 (by exact H.out)).mono ?_; rintro e _ ⟨rfl, n1, rfl⟩)) | (go_at_call 120; go_must (refine (itemByte_bad _ R s d e1 l (by exact H.out) HI.out).mono ?_; rintro e w2 ⟨l2, rfl, hfb, hr2, hf2⟩)))
        go_ret
        exact ⟨rfl, h24, ⟨l2, hr2⟩, at2 (((Frm.refl _ w).drewN n1).trans hf2)⟩
      · exfalso
        exact h24 (itemByte_bads HI.out)
    | ok lo l1 =>
      have HI := Lib.hid hi
      clear hi
      simp only
      by_cases hr : atRange l1 = true
      · rw [if_pos hr]
        have hh : hd l1 45 = true := by
          unfold atRange at hr
          cases h : hd l1 45 with
          | true => rfl
          | false => rw [h] at hr; cases hr
        obtain ⟨t, rfl⟩ := hd_cons hh
        simp only [List.tail_cons]
        cases he : rangeEnd t with
        | bad e1 =>
          have HE := Lib.hid he
          clear he
          have h24 := rangeEnd_bads HE.out
          have h0 : (((e1 : Nat) : Int) == 0) = false := by simp; omega
          go_enter Tryz.func112, Tryz.ntmps112
          go_wp2_with (first | (go_at_call 118; go_must (refine (sees_all _ R s d l 91 58 (by exact H.out)).mono ?_; rintro e _ ⟨rfl, n1, rfl⟩)) | (go_at_call 120; go_must (refine (itemByte_ok _ R s d l (45 :: t) lo (by exact H.out) HI.out).mono ?_; rintro e w2 ⟨rfl, hr2, hf2⟩; have HR2 := Lib.hid hr2; have HF2 := Lib.hid hf2; have HS2 := Lib.hid (SV.frm (w := w.drewN n1) (by exact HS.out) hf2 hQR); clear hr2 hf2)) | (go_at_call 121; go_must (refine (atRange_all _ R s d (45 :: t) (by exact HR2.out)).mono ?_; rintro e _ ⟨rfl, n3, rfl⟩)) | (go_at_call 99; go_must (refine (next_all _ R s d 45 t (by exact HR2.out)).mono ?_; rintro e w4 ⟨rfl, hr4, hf4⟩; have HR4 := Lib.hid hr4; have HF4 := Lib.hid hf4; have HS4 := Lib.hid (SV.frm (w := w2.drewN n3) (by exact HS2.out) hf4 hQR); clear hr4 hf4)) | (go_at_call 122; go_must (refine (rangeEnd_bad _ R s d e1 t (by exact HR4.out) HE.out).mono ?_; rintro e w5 ⟨l5, rfl, hfb, hr5, hf5⟩; have HR5 := Lib.hid hr5; have HF5 := Lib.hid hf5; clear hr5 hf5)))
          go_ret
          exact ⟨rfl, h24, ⟨l5, HR5.out⟩, at2 (((Frm.refl _ w).drewN n1).trans (HF2.out.trans (((Frm.refl _ w2).drewN n3).trans (HF4.out.trans HF5.out))))⟩
        | ok hi l2 =>
          have HE := Lib.hid he
          clear he
          simp only
          by_cases hlt : hi < lo
          · rw [if_pos hlt]
            have hlt' : (hi.toNat : Int) < (lo.toNat : Int) := by have := UInt8.lt_iff_toNat_lt.1 hlt; omega
            clear hlt
            go_enter Tryz.func112, Tryz.ntmps112
            go_wp2_with (first | (go_at_call 118; go_must (refine (sees_all _ R s d l 91 58 (by exact H.out)).mono ?_; rintro e _ ⟨rfl, n1, rfl⟩)) | (go_at_call 120; go_must (refine (itemByte_ok _ R s d l (45 :: t) lo (by exact H.out) HI.out).mono ?_; rintro e w2 ⟨rfl, hr2, hf2⟩; have HR2 := Lib.hid hr2; have HF2 := Lib.hid hf2; have HS2 := Lib.hid (SV.frm (w := w.drewN n1) (by exact HS.out) hf2 hQR); clear hr2 hf2)) | (go_at_call 121; go_must (refine (atRange_all _ R s d (45 :: t) (by exact HR2.out)).mono ?_; rintro e _ ⟨rfl, n3, rfl⟩)) | (go_at_call 99; go_must (refine (next_all _ R s d 45 t (by exact HR2.out)).mono ?_; rintro e w4 ⟨rfl, hr4, hf4⟩; have HR4 := Lib.hid hr4; have HF4 := Lib.hid hf4; have HS4 := Lib.hid (SV.frm (w := w2.drewN n3) (by exact HS2.out) hf4 hQR); clear hr4 hf4)) | (go_at_call 122; go_must (refine (rangeEnd_ok _ R s d t l2 hi (by exact HR4.out) HE.out).mono ?_; rintro e w5 ⟨rfl, hr5, hf5⟩; have HR5 := Lib.hid hr5; have HF5 := Lib.hid hf5; have HS5 := Lib.hid (SV.frm HS4.out hf5 hQR); clear hr5 hf5)))
            go_ret
            exact ⟨rfl, Or.inl rfl, ⟨l2, HR5.out⟩, at2 (((Frm.refl _ w).drewN n1).trans (HF2.out.trans (((Frm.refl _ w2).drewN n3).trans (HF4.out.trans HF5.out))))⟩
          · rw [if_neg hlt]
            have hlt' : (lo.toNat : Int) ≤ (hi.toNat : Int) := by
              have : ¬ hi.toNat < lo.toNat := fun e => hlt (UInt8.lt_iff_toNat_lt.2 e)
              omega
            clear hlt
            go_enter Tryz.func112, Tryz.ntmps112
            go_wp2_with (first | (go_at_call 118; go_must (refine (sees_all _ R s d l 91 58 (by exact H.out)).mono ?_; rintro e _ ⟨rfl, n1, rfl⟩)) | (go_at_call 120; go_must (refine (itemByte_ok _ R s d l (45 :: t) lo (by exact H.out) HI.out).mono ?_; rintro e w2 ⟨rfl, hr2, hf2⟩; have HR2 := Lib.hid hr2; have HF2 := Lib.hid hf2; have HS2 := Lib.hid (SV.frm (w := w.drewN n1) (by exact HS.out) hf2 hQR); clear hr2 hf2)) | (go_at_call 121; go_must (refine (atRange_all _ R s d (45 :: t) (by exact HR2.out)).mono ?_; rintro e _ ⟨rfl, n3, rfl⟩)) | (go_at_call 99; go_must (refine (next_all _ R s d 45 t (by exact HR2.out)).mono ?_; rintro e w4 ⟨rfl, hr4, hf4⟩; have HR4 := Lib.hid hr4; have HF4 := Lib.hid hf4; have HS4 := Lib.hid (SV.frm (w := w2.drewN n3) (by exact HS2.out) hf4 hQR); clear hr4 hf4)) | (go_at_call 122; go_must (refine (rangeEnd_ok _ R s d t l2 hi (by exact HR4.out) HE.out).mono ?_; rintro e w5 ⟨rfl, hr5, hf5⟩; have HR5 := Lib.hid hr5; have HF5 := Lib.hid hf5; have HS5 := Lib.hid (SV.frm HS4.out hf5 hQR); clear hr5 hf5)) | (go_at_call 123; go_must (refine (add_all _ Q f lo hi (by exact HS5.out)).mono ?_; rintro e w6 ⟨rfl, hb6, hf6⟩)))
            go_ret
            exact ⟨rfl, HR5.out.frm hf6 (fun e => hQR e.symm) (fun e => hQ0 e.symm), hb6, (at2 (((Frm.refl _ w).drewN n1).trans (HF2.out.trans (((Frm.refl _ w2).drewN n3).trans (HF4.out.trans HF5.out))))).then hf6 (fun _ _ e => Or.inr e)⟩
      · rw [if_neg hr]
        have f2 : atRange l1 = false := by simpa using hr
        clear hr
        go_enter Tryz.func112, Tryz.ntmps112
        go_wp2_with (first | (go_at_call 118; go_must (refine (sees_all _ R s d l 91 58 (by exact H.out)).mono ?_; rintro e _ ⟨rfl, n1, rfl⟩)) | (go_at_call 120; go_must (refine (itemByte_ok _ R s d l l1 lo (by exact H.out) HI.out).mono ?_; rintro e w2 ⟨rfl, hr2, hf2⟩; have HR2 := Lib.hid hr2; have HF2 := Lib.hid hf2; have HS2 := Lib.hid (SV.frm (w := w.drewN n1) (by exact HS.out) hf2 hQR); clear hr2 hf2)) | (go_at_call 121; go_must (refine (atRange_all _ R s d l1 (by exact HR2.out)).mono ?_; rintro e _ ⟨rfl, n3, rfl⟩)) | (go_at_call 123; go_must (refine (add_all _ Q f lo lo (by exact HS2.out)).mono ?_; rintro e w6 ⟨rfl, hb6, hf6⟩)))
        go_ret
        exact ⟨rfl, Rd.frm (w := w2.drewN n3) HR2.out hf6 (fun e => hQR e.symm) (fun e => hQ0 e.symm), hb6, (at2 (((Frm.refl _ w).drewN n1).trans (HF2.out.trans ((Frm.refl _ w2).drewN n3)))).then hf6 (fun _ _ e => Or.inr e)⟩
end Go.Proofs.YtbfekknhmjndaaaGreat.items
