/- Contracts of a set's items: classItem, item. -/
import Derived.Test.YtfgdhafpiikpjaaItem
namespace Go.Proofs.Ytfgdhafpiikpjaa.items
set_option linter.unusedVariables false set_option linter.unusedSimpArgs false
open Go.ChangeShapes Go.WideShapes Go.ChangeAt Go.RowKit Go.Proofs.Ytfgdhafpiikpjaa.base Go.Proofs.Ytfgdhafpiikpjaa.read Go.Proofs.Ytfgdhafpiikpjaa.spec Go.Proofs.Ytfgdhafpiikpjaa.set Go.Proofs.Ytfgdhafpiikpjaa.nums Go.Proofs.Ytfgdhafpiikpjaa.parts

/-- The set in the variable Q. -/
def SV (w : World) (Q : Nat) (f : Nat → Bool) : Prop := Box w Q 116 (bA f)
theorem SV.frm {S : Nat → Prop} {w w' : World} {Q : Nat} {f : Nat → Bool} (h : SV w Q f) (k : Frm S w w') (hs : ¬ S Q) : SV w' Q f := Box.frm h k hs

theorem pre2_len {l : List UInt8} {a b : UInt8} (h : pre2 l a b = true) : 2 ≤ l.length := by
  match l with
  | [] => cases h
  | [x] => cases h
  | x :: y :: t => simp

/-- The reader behind what is behind a place. -/
theorem RdI.at {w : World} {R : Nat} {s : ByteArray} {d i : Nat} (h : RdI w R s d i) (a b : List UInt8) (e : sx s i = a ++ b) : sx s (s.size - b.length) = b ∧ b.length ≤ s.size := by
  have hl := sx_len s i
  rw [e, List.length_append] at hl
  have hi := h.2.1
  refine ⟨?_, by omega⟩
  have : s.size - b.length = i + a.length := by omega
  rw [this]
  unfold sx at *
  rw [← List.drop_drop, e, List.drop_left]

theorem ext_list (s : ByteArray) (a b : Nat) : (s.extract a b).data.toList = (s.data.toList.take b).drop a := by rw [extract_list]
theorem rest_list {s : ByteArray} {i : Nat} {l : List UInt8} (e : sx s i = l) : (s.extract i s.size).data.toList = l := by
  rw [ext_list, ← e, sx, List.take_of_length_le (by simp)]
theorem rest2_list {s : ByteArray} {i : Nat} {l : List UInt8} (e : sx s i = l) : ((s.extract i s.size).extract 2 (s.size - i)).data.toList = l.drop 2 := by
  rw [ext_list, rest_list e, List.take_of_length_le (by rw [← e, sx_len]; exact Nat.le_refl _)]

theorem cutCall_some (w : World) (X : ByteArray) (hx : X.size ≤ 100000) (hm : Mx w) (l a b : List UInt8) (hl : X.data.toList = l) (hc : cutC l = some (a, b)) :
    Calls Try.prog 100 #[.string X, .string ⟨#[58, 93]⟩] w fun e w' => e = .returned (.tuple #[.string ⟨a.toArray⟩, .string ⟨b.toArray⟩, .bool true]) ∧ ∃ n, w' = w.drewN n := by
  obtain ⟨m, hm⟩ := hm
  refine (Try.strings_Cut X ⟨#[58, 93]⟩ m w (by omega) hm).mono ?_
  rintro e w' ⟨rfl, h⟩
  rw [hl]
  have : Lib.cut l (⟨#[58, 93]⟩ : ByteArray).data.toList = (a, b, true) := cut_some hc
  rw [this]
  exact ⟨rfl, h⟩
theorem cutCall_none (w : World) (X : ByteArray) (hx : X.size ≤ 100000) (hm : Mx w) (l : List UInt8) (hl : X.data.toList = l) (hc : cutC l = none) :
    Calls Try.prog 100 #[.string X, .string ⟨#[58, 93]⟩] w fun e w' => e = .returned (.tuple #[.string ⟨l.toArray⟩, .string ⟨#[]⟩, .bool false]) ∧ ∃ n, w' = w.drewN n := by
  obtain ⟨m, hm⟩ := hm
  refine (Try.strings_Cut X ⟨#[58, 93]⟩ m w (by omega) hm).mono ?_
  rintro e w' ⟨rfl, h⟩
  rw [hl]
  have : Lib.cut l (⟨#[58, 93]⟩ : ByteArray).data.toList = (l, [], false) := cut_none hc
  rw [this]
  exact ⟨rfl, h⟩
theorem classPairs_c (w : World) (a : List UInt8) :
    Calls Try.prog 101 #[.string ⟨a.toArray⟩] w fun e w' => e = .returned (.string ⟨(pairs a).toArray⟩) ∧ w' = w := by
  have := classPairs_all w ⟨a.toArray⟩
  rw [ByteArray.toList_mk] at this
  exact this

set_option maxHeartbeats 1000000 in
theorem classItem_bad1 (w : World) (R Q : Nat) (s : ByteArray) (d : Nat) (l : List UInt8) (h : Rd w R s d l) (hp : 2 ≤ l.length) (he : cutC (l.drop 2) = none) :
    Calls Try.prog 92 #[.pointer (some ⟨R, 0, none⟩), .pointer (some ⟨Q, 0, none⟩)] w fun e w' => e = .returned (.int .i64 2) ∧ ∃ n, w' = w.drewN n := by
  obtain ⟨i, h, e⟩ := h
  have hl := sx_len s i
  rw [e] at hl
  have hi := h.2.1
  have hz := h.2.2.1
  have hsz : (s.extract i s.size).size = s.size - i := by simp
  have hX2 : ((s.extract i s.size).extract 2 (s.size - i)).size ≤ 100000 := by simp; omega
  have HM := Lib.hid h.2.2.2.2.2
  have HH := Lib.hid h
  have HX := Lib.hid (rest2_list e)
  have HE := Lib.hid he
  clear h e he
  go_enter Try.func92, Try.ntmps92
  go_wp2_with (first | (go_at_call 99; go_must (refine (rest_all _ R s d i (by exact HH.out)).mono ?_; rintro e _ ⟨rfl, n1, rfl⟩)) | (go_at_call 100; go_must (refine (cutCall_none _ _ hX2 (by exact HM.out) (l.drop 2) HX.out HE.out).mono ?_; rintro e _ ⟨rfl, n2, rfl⟩)) | (go_at_call 101; go_must (refine (classPairs_c _ _).mono ?_; rintro e _ ⟨rfl, rfl⟩)))
  go_ret
  exact ⟨rfl, _, rfl⟩

set_option maxHeartbeats 1000000 in
theorem classItem_bad2 (w : World) (R Q : Nat) (s : ByteArray) (d : Nat) (l a b : List UInt8) (h : Rd w R s d l) (hp : 2 ≤ l.length) (he : cutC (l.drop 2) = some (a, b)) (hq : pairs a = []) :
    Calls Try.prog 92 #[.pointer (some ⟨R, 0, none⟩), .pointer (some ⟨Q, 0, none⟩)] w fun e w' => e = .returned (.int .i64 2) ∧ ∃ n, w' = w.drewN n := by
  obtain ⟨i, h, e⟩ := h
  have hl := sx_len s i
  rw [e] at hl
  have hi := h.2.1
  have hz := h.2.2.1
  have hsz : (s.extract i s.size).size = s.size - i := by simp
  have hX2 : ((s.extract i s.size).extract 2 (s.size - i)).size ≤ 100000 := by simp; omega
  have HM := Lib.hid h.2.2.2.2.2
  have HH := Lib.hid h
  have HX := Lib.hid (rest2_list e)
  have HE := Lib.hid he
  have HP := Lib.hid hq
  clear h e he hq
  go_enter Try.func92, Try.ntmps92
  go_wp2_with (first | (go_at_call 99; go_must (refine (rest_all _ R s d i (by exact HH.out)).mono ?_; rintro e _ ⟨rfl, n1, rfl⟩)) | (go_at_call 100; go_must (refine (cutCall_some _ _ hX2 (by exact HM.out) (l.drop 2) a b HX.out HE.out).mono ?_; rintro e _ ⟨rfl, n2, rfl⟩)) | (go_at_call 101; go_must (refine (classPairs_c _ a).mono ?_; rintro e _ ⟨rfl, rfl⟩; rw [HP.out])))
  go_ret
  exact ⟨rfl, _, rfl⟩

/-- Behind a class: the reader stands behind what was cut. -/
theorem cut_rd {w : World} {R : Nat} {s : ByteArray} {d i : Nat} {l a b : List UInt8} (h : RdI w R s d i) (e : sx s i = l) (hp : 2 ≤ l.length) (he : cutC (l.drop 2) = some (a, b)) (n : Nat) (m : Int) (hm : m = (s.size : Int) - (b.length : Int)) :
    Rd ((w.drewN n).setCell ⟨R, 1, none⟩ (.int .i64 m)) R s d b ∧ b.length ≤ s.size := by
  have hc := cut_index (l.drop 2)
  rw [he] at hc
  have hl : l = (l.take 2 ++ a ++ [58, 93]) ++ b := by
    conv => lhs; rw [← List.take_append_drop 2 l, hc.2]
    simp
  obtain ⟨h1, h2⟩ := RdI.at h _ b (e.trans hl)
  exact ⟨⟨s.size - b.length, RdI.set (w := w.drewN n) h (s.size - b.length) (by omega) m (by omega), h1⟩, h2⟩

set_option maxHeartbeats 1000000 in
theorem classItem_bad3 (w : World) (R Q : Nat) (s : ByteArray) (d : Nat) (l a b : List UInt8) (h : Rd w R s d l) (hp : 2 ≤ l.length) (he : cutC (l.drop 2) = some (a, b)) (ps : List UInt8) (hq : pairs a = ps) (hne : ps ≠ []) (hr : atRange b = true) :
    Calls Try.prog 92 #[.pointer (some ⟨R, 0, none⟩), .pointer (some ⟨Q, 0, none⟩)] w fun e w' => e = .returned (.int .i64 2) ∧ Rd w' R s d b ∧ Frm (At R) w w' := by
  obtain ⟨i, h, e⟩ := h
  have hl := sx_len s i
  rw [e] at hl
  have hi := h.2.1
  have hz := h.2.2.1
  have hsz : (s.extract i s.size).size = s.size - i := by simp
  have hX2 : ((s.extract i s.size).extract 2 (s.size - i)).size ≤ 100000 := by simp; omega
  have HM := Lib.hid h.2.2.2.2.2
  have HH := Lib.hid h
  have HX := Lib.hid (rest2_list e)
  have HE := Lib.hid he
  have HP := Lib.hid hq
  have hpe : ((⟨ps.toArray⟩ : ByteArray).toList == []) = false := by rw [ByteArray.toList_mk]; cases ps with
    | nil => exact absurd rfl hne
    | cons x t => rfl
  have hpe2 : (ps == []) = false := by cases ps with
    | nil => exact absurd rfl hne
    | cons x t => rfl
  have hpe3 : ps.isEmpty = false := by cases ps with
    | nil => exact absurd rfl hne
    | cons x t => rfl
  have hpe4 : ¬ ps = [] := hne
  have hbs : (⟨b.toArray⟩ : ByteArray).size = b.length := by simp [ByteArray.size]
  have HR2 := Lib.hid (fun n m hm => (cut_rd h e hp he n m hm).1)
  have hbl : b.length ≤ s.size := (cut_rd h e hp he 0 _ rfl).2
  have c0 := h.c0
  have c1 := h.c1
  have cf := h.1.f 1
  clear h e he hq hne
  go_enter Try.func92, Try.ntmps92
  go_wp2_with (first | (go_at_call 99; go_must (refine (rest_all _ R s d i (by exact HH.out)).mono ?_; rintro e _ ⟨rfl, n1, rfl⟩)) | (go_at_call 100; go_must (refine (cutCall_some _ _ hX2 (by exact HM.out) (l.drop 2) a b HX.out HE.out).mono ?_; rintro e _ ⟨rfl, n2, rfl⟩)) | (go_at_call 101; go_must (refine (classPairs_c _ a).mono ?_; rintro e _ ⟨rfl, rfl⟩; rw [HP.out])) | (go_at_call 94; go_must (refine (atRange_all _ R s d b (by exact HR2.out _ _ rfl)).mono ?_; rintro e _ ⟨rfl, n3, rfl⟩)))
  go_ret
  exact ⟨rfl, HR2.out _ _ rfl, Frm.drewN (Frm.setCell ((Frm.refl (At R) w).drewN _) ⟨R, 1, none⟩ _ (fun _ => rfl)) n3⟩

theorem rd_ne {w : World} {R Q : Nat} {s : ByteArray} {d : Nat} {l : List UInt8} {f : Nat → Bool} (h : Rd w R s d l) (h2 : SV w Q f) : Q ≠ R ∧ Q ≠ 0 := by
  obtain ⟨m, hm⟩ := h.mx
  obtain ⟨i, h, _⟩ := h
  refine ⟨fun e => ?_, fun e => ?_⟩
  · subst e
    have := box_type h.1 h2
    revert this
    decide
  · subst e
    have h3 := Box.cell h2 0
    rw [bA_get f 0 (by omega)] at h3
    have hm' : w.cell? ⟨0, 0, none⟩ = some (.int .i64 m) := hm
    rw [h3] at hm'
    cases hm'

theorem drop_two (ps : List UInt8) (k : Nat) (h : k + 1 < ps.length) : ps.drop k = ps[k] :: ps[k + 1] :: ps.drop (k + 2) := by
  rw [List.drop_eq_getElem_cons (by omega), List.drop_eq_getElem_cons (i := k + 1) (by omega)]

set_option maxHeartbeats 1000000 in
theorem classItem_ok (w : World) (R Q : Nat) (s : ByteArray) (d : Nat) (l a b : List UInt8) (f : Nat → Bool) (h : Rd w R s d l) (hsv : SV w Q f) (hp : 2 ≤ l.length) (he : cutC (l.drop 2) = some (a, b)) (ps : List UInt8) (hq : pairs a = ps) (hne : ps ≠ []) (hr : atRange b = false) :
    Calls Try.prog 92 #[.pointer (some ⟨R, 0, none⟩), .pointer (some ⟨Q, 0, none⟩)] w fun e w' => e = .returned (.int .i64 0) ∧ Rd w' R s d b ∧ SV w' Q (addPairs f ps) ∧ Frm (At2 R Q) w w' := by
  obtain ⟨hQR, hQ0⟩ := rd_ne h hsv
  have HSV := Lib.hid hsv
  have hev := pairs_even a
  rw [hq] at hev
  obtain ⟨i, h, e⟩ := h
  have hl := sx_len s i
  rw [e] at hl
  have hi := h.2.1
  have hz := h.2.2.1
  have hsz : (s.extract i s.size).size = s.size - i := by simp
  have hX2 : ((s.extract i s.size).extract 2 (s.size - i)).size ≤ 100000 := by simp; omega
  have HM := Lib.hid h.2.2.2.2.2
  have HH := Lib.hid h
  have HX := Lib.hid (rest2_list e)
  have HE := Lib.hid he
  have HP := Lib.hid hq
  have hpe : ((⟨ps.toArray⟩ : ByteArray).toList == []) = false := by rw [ByteArray.toList_mk]; cases ps with
    | nil => exact absurd rfl hne
    | cons x t => rfl
  have hpe2 : (ps == []) = false := by cases ps with
    | nil => exact absurd rfl hne
    | cons x t => rfl
  have hpe3 : ps.isEmpty = false := by cases ps with
    | nil => exact absurd rfl hne
    | cons x t => rfl
  have hpe4 : ¬ ps = [] := hne
  have hbs : (⟨b.toArray⟩ : ByteArray).size = b.length := by simp [ByteArray.size]
  have hps : (⟨ps.toArray⟩ : ByteArray).size = ps.length := by simp [ByteArray.size]
  have HR2 := Lib.hid (fun n m hm => (cut_rd h e hp he n m hm).1)
  have hbl : b.length ≤ s.size := (cut_rd h e hp he 0 _ rfl).2
  have c0 := h.c0
  have c1 := h.c1
  have cf := h.1.f 1
  clear h e he hq hne hsv
  go_enter Try.func92, Try.ntmps92
  go_wp2_with (first | (go_at_call 99; go_must (refine (rest_all _ R s d i (by exact HH.out)).mono ?_; rintro e _ ⟨rfl, n1, rfl⟩)) | (go_at_call 100; go_must (refine (cutCall_some _ _ hX2 (by exact HM.out) (l.drop 2) a b HX.out HE.out).mono ?_; rintro e _ ⟨rfl, n2, rfl⟩)) | (go_at_call 101; go_must (refine (classPairs_c _ a).mono ?_; rintro e _ ⟨rfl, rfl⟩; rw [HP.out])) | (go_at_call 94; go_must (refine (atRange_all _ R s d b (by exact HR2.out _ _ rfl)).mono ?_; rintro e _ ⟨rfl, n3, rfl⟩)))
  go_loopw [9] (fun iv wr => ∃ (k : Nat) (g : Nat → Bool), k ≤ ps.length ∧ iv = .int .i64 k ∧ k % 2 = 0 ∧ addPairs g (ps.drop k) = addPairs f ps ∧ SV wr Q g ∧ Rd wr R s d b ∧ Frm (At2 R Q) w wr) (fun iv _ => (ps.length - intOf iv).toNat)
  case atStart =>
    refine ⟨0, f, by omega, rfl, rfl, rfl, ?_, HR2.out _ _ rfl, Frm.drewN (Frm.setCell ((Frm.refl (At2 R Q) w).drewN _) ⟨R, 1, none⟩ _ (fun _ => Or.inl rfl)) n3⟩
    exact SV.frm HSV.out (Frm.drewN (Frm.setCell ((Frm.refl (At R) w).drewN _) ⟨R, 1, none⟩ _ (fun _ => rfl)) n3) hQR
  case round =>
    obtain ⟨k, g, hk, rfl, hk2, hg, hsv, hrd, hf⟩ := hrel
    have HG := Lib.hid hg
    have HS := Lib.hid hsv
    have HRD := Lib.hid hrd
    have HF := Lib.hid hf
    clear hg hsv hrd hf
    by_cases hlt : k < ps.length
    · have hlt2 : k + 1 < ps.length := by omega
      have HD := Lib.hid (drop_two ps k hlt2)
      have hx0 : (0 : Int) ≤ (k : Int) := by omega
      have hx1 : (k : Int) < ((⟨ps.toArray⟩ : ByteArray).size : Int) := by rw [hps]; omega
      have hx2 : (k : Int) + 1 < ((⟨ps.toArray⟩ : ByteArray).size : Int) := by rw [hps]; omega
      have hx3 : (k : Int) < (ps.length : Int) := by omega
      have hx4 : (k : Int) + 1 < (ps.length : Int) := by omega
      have hw1 : IntKind.i64.wrap ((k : Int) + 1) = (k : Int) + 1 := by
        rw [IntKind.wrap_i64]
        have : wrap64 ((k : Int) + 1) = (k : Int) + 1 := IntWalk.wrap64_in _ ⟨by omega, by omega⟩
        unfold wrap64 at this
        omega
      go_wp2
      go_region_held3 (fun w' => True) (trivial) (first | (go_at_call 96; refine (add_all _ Q g _ _ (by exact HS.out)).mono ?_; rintro e w2 ⟨rfl, hb2, hf2⟩))
      go_wp2
      all_goals exact ⟨⟨k + 2, addF g ps[k] ps[k + 1], by omega, by go_num, by omega, by rw [← HG.out, HD.out]; rfl, hb2, Rd.frm (S := At Q) (by exact HRD.out) hf2 (fun e => hQR e.symm) (fun e => hQ0 e.symm), (HF.out.drew).then hf2 (fun k _ e => Or.inr e)⟩, by simp [intOf]; omega⟩
    · obtain rfl : k = ps.length := by omega
      go_wp2
      go_ret
      refine ⟨rfl, HRD.out, ?_, HF.out⟩
      have := HG.out
      rw [List.drop_length] at this
      rw [← this]
      exact HS.out
end Go.Proofs.Ytfgdhafpiikpjaa.items
