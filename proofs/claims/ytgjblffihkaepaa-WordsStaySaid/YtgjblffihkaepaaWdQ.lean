/- The law WordsStay. -/
import Derived.Test.YtgjblffihkaepaaWdM
namespace Go.Proofs.Ytgjblffihkaepaa.wrd
set_option linter.unusedVariables false set_option linter.unusedSimpArgs false
open Go.ChangeShapes Go.WideShapes Go.ChangeAt Go.RowKit Go.Proofs.Ytgjblffihkaepaa.base Go.Proofs.Ytgjblffihkaepaa.spec Go.Proofs.Ytgjblffihkaepaa.nfa Go.Proofs.Ytgjblffihkaepaa.set Go.Proofs.Ytgjblffihkaepaa.parts Go.Proofs.Ytgjblffihkaepaa.items Go.Proofs.Ytgjblffihkaepaa.part

theorem txt_id {by_ : List UInt8 → List UInt8} (hb : ∀ m, by_ m = m) (s : List UInt8) : ∀ (l : List (Nat × Nat)) (d : Nat), Rise s.length d l → txt by_ s d l = mid s d (dn d l) := by
  intro l
  induction l with
  | nil => intro d _; show [] = mid s d d; rw [mid_self]
  | cons x l ih =>
    intro d h
    obtain ⟨i, e⟩ := x
    obtain ⟨h1, h2, h3, h4⟩ := h
    have h5 := rise_dn h4 h3
    show mid s d i ++ (by_ (mid s i e) ++ txt by_ s e l) = mid s d (dn e l)
    rw [hb, ih e h4, ← List.append_assoc, mid_mid h1 h2, mid_mid (Nat.le_trans h1 h2) h5.1]
theorem whl_id {by_ : List UInt8 → List UInt8} (hb : ∀ m, by_ m = m) (s : List UInt8) (l : List (Nat × Nat)) (h : Rise s.length 0 l) : whl by_ s l = s := by
  unfold whl
  rw [txt_id hb s l 0 h, mid_drop (rise_dn h (Nat.zero_le _)).1]
  rfl
theorem whl_len {by_ : List UInt8 → List UInt8} {s : List UInt8} {m : Nat} (hb : ∀ l : List UInt8, l.length ≤ s.length → (by_ l).length ≤ m) (l : List (Nat × Nat)) (h : Rise s.length 0 l) : (whl by_ s l).length ≤ l.length * m + s.length := by
  have h1 := txt_len hb l 0 h
  have h2 := rise_dn h (Nat.zero_le _)
  unfold whl
  rw [List.length_append, List.length_drop]
  omega
theorem by_amp (m : List UInt8) : byF m [38] = m := by rw [byF_amp, byF_nil, List.append_nil]

/-- What is known of the matches of a text of up to 60 bytes. -/
theorem stay_facts (R : Option Rel) (S : ByteArray) (hs : S.size ≤ 60) (repl : List UInt8) (hr : repl.length ≤ 60) (H : List (Nat × Nat)) (hH : hts (fdR R S.data.toList) S.size 0 0 = H) :
    SubAns 1000 (whl (fun m => byF m [38]) S.data.toList (Lst true H)) (Lst true H).length = .tuple #[.string S, .int .i64 (H.length : Int), .bool true] ∧
    (∃ T : ByteArray, T.size ≤ S.size ∧ SubAns 1000 (whl (fun m => byF m []) S.data.toList (Lst true H)) (Lst true H).length = .tuple #[.string T, .int .i64 (H.length : Int), .bool true]) ∧
    (∃ U : ByteArray, (H = [] → U = S) ∧ SubAns 100000 (whl (fun m => byF m repl) S.data.toList (Lst false H)) (Lst false H).length = .tuple #[.string U, .int .i64 ((if H.length = 0 then 0 else 1 : Nat) : Int), .bool true]) ∧
    (H = [] ↔ fdR R S.data.toList 0 = none) ∧ H.length ≤ 62 := by
  have hsl : S.data.toList.length = S.size := by simp
  have hrise := hits_rise (fdR_fits R S.data.toList) (S.size + 2 - 0) 0 0 0 (Nat.le_refl _)
  rw [show hits (fdR R S.data.toList) (S.size + 2 - 0) 0 0 = H from hH] at hrise
  have hlen : H.length ≤ S.size + 2 := by rw [← hH]; exact hits_len _ _ _
  refine ⟨?_, ?_, ?_, ?_, by omega⟩
  · rw [show Lst true H = H from rfl, whl_id by_amp _ _ hrise, SubAns_yes (by omega)]
  · have h1 := whl_len (by_ := fun m => byF m []) (m := 0) (fun l _ => Nat.le_refl 0) H hrise
    refine ⟨⟨(whl (fun m => byF m []) S.data.toList H).toArray⟩, ?_, ?_⟩
    · show (whl (fun m => byF m []) S.data.toList H).toArray.size ≤ _
      rw [List.size_toArray]
      omega
    · rw [show Lst true H = H from rfl, SubAns_yes (by omega)]
  · have hrise1 : Rise S.data.toList.length 0 (Lst false H) := by
      show Rise _ 0 (H.take 1)
      have := hrise
      rw [← List.take_append_drop 1 H] at this
      exact (rise_app this).1
    have hl1 : (Lst false H).length = if H.length = 0 then 0 else 1 := by
      show (H.take 1).length = _
      rw [List.length_take]
      split <;> omega
    have h1 := whl_len (by_ := fun m => byF m repl) (m := 3660) (fun l hl => by
      have h2 := byF_len l repl
      have h3 : repl.length * (l.length + 1) ≤ 60 * 61 := Nat.mul_le_mul hr (by omega)
      omega) (Lst false H) hrise1
    have h4 : (Lst false H).length ≤ 1 := by rw [hl1]; split <;> omega
    have h5 : (Lst false H).length * 3660 ≤ 1 * 3660 := Nat.mul_le_mul_right _ h4
    refine ⟨⟨(whl (fun m => byF m repl) S.data.toList (Lst false H)).toArray⟩, fun e => ?_, ?_⟩
    · subst e
      rfl
    · rw [SubAns_yes (by omega), hl1]
  · cases hf : fdR R S.data.toList 0 with
    | none =>
      have : H = [] := by rw [← hH]; exact hts_none hf
      exact ⟨fun _ => rfl, fun _ => this⟩
    | some x =>
      obtain ⟨i, e⟩ := x
      have hfit := fdR_fits R S.data.toList
      have hpast := fdR_past R S.data.toList
      rw [hsl] at hfit hpast
      have h1 := hts_some (la := 0) hfit hpast hf
      rw [hH, if_pos (Nat.zero_le e)] at h1
      exact ⟨fun e2 => (by rw [h1] at e2; cases e2), fun e2 => (by cases e2)⟩

section
variable (w : World) (E R S : ByteArray) (all : Bool) (most : Int)
set_option maxRecDepth 20000 in
set_option maxHeartbeats 4000000 in
theorem stay_no (h : ¬ Fit E R S) : Calls Try.prog 5 #[.agg (jC E R S all most)] w fun e w' => e = .returned (.bool true) ∧ Frm No w w' := by
  have HJ0 := Lib.hid (Box.new w 30 (jC E R S all most))
  have HF0 := Lib.hid ((Frm.refl No w).alloc (.cells (jC E R S all most) 30))
  have HN := Lib.hid (fun W => fit_no W E R S all most h)
  clear h
  go_enter Try.func5, Try.ntmps5
  go_wp2_with (first | (go_at_call 7; go_must (refine (awake_all _).mono ?_; rintro en w1 ⟨rfl, hf1⟩; have HJ1 := Lib.hid (HJ0.out.frm hf1 id))) | (refine wpList_load_row rfl 30 (.tmp 1) rfl w.heap.size rfl 30 (jC E R S all most) (0, 0) _ HJ1.out Try.underlying30 rfl info_job ?_) | (go_at_call 11; go_must (refine (HN.out _).mono ?_; rintro en w2 ⟨rfl, hf2⟩)))
  go_ret
  exact ⟨rfl, (HF0.out.trans hf1).trans hf2⟩
set_option maxRecDepth 20000 in
set_option maxHeartbeats 8000000 in
theorem stay_yes (h : Fit E R S) : Calls Try.prog 5 #[.agg (jC E R S all most)] w fun e w' => e = .returned (.bool true) ∧ Frm No w w' := by
  obtain ⟨D, hD, hkn⟩ := kn_fit h
  have hsz : S.size ≤ 60 := h.2.2.1
  have hrz : R.size ≤ 60 := h.2.1
  have HJ0 := Lib.hid (Box.new w 30 (jC E R S all most))
  have HF0 := Lib.hid ((Frm.refl No w).alloc (.cells (jC E R S all most) 30))
  have HY := Lib.hid (fun W => fit_yes W E R S all most h)
  have HP := Lib.hid (fun W => parse_kn W E (by have := h.1; omega) D hD)
  have HNW := Lib.hid (fun (W : World) (a : Option Addr) (cap : Nat) (hk : TK W D.kids a) => new_kn W D hkn a cap hk)
  have HM := Lib.hid (fun (W : World) (pa : Addr) (hm : MP W (.pointer (some pa)) (some (relT D))) => match_c W (some pa) _ S hm (by omega))
  obtain ⟨H, hH⟩ : ∃ H, hts (fdR (some (relT D)) S.data.toList) S.size 0 0 = H := ⟨_, rfl⟩
  obtain ⟨f1, ⟨T, hT, f2⟩, ⟨U, hU, f3⟩, f4, f5⟩ := stay_facts (some (relT D)) S hsz R.data.toList (by simpa using hrz) H hH
  have HS1 := Lib.hid (fun (W : World) (pa : Addr) (hm : MP W (.pointer (some pa)) (some (relT D))) => sub_all W (some pa) _ ⟨#[38]⟩ S true 1000 hm (by decide) (by omega) (by decide) (by decide) H hH)
  have HS2 := Lib.hid (fun (W : World) (pa : Addr) (hm : MP W (.pointer (some pa)) (some (relT D))) => sub_all W (some pa) _ ⟨#[]⟩ S true 1000 hm (by decide) (by omega) (by decide) (by decide) H hH)
  have HS3 := Lib.hid (fun (W : World) (pa : Addr) (hm : MP W (.pointer (some pa)) (some (relT D))) => sub_all W (some pa) _ R S false 100000 hm (by omega) (by omega) (by decide) (by decide) H hH)
  rw [show (⟨#[38]⟩ : ByteArray).data.toList = [38] from rfl, f1] at HS1
  rw [show (⟨#[]⟩ : ByteArray).data.toList = [] from rfl, f2] at HS2
  rw [f3] at HS3
  obtain ⟨N, hN⟩ : ∃ N, H.length = N := ⟨_, rfl⟩
  rw [hN] at HS1 HS2 HS3
  have hT2 : (T.size : Int) ≤ (S.size : Int) := by omega
  clear h hD hkn f1 f2 f3
  cases ho : fdR (some (relT D)) S.data.toList 0 with
  | none =>
    rw [ho, show MatV none = .tuple #[.int .i64 0, .int .i64 (-1)] from rfl] at HM
    obtain rfl : H = [] := f4.2 ho
    obtain rfl : N = 0 := hN.symm
    rw [if_pos rfl, hU rfl, show ((0 : Nat) : Int) = 0 from rfl] at HS3
    rw [show ((0 : Nat) : Int) = 0 from rfl] at HS1 HS2
    clear ho f4 f5 hN hH hU
    go_enter Try.func5, Try.ntmps5
    go_upto_region 6 with (first | (go_at_call 7; go_must (refine (awake_all _).mono ?_; rintro en w1 ⟨rfl, hf1⟩; have HJ1 := Lib.hid (HJ0.out.frm hf1 id))) | (refine wpList_load_row rfl 30 (.tmp 1) rfl w.heap.size rfl 30 (jC E R S all most) (0, 0) _ HJ1.out Try.underlying30 rfl info_job ?_) | (go_at_call 11; go_must (refine (HY.out _).mono ?_; rintro en w2 ⟨rfl, hf2⟩; have HJ2 := Lib.hid (HJ1.out.frm hf2 id); have j2 := HJ2.out.cell 0)) | (go_at_call 12; go_must (refine (HP.out _).mono ?_; rintro en w3 ⟨a, cap, rfl, hk, hf3⟩; have HK := Lib.hid (hk.move ((Frm.refl No w3).alloc (.cells (eC D a cap) 33))); have HB3 := Lib.hid (Box.new w3 33 (eC D a cap)); have HJ3 := Lib.hid ((HJ2.out.frm hf3 id).alloc (.cells (eC D a cap) 33)); have HF3 := Lib.hid ((((HF0.out.trans hf1).trans hf2).trans hf3).alloc (.cells (eC D a cap) 33)); clear hk)))
    go_upto_region 7 with (first | (refine wpList_load_row rfl 33 (.tmp 3) rfl w3.heap.size rfl 33 (eC D a cap) (0, 0) _ HB3.out Try.underlying33 rfl doc3.info_er ?_) | (go_at_call 14; go_must (refine (HNW.out _ a cap HK.out).mono ?_; rintro en w4 ⟨pa, rfl, hmp, hf4⟩; have HF4 := Lib.hid (HF3.out.trans hf4); have HM4 := Lib.hid hmp; have HJ4 := Lib.hid (HJ3.out.frm hf4 id); have c4 := HJ4.out.cell 2; clear hmp)))
    go_upto_region 8 with (go_at_call 13; go_must (refine (HS1.out _ pa HM4.out).mono ?_; rintro en w5 ⟨rfl, hf5⟩; have HF5 := Lib.hid (HF4.out.trans hf5); have HM5 := Lib.hid (HM4.out.move hf5); have HJ5 := Lib.hid (HJ4.out.frm hf5 id); have c5 := HJ5.out.cell 2))
    go_upto_region 9 with (go_at_call 13; go_must (refine (HS2.out _ pa HM5.out).mono ?_; rintro en w6 ⟨rfl, hf6⟩; have HF6 := Lib.hid (HF5.out.trans hf6); have HM6 := Lib.hid (HM5.out.move hf6); have HJ6 := Lib.hid (HJ5.out.frm hf6 id); have c6 := HJ6.out.cell 2; have d6 := HJ6.out.cell 1))
    go_upto_region 10 with (go_at_call 13; go_must (refine (HS3.out _ pa HM6.out).mono ?_; rintro en w7 ⟨rfl, hf7⟩; have HF7 := Lib.hid (HF6.out.trans hf7); have HM7 := Lib.hid (HM6.out.move hf7); have HJ7 := Lib.hid (HJ6.out.frm hf7 id); have c7 := HJ7.out.cell 2))
    go_upto_region 12 with (fail "none")
    go_wp2_with (go_at_call 16; go_must (refine (HM.out _ pa HM7.out).mono ?_; rintro en w8 ⟨rfl, hf8⟩; have c8 := (HJ7.out.frm hf8 id).cell 2))
    go_ret
    exact ⟨by simp, HF7.out.trans hf8⟩
  | some x =>
    obtain ⟨i, e⟩ := x
    obtain ⟨q1, q2, q3⟩ := fdR_fits _ _ 0 i e ho
    rw [ho, show MatV (some (i, e)) = .tuple #[.int .i64 ((i : Int) + 1), .int .i64 ((e : Int) - (i : Int))] from rfl] at HM
    have hN0 : N ≠ 0 := fun e2 => by
      have : H = [] := List.eq_nil_of_length_eq_zero (by omega)
      rw [f4.1 this] at ho
      cases ho
    rw [if_neg hN0, show ((1 : Nat) : Int) = 1 from rfl] at HS3
    obtain ⟨I, hI⟩ : ∃ I, (i : Int) + 1 = I := ⟨_, rfl⟩
    obtain ⟨Z, hZ⟩ : ∃ Z, (e : Int) - (i : Int) = Z := ⟨_, rfl⟩
    obtain ⟨K, hK⟩ : ∃ K, (N : Int) = K := ⟨_, rfl⟩
    rw [hI, hZ] at HM
    rw [hK] at HS1 HS2
    have hI0 : ¬ I = 0 := by omega
    have hZ0 : 0 ≤ Z := by omega
    have hK0 : ¬ K = 0 := by omega
    have hIb : (I == 0) = false := beq_eq_false_iff_ne.2 hI0
    have hKb : (K == 0) = false := beq_eq_false_iff_ne.2 hK0
    clear ho f4 f5 hN hH hU hI hZ hK hN0 q1 q2 q3
    go_enter Try.func5, Try.ntmps5
    go_upto_region 6 with (first | (go_at_call 7; go_must (refine (awake_all _).mono ?_; rintro en w1 ⟨rfl, hf1⟩; have HJ1 := Lib.hid (HJ0.out.frm hf1 id))) | (refine wpList_load_row rfl 30 (.tmp 1) rfl w.heap.size rfl 30 (jC E R S all most) (0, 0) _ HJ1.out Try.underlying30 rfl info_job ?_) | (go_at_call 11; go_must (refine (HY.out _).mono ?_; rintro en w2 ⟨rfl, hf2⟩; have HJ2 := Lib.hid (HJ1.out.frm hf2 id); have j2 := HJ2.out.cell 0)) | (go_at_call 12; go_must (refine (HP.out _).mono ?_; rintro en w3 ⟨a, cap, rfl, hk, hf3⟩; have HK := Lib.hid (hk.move ((Frm.refl No w3).alloc (.cells (eC D a cap) 33))); have HB3 := Lib.hid (Box.new w3 33 (eC D a cap)); have HJ3 := Lib.hid ((HJ2.out.frm hf3 id).alloc (.cells (eC D a cap) 33)); have HF3 := Lib.hid ((((HF0.out.trans hf1).trans hf2).trans hf3).alloc (.cells (eC D a cap) 33)); clear hk)))
    go_upto_region 7 with (first | (refine wpList_load_row rfl 33 (.tmp 3) rfl w3.heap.size rfl 33 (eC D a cap) (0, 0) _ HB3.out Try.underlying33 rfl doc3.info_er ?_) | (go_at_call 14; go_must (refine (HNW.out _ a cap HK.out).mono ?_; rintro en w4 ⟨pa, rfl, hmp, hf4⟩; have HF4 := Lib.hid (HF3.out.trans hf4); have HM4 := Lib.hid hmp; have HJ4 := Lib.hid (HJ3.out.frm hf4 id); have c4 := HJ4.out.cell 2; clear hmp)))
    go_upto_region 8 with (go_at_call 13; go_must (refine (HS1.out _ pa HM4.out).mono ?_; rintro en w5 ⟨rfl, hf5⟩; have HF5 := Lib.hid (HF4.out.trans hf5); have HM5 := Lib.hid (HM4.out.move hf5); have HJ5 := Lib.hid (HJ4.out.frm hf5 id); have c5 := HJ5.out.cell 2))
    go_upto_region 9 with (go_at_call 13; go_must (refine (HS2.out _ pa HM5.out).mono ?_; rintro en w6 ⟨rfl, hf6⟩; have HF6 := Lib.hid (HF5.out.trans hf6); have HM6 := Lib.hid (HM5.out.move hf6); have HJ6 := Lib.hid (HJ5.out.frm hf6 id); have c6 := HJ6.out.cell 2; have d6 := HJ6.out.cell 1))
    go_upto_region 10 with (go_at_call 13; go_must (refine (HS3.out _ pa HM6.out).mono ?_; rintro en w7 ⟨rfl, hf7⟩; have HF7 := Lib.hid (HF6.out.trans hf7); have HM7 := Lib.hid (HM6.out.move hf7); have HJ7 := Lib.hid (HJ6.out.frm hf7 id); have c7 := HJ7.out.cell 2))
    go_upto_region 12 with (fail "none")
    go_wp2_with (go_at_call 16; go_must (refine (HM.out _ pa HM7.out).mono ?_; rintro en w8 ⟨rfl, hf8⟩; have c8 := (HJ7.out.frm hf8 id).cell 2))
    go_ret
    exact ⟨by simp; exact hZ0, HF7.out.trans hf8⟩
theorem stay_law : Calls Try.prog 5 #[.agg (jC E R S all most)] w fun e w' => e = .returned (.bool true) ∧ Frm No w w' := by
  by_cases h : Fit E R S
  · exact stay_yes w E R S all most h
  · exact stay_no w E R S all most h
end
end Go.Proofs.Ytgjblffihkaepaa.wrd
