/- The contract of dec.readNumeral. -/
import Derived.Test.YtcjeeoadgoghfaaGreatDoorGPower
import Derived.OpenShut

namespace Go.Proofs.YtcjeeoadgoghfaaGreatDoor.scan
set_option linter.unusedVariables false set_option linter.unusedSimpArgs false
open Go.ChangeShapes Go.WideShapes Go.ChangeAt Go.RowKit

/-- The parts of a numeral at the beginning of a text: the digits ahead of the point, is there a point, those behind it, how many bytes so far, the power, how many bytes in all. -/
def wholeL (l : List UInt8) : List UInt8 := (l.drop (sg l)).take (dg (l.drop (sg l)))
def hasPt (l : List UInt8) : Bool := (l.drop (sg l + (wholeL l).length)).head? == some 46
def partL (l : List UInt8) : List UInt8 := if hasPt l then (l.drop (sg l + (wholeL l).length + 1)).take (dg (l.drop (sg l + (wholeL l).length + 1))) else []
def sizeA (l : List UInt8) : Nat := sg l + (wholeL l).length + if hasPt l then 1 + (partL l).length else 0
def powL (l : List UInt8) : List UInt8 := lp (l.drop (sizeA l))
def sizeB (l : List UInt8) : Nat := sizeA l + if powL l = [] then 0 else 1 + (powL l).length
def negL (l : List UInt8) : Bool := l.head? == some 45

theorem leadingPower_all (s : ByteArray) (w : World) (hs : s.size ≤ 140737488351232) :
    Calls Tryz.prog 84 #[.string s] w fun e w' => e = .returned (.string ⟨(lp s.data.toList).toArray⟩) ∧ w = w' := by
  cases h : s.data.toList with
  | nil =>
    refine (leadingPower_none s w (by rw [h]; intro c hc; cases hc)).mono fun e w' ⟨h1, h2⟩ => ⟨?_, h2⟩
    rw [h1]; rfl
  | cons c t =>
    by_cases hc : c = 101 ∨ c = 69
    · have := leadingPower_e s t c w hs h hc
      rw [h] at this
      exact this
    · refine (leadingPower_none s w (by rw [h]; intro d hd; simp at hd; subst hd; exact ⟨fun e => hc (Or.inl e), fun e => hc (Or.inr e)⟩)).mono fun e w' ⟨h1, h2⟩ => ⟨?_, h2⟩
      rw [h1]; simp only [lp]; rw [if_neg hc]

theorem dg_le (l : List UInt8) : dg l ≤ l.length := tw_len isD l
theorem wholeL_len (l : List UInt8) : (wholeL l).length = dg (l.drop (sg l)) := by
  unfold wholeL; rw [List.length_take]; have := dg_le (l.drop (sg l)); omega
theorem wholeL_bd (l : List UInt8) : sg l + (wholeL l).length ≤ l.length := by
  rw [wholeL_len]; have h1 := dg_le (l.drop (sg l)); have h2 := (sg_le l).1; rw [List.length_drop] at h1; omega
theorem hasPt_bd (l : List UInt8) (h : hasPt l = true) : sg l + (wholeL l).length + 1 ≤ l.length := by
  unfold hasPt at h
  by_cases hlt : sg l + (wholeL l).length < l.length
  · omega
  · rw [List.drop_of_length_le (by omega)] at h; simp at h
theorem partL_bd (l : List UInt8) (h : hasPt l = true) : sg l + (wholeL l).length + (1 + (partL l).length) ≤ l.length := by
  have h1 := hasPt_bd l h
  unfold partL
  rw [if_pos h, List.length_take]
  have := dg_le (l.drop (sg l + (wholeL l).length + 1))
  rw [List.length_drop] at this
  omega
theorem sizeA_bd (l : List UInt8) : sizeA l ≤ l.length := by
  unfold sizeA
  cases h : hasPt l
  · have := wholeL_bd l; simp; exact this
  · have := partL_bd l h; simp; omega
theorem lp_bd (l : List UInt8) : lp l ≠ [] → 1 + (lp l).length ≤ l.length := by
  intro h
  cases l with
  | nil => exact absurd rfl h
  | cons c t =>
    simp only [lp] at h ⊢
    split
    · split
      · rename_i h1 h2; rw [if_pos h1, if_pos h2] at h; exact absurd rfl h
      · rw [List.length_take, List.length_cons]; omega
    · rename_i h1; rw [if_neg h1] at h; exact absurd rfl h
theorem sizeB_bd (l : List UInt8) : sizeB l ≤ l.length := by
  unfold sizeB
  have h1 := sizeA_bd l
  split
  · omega
  · rename_i h
    have := lp_bd (l.drop (sizeA l)) h
    rw [List.length_drop] at this
    unfold powL
    omega
theorem neg_eq (s : ByteArray) (l : List UInt8) (hl : s.data.toList = l) : ((s.extract 0 (sg l)).toList == [45]) = negL l := by
  rw [Lib.toList_data, extract_list, hl]
  unfold negL
  cases l with
  | nil => rfl
  | cons c t =>
    simp only [sg]
    by_cases h : c = 43 ∨ c = 45
    · rw [if_pos h]; simp
    · rw [if_neg h]
      have : c ≠ 45 := fun e => h (Or.inr e)
      simp [this]
theorem mk_empty (l : List UInt8) : (⟨l.toArray⟩ : ByteArray).toList.isEmpty = l.isEmpty := by
  rw [Lib.toList_data]

/-- There is no numeral. -/
def noNum (l : List UInt8) : Prop := wholeL l = [] ∧ partL l = []

set_option maxRecDepth 100000 in
set_option maxHeartbeats 800000 in
theorem rn_ff (s : ByteArray) (l : List UInt8) (w : World) (hs : s.size ≤ 140737488351232) (hl : s.data.toList = l) (hpt : hasPt l = false) (hwe : (wholeL l).isEmpty = true) :
    Calls Tryz.prog 46 #[.string s] w fun e w' => e = .returned (.tuple #[.agg #[.bool false, .string ⟨#[]⟩, .string ⟨#[]⟩, .string ⟨#[]⟩], .int .i64 0]) ∧ Below w.heap.size w w' := by
  have hsg := sg_le l
  have hsz : s.size = l.length := by rw [← hl]; simp
  have HN := neg_eq s l hl
  have HSG := Lib.hid (fun w => signSize_all s w)
  rw [hl] at HSG
  have hp1 : sg l ≤ s.size := by omega
  obtain ⟨W, hW⟩ : ∃ W : ByteArray, W = ⟨(wholeL l).toArray⟩ := ⟨_, rfl⟩
  have hWs : W.size = (wholeL l).length := by rw [hW, list_size]
  have hwb := wholeL_bd l
  have hp2 : (sg l : Int) + (W.size : Int) ≤ s.size := by omega
  have hWe : W.toList.isEmpty = true := by rw [hW, mk_empty, hwe]
  have HDW := Lib.hid (fun w => show Calls Tryz.prog 82 #[.string (s.extract (sg l) s.size)] w fun e w' => e = .returned (.string W) ∧ w = w' by
    have := leadingDigits_all (s.extract (sg l) s.size) w (by simp [ByteArray.size_extract]; omega)
    rw [extract_drop, hl] at this
    rw [hW]; exact this)
  have HPT := Lib.hid (fun w => show Calls Tryz.prog 83 #[.string (s.extract (sg l + W.size) s.size), .string ⟨#[46]⟩] w fun e w' => e = .returned (.bool false) ∧ w' = w by
    have := Tryz.strings_HasPrefix (s.extract (sg l + W.size) s.size) ⟨#[46]⟩ w
    rw [extract_drop, hl, hWs, show (⟨#[46]⟩ : ByteArray).data.toList = [46] from rfl, pre_one] at this
    rw [hWs, ← hpt]; exact this)
  have HW := Lib.hid hW
  have HPE := Lib.hid hpt
  clear hsg hsz hl hW hWs hwb hwe hpt
  go_enter Tryz.func46, Tryz.ntmps46
  go_wp2_with (first | (go_at_call 81; go_must (refine (HSG.out _).mono ?_; rintro e w' ⟨rfl, rfl⟩)) | (go_at_call 83; go_must (refine (HPT.out _).mono ?_; rintro e w' ⟨rfl, rfl⟩)) | (go_at_call 82; (with_reducible refine (HDW.out _).mono ?_); rintro e w' ⟨rfl, rfl⟩))
  exact bodyPost_ret (v := .tuple #[.agg #[.bool false, .string ⟨#[]⟩, .string ⟨#[]⟩, .string ⟨#[]⟩], .int .i64 0]) (by simp [results, Tryz.results46, go_sem]) rfl ⟨rfl, ((Below.refl _ _).alloc (Nat.le_refl _) _).alloc (by simp) _⟩

set_option maxRecDepth 100000 in
set_option maxHeartbeats 800000 in
theorem rn_wq0 (s : ByteArray) (l : List UInt8) (w : World) (hs : s.size ≤ 140737488351232) (hl : s.data.toList = l) (hpt : hasPt l = false) (hwe : (wholeL l).isEmpty = false) (hqe : (powL l).isEmpty = true) :
    Calls Tryz.prog 46 #[.string s] w fun e w' => e = .returned (.tuple #[.agg #[.bool (negL l), .string ⟨(wholeL l).toArray⟩, .string ⟨(partL l).toArray⟩, .string ⟨(powL l).toArray⟩], .int .i64 (sizeB l : Nat)]) ∧ Below w.heap.size w w' := by
  have hsg := sg_le l
  have hsz : s.size = l.length := by rw [← hl]; simp
  have HN := neg_eq s l hl
  have HSG := Lib.hid (fun w => signSize_all s w)
  rw [hl] at HSG
  have hp1 : sg l ≤ s.size := by omega
  obtain ⟨W, hW⟩ : ∃ W : ByteArray, W = ⟨(wholeL l).toArray⟩ := ⟨_, rfl⟩
  have hWs : W.size = (wholeL l).length := by rw [hW, list_size]
  have hwb := wholeL_bd l
  have hp2 : (sg l : Int) + (W.size : Int) ≤ s.size := by omega
  have hWe : W.toList.isEmpty = false := by rw [hW, mk_empty, hwe]
  have HDW := Lib.hid (fun w => show Calls Tryz.prog 82 #[.string (s.extract (sg l) s.size)] w fun e w' => e = .returned (.string W) ∧ w = w' by
    have := leadingDigits_all (s.extract (sg l) s.size) w (by simp [ByteArray.size_extract]; omega)
    rw [extract_drop, hl] at this
    rw [hW]; exact this)
  have HPT := Lib.hid (fun w => show Calls Tryz.prog 83 #[.string (s.extract (sg l + W.size) s.size), .string ⟨#[46]⟩] w fun e w' => e = .returned (.bool false) ∧ w' = w by
    have := Tryz.strings_HasPrefix (s.extract (sg l + W.size) s.size) ⟨#[46]⟩ w
    rw [extract_drop, hl, hWs, show (⟨#[46]⟩ : ByteArray).data.toList = [46] from rfl, pre_one] at this
    rw [hWs, ← hpt]; exact this)
  obtain ⟨Q, hQ⟩ : ∃ Q : ByteArray, Q = ⟨(powL l).toArray⟩ := ⟨_, rfl⟩
  have hQs : Q.size = (powL l).length := by rw [hQ, list_size]
  have hQe : Q.toList.isEmpty = true := by rw [hQ, mk_empty, hqe]
  have hA : sizeA l = sg l + W.size := by unfold sizeA; rw [hpt, hWs]; simp
  have HQ := Lib.hid (fun w => show Calls Tryz.prog 84 #[.string (s.extract (sg l + W.size) s.size)] w fun e w' => e = .returned (.string Q) ∧ w = w' by
    have := leadingPower_all (s.extract (sg l + W.size) s.size) w (by simp [ByteArray.size_extract]; omega)
    rw [extract_drop, hl, ← hA] at this
    rw [← hA, hQ]; exact this)
  have HSB := Lib.hid (show sizeB l = sg l + W.size by unfold sizeB; rw [if_pos (List.isEmpty_iff.1 hqe), hA]; rfl)
  have HR := Lib.hid (show (⟨(powL l).toArray⟩ : ByteArray) = Q from hQ.symm)
  clear hQ hQs hA hqe
  have HW := Lib.hid hW
  have HPE := Lib.hid hpt
  clear hsg hsz hl hW hWs hwb hwe hpt
  generalize negL l = ng at *
  go_enter Tryz.func46, Tryz.ntmps46
  go_wp2_with (first | (go_at_call 81; go_must (refine (HSG.out _).mono ?_; rintro e w' ⟨rfl, rfl⟩)) | (go_at_call 83; go_must (refine (HPT.out _).mono ?_; rintro e w' ⟨rfl, rfl⟩)) | (go_at_call 82; (with_reducible refine (HDW.out _).mono ?_); rintro e w' ⟨rfl, rfl⟩) | (go_at_call 84; go_must (refine (HQ.out _).mono ?_; rintro e w' ⟨rfl, rfl⟩)))
  refine bodyPost_ret (v := .tuple #[.agg #[.bool ng, .string W, .string ⟨#[]⟩, .string Q], .int .i64 ((sg l : Int) + (W.size : Int))]) (by simp [results, Tryz.results46, go_sem]) rfl ⟨?_, ((Below.refl _ _).alloc (Nat.le_refl _) _).alloc (by simp) _⟩
  rw [HR.out, ← HW.out, HSB.out]
  unfold partL
  rw [HPE.out]
  rfl

set_option maxRecDepth 100000 in
set_option maxHeartbeats 800000 in
theorem rn_wq1 (s : ByteArray) (l : List UInt8) (w : World) (hs : s.size ≤ 140737488351232) (hl : s.data.toList = l) (hpt : hasPt l = false) (hwe : (wholeL l).isEmpty = false) (hqe : (powL l).isEmpty = false) :
    Calls Tryz.prog 46 #[.string s] w fun e w' => e = .returned (.tuple #[.agg #[.bool (negL l), .string ⟨(wholeL l).toArray⟩, .string ⟨(partL l).toArray⟩, .string ⟨(powL l).toArray⟩], .int .i64 (sizeB l : Nat)]) ∧ Below w.heap.size w w' := by
  have hsg := sg_le l
  have hsz : s.size = l.length := by rw [← hl]; simp
  have HN := neg_eq s l hl
  have HSG := Lib.hid (fun w => signSize_all s w)
  rw [hl] at HSG
  have hp1 : sg l ≤ s.size := by omega
  obtain ⟨W, hW⟩ : ∃ W : ByteArray, W = ⟨(wholeL l).toArray⟩ := ⟨_, rfl⟩
  have hWs : W.size = (wholeL l).length := by rw [hW, list_size]
  have hwb := wholeL_bd l
  have hp2 : (sg l : Int) + (W.size : Int) ≤ s.size := by omega
  have hWe : W.toList.isEmpty = false := by rw [hW, mk_empty, hwe]
  have HDW := Lib.hid (fun w => show Calls Tryz.prog 82 #[.string (s.extract (sg l) s.size)] w fun e w' => e = .returned (.string W) ∧ w = w' by
    have := leadingDigits_all (s.extract (sg l) s.size) w (by simp [ByteArray.size_extract]; omega)
    rw [extract_drop, hl] at this
    rw [hW]; exact this)
  have HPT := Lib.hid (fun w => show Calls Tryz.prog 83 #[.string (s.extract (sg l + W.size) s.size), .string ⟨#[46]⟩] w fun e w' => e = .returned (.bool false) ∧ w' = w by
    have := Tryz.strings_HasPrefix (s.extract (sg l + W.size) s.size) ⟨#[46]⟩ w
    rw [extract_drop, hl, hWs, show (⟨#[46]⟩ : ByteArray).data.toList = [46] from rfl, pre_one] at this
    rw [hWs, ← hpt]; exact this)
  obtain ⟨Q, hQ⟩ : ∃ Q : ByteArray, Q = ⟨(powL l).toArray⟩ := ⟨_, rfl⟩
  have hQs : Q.size = (powL l).length := by rw [hQ, list_size]
  have hQe : Q.toList.isEmpty = false := by rw [hQ, mk_empty, hqe]
  have hA : sizeA l = sg l + W.size := by unfold sizeA; rw [hpt, hWs]; simp
  have HQ := Lib.hid (fun w => show Calls Tryz.prog 84 #[.string (s.extract (sg l + W.size) s.size)] w fun e w' => e = .returned (.string Q) ∧ w = w' by
    have := leadingPower_all (s.extract (sg l + W.size) s.size) w (by simp [ByteArray.size_extract]; omega)
    rw [extract_drop, hl, ← hA] at this
    rw [← hA, hQ]; exact this)
  have hqb := sizeB_bd l
  have HSB := Lib.hid (show sizeB l = sg l + W.size + (1 + Q.size) by unfold sizeB; rw [if_neg (by intro e; rw [e] at hqe; cases hqe), hA, hQs])
  have hp4 : (sg l : Int) + (W.size : Int) + (1 + (Q.size : Int)) ≤ s.size := by have := HSB.out; omega
  have HR := Lib.hid (show (⟨(powL l).toArray⟩ : ByteArray) = Q from hQ.symm)
  clear hQ hQs hA hqe
  clear hqb
  have HW := Lib.hid hW
  have HPE := Lib.hid hpt
  clear hsg hsz hl hW hWs hwb hwe hpt
  generalize negL l = ng at *
  go_enter Tryz.func46, Tryz.ntmps46
  go_wp2_with (first | (go_at_call 81; go_must (refine (HSG.out _).mono ?_; rintro e w' ⟨rfl, rfl⟩)) | (go_at_call 83; go_must (refine (HPT.out _).mono ?_; rintro e w' ⟨rfl, rfl⟩)) | (go_at_call 82; (with_reducible refine (HDW.out _).mono ?_); rintro e w' ⟨rfl, rfl⟩) | (go_at_call 84; go_must (refine (HQ.out _).mono ?_; rintro e w' ⟨rfl, rfl⟩)))
  refine bodyPost_ret (v := .tuple #[.agg #[.bool ng, .string W, .string ⟨#[]⟩, .string Q], .int .i64 ((sg l : Int) + (W.size : Int) + (1 + (Q.size : Int)))]) (by simp [results, Tryz.results46, go_sem]) rfl ⟨?_, ((Below.refl _ _).alloc (Nat.le_refl _) _).alloc (by simp) _⟩
  rw [HR.out, ← HW.out, HSB.out]
  unfold partL
  rw [HPE.out]
  rfl

set_option maxRecDepth 100000 in
set_option maxHeartbeats 800000 in
theorem rn_pff (s : ByteArray) (l : List UInt8) (w : World) (hs : s.size ≤ 140737488351232) (hl : s.data.toList = l) (hpt : hasPt l = true) (hwe : (wholeL l).isEmpty = true) (hpe : (partL l).isEmpty = true) :
    Calls Tryz.prog 46 #[.string s] w fun e w' => e = .returned (.tuple #[.agg #[.bool false, .string ⟨#[]⟩, .string ⟨#[]⟩, .string ⟨#[]⟩], .int .i64 0]) ∧ Below w.heap.size w w' := by
  have hsg := sg_le l
  have hsz : s.size = l.length := by rw [← hl]; simp
  have HN := neg_eq s l hl
  have HSG := Lib.hid (fun w => signSize_all s w)
  rw [hl] at HSG
  have hp1 : sg l ≤ s.size := by omega
  obtain ⟨W, hW⟩ : ∃ W : ByteArray, W = ⟨(wholeL l).toArray⟩ := ⟨_, rfl⟩
  have hWs : W.size = (wholeL l).length := by rw [hW, list_size]
  have hwb := wholeL_bd l
  have hp2 : (sg l : Int) + (W.size : Int) ≤ s.size := by omega
  have hWe : W.toList.isEmpty = true := by rw [hW, mk_empty, hwe]
  have HDW := Lib.hid (fun w => show Calls Tryz.prog 82 #[.string (s.extract (sg l) s.size)] w fun e w' => e = .returned (.string W) ∧ w = w' by
    have := leadingDigits_all (s.extract (sg l) s.size) w (by simp [ByteArray.size_extract]; omega)
    rw [extract_drop, hl] at this
    rw [hW]; exact this)
  have HPT := Lib.hid (fun w => show Calls Tryz.prog 83 #[.string (s.extract (sg l + W.size) s.size), .string ⟨#[46]⟩] w fun e w' => e = .returned (.bool true) ∧ w' = w by
    have := Tryz.strings_HasPrefix (s.extract (sg l + W.size) s.size) ⟨#[46]⟩ w
    rw [extract_drop, hl, hWs, show (⟨#[46]⟩ : ByteArray).data.toList = [46] from rfl, pre_one] at this
    rw [hWs, ← hpt]; exact this)
  obtain ⟨P, hP⟩ : ∃ P : ByteArray, P = ⟨(partL l).toArray⟩ := ⟨_, rfl⟩
  have hPs : P.size = (partL l).length := by rw [hP, list_size]
  have hpb := partL_bd l hpt
  have hp3 : (sg l : Int) + (W.size : Int) + (1 + (P.size : Int)) ≤ s.size := by omega
  have hp3' : (sg l : Int) + (W.size : Int) + 1 ≤ s.size := by omega
  have HDP := Lib.hid (fun w => show Calls Tryz.prog 82 #[.string (s.extract (sg l + W.size + 1) s.size)] w fun e w' => e = .returned (.string P) ∧ w = w' by
    have := leadingDigits_all (s.extract (sg l + W.size + 1) s.size) w (by simp [ByteArray.size_extract]; omega)
    rw [extract_drop, hl, hWs] at this
    rw [hP, hWs]; unfold partL; rw [if_pos hpt]; exact this)
  have hPe : P.toList.isEmpty = true := by rw [hP, mk_empty, hpe]
  have HW := Lib.hid hW
  have HP := Lib.hid hP
  clear hP hPs hpb
  clear hpe
  have HPE := Lib.hid hpt
  clear hsg hsz hl hW hWs hwb hwe hpt
  go_enter Tryz.func46, Tryz.ntmps46
  go_wp2_with (first | (go_at_call 81; go_must (refine (HSG.out _).mono ?_; rintro e w' ⟨rfl, rfl⟩)) | (go_at_call 83; go_must (refine (HPT.out _).mono ?_; rintro e w' ⟨rfl, rfl⟩)) | (go_at_call 82; (with_reducible refine (HDW.out _).mono ?_); rintro e w' ⟨rfl, rfl⟩) | (go_at_call 82; (with_reducible refine (HDP.out _).mono ?_); rintro e w' ⟨rfl, rfl⟩))
  exact bodyPost_ret (v := .tuple #[.agg #[.bool false, .string ⟨#[]⟩, .string ⟨#[]⟩, .string ⟨#[]⟩], .int .i64 0]) (by simp [results, Tryz.results46, go_sem]) rfl ⟨rfl, ((Below.refl _ _).alloc (Nat.le_refl _) _).alloc (by simp) _⟩

set_option maxRecDepth 100000 in
set_option maxHeartbeats 800000 in
theorem rn_pwq0 (s : ByteArray) (l : List UInt8) (w : World) (hs : s.size ≤ 140737488351232) (hl : s.data.toList = l) (hpt : hasPt l = true) (hwe : (wholeL l).isEmpty = false) (hqe : (powL l).isEmpty = true) :
    Calls Tryz.prog 46 #[.string s] w fun e w' => e = .returned (.tuple #[.agg #[.bool (negL l), .string ⟨(wholeL l).toArray⟩, .string ⟨(partL l).toArray⟩, .string ⟨(powL l).toArray⟩], .int .i64 (sizeB l : Nat)]) ∧ Below w.heap.size w w' := by
  have hsg := sg_le l
  have hsz : s.size = l.length := by rw [← hl]; simp
  have HN := neg_eq s l hl
  have HSG := Lib.hid (fun w => signSize_all s w)
  rw [hl] at HSG
  have hp1 : sg l ≤ s.size := by omega
  obtain ⟨W, hW⟩ : ∃ W : ByteArray, W = ⟨(wholeL l).toArray⟩ := ⟨_, rfl⟩
  have hWs : W.size = (wholeL l).length := by rw [hW, list_size]
  have hwb := wholeL_bd l
  have hp2 : (sg l : Int) + (W.size : Int) ≤ s.size := by omega
  have hWe : W.toList.isEmpty = false := by rw [hW, mk_empty, hwe]
  have HDW := Lib.hid (fun w => show Calls Tryz.prog 82 #[.string (s.extract (sg l) s.size)] w fun e w' => e = .returned (.string W) ∧ w = w' by
    have := leadingDigits_all (s.extract (sg l) s.size) w (by simp [ByteArray.size_extract]; omega)
    rw [extract_drop, hl] at this
    rw [hW]; exact this)
  have HPT := Lib.hid (fun w => show Calls Tryz.prog 83 #[.string (s.extract (sg l + W.size) s.size), .string ⟨#[46]⟩] w fun e w' => e = .returned (.bool true) ∧ w' = w by
    have := Tryz.strings_HasPrefix (s.extract (sg l + W.size) s.size) ⟨#[46]⟩ w
    rw [extract_drop, hl, hWs, show (⟨#[46]⟩ : ByteArray).data.toList = [46] from rfl, pre_one] at this
    rw [hWs, ← hpt]; exact this)
  obtain ⟨P, hP⟩ : ∃ P : ByteArray, P = ⟨(partL l).toArray⟩ := ⟨_, rfl⟩
  have hPs : P.size = (partL l).length := by rw [hP, list_size]
  have hpb := partL_bd l hpt
  have hp3 : (sg l : Int) + (W.size : Int) + (1 + (P.size : Int)) ≤ s.size := by omega
  have hp3' : (sg l : Int) + (W.size : Int) + 1 ≤ s.size := by omega
  have HDP := Lib.hid (fun w => show Calls Tryz.prog 82 #[.string (s.extract (sg l + W.size + 1) s.size)] w fun e w' => e = .returned (.string P) ∧ w = w' by
    have := leadingDigits_all (s.extract (sg l + W.size + 1) s.size) w (by simp [ByteArray.size_extract]; omega)
    rw [extract_drop, hl, hWs] at this
    rw [hP, hWs]; unfold partL; rw [if_pos hpt]; exact this)
  obtain ⟨Q, hQ⟩ : ∃ Q : ByteArray, Q = ⟨(powL l).toArray⟩ := ⟨_, rfl⟩
  have hQs : Q.size = (powL l).length := by rw [hQ, list_size]
  have hQe : Q.toList.isEmpty = true := by rw [hQ, mk_empty, hqe]
  have hA : sizeA l = sg l + W.size + (1 + P.size) := by unfold sizeA; rw [hpt, hWs, hPs]; simp
  have HQ := Lib.hid (fun w => show Calls Tryz.prog 84 #[.string (s.extract (sg l + W.size + (1 + P.size)) s.size)] w fun e w' => e = .returned (.string Q) ∧ w = w' by
    have := leadingPower_all (s.extract (sg l + W.size + (1 + P.size)) s.size) w (by simp [ByteArray.size_extract]; omega)
    rw [extract_drop, hl, ← hA] at this
    rw [← hA, hQ]; exact this)
  have HSB := Lib.hid (show sizeB l = sg l + W.size + (1 + P.size) by unfold sizeB; rw [if_pos (List.isEmpty_iff.1 hqe), hA]; rfl)
  have HR := Lib.hid (show (⟨(powL l).toArray⟩ : ByteArray) = Q from hQ.symm)
  clear hQ hQs hA hqe
  have HW := Lib.hid hW
  have HP := Lib.hid hP
  clear hP hPs hpb
  have HPE := Lib.hid hpt
  clear hsg hsz hl hW hWs hwb hwe hpt
  generalize negL l = ng at *
  go_enter Tryz.func46, Tryz.ntmps46
  go_wp2_with (first | (go_at_call 81; go_must (refine (HSG.out _).mono ?_; rintro e w' ⟨rfl, rfl⟩)) | (go_at_call 83; go_must (refine (HPT.out _).mono ?_; rintro e w' ⟨rfl, rfl⟩)) | (go_at_call 82; (with_reducible refine (HDW.out _).mono ?_); rintro e w' ⟨rfl, rfl⟩) | (go_at_call 82; (with_reducible refine (HDP.out _).mono ?_); rintro e w' ⟨rfl, rfl⟩) | (go_at_call 84; go_must (refine (HQ.out _).mono ?_; rintro e w' ⟨rfl, rfl⟩)))
  refine bodyPost_ret (v := .tuple #[.agg #[.bool ng, .string W, .string P, .string Q], .int .i64 ((sg l : Int) + (W.size : Int) + (1 + (P.size : Int)))]) (by simp [results, Tryz.results46, go_sem]) rfl ⟨?_, ((Below.refl _ _).alloc (Nat.le_refl _) _).alloc (by simp) _⟩
  rw [HR.out, ← HW.out, HSB.out]
  rw [← HP.out]
  congr 4

set_option maxRecDepth 100000 in
set_option maxHeartbeats 800000 in
theorem rn_pwq1 (s : ByteArray) (l : List UInt8) (w : World) (hs : s.size ≤ 140737488351232) (hl : s.data.toList = l) (hpt : hasPt l = true) (hwe : (wholeL l).isEmpty = false) (hqe : (powL l).isEmpty = false) :
    Calls Tryz.prog 46 #[.string s] w fun e w' => e = .returned (.tuple #[.agg #[.bool (negL l), .string ⟨(wholeL l).toArray⟩, .string ⟨(partL l).toArray⟩, .string ⟨(powL l).toArray⟩], .int .i64 (sizeB l : Nat)]) ∧ Below w.heap.size w w' := by
  have hsg := sg_le l
  have hsz : s.size = l.length := by rw [← hl]; simp
  have HN := neg_eq s l hl
  have HSG := Lib.hid (fun w => signSize_all s w)
  rw [hl] at HSG
  have hp1 : sg l ≤ s.size := by omega
  obtain ⟨W, hW⟩ : ∃ W : ByteArray, W = ⟨(wholeL l).toArray⟩ := ⟨_, rfl⟩
  have hWs : W.size = (wholeL l).length := by rw [hW, list_size]
  have hwb := wholeL_bd l
  have hp2 : (sg l : Int) + (W.size : Int) ≤ s.size := by omega
  have hWe : W.toList.isEmpty = false := by rw [hW, mk_empty, hwe]
  have HDW := Lib.hid (fun w => show Calls Tryz.prog 82 #[.string (s.extract (sg l) s.size)] w fun e w' => e = .returned (.string W) ∧ w = w' by
    have := leadingDigits_all (s.extract (sg l) s.size) w (by simp [ByteArray.size_extract]; omega)
    rw [extract_drop, hl] at this
    rw [hW]; exact this)
  have HPT := Lib.hid (fun w => show Calls Tryz.prog 83 #[.string (s.extract (sg l + W.size) s.size), .string ⟨#[46]⟩] w fun e w' => e = .returned (.bool true) ∧ w' = w by
    have := Tryz.strings_HasPrefix (s.extract (sg l + W.size) s.size) ⟨#[46]⟩ w
    rw [extract_drop, hl, hWs, show (⟨#[46]⟩ : ByteArray).data.toList = [46] from rfl, pre_one] at this
    rw [hWs, ← hpt]; exact this)
  obtain ⟨P, hP⟩ : ∃ P : ByteArray, P = ⟨(partL l).toArray⟩ := ⟨_, rfl⟩
  have hPs : P.size = (partL l).length := by rw [hP, list_size]
  have hpb := partL_bd l hpt
  have hp3 : (sg l : Int) + (W.size : Int) + (1 + (P.size : Int)) ≤ s.size := by omega
  have hp3' : (sg l : Int) + (W.size : Int) + 1 ≤ s.size := by omega
  have HDP := Lib.hid (fun w => show Calls Tryz.prog 82 #[.string (s.extract (sg l + W.size + 1) s.size)] w fun e w' => e = .returned (.string P) ∧ w = w' by
    have := leadingDigits_all (s.extract (sg l + W.size + 1) s.size) w (by simp [ByteArray.size_extract]; omega)
    rw [extract_drop, hl, hWs] at this
    rw [hP, hWs]; unfold partL; rw [if_pos hpt]; exact this)
  obtain ⟨Q, hQ⟩ : ∃ Q : ByteArray, Q = ⟨(powL l).toArray⟩ := ⟨_, rfl⟩
  have hQs : Q.size = (powL l).length := by rw [hQ, list_size]
  have hQe : Q.toList.isEmpty = false := by rw [hQ, mk_empty, hqe]
  have hA : sizeA l = sg l + W.size + (1 + P.size) := by unfold sizeA; rw [hpt, hWs, hPs]; simp
  have HQ := Lib.hid (fun w => show Calls Tryz.prog 84 #[.string (s.extract (sg l + W.size + (1 + P.size)) s.size)] w fun e w' => e = .returned (.string Q) ∧ w = w' by
    have := leadingPower_all (s.extract (sg l + W.size + (1 + P.size)) s.size) w (by simp [ByteArray.size_extract]; omega)
    rw [extract_drop, hl, ← hA] at this
    rw [← hA, hQ]; exact this)
  have hqb := sizeB_bd l
  have HSB := Lib.hid (show sizeB l = sg l + W.size + (1 + P.size) + (1 + Q.size) by unfold sizeB; rw [if_neg (by intro e; rw [e] at hqe; cases hqe), hA, hQs])
  have hp4 : (sg l : Int) + (W.size : Int) + (1 + (P.size : Int)) + (1 + (Q.size : Int)) ≤ s.size := by have := HSB.out; omega
  have HR := Lib.hid (show (⟨(powL l).toArray⟩ : ByteArray) = Q from hQ.symm)
  clear hQ hQs hA hqe
  clear hqb
  have HW := Lib.hid hW
  have HP := Lib.hid hP
  clear hP hPs hpb
  have HPE := Lib.hid hpt
  clear hsg hsz hl hW hWs hwb hwe hpt
  generalize negL l = ng at *
  go_enter Tryz.func46, Tryz.ntmps46
  go_wp2_with (first | (go_at_call 81; go_must (refine (HSG.out _).mono ?_; rintro e w' ⟨rfl, rfl⟩)) | (go_at_call 83; go_must (refine (HPT.out _).mono ?_; rintro e w' ⟨rfl, rfl⟩)) | (go_at_call 82; (with_reducible refine (HDW.out _).mono ?_); rintro e w' ⟨rfl, rfl⟩) | (go_at_call 82; (with_reducible refine (HDP.out _).mono ?_); rintro e w' ⟨rfl, rfl⟩) | (go_at_call 84; go_must (refine (HQ.out _).mono ?_; rintro e w' ⟨rfl, rfl⟩)))
  refine bodyPost_ret (v := .tuple #[.agg #[.bool ng, .string W, .string P, .string Q], .int .i64 ((sg l : Int) + (W.size : Int) + (1 + (P.size : Int)) + (1 + (Q.size : Int)))]) (by simp [results, Tryz.results46, go_sem]) rfl ⟨?_, ((Below.refl _ _).alloc (Nat.le_refl _) _).alloc (by simp) _⟩
  rw [HR.out, ← HW.out, HSB.out]
  rw [← HP.out]
  congr 4

set_option maxRecDepth 100000 in
set_option maxHeartbeats 800000 in
theorem rn_ppq0 (s : ByteArray) (l : List UInt8) (w : World) (hs : s.size ≤ 140737488351232) (hl : s.data.toList = l) (hpt : hasPt l = true) (hwe : (wholeL l).isEmpty = true) (hpe : (partL l).isEmpty = false) (hqe : (powL l).isEmpty = true) :
    Calls Tryz.prog 46 #[.string s] w fun e w' => e = .returned (.tuple #[.agg #[.bool (negL l), .string ⟨(wholeL l).toArray⟩, .string ⟨(partL l).toArray⟩, .string ⟨(powL l).toArray⟩], .int .i64 (sizeB l : Nat)]) ∧ Below w.heap.size w w' := by
  have hsg := sg_le l
  have hsz : s.size = l.length := by rw [← hl]; simp
  have HN := neg_eq s l hl
  have HSG := Lib.hid (fun w => signSize_all s w)
  rw [hl] at HSG
  have hp1 : sg l ≤ s.size := by omega
  obtain ⟨W, hW⟩ : ∃ W : ByteArray, W = ⟨(wholeL l).toArray⟩ := ⟨_, rfl⟩
  have hWs : W.size = (wholeL l).length := by rw [hW, list_size]
  have hwb := wholeL_bd l
  have hp2 : (sg l : Int) + (W.size : Int) ≤ s.size := by omega
  have hWe : W.toList.isEmpty = true := by rw [hW, mk_empty, hwe]
  have HDW := Lib.hid (fun w => show Calls Tryz.prog 82 #[.string (s.extract (sg l) s.size)] w fun e w' => e = .returned (.string W) ∧ w = w' by
    have := leadingDigits_all (s.extract (sg l) s.size) w (by simp [ByteArray.size_extract]; omega)
    rw [extract_drop, hl] at this
    rw [hW]; exact this)
  have HPT := Lib.hid (fun w => show Calls Tryz.prog 83 #[.string (s.extract (sg l + W.size) s.size), .string ⟨#[46]⟩] w fun e w' => e = .returned (.bool true) ∧ w' = w by
    have := Tryz.strings_HasPrefix (s.extract (sg l + W.size) s.size) ⟨#[46]⟩ w
    rw [extract_drop, hl, hWs, show (⟨#[46]⟩ : ByteArray).data.toList = [46] from rfl, pre_one] at this
    rw [hWs, ← hpt]; exact this)
  obtain ⟨P, hP⟩ : ∃ P : ByteArray, P = ⟨(partL l).toArray⟩ := ⟨_, rfl⟩
  have hPs : P.size = (partL l).length := by rw [hP, list_size]
  have hpb := partL_bd l hpt
  have hp3 : (sg l : Int) + (W.size : Int) + (1 + (P.size : Int)) ≤ s.size := by omega
  have hp3' : (sg l : Int) + (W.size : Int) + 1 ≤ s.size := by omega
  have HDP := Lib.hid (fun w => show Calls Tryz.prog 82 #[.string (s.extract (sg l + W.size + 1) s.size)] w fun e w' => e = .returned (.string P) ∧ w = w' by
    have := leadingDigits_all (s.extract (sg l + W.size + 1) s.size) w (by simp [ByteArray.size_extract]; omega)
    rw [extract_drop, hl, hWs] at this
    rw [hP, hWs]; unfold partL; rw [if_pos hpt]; exact this)
  have hPe : P.toList.isEmpty = false := by rw [hP, mk_empty, hpe]
  obtain ⟨Q, hQ⟩ : ∃ Q : ByteArray, Q = ⟨(powL l).toArray⟩ := ⟨_, rfl⟩
  have hQs : Q.size = (powL l).length := by rw [hQ, list_size]
  have hQe : Q.toList.isEmpty = true := by rw [hQ, mk_empty, hqe]
  have hA : sizeA l = sg l + W.size + (1 + P.size) := by unfold sizeA; rw [hpt, hWs, hPs]; simp
  have HQ := Lib.hid (fun w => show Calls Tryz.prog 84 #[.string (s.extract (sg l + W.size + (1 + P.size)) s.size)] w fun e w' => e = .returned (.string Q) ∧ w = w' by
    have := leadingPower_all (s.extract (sg l + W.size + (1 + P.size)) s.size) w (by simp [ByteArray.size_extract]; omega)
    rw [extract_drop, hl, ← hA] at this
    rw [← hA, hQ]; exact this)
  have HSB := Lib.hid (show sizeB l = sg l + W.size + (1 + P.size) by unfold sizeB; rw [if_pos (List.isEmpty_iff.1 hqe), hA]; rfl)
  have HR := Lib.hid (show (⟨(powL l).toArray⟩ : ByteArray) = Q from hQ.symm)
  clear hQ hQs hA hqe
  have HW := Lib.hid hW
  have HP := Lib.hid hP
  clear hP hPs hpb
  clear hpe
  have HPE := Lib.hid hpt
  clear hsg hsz hl hW hWs hwb hwe hpt
  generalize negL l = ng at *
  go_enter Tryz.func46, Tryz.ntmps46
  go_wp2_with (first | (go_at_call 81; go_must (refine (HSG.out _).mono ?_; rintro e w' ⟨rfl, rfl⟩)) | (go_at_call 83; go_must (refine (HPT.out _).mono ?_; rintro e w' ⟨rfl, rfl⟩)) | (go_at_call 82; (with_reducible refine (HDW.out _).mono ?_); rintro e w' ⟨rfl, rfl⟩) | (go_at_call 82; (with_reducible refine (HDP.out _).mono ?_); rintro e w' ⟨rfl, rfl⟩) | (go_at_call 84; go_must (refine (HQ.out _).mono ?_; rintro e w' ⟨rfl, rfl⟩)))
  refine bodyPost_ret (v := .tuple #[.agg #[.bool ng, .string W, .string P, .string Q], .int .i64 ((sg l : Int) + (W.size : Int) + (1 + (P.size : Int)))]) (by simp [results, Tryz.results46, go_sem]) rfl ⟨?_, ((Below.refl _ _).alloc (Nat.le_refl _) _).alloc (by simp) _⟩
  rw [HR.out, ← HW.out, HSB.out]
  rw [← HP.out]
  congr 4

set_option maxRecDepth 100000 in
set_option maxHeartbeats 800000 in
theorem rn_ppq1 (s : ByteArray) (l : List UInt8) (w : World) (hs : s.size ≤ 140737488351232) (hl : s.data.toList = l) (hpt : hasPt l = true) (hwe : (wholeL l).isEmpty = true) (hpe : (partL l).isEmpty = false) (hqe : (powL l).isEmpty = false) :
    Calls Tryz.prog 46 #[.string s] w fun e w' => e = .returned (.tuple #[.agg #[.bool (negL l), .string ⟨(wholeL l).toArray⟩, .string ⟨(partL l).toArray⟩, .string ⟨(powL l).toArray⟩], .int .i64 (sizeB l : Nat)]) ∧ Below w.heap.size w w' := by
  have hsg := sg_le l
  have hsz : s.size = l.length := by rw [← hl]; simp
  have HN := neg_eq s l hl
  have HSG := Lib.hid (fun w => signSize_all s w)
  rw [hl] at HSG
  have hp1 : sg l ≤ s.size := by omega
  obtain ⟨W, hW⟩ : ∃ W : ByteArray, W = ⟨(wholeL l).toArray⟩ := ⟨_, rfl⟩
  have hWs : W.size = (wholeL l).length := by rw [hW, list_size]
  have hwb := wholeL_bd l
  have hp2 : (sg l : Int) + (W.size : Int) ≤ s.size := by omega
  have hWe : W.toList.isEmpty = true := by rw [hW, mk_empty, hwe]
  have HDW := Lib.hid (fun w => show Calls Tryz.prog 82 #[.string (s.extract (sg l) s.size)] w fun e w' => e = .returned (.string W) ∧ w = w' by
    have := leadingDigits_all (s.extract (sg l) s.size) w (by simp [ByteArray.size_extract]; omega)
    rw [extract_drop, hl] at this
    rw [hW]; exact this)
  have HPT := Lib.hid (fun w => show Calls Tryz.prog 83 #[.string (s.extract (sg l + W.size) s.size), .string ⟨#[46]⟩] w fun e w' => e = .returned (.bool true) ∧ w' = w by
    have := Tryz.strings_HasPrefix (s.extract (sg l + W.size) s.size) ⟨#[46]⟩ w
    rw [extract_drop, hl, hWs, show (⟨#[46]⟩ : ByteArray).data.toList = [46] from rfl, pre_one] at this
    rw [hWs, ← hpt]; exact this)
  obtain ⟨P, hP⟩ : ∃ P : ByteArray, P = ⟨(partL l).toArray⟩ := ⟨_, rfl⟩
  have hPs : P.size = (partL l).length := by rw [hP, list_size]
  have hpb := partL_bd l hpt
  have hp3 : (sg l : Int) + (W.size : Int) + (1 + (P.size : Int)) ≤ s.size := by omega
  have hp3' : (sg l : Int) + (W.size : Int) + 1 ≤ s.size := by omega
  have HDP := Lib.hid (fun w => show Calls Tryz.prog 82 #[.string (s.extract (sg l + W.size + 1) s.size)] w fun e w' => e = .returned (.string P) ∧ w = w' by
    have := leadingDigits_all (s.extract (sg l + W.size + 1) s.size) w (by simp [ByteArray.size_extract]; omega)
    rw [extract_drop, hl, hWs] at this
    rw [hP, hWs]; unfold partL; rw [if_pos hpt]; exact this)
  have hPe : P.toList.isEmpty = false := by rw [hP, mk_empty, hpe]
  obtain ⟨Q, hQ⟩ : ∃ Q : ByteArray, Q = ⟨(powL l).toArray⟩ := ⟨_, rfl⟩
  have hQs : Q.size = (powL l).length := by rw [hQ, list_size]
  have hQe : Q.toList.isEmpty = false := by rw [hQ, mk_empty, hqe]
  have hA : sizeA l = sg l + W.size + (1 + P.size) := by unfold sizeA; rw [hpt, hWs, hPs]; simp
  have HQ := Lib.hid (fun w => show Calls Tryz.prog 84 #[.string (s.extract (sg l + W.size + (1 + P.size)) s.size)] w fun e w' => e = .returned (.string Q) ∧ w = w' by
    have := leadingPower_all (s.extract (sg l + W.size + (1 + P.size)) s.size) w (by simp [ByteArray.size_extract]; omega)
    rw [extract_drop, hl, ← hA] at this
    rw [← hA, hQ]; exact this)
  have hqb := sizeB_bd l
  have HSB := Lib.hid (show sizeB l = sg l + W.size + (1 + P.size) + (1 + Q.size) by unfold sizeB; rw [if_neg (by intro e; rw [e] at hqe; cases hqe), hA, hQs])
  have hp4 : (sg l : Int) + (W.size : Int) + (1 + (P.size : Int)) + (1 + (Q.size : Int)) ≤ s.size := by have := HSB.out; omega
  have HR := Lib.hid (show (⟨(powL l).toArray⟩ : ByteArray) = Q from hQ.symm)
  clear hQ hQs hA hqe
  clear hqb
  have HW := Lib.hid hW
  have HP := Lib.hid hP
  clear hP hPs hpb
  clear hpe
  have HPE := Lib.hid hpt
  clear hsg hsz hl hW hWs hwb hwe hpt
  generalize negL l = ng at *
  go_enter Tryz.func46, Tryz.ntmps46
  go_wp2_with (first | (go_at_call 81; go_must (refine (HSG.out _).mono ?_; rintro e w' ⟨rfl, rfl⟩)) | (go_at_call 83; go_must (refine (HPT.out _).mono ?_; rintro e w' ⟨rfl, rfl⟩)) | (go_at_call 82; (with_reducible refine (HDW.out _).mono ?_); rintro e w' ⟨rfl, rfl⟩) | (go_at_call 82; (with_reducible refine (HDP.out _).mono ?_); rintro e w' ⟨rfl, rfl⟩) | (go_at_call 84; go_must (refine (HQ.out _).mono ?_; rintro e w' ⟨rfl, rfl⟩)))
  refine bodyPost_ret (v := .tuple #[.agg #[.bool ng, .string W, .string P, .string Q], .int .i64 ((sg l : Int) + (W.size : Int) + (1 + (P.size : Int)) + (1 + (Q.size : Int)))]) (by simp [results, Tryz.results46, go_sem]) rfl ⟨?_, ((Below.refl _ _).alloc (Nat.le_refl _) _).alloc (by simp) _⟩
  rw [HR.out, ← HW.out, HSB.out]
  rw [← HP.out]
  congr 4

end Go.Proofs.YtcjeeoadgoghfaaGreatDoor.scan
