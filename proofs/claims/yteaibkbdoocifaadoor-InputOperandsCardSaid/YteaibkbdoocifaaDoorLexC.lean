/- Contracts of lex's numSize, gapPartSize, gapSize. -/
import Derived.Test.YteaibkbdoocifaaDoorLexB
namespace Go.Proofs.YteaibkbdoocifaaDoor.lexs
set_option linter.unusedVariables false set_option linter.unusedSimpArgs false
open Go.ChangeShapes Go.WideShapes Go.ChangeAt Go.RowKit Go.Proofs.YteaibkbdoocifaaDoor.base

theorem power_at (s : ByteArray) (k G : Nat) (w : World) (hs : s.size ≤ 1000000) (hG : pw (s.data.toList.drop k) = G) :
    Calls Tryd.prog 89 #[.string (s.extract k s.size)] w fun e w' => e = .returned (.int .i64 (G : Int)) ∧ w' = w := by
  have := powerSize_all (s.extract k s.size) w (by simp [ByteArray.size_extract]; omega)
  rw [extract_drop, hG] at this
  exact this

theorem extract_self (s : ByteArray) : s.extract 0 s.size = s := by
  apply ByteArray.ext
  apply Array.toList_inj.1
  rw [extract_drop]
  rfl
theorem nm_pt {l : List UInt8} {a b G : Nat} (ha : dg l = a) (h : (l.drop a).head? = some 46) (hb : dg (l.drop (a + 1)) = b) (hG : pw (l.drop (a + 1 + b)) = G) : nm l = if a + b = 0 then 0 else a + 1 + b + G := by
  unfold nm
  simp only [ha]
  rw [if_pos h, List.tail_drop, hb, hG]
theorem nm_no {l : List UInt8} {a G : Nat} (ha : dg l = a) (h : ¬ (l.drop a).head? = some 46) (hG : pw (l.drop a) = G) : nm l = if a = 0 then 0 else a + G := by
  unfold nm
  simp only [ha]
  rw [if_neg h, hG]

set_option maxHeartbeats 400000 in
theorem numSize_all (s : ByteArray) (w : World) (hs : s.size ≤ 1000000) :
    Calls Tryd.prog 78 #[.string s] w fun e w' => e = .returned (.int .i64 (nm s.data.toList : Nat)) ∧ w' = w := by
  have hle := dg_le s.data.toList
  have HD := Lib.hid (fun w => digitsSize_all s w hs)
  obtain ⟨a, ha⟩ : ∃ a, dg s.data.toList = a := ⟨_, rfl⟩
  rw [ha] at HD hle
  rw [len_list] at hle
  have HP := Lib.hid (fun w => hp1_at s a 46 w _ rfl)
  cases hb : ((s.data.toList.drop a).head? == some 46) with
  | true =>
    have hb' : (s.data.toList.drop a).head? = some 46 := by simpa using hb
    have hlt : a < s.size := by
      have : 0 < (s.data.toList.drop a).length := by
        cases hh : s.data.toList.drop a with
        | nil => rw [hh] at hb'; cases hb'
        | cons x y => simp
      rw [List.length_drop, len_list] at this
      omega
    rw [hb] at HP
    obtain ⟨b, hbb⟩ : ∃ b, dg (s.data.toList.drop (a + 1)) = b := ⟨_, rfl⟩
    have hb2 := dg_le (s.data.toList.drop (a + 1))
    rw [hbb, List.length_drop, len_list] at hb2
    have HB := Lib.hid (fun w => digits_at s (a + 1) b w hs hbb)
    obtain ⟨G, hG⟩ : ∃ G, pw (s.data.toList.drop (a + 1 + b)) = G := ⟨_, rfl⟩
    have hG2 := pw_le (s.data.toList.drop (a + 1 + b))
    rw [hG, List.length_drop, len_list] at hG2
    have HN := Lib.hid (nm_pt ha hb' hbb hG)
    have HG := Lib.hid (fun w => power_at s (a + (1 + b)) G w hs (by rw [← hG, Nat.add_assoc]))
    clear hb hb' hbb hG ha
    by_cases h0 : a + b = 0
    · obtain rfl : a = 0 := by omega
      obtain rfl : b = 0 := by omega
      clear h0
      rw [extract_self] at HP
      go_enter Tryd.func78, Tryd.ntmps78
      go_wp2_with (first | (go_at_call 82; go_must (refine (HP.out _).mono ?_; rintro e w' ⟨rfl, rfl⟩)) | (go_at_call 88; (with_reducible refine (HD.out _).mono ?_); rintro e w' ⟨rfl, rfl⟩) | (go_at_call 88; go_must (refine (HB.out _).mono ?_; rintro e w' ⟨rfl, rfl⟩)))
      go_ret
      exact ⟨ret_int (by rw [HN.out]; rfl), rfl⟩
    · have h1 : ((a : Int) + (b : Int) == 0) = false := by simp; omega
      go_enter Tryd.func78, Tryd.ntmps78
      go_wp2_with (first | (go_at_call 82; go_must (refine (HP.out _).mono ?_; rintro e w' ⟨rfl, rfl⟩)) | (go_at_call 88; (with_reducible refine (HD.out _).mono ?_); rintro e w' ⟨rfl, rfl⟩) | (go_at_call 88; go_must (refine (HB.out _).mono ?_; rintro e w' ⟨rfl, rfl⟩)) | (go_at_call 89; go_must (refine (HG.out _).mono ?_; rintro e w' ⟨rfl, rfl⟩)))
      go_ret
      exact ⟨ret_int (by rw [HN.out, if_neg h0]; omega), rfl⟩
  | false =>
    have hb' : ¬ (s.data.toList.drop a).head? = some 46 := by simpa using hb
    rw [hb] at HP
    obtain ⟨G, hG⟩ : ∃ G, pw (s.data.toList.drop a) = G := ⟨_, rfl⟩
    have hG2 := pw_le (s.data.toList.drop a)
    rw [hG, List.length_drop, len_list] at hG2
    have HN := Lib.hid (nm_no ha hb' hG)
    have HG := Lib.hid (fun w => power_at s a G w hs hG)
    clear hb hb' hG ha
    by_cases h0 : a = 0
    · subst h0
      rw [extract_self] at HP
      go_enter Tryd.func78, Tryd.ntmps78
      go_wp2_with (first | (go_at_call 82; go_must (refine (HP.out _).mono ?_; rintro e w' ⟨rfl, rfl⟩)) | (go_at_call 88; (with_reducible refine (HD.out _).mono ?_); rintro e w' ⟨rfl, rfl⟩))
      go_ret
      exact ⟨ret_int (by rw [HN.out]; rfl), rfl⟩
    · have h1 : ((a : Int) == 0) = false := by simp; omega
      go_enter Tryd.func78, Tryd.ntmps78
      go_wp2_with (first | (go_at_call 82; go_must (refine (HP.out _).mono ?_; rintro e w' ⟨rfl, rfl⟩)) | (go_at_call 88; (with_reducible refine (HD.out _).mono ?_); rintro e w' ⟨rfl, rfl⟩) | (go_at_call 89; go_must (refine (HG.out _).mono ?_; rintro e w' ⟨rfl, rfl⟩)))
      go_ret
      exact ⟨ret_int (by rw [HN.out, if_neg h0]; omega), rfl⟩

end Go.Proofs.YteaibkbdoocifaaDoor.lexs
