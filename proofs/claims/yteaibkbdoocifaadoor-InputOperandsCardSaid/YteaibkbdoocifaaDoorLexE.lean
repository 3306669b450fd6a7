/- Contracts of lex's opSize, kindOfName. -/
import Derived.Test.YteaibkbdoocifaaDoorLexD
namespace Go.Proofs.YteaibkbdoocifaaDoor.lexs
set_option linter.unusedVariables false set_option linter.unusedSimpArgs false
open Go.ChangeShapes Go.WideShapes Go.ChangeAt Go.RowKit Go.Proofs.YteaibkbdoocifaaDoor.base

theorem ops1_all (c : UInt8) : decide (0 ≤ Lib.indexByte ops1 c) = ops1.contains c := by
  rcases ib_or ops1 c with ⟨h1, h2, _⟩ | ⟨h1, h2⟩
  · rw [h1, h2]; rfl
  · rw [h1, h2]; simp
theorem bool_or (b : Bool) : b = true ∨ b = false := by cases b <;> simp
theorem to_eq {x : ByteArray} {l : List UInt8} (h : (x.toList == l) = true) : x.data.toList = l := by
  rw [← Lib.toList_data]; simpa using h
theorem to_ne {x : ByteArray} {l : List UInt8} (h : (x.toList == l) = false) : x.data.toList ≠ l := by
  rw [← Lib.toList_data]; simpa using h

theorem opS_two {l : List UInt8} (h1 : 1 < l.length) (h : ops2.contains (l.take 2) = true) : opS l = 2 := by
  cases l with
  | nil => simp at h1
  | cons c t => simp only [opS]; rw [if_pos ⟨h1, h⟩]
theorem opS_one {c : UInt8} {t : List UInt8} (h : ¬ (1 < (c :: t).length ∧ ops2.contains ((c :: t).take 2) = true)) : opS (c :: t) = if ops1.contains c then 1 else 0 := by
  simp only [opS]; rw [if_neg h]

theorem opSize_end (s : ByteArray) (w : World) (h0 : 0 < s.size) (h : ¬ (1 < s.data.toList.length ∧ ops2.contains (s.data.toList.take 2) = true)) :
    (opS s.data.toList = 1 ∧ 0 ≤ Lib.indexByte ops1 s[0]) ∨ (opS s.data.toList = 0 ∧ Lib.indexByte ops1 s[0] < 0) := by
  have hc := sx_cons s 0 h0
  have e : s.data.toList = s[0] :: sx s (0 + 1) := by rw [← hc]; rfl
  rw [e] at h ⊢
  rw [opS_one h, ← ops1_all]
  by_cases hi : (0 : Int) ≤ Lib.indexByte ops1 s[0]
  · left; simp [hi]
  · right; simp [hi]; omega

set_option maxHeartbeats 4000000 in
theorem opSize_all (s : ByteArray) (w : World) (hs : s.size ≤ 1000000) (h0 : 0 < s.size) :
    Calls Tryd.prog 79 #[.string s] w fun e w' => e = .returned (.int .i64 (opS s.data.toList : Nat)) ∧ w' = w := by
  have HI := Lib.hid (fun w => Tryd.strings_IndexByte ⟨ops1.toArray⟩ (s[0].toNat : Int) w)
  have e8 : ((s[0].toNat : Int)).toNat.toUInt8 = s[0] := by simp
  rw [e8] at HI
  clear e8
  by_cases h1 : 1 < s.size
  · have hq : (2 : Int) ≤ s.size := by omega
    have HT := Lib.hid (fun (h : ops2.contains (s.extract 0 2).data.toList = true) => opS_two (l := s.data.toList) (by simpa using h1) (by rw [← extract_take]; exact h))
    rcases bool_or ((s.extract 0 2).toList == [62, 62]) with h | q0
    · have HO := Lib.hid (HT.out (by rw [to_eq h]; decide))
      go_enter Tryd.func79, Tryd.ntmps79
      go_wp2
      go_ret
      exact ⟨ret_int (by rw [HO.out]; rfl), rfl⟩
    rcases bool_or ((s.extract 0 2).toList == [33, 126]) with h | q1
    · have HO := Lib.hid (HT.out (by rw [to_eq h]; decide))
      go_enter Tryd.func79, Tryd.ntmps79
      go_wp2
      go_ret
      exact ⟨ret_int (by rw [HO.out]; rfl), rfl⟩
    rcases bool_or ((s.extract 0 2).toList == [43, 61]) with h | q2
    · have HO := Lib.hid (HT.out (by rw [to_eq h]; decide))
      go_enter Tryd.func79, Tryd.ntmps79
      go_wp2
      go_ret
      exact ⟨ret_int (by rw [HO.out]; rfl), rfl⟩
    rcases bool_or ((s.extract 0 2).toList == [45, 61]) with h | q3
    · have HO := Lib.hid (HT.out (by rw [to_eq h]; decide))
      go_enter Tryd.func79, Tryd.ntmps79
      go_wp2
      go_ret
      exact ⟨ret_int (by rw [HO.out]; rfl), rfl⟩
    rcases bool_or ((s.extract 0 2).toList == [42, 61]) with h | q4
    · have HO := Lib.hid (HT.out (by rw [to_eq h]; decide))
      go_enter Tryd.func79, Tryd.ntmps79
      go_wp2
      go_ret
      exact ⟨ret_int (by rw [HO.out]; rfl), rfl⟩
    rcases bool_or ((s.extract 0 2).toList == [47, 61]) with h | q5
    · have HO := Lib.hid (HT.out (by rw [to_eq h]; decide))
      go_enter Tryd.func79, Tryd.ntmps79
      go_wp2
      go_ret
      exact ⟨ret_int (by rw [HO.out]; rfl), rfl⟩
    rcases bool_or ((s.extract 0 2).toList == [37, 61]) with h | q6
    · have HO := Lib.hid (HT.out (by rw [to_eq h]; decide))
      go_enter Tryd.func79, Tryd.ntmps79
      go_wp2
      go_ret
      exact ⟨ret_int (by rw [HO.out]; rfl), rfl⟩
    rcases bool_or ((s.extract 0 2).toList == [94, 61]) with h | q7
    · have HO := Lib.hid (HT.out (by rw [to_eq h]; decide))
      go_enter Tryd.func79, Tryd.ntmps79
      go_wp2
      go_ret
      exact ⟨ret_int (by rw [HO.out]; rfl), rfl⟩
    rcases bool_or ((s.extract 0 2).toList == [61, 61]) with h | q8
    · have HO := Lib.hid (HT.out (by rw [to_eq h]; decide))
      go_enter Tryd.func79, Tryd.ntmps79
      go_wp2
      go_ret
      exact ⟨ret_int (by rw [HO.out]; rfl), rfl⟩
    rcases bool_or ((s.extract 0 2).toList == [60, 61]) with h | q9
    · have HO := Lib.hid (HT.out (by rw [to_eq h]; decide))
      go_enter Tryd.func79, Tryd.ntmps79
      go_wp2
      go_ret
      exact ⟨ret_int (by rw [HO.out]; rfl), rfl⟩
    rcases bool_or ((s.extract 0 2).toList == [62, 61]) with h | q10
    · have HO := Lib.hid (HT.out (by rw [to_eq h]; decide))
      go_enter Tryd.func79, Tryd.ntmps79
      go_wp2
      go_ret
      exact ⟨ret_int (by rw [HO.out]; rfl), rfl⟩
    rcases bool_or ((s.extract 0 2).toList == [33, 61]) with h | q11
    · have HO := Lib.hid (HT.out (by rw [to_eq h]; decide))
      go_enter Tryd.func79, Tryd.ntmps79
      go_wp2
      go_ret
      exact ⟨ret_int (by rw [HO.out]; rfl), rfl⟩
    rcases bool_or ((s.extract 0 2).toList == [43, 43]) with h | q12
    · have HO := Lib.hid (HT.out (by rw [to_eq h]; decide))
      go_enter Tryd.func79, Tryd.ntmps79
      go_wp2
      go_ret
      exact ⟨ret_int (by rw [HO.out]; rfl), rfl⟩
    rcases bool_or ((s.extract 0 2).toList == [45, 45]) with h | q13
    · have HO := Lib.hid (HT.out (by rw [to_eq h]; decide))
      go_enter Tryd.func79, Tryd.ntmps79
      go_wp2
      go_ret
      exact ⟨ret_int (by rw [HO.out]; rfl), rfl⟩
    rcases bool_or ((s.extract 0 2).toList == [38, 38]) with h | q14
    · have HO := Lib.hid (HT.out (by rw [to_eq h]; decide))
      go_enter Tryd.func79, Tryd.ntmps79
      go_wp2
      go_ret
      exact ⟨ret_int (by rw [HO.out]; rfl), rfl⟩
    rcases bool_or ((s.extract 0 2).toList == [124, 124]) with h | q15
    · have HO := Lib.hid (HT.out (by rw [to_eq h]; decide))
      go_enter Tryd.func79, Tryd.ntmps79
      go_wp2
      go_ret
      exact ⟨ret_int (by rw [HO.out]; rfl), rfl⟩
    have HE := Lib.hid (opSize_end s w h0 (by
      rintro ⟨_, h⟩
      rw [← extract_take] at h
      have := List.mem_of_elem_eq_true h
      simp only [ops2, List.mem_cons, List.not_mem_nil, or_false] at this
      rcases this with h | h | h | h | h | h | h | h | h | h | h | h | h | h | h | h
      · exact to_ne q0 h
      · exact to_ne q1 h
      · exact to_ne q2 h
      · exact to_ne q3 h
      · exact to_ne q4 h
      · exact to_ne q5 h
      · exact to_ne q6 h
      · exact to_ne q7 h
      · exact to_ne q8 h
      · exact to_ne q9 h
      · exact to_ne q10 h
      · exact to_ne q11 h
      · exact to_ne q12 h
      · exact to_ne q13 h
      · exact to_ne q14 h
      · exact to_ne q15 h))
    clear HT
    rcases HE.out with ⟨h2, h3⟩ | ⟨h2, h3⟩
    · have H2 := Lib.hid h2
      clear h2 HE
      go_enter Tryd.func79, Tryd.ntmps79
      go_wp2_with (go_at_call 24; go_must (refine (HI.out _).mono ?_; rintro e w' ⟨rfl, rfl⟩))
      go_ret
      exact ⟨ret_int (by rw [H2.out]; rfl), rfl⟩
    · have H2 := Lib.hid h2
      clear h2 HE
      go_enter Tryd.func79, Tryd.ntmps79
      go_wp2_with (go_at_call 24; go_must (refine (HI.out _).mono ?_; rintro e w' ⟨rfl, rfl⟩))
      go_ret
      exact ⟨ret_int (by rw [H2.out]; rfl), rfl⟩
  · have HE := Lib.hid (opSize_end s w h0 (by rintro ⟨h, _⟩; rw [len_list] at h; omega))
    rcases HE.out with ⟨h2, h3⟩ | ⟨h2, h3⟩
    · have H2 := Lib.hid h2
      clear h2 HE
      go_enter Tryd.func79, Tryd.ntmps79
      go_wp2_with (go_at_call 24; go_must (refine (HI.out _).mono ?_; rintro e w' ⟨rfl, rfl⟩))
      go_ret
      exact ⟨ret_int (by rw [H2.out]; rfl), rfl⟩
    · have H2 := Lib.hid h2
      clear h2 HE
      go_enter Tryd.func79, Tryd.ntmps79
      go_wp2_with (go_at_call 24; go_must (refine (HI.out _).mono ?_; rintro e w' ⟨rfl, rfl⟩))
      go_ret
      exact ⟨ret_int (by rw [H2.out]; rfl), rfl⟩
end Go.Proofs.YteaibkbdoocifaaDoor.lexs
