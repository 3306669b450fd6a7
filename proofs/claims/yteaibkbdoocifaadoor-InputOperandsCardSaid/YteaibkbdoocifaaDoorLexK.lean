/- Contract of lex's kindOfName. -/
import Derived.Test.YteaibkbdoocifaaDoorLexE
namespace Go.Proofs.YteaibkbdoocifaaDoor.lexs
set_option linter.unusedVariables false set_option linter.unusedSimpArgs false
open Go.ChangeShapes Go.WideShapes Go.ChangeAt Go.RowKit Go.Proofs.YteaibkbdoocifaaDoor.base

theorem kindL_none {l : List UInt8} (h : ∀ x ∈ wordsL ++ builtsL ++ barredL, l ≠ x) : kindL l = kName := by
  have h1 : wordsL.contains l = false := by rw [Bool.eq_false_iff]; intro e; exact h l (by simp only [List.mem_append]; exact Or.inl (Or.inl (List.mem_of_elem_eq_true e))) rfl
  have h2 : builtsL.contains l = false := by rw [Bool.eq_false_iff]; intro e; exact h l (by simp only [List.mem_append]; exact Or.inl (Or.inr (List.mem_of_elem_eq_true e))) rfl
  have h3 : barredL.contains l = false := by rw [Bool.eq_false_iff]; intro e; exact h l (by simp only [List.mem_append]; exact Or.inr (List.mem_of_elem_eq_true e)) rfl
  unfold kindL
  rw [h1, h2, h3]
  rfl

set_option maxHeartbeats 40000000 in
set_option maxRecDepth 20000 in
theorem kindOfName_all (s : ByteArray) (w : World) :
    Calls Tryd.prog 87 #[.string s] w fun e w' => e = .returned (.string ⟨(kindL s.data.toList).toArray⟩) ∧ w' = w := by
  rcases bool_or (s.toList == [66, 69, 71, 73, 78]) with h | q0
  · have HO := Lib.hid (show kindL s.data.toList = kWord by rw [to_eq h]; decide +kernel)
    go_enter Tryd.func87, Tryd.ntmps87
    go_wp2
    go_ret
    exact ⟨by rw [HO.out]; rfl, rfl⟩
  rcases bool_or (s.toList == [69, 78, 68]) with h | q1
  · have HO := Lib.hid (show kindL s.data.toList = kWord by rw [to_eq h]; decide +kernel)
    go_enter Tryd.func87, Tryd.ntmps87
    go_wp2
    go_ret
    exact ⟨by rw [HO.out]; rfl, rfl⟩
  rcases bool_or (s.toList == [102, 117, 110, 99, 116, 105, 111, 110]) with h | q2
  · have HO := Lib.hid (show kindL s.data.toList = kWord by rw [to_eq h]; decide +kernel)
    go_enter Tryd.func87, Tryd.ntmps87
    go_wp2
    go_ret
    exact ⟨by rw [HO.out]; rfl, rfl⟩
  rcases bool_or (s.toList == [100, 101, 108, 101, 116, 101]) with h | q3
  · have HO := Lib.hid (show kindL s.data.toList = kWord by rw [to_eq h]; decide +kernel)
    go_enter Tryd.func87, Tryd.ntmps87
    go_wp2
    go_ret
    exact ⟨by rw [HO.out]; rfl, rfl⟩
  rcases bool_or (s.toList == [105, 110]) with h | q4
  · have HO := Lib.hid (show kindL s.data.toList = kWord by rw [to_eq h]; decide +kernel)
    go_enter Tryd.func87, Tryd.ntmps87
    go_wp2
    go_ret
    exact ⟨by rw [HO.out]; rfl, rfl⟩
  rcases bool_or (s.toList == [105, 102]) with h | q5
  · have HO := Lib.hid (show kindL s.data.toList = kWord by rw [to_eq h]; decide +kernel)
    go_enter Tryd.func87, Tryd.ntmps87
    go_wp2
    go_ret
    exact ⟨by rw [HO.out]; rfl, rfl⟩
  rcases bool_or (s.toList == [101, 108, 115, 101]) with h | q6
  · have HO := Lib.hid (show kindL s.data.toList = kWord by rw [to_eq h]; decide +kernel)
    go_enter Tryd.func87, Tryd.ntmps87
    go_wp2
    go_ret
    exact ⟨by rw [HO.out]; rfl, rfl⟩
  rcases bool_or (s.toList == [119, 104, 105, 108, 101]) with h | q7
  · have HO := Lib.hid (show kindL s.data.toList = kWord by rw [to_eq h]; decide +kernel)
    go_enter Tryd.func87, Tryd.ntmps87
    go_wp2
    go_ret
    exact ⟨by rw [HO.out]; rfl, rfl⟩
  rcases bool_or (s.toList == [100, 111]) with h | q8
  · have HO := Lib.hid (show kindL s.data.toList = kWord by rw [to_eq h]; decide +kernel)
    go_enter Tryd.func87, Tryd.ntmps87
    go_wp2
    go_ret
    exact ⟨by rw [HO.out]; rfl, rfl⟩
  rcases bool_or (s.toList == [102, 111, 114]) with h | q9
  · have HO := Lib.hid (show kindL s.data.toList = kWord by rw [to_eq h]; decide +kernel)
    go_enter Tryd.func87, Tryd.ntmps87
    go_wp2
    go_ret
    exact ⟨by rw [HO.out]; rfl, rfl⟩
  rcases bool_or (s.toList == [98, 114, 101, 97, 107]) with h | q10
  · have HO := Lib.hid (show kindL s.data.toList = kWord by rw [to_eq h]; decide +kernel)
    go_enter Tryd.func87, Tryd.ntmps87
    go_wp2
    go_ret
    exact ⟨by rw [HO.out]; rfl, rfl⟩
  rcases bool_or (s.toList == [99, 111, 110, 116, 105, 110, 117, 101]) with h | q11
  · have HO := Lib.hid (show kindL s.data.toList = kWord by rw [to_eq h]; decide +kernel)
    go_enter Tryd.func87, Tryd.ntmps87
    go_wp2
    go_ret
    exact ⟨by rw [HO.out]; rfl, rfl⟩
  rcases bool_or (s.toList == [110, 101, 120, 116]) with h | q12
  · have HO := Lib.hid (show kindL s.data.toList = kWord by rw [to_eq h]; decide +kernel)
    go_enter Tryd.func87, Tryd.ntmps87
    go_wp2
    go_ret
    exact ⟨by rw [HO.out]; rfl, rfl⟩
  rcases bool_or (s.toList == [101, 120, 105, 116]) with h | q13
  · have HO := Lib.hid (show kindL s.data.toList = kWord by rw [to_eq h]; decide +kernel)
    go_enter Tryd.func87, Tryd.ntmps87
    go_wp2
    go_ret
    exact ⟨by rw [HO.out]; rfl, rfl⟩
  rcases bool_or (s.toList == [114, 101, 116, 117, 114, 110]) with h | q14
  · have HO := Lib.hid (show kindL s.data.toList = kWord by rw [to_eq h]; decide +kernel)
    go_enter Tryd.func87, Tryd.ntmps87
    go_wp2
    go_ret
    exact ⟨by rw [HO.out]; rfl, rfl⟩
  rcases bool_or (s.toList == [112, 114, 105, 110, 116]) with h | q15
  · have HO := Lib.hid (show kindL s.data.toList = kWord by rw [to_eq h]; decide +kernel)
    go_enter Tryd.func87, Tryd.ntmps87
    go_wp2
    go_ret
    exact ⟨by rw [HO.out]; rfl, rfl⟩
  rcases bool_or (s.toList == [112, 114, 105, 110, 116, 102]) with h | q16
  · have HO := Lib.hid (show kindL s.data.toList = kWord by rw [to_eq h]; decide +kernel)
    go_enter Tryd.func87, Tryd.ntmps87
    go_wp2
    go_ret
    exact ⟨by rw [HO.out]; rfl, rfl⟩
  rcases bool_or (s.toList == [108, 101, 110, 103, 116, 104]) with h | q17
  · have HO := Lib.hid (show kindL s.data.toList = kBuilt by rw [to_eq h]; decide +kernel)
    go_enter Tryd.func87, Tryd.ntmps87
    go_wp2
    go_ret
    exact ⟨by rw [HO.out]; rfl, rfl⟩
  rcases bool_or (s.toList == [115, 117, 98, 115, 116, 114]) with h | q18
  · have HO := Lib.hid (show kindL s.data.toList = kBuilt by rw [to_eq h]; decide +kernel)
    go_enter Tryd.func87, Tryd.ntmps87
    go_wp2
    go_ret
    exact ⟨by rw [HO.out]; rfl, rfl⟩
  rcases bool_or (s.toList == [105, 110, 100, 101, 120]) with h | q19
  · have HO := Lib.hid (show kindL s.data.toList = kBuilt by rw [to_eq h]; decide +kernel)
    go_enter Tryd.func87, Tryd.ntmps87
    go_wp2
    go_ret
    exact ⟨by rw [HO.out]; rfl, rfl⟩
  rcases bool_or (s.toList == [115, 112, 108, 105, 116]) with h | q20
  · have HO := Lib.hid (show kindL s.data.toList = kBuilt by rw [to_eq h]; decide +kernel)
    go_enter Tryd.func87, Tryd.ntmps87
    go_wp2
    go_ret
    exact ⟨by rw [HO.out]; rfl, rfl⟩
  rcases bool_or (s.toList == [115, 117, 98]) with h | q21
  · have HO := Lib.hid (show kindL s.data.toList = kBuilt by rw [to_eq h]; decide +kernel)
    go_enter Tryd.func87, Tryd.ntmps87
    go_wp2
    go_ret
    exact ⟨by rw [HO.out]; rfl, rfl⟩
  rcases bool_or (s.toList == [103, 115, 117, 98]) with h | q22
  · have HO := Lib.hid (show kindL s.data.toList = kBuilt by rw [to_eq h]; decide +kernel)
    go_enter Tryd.func87, Tryd.ntmps87
    go_wp2
    go_ret
    exact ⟨by rw [HO.out]; rfl, rfl⟩
  rcases bool_or (s.toList == [109, 97, 116, 99, 104]) with h | q23
  · have HO := Lib.hid (show kindL s.data.toList = kBuilt by rw [to_eq h]; decide +kernel)
    go_enter Tryd.func87, Tryd.ntmps87
    go_wp2
    go_ret
    exact ⟨by rw [HO.out]; rfl, rfl⟩
  rcases bool_or (s.toList == [115, 112, 114, 105, 110, 116, 102]) with h | q24
  · have HO := Lib.hid (show kindL s.data.toList = kBuilt by rw [to_eq h]; decide +kernel)
    go_enter Tryd.func87, Tryd.ntmps87
    go_wp2
    go_ret
    exact ⟨by rw [HO.out]; rfl, rfl⟩
  rcases bool_or (s.toList == [116, 111, 108, 111, 119, 101, 114]) with h | q25
  · have HO := Lib.hid (show kindL s.data.toList = kBuilt by rw [to_eq h]; decide +kernel)
    go_enter Tryd.func87, Tryd.ntmps87
    go_wp2
    go_ret
    exact ⟨by rw [HO.out]; rfl, rfl⟩
  rcases bool_or (s.toList == [116, 111, 117, 112, 112, 101, 114]) with h | q26
  · have HO := Lib.hid (show kindL s.data.toList = kBuilt by rw [to_eq h]; decide +kernel)
    go_enter Tryd.func87, Tryd.ntmps87
    go_wp2
    go_ret
    exact ⟨by rw [HO.out]; rfl, rfl⟩
  rcases bool_or (s.toList == [105, 110, 116]) with h | q27
  · have HO := Lib.hid (show kindL s.data.toList = kBuilt by rw [to_eq h]; decide +kernel)
    go_enter Tryd.func87, Tryd.ntmps87
    go_wp2
    go_ret
    exact ⟨by rw [HO.out]; rfl, rfl⟩
  rcases bool_or (s.toList == [103, 101, 116, 108, 105, 110, 101]) with h | q28
  · have HO := Lib.hid (show kindL s.data.toList = kBarred by rw [to_eq h]; decide +kernel)
    go_enter Tryd.func87, Tryd.ntmps87
    go_wp2
    go_ret
    exact ⟨by rw [HO.out]; rfl, rfl⟩
  rcases bool_or (s.toList == [115, 121, 115, 116, 101, 109]) with h | q29
  · have HO := Lib.hid (show kindL s.data.toList = kBarred by rw [to_eq h]; decide +kernel)
    go_enter Tryd.func87, Tryd.ntmps87
    go_wp2
    go_ret
    exact ⟨by rw [HO.out]; rfl, rfl⟩
  rcases bool_or (s.toList == [99, 108, 111, 115, 101]) with h | q30
  · have HO := Lib.hid (show kindL s.data.toList = kBarred by rw [to_eq h]; decide +kernel)
    go_enter Tryd.func87, Tryd.ntmps87
    go_wp2
    go_ret
    exact ⟨by rw [HO.out]; rfl, rfl⟩
  rcases bool_or (s.toList == [102, 102, 108, 117, 115, 104]) with h | q31
  · have HO := Lib.hid (show kindL s.data.toList = kBarred by rw [to_eq h]; decide +kernel)
    go_enter Tryd.func87, Tryd.ntmps87
    go_wp2
    go_ret
    exact ⟨by rw [HO.out]; rfl, rfl⟩
  rcases bool_or (s.toList == [110, 101, 120, 116, 102, 105, 108, 101]) with h | q32
  · have HO := Lib.hid (show kindL s.data.toList = kBarred by rw [to_eq h]; decide +kernel)
    go_enter Tryd.func87, Tryd.ntmps87
    go_wp2
    go_ret
    exact ⟨by rw [HO.out]; rfl, rfl⟩
  rcases bool_or (s.toList == [114, 97, 110, 100]) with h | q33
  · have HO := Lib.hid (show kindL s.data.toList = kBarred by rw [to_eq h]; decide +kernel)
    go_enter Tryd.func87, Tryd.ntmps87
    go_wp2
    go_ret
    exact ⟨by rw [HO.out]; rfl, rfl⟩
  rcases bool_or (s.toList == [115, 114, 97, 110, 100]) with h | q34
  · have HO := Lib.hid (show kindL s.data.toList = kBarred by rw [to_eq h]; decide +kernel)
    go_enter Tryd.func87, Tryd.ntmps87
    go_wp2
    go_ret
    exact ⟨by rw [HO.out]; rfl, rfl⟩
  rcases bool_or (s.toList == [115, 105, 110]) with h | q35
  · have HO := Lib.hid (show kindL s.data.toList = kBarred by rw [to_eq h]; decide +kernel)
    go_enter Tryd.func87, Tryd.ntmps87
    go_wp2
    go_ret
    exact ⟨by rw [HO.out]; rfl, rfl⟩
  rcases bool_or (s.toList == [99, 111, 115]) with h | q36
  · have HO := Lib.hid (show kindL s.data.toList = kBarred by rw [to_eq h]; decide +kernel)
    go_enter Tryd.func87, Tryd.ntmps87
    go_wp2
    go_ret
    exact ⟨by rw [HO.out]; rfl, rfl⟩
  rcases bool_or (s.toList == [97, 116, 97, 110, 50]) with h | q37
  · have HO := Lib.hid (show kindL s.data.toList = kBarred by rw [to_eq h]; decide +kernel)
    go_enter Tryd.func87, Tryd.ntmps87
    go_wp2
    go_ret
    exact ⟨by rw [HO.out]; rfl, rfl⟩
  rcases bool_or (s.toList == [101, 120, 112]) with h | q38
  · have HO := Lib.hid (show kindL s.data.toList = kBarred by rw [to_eq h]; decide +kernel)
    go_enter Tryd.func87, Tryd.ntmps87
    go_wp2
    go_ret
    exact ⟨by rw [HO.out]; rfl, rfl⟩
  rcases bool_or (s.toList == [108, 111, 103]) with h | q39
  · have HO := Lib.hid (show kindL s.data.toList = kBarred by rw [to_eq h]; decide +kernel)
    go_enter Tryd.func87, Tryd.ntmps87
    go_wp2
    go_ret
    exact ⟨by rw [HO.out]; rfl, rfl⟩
  rcases bool_or (s.toList == [115, 113, 114, 116]) with h | q40
  · have HO := Lib.hid (show kindL s.data.toList = kBarred by rw [to_eq h]; decide +kernel)
    go_enter Tryd.func87, Tryd.ntmps87
    go_wp2
    go_ret
    exact ⟨by rw [HO.out]; rfl, rfl⟩
  rcases bool_or (s.toList == [102, 117, 110, 99]) with h | q41
  · have HO := Lib.hid (show kindL s.data.toList = kBarred by rw [to_eq h]; decide +kernel)
    go_enter Tryd.func87, Tryd.ntmps87
    go_wp2
    go_ret
    exact ⟨by rw [HO.out]; rfl, rfl⟩
  rcases bool_or (s.toList == [69, 78, 86, 73, 82, 79, 78]) with h | q42
  · have HO := Lib.hid (show kindL s.data.toList = kBarred by rw [to_eq h]; decide +kernel)
    go_enter Tryd.func87, Tryd.ntmps87
    go_wp2
    go_ret
    exact ⟨by rw [HO.out]; rfl, rfl⟩
  rcases bool_or (s.toList == [65, 82, 71, 86]) with h | q43
  · have HO := Lib.hid (show kindL s.data.toList = kBarred by rw [to_eq h]; decide +kernel)
    go_enter Tryd.func87, Tryd.ntmps87
    go_wp2
    go_ret
    exact ⟨by rw [HO.out]; rfl, rfl⟩
  rcases bool_or (s.toList == [65, 82, 71, 67]) with h | q44
  · have HO := Lib.hid (show kindL s.data.toList = kBarred by rw [to_eq h]; decide +kernel)
    go_enter Tryd.func87, Tryd.ntmps87
    go_wp2
    go_ret
    exact ⟨by rw [HO.out]; rfl, rfl⟩
  have HO := Lib.hid (show kindL s.data.toList = kName from kindL_none (by
    have e : wordsL ++ builtsL ++ barredL = [[66, 69, 71, 73, 78], [69, 78, 68], [102, 117, 110, 99, 116, 105, 111, 110], [100, 101, 108, 101, 116, 101], [105, 110], [105, 102], [101, 108, 115, 101], [119, 104, 105, 108, 101], [100, 111], [102, 111, 114], [98, 114, 101, 97, 107], [99, 111, 110, 116, 105, 110, 117, 101], [110, 101, 120, 116], [101, 120, 105, 116], [114, 101, 116, 117, 114, 110], [112, 114, 105, 110, 116], [112, 114, 105, 110, 116, 102], [108, 101, 110, 103, 116, 104], [115, 117, 98, 115, 116, 114], [105, 110, 100, 101, 120], [115, 112, 108, 105, 116], [115, 117, 98], [103, 115, 117, 98], [109, 97, 116, 99, 104], [115, 112, 114, 105, 110, 116, 102], [116, 111, 108, 111, 119, 101, 114], [116, 111, 117, 112, 112, 101, 114], [105, 110, 116], [103, 101, 116, 108, 105, 110, 101], [115, 121, 115, 116, 101, 109], [99, 108, 111, 115, 101], [102, 102, 108, 117, 115, 104], [110, 101, 120, 116, 102, 105, 108, 101], [114, 97, 110, 100], [115, 114, 97, 110, 100], [115, 105, 110], [99, 111, 115], [97, 116, 97, 110, 50], [101, 120, 112], [108, 111, 103], [115, 113, 114, 116], [102, 117, 110, 99], [69, 78, 86, 73, 82, 79, 78], [65, 82, 71, 86], [65, 82, 71, 67]] := by decide +kernel
    rw [e]
    simp only [List.mem_cons, List.not_mem_nil, or_false]
    rintro x (rfl | rfl | rfl | rfl | rfl | rfl | rfl | rfl | rfl | rfl | rfl | rfl | rfl | rfl | rfl | rfl | rfl | rfl | rfl | rfl | rfl | rfl | rfl | rfl | rfl | rfl | rfl | rfl | rfl | rfl | rfl | rfl | rfl | rfl | rfl | rfl | rfl | rfl | rfl | rfl | rfl | rfl | rfl | rfl | rfl)
    · exact to_ne q0
    · exact to_ne q1
    · exact to_ne q2
    · exact to_ne q3
    · exact to_ne q4
    · exact to_ne q5
    · exact to_ne q6
    · exact to_ne q7
    · exact to_ne q8
    · exact to_ne q9
    · exact to_ne q10
    · exact to_ne q11
    · exact to_ne q12
    · exact to_ne q13
    · exact to_ne q14
    · exact to_ne q15
    · exact to_ne q16
    · exact to_ne q17
    · exact to_ne q18
    · exact to_ne q19
    · exact to_ne q20
    · exact to_ne q21
    · exact to_ne q22
    · exact to_ne q23
    · exact to_ne q24
    · exact to_ne q25
    · exact to_ne q26
    · exact to_ne q27
    · exact to_ne q28
    · exact to_ne q29
    · exact to_ne q30
    · exact to_ne q31
    · exact to_ne q32
    · exact to_ne q33
    · exact to_ne q34
    · exact to_ne q35
    · exact to_ne q36
    · exact to_ne q37
    · exact to_ne q38
    · exact to_ne q39
    · exact to_ne q40
    · exact to_ne q41
    · exact to_ne q42
    · exact to_ne q43
    · exact to_ne q44))
  go_enter Tryd.func87, Tryd.ntmps87
  go_wp2
  go_ret
  exact ⟨by rw [HO.out]; rfl, rfl⟩
end Go.Proofs.YteaibkbdoocifaaDoor.lexs
