/- Contract of lex's endsOperand. -/
import Derived.Test.YteaibkbdoocifaaDoorLexS
namespace Go.Proofs.YteaibkbdoocifaaDoor.lexs
set_option linter.unusedVariables false set_option linter.unusedSimpArgs false
open Go.ChangeShapes Go.WideShapes Go.ChangeAt Go.RowKit Go.Proofs.YteaibkbdoocifaaDoor.base

set_option maxHeartbeats 4000000 in
theorem ends_all (K T : ByteArray) (w : World) :
    Calls Tryd.prog 66 #[.agg #[.string K, .string T]] w fun e w' => e = .returned (.bool (ends ⟨K.data.toList, T.data.toList⟩)) ∧ Frm No w w' := by
  rcases bool_or (K.toList == [110, 117, 109]) with h | q0
  · have HR := Lib.hid (show ends ⟨K.data.toList, T.data.toList⟩ = true by unfold ends; simp only; rw [to_eq h, if_pos (by decide)])
    go_enter Tryd.func66, Tryd.ntmps66
    go_wp2
    go_ret
    exact ⟨ret_bool (by rw [HR.out]), (Frm.refl _ _).alloc _⟩
  rcases bool_or (K.toList == [115, 116, 114]) with h | q1
  · have HR := Lib.hid (show ends ⟨K.data.toList, T.data.toList⟩ = true by unfold ends; simp only; rw [to_eq h, if_pos (by decide)])
    go_enter Tryd.func66, Tryd.ntmps66
    go_wp2
    go_ret
    exact ⟨ret_bool (by rw [HR.out]), (Frm.refl _ _).alloc _⟩
  rcases bool_or (K.toList == [101, 114, 101]) with h | q2
  · have HR := Lib.hid (show ends ⟨K.data.toList, T.data.toList⟩ = true by unfold ends; simp only; rw [to_eq h, if_pos (by decide)])
    go_enter Tryd.func66, Tryd.ntmps66
    go_wp2
    go_ret
    exact ⟨ret_bool (by rw [HR.out]), (Frm.refl _ _).alloc _⟩
  rcases bool_or (K.toList == [110, 97, 109, 101]) with h | q3
  · have HR := Lib.hid (show ends ⟨K.data.toList, T.data.toList⟩ = true by unfold ends; simp only; rw [to_eq h, if_pos (by decide)])
    go_enter Tryd.func66, Tryd.ntmps66
    go_wp2
    go_ret
    exact ⟨ret_bool (by rw [HR.out]), (Frm.refl _ _).alloc _⟩
  have hN : ¬ (K.data.toList = kNum ∨ K.data.toList = kStr ∨ K.data.toList = kEre ∨ K.data.toList = kName) := by
    rintro (e | e | e | e)
    · exact to_ne q0 e
    · exact to_ne q1 e
    · exact to_ne q2 e
    · exact to_ne q3 e
  have HN := Lib.hid hN
  clear hN
  rcases bool_or (K.toList == [98, 117, 105, 108, 116]) with h | q4
  · rcases bool_or (T.toList == [108, 101, 110, 103, 116, 104]) with g | g
    · have HR := Lib.hid (show ends ⟨K.data.toList, T.data.toList⟩ = true by unfold ends; simp only; rw [if_neg HN.out, to_eq h, if_pos (by decide), to_eq g]; rfl)
      go_enter Tryd.func66, Tryd.ntmps66
      go_wp2
      go_ret
      exact ⟨ret_bool (by rw [HR.out]), (Frm.refl _ _).alloc _⟩
    · have HR := Lib.hid (show ends ⟨K.data.toList, T.data.toList⟩ = false by unfold ends; simp only; rw [if_neg HN.out, to_eq h, if_pos (by decide)]; exact decide_eq_false (to_ne g))
      go_enter Tryd.func66, Tryd.ntmps66
      go_wp2
      go_ret
      exact ⟨ret_bool (by rw [HR.out]), (Frm.refl _ _).alloc _⟩
  have HB := Lib.hid (show K.data.toList ≠ kBuilt from to_ne q4)
  rcases bool_or (K.toList == [111, 112]) with h | q5
  · rcases bool_or (T.toList == [41]) with g | g0
    · have HR := Lib.hid (show ends ⟨K.data.toList, T.data.toList⟩ = true by unfold ends; simp only; rw [if_neg HN.out, if_neg HB.out, to_eq h, if_pos (by decide), to_eq g]; decide)
      go_enter Tryd.func66, Tryd.ntmps66
      go_wp2
      go_ret
      exact ⟨ret_bool (by rw [HR.out]), (Frm.refl _ _).alloc _⟩
    rcases bool_or (T.toList == [93]) with g | g1
    · have HR := Lib.hid (show ends ⟨K.data.toList, T.data.toList⟩ = true by unfold ends; simp only; rw [if_neg HN.out, if_neg HB.out, to_eq h, if_pos (by decide), to_eq g]; decide)
      go_enter Tryd.func66, Tryd.ntmps66
      go_wp2
      go_ret
      exact ⟨ret_bool (by rw [HR.out]), (Frm.refl _ _).alloc _⟩
    rcases bool_or (T.toList == [36]) with g | g2
    · have HR := Lib.hid (show ends ⟨K.data.toList, T.data.toList⟩ = true by unfold ends; simp only; rw [if_neg HN.out, if_neg HB.out, to_eq h, if_pos (by decide), to_eq g]; decide)
      go_enter Tryd.func66, Tryd.ntmps66
      go_wp2
      go_ret
      exact ⟨ret_bool (by rw [HR.out]), (Frm.refl _ _).alloc _⟩
    rcases bool_or (T.toList == [43, 43]) with g | g3
    · have HR := Lib.hid (show ends ⟨K.data.toList, T.data.toList⟩ = true by unfold ends; simp only; rw [if_neg HN.out, if_neg HB.out, to_eq h, if_pos (by decide), to_eq g]; decide)
      go_enter Tryd.func66, Tryd.ntmps66
      go_wp2
      go_ret
      exact ⟨ret_bool (by rw [HR.out]), (Frm.refl _ _).alloc _⟩
    rcases bool_or (T.toList == [45, 45]) with g | g4
    · have HR := Lib.hid (show ends ⟨K.data.toList, T.data.toList⟩ = true by unfold ends; simp only; rw [if_neg HN.out, if_neg HB.out, to_eq h, if_pos (by decide), to_eq g]; decide)
      go_enter Tryd.func66, Tryd.ntmps66
      go_wp2
      go_ret
      exact ⟨ret_bool (by rw [HR.out]), (Frm.refl _ _).alloc _⟩
    have HR := Lib.hid (show ends ⟨K.data.toList, T.data.toList⟩ = false by
      unfold ends; simp only; rw [if_neg HN.out, if_neg HB.out, to_eq h, if_pos (by decide)]
      refine decide_eq_false ?_
      rintro (e | e | e | e | e)
      · exact to_ne g0 e
      · exact to_ne g1 e
      · exact to_ne g2 e
      · exact to_ne g3 e
      · exact to_ne g4 e)
    go_enter Tryd.func66, Tryd.ntmps66
    go_wp2
    go_ret
    exact ⟨ret_bool (by rw [HR.out]), (Frm.refl _ _).alloc _⟩
  have HR := Lib.hid (show ends ⟨K.data.toList, T.data.toList⟩ = false by unfold ends; simp only; rw [if_neg HN.out, if_neg HB.out]; exact if_neg (to_ne q5))
  go_enter Tryd.func66, Tryd.ntmps66
  go_wp2
  go_ret
  exact ⟨ret_bool (by rw [HR.out]), (Frm.refl _ _).alloc _⟩
end Go.Proofs.YteaibkbdoocifaaDoor.lexs
