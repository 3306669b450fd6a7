/- awake (tedderlaw04). -/
import Derived.Test.YthebpkcifnndnaaMch
namespace Go.Proofs.Ythebpkcifnndnaa.part
set_option linter.unusedVariables false set_option linter.unusedSimpArgs false
open Go.ChangeShapes Go.WideShapes Go.ChangeAt Go.RowKit Go.Proofs.Ythebpkcifnndnaa.base Go.Proofs.Ythebpkcifnndnaa.spec Go.Proofs.Ythebpkcifnndnaa.nfa Go.Proofs.Ythebpkcifnndnaa.set Go.Proofs.Ythebpkcifnndnaa.parts Go.Proofs.Ythebpkcifnndnaa.items

def aT1 : T := ⟨altW, ⟨#[]⟩, 0, 0, .cons setW ⟨#[97]⟩ 0 0 .nil (.cons catW ⟨#[]⟩ 0 0 (.cons setW ⟨#[97]⟩ 0 0 .nil (.cons setW ⟨#[98]⟩ 0 0 .nil .nil)) .nil)⟩
def aT2 : T := ⟨repW, ⟨#[]⟩, 0, -1, .cons setW ⟨#[97]⟩ 0 0 .nil .nil⟩
theorem aP1 : parse [97, 124, 97, 98] = (aT1, 0) := by rfl
theorem aP2 : parse [97, 42] = (aT2, 0) := by rfl
theorem aM1 : mcR (aT1, 0) = some (relT aT1) := by
  have h : (rdT aT1 0).isSome = true := by decide +kernel
  obtain ⟨x, hx⟩ := Option.isSome_iff_exists.1 h
  unfold mcR
  rw [if_pos rfl, hx]
  rfl
theorem aM2 : mcR (aT2, 0) = some (relT aT2) := by
  have h : (rdT aT2 0).isSome = true := by decide +kernel
  obtain ⟨x, hx⟩ := Option.isSome_iff_exists.1 h
  unfold mcR
  rw [if_pos rfl, hx]
  rfl
theorem aR1 : relT aT1 = fun s i j => ∃ R ∈ [takeR (inS ⟨#[97]⟩), compR (takeR (inS ⟨#[97]⟩)) (compR (takeR (inS ⟨#[98]⟩)) idR)], R s i j := by rfl
theorem aR2 : relT aT2 = compR (powR (takeR (inS ⟨#[97]⟩)) 0) (starR (takeR (inS ⟨#[97]⟩))) := by rfl
theorem tk_a {i j : Nat} (h : takeR (inS ⟨#[97]⟩) [120, 97, 98] i j) : i = 1 ∧ j = 2 := by
  obtain ⟨rfl, c, h1, h2⟩ := h
  match i, h1 with
  | 0, h1 => cases h1; revert h2; decide
  | 1, _ => exact ⟨rfl, rfl⟩
  | 2, h1 => cases h1; revert h2; decide
  | n + 3, h1 => cases h1
theorem tk_b {i j : Nat} (h : takeR (inS ⟨#[98]⟩) [120, 97, 98] i j) : i = 2 ∧ j = 3 := by
  obtain ⟨rfl, c, h1, h2⟩ := h
  match i, h1 with
  | 0, h1 => cases h1; revert h2; decide
  | 1, h1 => cases h1; revert h2; decide
  | 2, _ => exact ⟨rfl, rfl⟩
  | n + 3, h1 => cases h1
theorem a1_in : relT aT1 [120, 97, 98] 1 3 := by
  rw [aR1]
  exact ⟨compR (takeR (inS ⟨#[97]⟩)) (compR (takeR (inS ⟨#[98]⟩)) idR), List.mem_cons_of_mem _ (List.mem_singleton.2 rfl), 2, ⟨rfl, 97, rfl, by decide⟩, 3, ⟨rfl, 98, rfl, by decide⟩, rfl⟩
theorem a1_out {i j : Nat} (h : relT aT1 [120, 97, 98] i j) : i = 1 ∧ (j = 2 ∨ j = 3) := by
  rw [aR1] at h
  obtain ⟨R, hR, h⟩ := h
  simp only [List.mem_cons, List.not_mem_nil, or_false] at hR
  rcases hR with rfl | rfl
  · have := tk_a h
    omega
  · obtain ⟨m, h1, m2, h2, h3⟩ := h
    have := tk_a h1
    have := tk_b h2
    have h3' : j = m2 := h3
    omega
theorem aw_find (w : World) (v : Value) (h : MP w v (some (relT aT1))) :
    Calls Try.prog 12 #[v, .string ⟨#[120, 97, 98]⟩, .int .i64 0] w fun en w' => en = .returned (.tuple #[.int .i64 1, .int .i64 2, .bool true]) ∧ Frm No w w' := by
  obtain ⟨MB, M, f, em, SB, cap, rfl, h2, h3, h4⟩ := h
  refine (find_all w MB M f em SB cap ⟨#[120, 97, 98]⟩ 0 h2 h3 (Nat.zero_le _) (by decide)).mono ?_
  rintro en w' ⟨fd, rs, re, rfl, hb, hf, _, _⟩
  rcases hb with ⟨_, _, _, hb⟩ | ⟨rfl, _, _, hb1, hb2⟩
  · exact absurd ((h4 _ _ _).2 a1_in) (hb 1 3 (Nat.zero_le _) (by decide))
  · have h5 := a1_out ((h4 _ _ _).1 hb1)
    have h6 := hb2 1 3 (Nat.zero_le _) (by decide) ((h4 _ _ _).2 a1_in)
    obtain rfl : rs = 1 := h5.1
    obtain rfl : re = 3 := by omega
    exact ⟨rfl, hf⟩
theorem aw_whole (w : World) (v : Value) (h : MP w v (some (relT aT2))) :
    Calls Try.prog 14 #[v, .string ⟨#[97, 97, 97]⟩] w fun en w' => en = .returned (.bool true) ∧ Frm No w w' := by
  obtain ⟨MB, M, f, em, SB, cap, rfl, h2, h3, h4⟩ := h
  refine (whole_all w MB M f em SB cap ⟨#[97, 97, 97]⟩ h2 h3 (by decide)).mono ?_
  rintro en w' ⟨r, rfl, hr, hf⟩
  have hin : relT aT2 [97, 97, 97] 0 3 := by
    rw [aR2]
    exact ⟨0, rfl, 3, 1, ⟨rfl, 97, rfl, by decide⟩, 2, ⟨rfl, 97, rfl, by decide⟩, 3, ⟨rfl, 97, rfl, by decide⟩, rfl⟩
  obtain rfl : r = true := hr.2 ((h4 _ _ _).2 hin)
  exact ⟨rfl, hf⟩

set_option maxHeartbeats 2000000 in
theorem awake_all (w : World) (hm : Mx w) : Calls Try.prog 8 #[] w fun e w' => e = .returned (.bool true) ∧ Frm No w w' := by
  have HM := Lib.hid hm
  have H1 := Lib.hid (fun (w : World) (hm : Mx w) => (machine_c w ⟨#[97, 124, 97, 98]⟩ hm (by decide) (aT1, 0) aP1))
  have H2 := Lib.hid (fun (w : World) (hm : Mx w) => (machine_c w ⟨#[97, 42]⟩ hm (by decide) (aT2, 0) aP2))
  clear hm
  go_enter Try.func8, Try.ntmps8
  go_wp2_with (first | (go_at_call 14; go_must (refine (aw_whole _ _ hv2).mono ?_; rintro en w4 ⟨rfl, hf4⟩)) | (go_at_call 12; go_must (refine (aw_find _ _ hv1).mono ?_; rintro en w2 ⟨rfl, hf2⟩)) | (go_at_call_of 18 (Value.string ⟨#[97, 42]⟩); go_must (refine (H2.out _ (HM.out.frm (hf1.trans hf2) id)).mono ?_; rintro en w3 ⟨v2, rfl, hv2, hf3⟩; rw [aM2] at hv2; obtain ⟨a2, rfl⟩ := mp_ptr hv2)) | (go_at_call_of 18 (Value.string ⟨#[97, 124, 97, 98]⟩); go_must (refine (H1.out _ HM.out).mono ?_; rintro en w1 ⟨v1, rfl, hv1, hf1⟩; rw [aM1] at hv1; obtain ⟨a1, rfl⟩ := mp_ptr hv1)))
  go_ret
  exact ⟨rfl, ((hf1.trans hf2).trans hf3).trans hf4⟩
end Go.Proofs.Ythebpkcifnndnaa.part
