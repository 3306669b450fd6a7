/- awake. -/
import Derived.Test.YteaibkbdoocifaaDoorInH
import Derived.Test.YteaibkbdoocifaaDoorInE
namespace Go.Proofs.YteaibkbdoocifaaDoor.lexs
set_option linter.unusedVariables false set_option linter.unusedSimpArgs false
open Go.ChangeShapes Go.WideShapes Go.ChangeAt Go.RowKit Go.Proofs.YteaibkbdoocifaaDoor.base Go.Proofs.YteaibkbdoocifaaDoor.wrd Go.Proofs.YteaibkbdoocifaaDoor.inps

theorem opd_awake : opd ⟨#[120, 61, 49]⟩ = some (⟨#[120]⟩, [49]) := by
  have hc : Lib.cut (⟨#[120, 61, 49]⟩ : ByteArray).data.toList [61] = ([120], [49], true) := by decide +kernel
  have hm : mnt [49] = [49] := by rw [mnt_one _ (by decide), mnt_nil]
  unfold opd
  rw [hc]
  show (match (true && nmk [120]) with
    | true => some ((⟨[120].toArray⟩ : ByteArray), mnt [49])
    | false => none) = _
  rw [hm, show nmk [120] = true by decide]
  rfl
theorem recs_awake : recs ⟨#[97, 10, 98]⟩ ⟨#[10]⟩ = [⟨#[97]⟩, ⟨#[98]⟩] := by decide +kernel

theorem own_at1 {w : World} {B : Nat} {v : Value} {x y : ByteArray} (h : OwnS w B v [x, y]) : ∃ g c, v = .slice (some ⟨g, 0, none⟩) 2 c ∧ w.cell? ⟨g, 1, none⟩ = some (.string y) := by
  obtain ⟨p, c, hv, h2⟩ := h.rd
  rcases h2 with h2 | ⟨g, o, rfl, h2⟩
  · cases h2
  · rcases h.2 with ⟨h3, _⟩ | ⟨g', cap, cur, h3, _⟩
    · rw [hv] at h3; cases h3
    · rw [hv] at h3
      injection h3 with h4 h5 h6
      injection h4 with h4
      injection h4 with h7 h8 h9
      subst h8
      have := h2 1 y rfl
      rw [Nat.zero_add] at this
      exact ⟨g, c, hv, this⟩

set_option maxHeartbeats 2000000 in
theorem awake_all (w : World) (hM : Mx w) : Calls Tryd.prog 6 #[] w fun e w' => e = .returned (.bool true) ∧ Frm No w w' := by
  have HR := Lib.hid (records_all ⟨#[97, 10, 98]⟩ ⟨#[10]⟩ w (by decide) hM)
  rw [recs_awake] at HR
  have HO := Lib.hid (fun W h => operand_all' ⟨#[120, 61, 49]⟩ W (by decide) h)
  rw [opd_awake] at HO
  have HM := Lib.hid hM
  clear hM
  go_enter Tryd.func6, Tryd.ntmps6
  go_wp2_with (first | (go_at_call 10; go_must (refine HR.out.mono ?_; rintro e w1 ⟨v, rfl, ho, hf⟩; obtain ⟨g, c, rfl, hg⟩ := own_at1 ho; have HF1 := Lib.hid hf; clear ho hf)) | (go_at_call 12; go_must (refine (HO.out _ (HM.out.frm HF1.out)).mono ?_; rintro e w2 ⟨he, hf⟩; obtain rfl : e = .returned (.tuple #[.string ⟨#[120]⟩, .string ⟨#[49]⟩, .bool true]) := he; have hg2 := cell_stays hg hf; have HF2 := Lib.hid (HF1.out.trans hf); clear hf)))
  go_ret
  exact ⟨rfl, HF2.out⟩

end Go.Proofs.YteaibkbdoocifaaDoor.lexs
