/- Contract of input's Operand; what the document's Lex answers of a str; contract of the document's Operand. -/
import Derived.Test.YteaibkbdoocifaaDoorInG
import Derived.Deep.LoopGhost
namespace Go.Proofs.YteaibkbdoocifaaDoor.lexs
set_option linter.unusedVariables false set_option linter.unusedSimpArgs false
open Go.ChangeShapes Go.WideShapes Go.ChangeAt Go.RowKit Go.Proofs.YteaibkbdoocifaaDoor.base Go.Proofs.YteaibkbdoocifaaDoor.wrd Go.Proofs.YteaibkbdoocifaaDoor.inps

theorem opd_none {s : ByteArray} (h : (Lib.cut s.data.toList [61]).2.2 = false) : opd s = none := by unfold opd; rw [h]; rfl
theorem opd_bad {s : ByteArray} (h : nmk (Lib.cut s.data.toList [61]).1 = false) : opd s = none := by unfold opd; rw [h, Bool.and_false]
theorem opd_some {s : ByteArray} (h : (Lib.cut s.data.toList [61]).2.2 = true) (h1 : nmk (Lib.cut s.data.toList [61]).1 = true) : opd s = some (⟨(Lib.cut s.data.toList [61]).1.toArray⟩, mnt (Lib.cut s.data.toList [61]).2.1) := by unfold opd; rw [h, h1]; rfl

set_option maxHeartbeats 4000000 in
set_option maxRecDepth 20000 in
theorem operand_all' (s : ByteArray) (w : World) (hs : s.size ≤ 1000) (hM : Mx w) :
    Calls Tryd.prog 12 #[.string s] w fun e w' => e = .returned (opV (opd s)) ∧ Frm No w w' := by
  obtain ⟨mx, hmx⟩ := id hM
  have HM := Lib.hid hM
  have HCT := Lib.hid (Tryd.strings_Cut s ⟨#[61]⟩ mx w (by omega) hmx)
  rw [show (⟨#[61]⟩ : ByteArray).data.toList = [61] from rfl] at HCT
  clear hM hmx
  obtain ⟨P, hP⟩ : ∃ P : ByteArray, (⟨(Lib.cut s.data.toList [61]).1.toArray⟩ : ByteArray) = P := ⟨_, rfl⟩
  obtain ⟨T, hT⟩ : ∃ T : ByteArray, (⟨(Lib.cut s.data.toList [61]).2.1.toArray⟩ : ByteArray) = T := ⟨_, rfl⟩
  have hPd : (Lib.cut s.data.toList [61]).1 = P.data.toList := by rw [← hP]
  have hTd : (Lib.cut s.data.toList [61]).2.1 = T.data.toList := by rw [← hT]
  have hc := cut_one s 61
  rw [hP, hT] at hc HCT
  rcases hc with ⟨h1, h2, h3, _⟩ | ⟨i, hi, h1, h2, h3, _, _⟩
  · have HR := Lib.hid (opd_none h3)
    rw [h3] at HCT
    rw [HR.out]
    clear h1 h2 h3 hPd hTd hP hT
    go_enter Tryd.func12, Tryd.ntmps12
    go_wp2_with (go_at_call 17; go_must (refine HCT.out.mono ?_; rintro e w1 ⟨rfl, n, rfl⟩))
    exact bodyPost_ret (v := .tuple #[.string ⟨#[]⟩, .string ⟨#[]⟩, .bool false]) (by simp [results, Tryd.results12, go_sem]) rfl ⟨rfl, (Frm.refl _ _).drewN _⟩
  · have hPz : P.size ≤ 1000 := by rw [h1]; simp [ByteArray.size_extract]; omega
    have hTz : T.size ≤ 1000 := by rw [h2]; simp [ByteArray.size_extract]; omega
    have HNM := Lib.hid (fun W => isName_all P W (by omega))
    have HCL := Lib.hid (fun W => clone_f P W (by omega))
    have HMN := Lib.hid (fun W h => meant_all T W hTz h)
    rw [h3] at HCT
    cases hn : nmk P.data.toList with
    | false =>
      have HR := Lib.hid (opd_bad (s := s) (by rw [hPd]; exact hn))
      rw [hn] at HNM
      rw [HR.out]
      clear h1 h2 h3 hPd hTd hP hT hn
      go_enter Tryd.func12, Tryd.ntmps12
      go_wp2_with (first | (go_at_call 17; go_must (refine HCT.out.mono ?_; rintro e w1 ⟨rfl, n, rfl⟩)) | (go_at_call 18; go_must (refine (HNM.out _).mono ?_; rintro e w2 ⟨rfl, rfl⟩)))
      exact bodyPost_ret (v := .tuple #[.string ⟨#[]⟩, .string ⟨#[]⟩, .bool false]) (by simp [results, Tryd.results12, go_sem]) rfl ⟨rfl, (Frm.refl _ _).drewN _⟩
    | true =>
      have HR := Lib.hid (opd_some h3 (by rw [hPd]; exact hn))
      rw [hP, hTd] at HR
      rw [hn] at HNM
      rw [HR.out]
      obtain ⟨V, hV⟩ : ∃ V, mnt T.data.toList = V := ⟨_, rfl⟩
      rw [hV] at HMN ⊢
      clear h1 h2 h3 hPd hTd hP hT hn HR hV
      go_enter Tryd.func12, Tryd.ntmps12
      go_wp2_with (first | (go_at_call 17; go_must (refine HCT.out.mono ?_; rintro e w1 ⟨rfl, n, rfl⟩)) | (go_at_call 18; go_must (refine (HNM.out _).mono ?_; rintro e w2 ⟨rfl, rfl⟩)) | (go_at_call 16; go_must (refine (HCL.out _).mono ?_; rintro e w3 ⟨rfl, hf3⟩; have HF3 := Lib.hid (((Frm.refl No w).drewN n).trans hf3); clear hf3)) | (go_at_call 19; go_must (refine (HMN.out _ (HM.out.frm HF3.out)).mono ?_; rintro e w4 ⟨rfl, hf4⟩; have HF4 := Lib.hid hf4; clear hf4)))
      exact bodyPost_ret (v := .tuple #[.string P, .string ⟨V.toArray⟩, .bool true]) (by simp [results, Tryd.results12, go_sem]) rfl ⟨rfl, HF3.out.trans HF4.out⟩

end Go.Proofs.YteaibkbdoocifaaDoor.lexs
