/- Contracts of input's Records and of the document's. -/
import Derived.Test.YteaibkbdoocifaaDoorInS
import Derived.Deep.RegionLaw
import Derived.Deep.DrawnRows
namespace Go.Proofs.YteaibkbdoocifaaDoor.inps
set_option linter.unusedVariables false set_option linter.unusedSimpArgs false
open Go.ChangeShapes Go.WideShapes Go.ChangeAt Go.RowKit Go.Proofs.YteaibkbdoocifaaDoor.base

theorem spans_ps (s rs : ByteArray) (w : World) (n : Nat) (hn : (plc s rs).length = n) (hs : s.size ≤ 3000) (hM : Mx w) :
    Calls Tryd.prog 7 #[.string s, .string rs] w fun e w' => ∃ a c, e = .returned (.slice a n c) ∧ PS w' (.slice a n c) (plc s rs) ∧ Frm No w w' := by
  refine (spans_all s rs w hs hM).mono fun e w' ⟨v, he, ho, hf⟩ => ?_
  obtain ⟨a, c, hv⟩ := ho.1
  rw [hn] at hv
  exact ⟨a, c, by rw [he, hv], by rw [← hv]; exact ho.ps, hf⟩
theorem dspans_ps (s rs : ByteArray) (w : World) (n : Nat) (hn : (plc s rs).length = n) (hs : s.size ≤ 3000) :
    Calls Tryd.prog 8 #[.string s, .string rs] w fun e w' => ∃ a c, e = .returned (.slice a n c) ∧ PS w' (.slice a n c) (plc s rs) ∧ Frm No w w' := by
  refine (dspans_all s rs w hs).mono fun e w' ⟨v, he, ho, hf⟩ => ?_
  obtain ⟨a, c, hv⟩ := ho.1
  rw [hn] at hv
  exact ⟨a, c, by rw [he, hv], by rw [← hv]; exact ho.ps, hf⟩

set_option maxHeartbeats 4000000 in
set_option maxRecDepth 20000 in
theorem records_all (s rs : ByteArray) (w : World) (hs : s.size ≤ 3000) (hM : Mx w) :
    Calls Tryd.prog 10 #[.string s, .string rs] w fun e w' => ∃ v, e = .returned v ∧ OwnS w' w.heap.size v (recs s rs) ∧ Frm No w w' := by
  obtain ⟨n, hn⟩ : ∃ n, (plc s rs).length = n := ⟨_, rfl⟩
  have HSP := Lib.hid (spans_ps s rs w n hn hs hM)
  obtain ⟨hin, hlen⟩ := plc_in s rs
  have HIN := Lib.hid hin
  have HNX := Lib.hid (fun k p h => @recs_next s rs k p h)
  have HRL := Lib.hid (recs_len s rs)
  generalize hP : plc s rs = P at *
  generalize hR : recs s rs = R at *
  clear hP hR hin hM
  have hnl : n ≤ 3001 := by omega
  have HN := Lib.hid hn
  clear hn hlen
  have HCL := Lib.hid (fun x W h => clone_c x W h)
  go_enter Tryd.func10, Tryd.ntmps10
  go_wp2_with (go_at_call 7; go_must (refine HSP.out.mono ?_; rintro e w1 ⟨pa, pc, rfl, hps, hf⟩; have HPS := Lib.hid hps; have HF1 := Lib.hid hf; clear hps hf))
  go_loopw [5, 12] (fun v iv wr => ∃ (k : Nat) (a : Option Addr) (c : Nat), k ≤ n ∧ iv = .int .i64 k ∧ v = .slice a k c ∧ OwnS wr w1.heap.size v (R.take k) ∧ Frm No w wr ∧ Frm No w1 wr) (fun _ iv _ => n - (intOf iv).toNat)
  case atStart => exact ⟨0, none, 0, Nat.zero_le _, rfl, rfl, OwnS.nil _ _, HF1.out, Frm.refl _ _⟩
  case round =>
    obtain ⟨k, a, c, hk, rfl, rfl, hown, hf, hf1⟩ := hrel
    have HO := Lib.hid hown
    have HF := Lib.hid hf
    have HF1' := Lib.hid hf1
    have hw := hf.size
    clear hown hf hf1
    by_cases hlt : k < n
    · obtain ⟨p, hp⟩ : ∃ p, P[k]? = some p := ⟨_, List.getElem?_eq_getElem (by rw [HN.out]; exact hlt)⟩
      obtain ⟨g, rfl, x0, x1⟩ := (HPS.out.move HF1'.out).at hp
      obtain ⟨hp1, hp2⟩ := HIN.out p (List.mem_of_getElem? hp)
      have HT := Lib.hid (HNX.out k p hp)
      have htl : (R.take k).length = k := by rw [List.length_take, HRL.out, HN.out]; omega
      have HTL := Lib.hid htl
      obtain ⟨p1, p2⟩ := p
      simp only at x0 x1 hp1 hp2
      have y0 := cell_move x0 ((Frm.refl No wr).alloc (.cells #[.int .i64 0, .int .i64 0] 25))
      have y1 := cell_move x1 ((Frm.refl No wr).alloc (.cells #[.int .i64 0, .int .i64 0] 25))
      have hk0 : (0 : Int) ≤ (k : Int) := by omega
      have hk1 : (k : Int) < (n : Int) := by omega
      have hp1' : (p1 : Int) ≤ (p2 : Int) := by omega
      have hp2' : (p2 : Int) ≤ (s.size : Int) := by omega
      have hp0 : (0 : Int) ≤ (p1 : Int) := by omega
      clear hp htl
      have hez : (s.extract p1 p2).size ≤ 140737488355328 := by simp [ByteArray.size_extract]; omega
      go_wp2_with (first | (go_at_call 16; go_must (refine (HCL.out _ _ hez).mono ?_; rintro e w3 ⟨rfl, hb3⟩; have HF3 := Lib.hid (show Frm No wr w3 from ((Frm.refl No wr).alloc _).trans (Frm.ofBelow hb3 (Nat.le_refl _))); clear hb3)) | (at_builtin; refine wpList_appX _ rfl _ _ rfl w1.heap.size (.slice a k c) (R.take k) k HTL.out rfl (by exact HO.out.move HF3.out) _ (s.extract p1 p2) rfl _ rfl (by rfl) (by omega) (by have := HF3.out.size; have := HF1'.out.size; omega) ?_; intro a' c' w4 ho4 hf4; have HO4 := Lib.hid ho4; have HF4 := Lib.hid (frm_appX (HF.out.trans HF3.out) (HO.out.move HF3.out) HF1.out.size hf4); have HF5 := Lib.hid (show Frm No w1 w4 from (HF1'.out.trans HF3.out).then hf4 (fun q hq e => absurd (own_lt (HO.out.move HF3.out) e).1 (by omega))); clear ho4 hf4))
      go_roundw
      case rel => exact ⟨k + 1, a', c', by omega, by go_num, rfl, by rw [HT.out]; exact HO4.out, HF4.out, HF5.out⟩
      case measure => simp [intOf]; omega
    · have hlt' : (n : Int) ≤ (k : Int) := by omega
      have HE := Lib.hid (show R.take k = R from List.take_of_length_le (by rw [HRL.out, HN.out]; omega))
      go_wp2
      go_ret
      exact ⟨_, rfl, by have := HO.out; rw [HE.out] at this; exact this.mono HF1.out.size, HF.out⟩

end Go.Proofs.YteaibkbdoocifaaDoor.inps
