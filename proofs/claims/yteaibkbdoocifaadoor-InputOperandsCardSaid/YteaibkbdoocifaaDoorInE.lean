/- Contract of the document's Records. -/
import Derived.Test.YteaibkbdoocifaaDoorInD
namespace Go.Proofs.YteaibkbdoocifaaDoor.inps
set_option linter.unusedVariables false set_option linter.unusedSimpArgs false
open Go.ChangeShapes Go.WideShapes Go.ChangeAt Go.RowKit Go.Proofs.YteaibkbdoocifaaDoor.base

set_option maxHeartbeats 4000000 in
set_option maxRecDepth 20000 in
theorem drecords_all (s rs : ByteArray) (w : World) (hs : s.size ≤ 3000) :
    Calls Tryd.prog 11 #[.string s, .string rs] w fun e w' => ∃ v, e = .returned v ∧ OwnS w' w.heap.size v (recs s rs) ∧ Frm No w w' := by
  obtain ⟨n, hn⟩ : ∃ n, (plc s rs).length = n := ⟨_, rfl⟩
  have HSP := Lib.hid (dspans_ps s rs w n hn hs)
  obtain ⟨hin, hlen⟩ := plc_in s rs
  have HIN := Lib.hid hin
  have HNX := Lib.hid (fun k p h => @recs_next s rs k p h)
  have HRL := Lib.hid (recs_len s rs)
  generalize hP : plc s rs = P at *
  generalize hR : recs s rs = R at *
  clear hP hR hin
  have hnl : n ≤ 3001 := by omega
  have HN := Lib.hid hn
  clear hn hlen
  obtain ⟨i0, hi, hz0, hz1, hz2⟩ := info_parts info_str
  go_enter Tryd.func11, Tryd.ntmps11
  go_wp2_with (go_at_call 8; go_must (refine HSP.out.mono ?_; rintro e w1 ⟨pa, pc, rfl, hps, hf⟩; have HPS := Lib.hid hps; have HF1 := Lib.hid hf; clear hps hf))
  go_loopw [5, 7] (fun v iv wr => ∃ (k : Nat) (a : Option Addr) (c : Nat), k ≤ n ∧ iv = .int .i64 k ∧ v = .slice a k c ∧ OwnS wr w1.heap.size v (R.take k) ∧ Frm No w wr ∧ Frm No w1 wr) (fun _ iv _ => n - (intOf iv).toNat)
  case atStart => exact ⟨0, none, 0, Nat.zero_le _, rfl, rfl, OwnS.nil _ _, HF1.out, Frm.refl _ _⟩
  case round =>
    obtain ⟨k, a, c, hk, rfl, rfl, hown, hf, hf1⟩ := hrel
    have HO := Lib.hid hown
    have HF := Lib.hid hf
    have HF1' := Lib.hid hf1
    have hw := hf.size
    have hw1 := hf1.size
    clear hown hf hf1
    by_cases hlt : k < n
    · obtain ⟨p, hp⟩ : ∃ p, P[k]? = some p := ⟨_, List.getElem?_eq_getElem (by rw [HN.out]; exact hlt)⟩
      obtain ⟨g, rfl, x0, x1⟩ := (HPS.out.move HF1'.out).at hp
      obtain ⟨hp1, hp2⟩ := HIN.out p (List.mem_of_getElem? hp)
      have HT := Lib.hid (HNX.out k p hp)
      have htl : (R.take k).length = k := by rw [List.length_take, HRL.out, HN.out]; omega
      have HOW := Lib.hid (show wr.ownsRow w1.heap.size 9 1 (.slice a k c) k ((R.take k).map Value.string) by have := HO.out; unfold OwnS at this; rw [htl] at this; exact this)
      obtain ⟨p1, p2⟩ := p
      simp only at x0 x1 hp1 hp2
      have hk0 : (0 : Int) ≤ (k : Int) := by omega
      have hk1 : (k : Int) < (n : Int) := by omega
      have hp1' : (p1 : Int) ≤ (p2 : Int) := by omega
      have hp2' : (p2 : Int) ≤ (s.size : Int) := by omega
      have hp0 : (0 : Int) ≤ (p1 : Int) := by omega
      have HTL := Lib.hid htl
      clear hp htl
      go_wp2
      go_region_law (refine step_append_lies _ (by rfl) _ _ _ (by rfl) w1.heap.size 9 i0 _ 1 16 Tryd.underlying27 hi hz0 hz1 hz2 (by rfl) (by omega) (.slice a k c) k ((R.take k).map Value.string) (by rfl) (by exact (World.ownsRow.alloc HOW.out _)) ⟨wr.heap.size, 0, none⟩ 1 1 [.string (s.extract p1 p2)] (by rfl) (by rfl) (World.news_of_block (cs := #[.string (s.extract p1 p2)]) (t := 9) (fr := (0, 0)) (by exact heap_alloc_new wr _)) (by simp [Value.oneCell']) (by omega) (by unfold maxLen; omega) (by omega) (by simp; omega) (wr.heap.size + 1) (by simp) ?_; intro g' gcap w4 hown4 hgrow hat hlt4)
      all_goals
        have hf4 : Frm (fun q => (Value.slice a k c).ownBlock = some q) wr w4 := (((Frm.refl _ wr).alloc _).drew).grown hgrow (fun q hq _ => hq)
        have HF4 := Lib.hid (frm_appX HF.out HO.out HF1.out.size hf4)
        have HF5 := Lib.hid (show Frm No w1 w4 from HF1'.out.then hf4 (fun q hq e => absurd (own_lt HO.out e).1 (by omega)))
        have HO4 := Lib.hid (show OwnS w4 w1.heap.size (.slice (some ⟨g', 0, none⟩) (k + 1) gcap) (R.take (k + 1)) by
          rw [HT.out]
          unfold OwnS
          rw [List.length_append, HTL.out, List.map_append]
          exact hown4)
        clear hf4 hgrow hown4 hat
        go_wp2
        go_roundw
        case rel => exact ⟨k + 1, _, gcap, by omega, by go_num, rfl, HO4.out, HF4.out, HF5.out⟩
        case measure => simp [intOf]; omega
    · have hlt' : (n : Int) ≤ (k : Int) := by omega
      have HE := Lib.hid (show R.take k = R from List.take_of_length_le (by rw [HRL.out, HN.out]; omega))
      go_wp2
      go_ret
      exact ⟨_, rfl, by have := HO.out; rw [HE.out] at this; exact this.mono HF1.out.size, HF.out⟩

end Go.Proofs.YteaibkbdoocifaaDoor.inps
