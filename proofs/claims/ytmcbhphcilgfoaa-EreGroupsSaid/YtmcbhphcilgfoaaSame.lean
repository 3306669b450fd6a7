/- Contract of the document's Same, of a tree laid twice. -/
import Derived.Test.YtmcbhphcilgfoaaNodes
import Derived.Deep.RegionHeld3
namespace Go.Proofs.Ytmcbhphcilgfoaa.law03
set_option linter.unusedVariables false set_option linter.unusedSimpArgs false
open Go.ChangeShapes Go.WideShapes Go.ChangeAt Go.RowKit Go.Proofs.Ytmcbhphcilgfoaa.base Go.Proofs.Ytmcbhphcilgfoaa.read Go.Proofs.Ytmcbhphcilgfoaa.spec Go.Proofs.Ytmcbhphcilgfoaa.set Go.Proofs.Ytmcbhphcilgfoaa.nums Go.Proofs.Ytmcbhphcilgfoaa.parts Go.Proofs.Ytmcbhphcilgfoaa.items Go.Proofs.Ytmcbhphcilgfoaa.sim

set_option maxHeartbeats 2000000 in
theorem same_all (n : Nat) : ∀ (t : T) (w : World) (F G : Nat → Prop) (C D : Array Value), nd t ≤ n → n ≤ 1000000 → TV w F C t → TV w G D t →
    Calls Try.prog 8 #[.agg C, .agg D] w fun e w' => e = .returned (.bool true) ∧ Frm No w w' := by
  induction n with
  | zero => intro t w F G C D h; unfold nd at h; omega
  | succ n ih =>
    intro t w F G C D hn hb ⟨a1, c1, hC, hk1⟩ ⟨a2, c2, hD, hk2⟩
    subst hC hD
    have IH := Lib.hid ih
    have hlen := len_fsz t.kids
    have hsz : fsz t.kids ≤ n := by unfold nd at hn; omega
    clear ih
    generalize hkk : t.kids = kk at *
    by_cases hz : kk.len = 0
    · clear hk1 hk2 hkk
      go_enter Try.func8, Try.ntmps8
      go_wp2
      go_rounds 1
      go_ret
      exact ⟨rfl, frm2 _ _ _⟩
    · obtain ⟨g1, rfl, _, hltg1, _, hc1⟩ := kv_nth hk1 (by omega)
      obtain ⟨g2, rfl, _, hltg2, _, hc2⟩ := kv_nth hk2 (by omega)
      have HC1 := Lib.hid hc1
      have HC2 := Lib.hid hc2
      have HB1 := Lib.hid ((Box.new w 25 #[.string t.op, .string t.set, .slice (some ⟨g1, 0, none⟩) kk.len c1, .int .i64 t.lo, .int .i64 t.hi]).alloc (.cells #[.string t.op, .string t.set, .slice (some ⟨g2, 0, none⟩) kk.len c2, .int .i64 t.lo, .int .i64 t.hi] 25))
      have HB2 := Lib.hid (Box.new (w.alloc (.cells #[.string t.op, .string t.set, .slice (some ⟨g1, 0, none⟩) kk.len c1, .int .i64 t.lo, .int .i64 t.hi] 25)) 25 #[.string t.op, .string t.set, .slice (some ⟨g2, 0, none⟩) kk.len c2, .int .i64 t.lo, .int .i64 t.hi])
      rw [World.size_alloc] at HB2
      clear hk1 hk2 hkk hc1 hc2
      go_enter Try.func8, Try.ntmps8
      go_wp2
      go_loopw [5] (fun iv wr => ∃ k : Nat, k ≤ kk.len ∧ iv = .int .i64 k ∧ Frm No w wr ∧ Box wr w.heap.size 25 #[.string t.op, .string t.set, .slice (some ⟨g1, 0, none⟩) kk.len c1, .int .i64 t.lo, .int .i64 t.hi] ∧ Box wr (w.heap.size + 1) 25 #[.string t.op, .string t.set, .slice (some ⟨g2, 0, none⟩) kk.len c2, .int .i64 t.lo, .int .i64 t.hi]) (fun iv _ => kk.len - (intOf iv).toNat)
      case atStart => exact ⟨0, by omega, rfl, frm2 _ _ _, HB1.out, HB2.out⟩
      case round =>
        obtain ⟨k, hk, rfl, hf, hb1, hb2⟩ := hrel
        have HF := Lib.hid hf
        have HX1 := Lib.hid hb1
        have HX2 := Lib.hid hb2
        have hlb1 := hb1.lt
        have hlb2 := hb2.lt
        have hszr := hf.size
        have s1 : wr.cell? ⟨w.heap.size, 2, none⟩ = some (.slice (some ⟨g1, 0, none⟩) kk.len c1) := hb1.cell 2
        have s2 : wr.cell? ⟨w.heap.size + 1, 2, none⟩ = some (.slice (some ⟨g2, 0, none⟩) kk.len c2) := hb2.cell 2
        have fr : ∀ g o, g < w.heap.size → wr.cell? ⟨g, o, none⟩ = w.cell? ⟨g, o, none⟩ := fun g o h => World.cell?_of_block (HF.out.block g h id)
        clear hf hb1 hb2
        by_cases hlt : k < kk.len
        · obtain ⟨tk, htk⟩ := nth_some hlt
          have hndk := nth_nd htk
          obtain ⟨a3, c3, xd0, xd1, xd2, xd3, xd4, hkv3⟩ := HC1.out k tk htk
          obtain ⟨a4, c4, xe0, xe1, xe2, xe3, xe4, hkv4⟩ := HC2.out k tk htk
          have d0 : wr.cell? ⟨g1, k * 5, none⟩ = some (.string tk.op) := by rw [fr _ _ hltg1, Nat.mul_comm]; exact xd0
          have d1 : wr.cell? ⟨g1, k * 5 + 1, none⟩ = some (.string tk.set) := by rw [fr _ _ hltg1, Nat.mul_comm]; exact xd1
          have d2 : wr.cell? ⟨g1, k * 5 + 2, none⟩ = some (.slice a3 tk.kids.len c3) := by rw [fr _ _ hltg1, Nat.mul_comm]; exact xd2
          have d3 : wr.cell? ⟨g1, k * 5 + 3, none⟩ = some (.int .i64 tk.lo) := by rw [fr _ _ hltg1, Nat.mul_comm]; exact xd3
          have d4 : wr.cell? ⟨g1, k * 5 + 4, none⟩ = some (.int .i64 tk.hi) := by rw [fr _ _ hltg1, Nat.mul_comm]; exact xd4
          have e0 : wr.cell? ⟨g2, k * 5, none⟩ = some (.string tk.op) := by rw [fr _ _ hltg2, Nat.mul_comm]; exact xe0
          have e1 : wr.cell? ⟨g2, k * 5 + 1, none⟩ = some (.string tk.set) := by rw [fr _ _ hltg2, Nat.mul_comm]; exact xe1
          have e2 : wr.cell? ⟨g2, k * 5 + 2, none⟩ = some (.slice a4 tk.kids.len c4) := by rw [fr _ _ hltg2, Nat.mul_comm]; exact xe2
          have e3 : wr.cell? ⟨g2, k * 5 + 3, none⟩ = some (.int .i64 tk.lo) := by rw [fr _ _ hltg2, Nat.mul_comm]; exact xe3
          have e4 : wr.cell? ⟨g2, k * 5 + 4, none⟩ = some (.int .i64 tk.hi) := by rw [fr _ _ hltg2, Nat.mul_comm]; exact xe4
          have HK3 := Lib.hid (hkv3.move HF.out)
          have HK4 := Lib.hid (hkv4.move HF.out)
          have hlg1 : g1 < wr.heap.size := by omega
          have hlg2 : g2 < wr.heap.size := by omega
          clear xd0 xd1 xd2 xd3 xd4 xe0 xe1 xe2 xe3 xe4 fr hkv3 hkv4 htk
          have hx0 : (0 : Int) ≤ (k : Int) := by omega
          have hx1 : (k : Int) < (kk.len : Int) := by omega
          go_wp2
          go_region_held3 (fun w' => w'.cell? ⟨w.heap.size, 2, none⟩ = some (.slice (some ⟨g1, 0, none⟩) kk.len c1) ∧ w'.cell? ⟨w.heap.size + 1, 2, none⟩ = some (.slice (some ⟨g2, 0, none⟩) kk.len c2) ∧ w'.cell? ⟨g1, k * 5, none⟩ = some (.string tk.op) ∧ w'.cell? ⟨g1, k * 5 + 1, none⟩ = some (.string tk.set) ∧ w'.cell? ⟨g1, k * 5 + 2, none⟩ = some (.slice a3 tk.kids.len c3) ∧ w'.cell? ⟨g1, k * 5 + 3, none⟩ = some (.int .i64 tk.lo) ∧ w'.cell? ⟨g1, k * 5 + 4, none⟩ = some (.int .i64 tk.hi) ∧ w'.cell? ⟨g2, k * 5, none⟩ = some (.string tk.op) ∧ w'.cell? ⟨g2, k * 5 + 1, none⟩ = some (.string tk.set) ∧ w'.cell? ⟨g2, k * 5 + 2, none⟩ = some (.slice a4 tk.kids.len c4) ∧ w'.cell? ⟨g2, k * 5 + 3, none⟩ = some (.int .i64 tk.lo) ∧ w'.cell? ⟨g2, k * 5 + 4, none⟩ = some (.int .i64 tk.hi)) (first | go_keep | (refine ⟨?_, ?_, ?_, ?_, ?_, ?_, ?_, ?_, ?_, ?_, ?_, ?_⟩ <;> first | (rw [fr3 _ _ hlg1]; assumption) | (rw [fr3 _ _ hlg2]; assumption) | (rw [fr3 _ _ hlb1]; assumption) | (rw [fr3 _ _ hlb2]; assumption))) (first | (go_at_call 8; refine (IH.out tk _ F G _ _ (by omega) (by omega) ⟨a3, c3, rfl, HK3.out.move ((Frm.refl No _).drew)⟩ ⟨a4, c4, rfl, HK4.out.move ((Frm.refl No _).drew)⟩).mono ?_; rintro e w3 ⟨rfl, hf3⟩; have fr3 : ∀ g o, g < wr.heap.size → w3.cell? ⟨g, o, none⟩ = wr.cell? ⟨g, o, none⟩ := fun g o h => World.cell?_of_block (hf3.block g h id)))
          go_wp2
          exact ⟨⟨k + 1, by omega, by go_num, Frm.trans (HF.out.drew) hf3, Box.frm (S := No) (by exact HX1.out) hf3 id, Box.frm (S := No) (by exact HX2.out) hf3 id⟩, by simp [intOf]; omega⟩
        · obtain rfl : k = kk.len := by omega
          go_wp2
          go_ret
          exact ⟨rfl, HF.out⟩
end Go.Proofs.Ytmcbhphcilgfoaa.law03
