/- The document's trim once more: what it answers lies where its argument lay. -/
import Derived.Test.YthckhhifpmhlbaaGreatDoorDeci2b
namespace Go.Proofs.YthckhhifpmhlbaaGreatDoor.deci
set_option linter.unusedVariables false set_option linter.unusedSimpArgs false
open Go.ChangeShapes Go.WideShapes Go.ChangeAt Go.RowKit Go.Proofs.YthckhhifpmhlbaaGreatDoor.Deci

theorem trim_off (p : Int) (B : Nat) (v : Value) (l : List Nat) (w : World) (hr : RdI w B v l) (hl : l.length ≤ 100000) :
    Calls Tryz.prog 49 #[.agg #[v, .int .i64 p]] w fun e w' => ∃ v', e = .returned (.agg #[v', .int .i64 (pt (trimD l) p)]) ∧ RdI w' B v' (trimD l) ∧ Below w.heap.size w w' ∧ ∀ D, Off v D → Off v' D := by
  rcases hr with ⟨rfl, rfl⟩ | ⟨g, off, cap, rfl, hcap, hB, hc⟩
  · go_enter Tryz.func49, Tryz.ntmps49
    go_wp2
    go_rounds 1
    exact bodyPost_ret (v := .agg #[.slice none 0 0, .int .i64 0]) (by simp [results, Tryz.results49, go_sem]) rfl ⟨_, by rw [trimD_nil, pt_zero rfl], Or.inl ⟨rfl, trimD_nil⟩, (((Below.refl _ _).alloc (Nat.le_refl _) _).alloc (by simp) _), fun D h => h⟩
  · have hlt0 : 0 < l.length → g < w.heap.size := fun h => World.block_lt_of_cell? w _ (hc 0 h)
    go_enter Tryz.func49, Tryz.ntmps49
    go_wp2
    go_loop [3] (fun n => ∃ k : Nat, k ≤ l.length ∧ n = .int .i64 k ∧ trimD (l.take k) = trimD l) (fun n => (intOf n).toNat)
    case atStart => exact ⟨l.length, Nat.le_refl _, rfl, by rw [List.take_length]⟩
    case round =>
      obtain ⟨k, hk, rfl, ht⟩ := hrel
      have HT := Lib.hid ht
      clear ht
      by_cases hk0 : 0 < k
      · have hg := hlt0 (by omega)
        obtain ⟨c, hcc⟩ : ∃ c, c = l[k - 1]'(by omega) := ⟨_, rfl⟩
        have hcell : w.cell? ⟨g, off + (k - 1), none⟩ = some (.int .i64 (c : Nat)) := by rw [hcc]; exact hc (k - 1) (by omega)
        have HC := Lib.hid hcc
        have HCC := Lib.hid hc
        clear hcc hc
        by_cases hz : c = 0
        · subst hz
          go_wp2
          go_round
          case rel =>
            refine ⟨k - 1, by omega, by go_num, ?_⟩
            rw [← HT.out, show l.take k = l.take (k - 1) ++ [0] by rw [show l.take k = l.take (k - 1 + 1) by rw [show k - 1 + 1 = k by omega], List.take_succ_eq_append_getElem (by omega), ← HC.out], trimD_snoc0]
          case measure => simp [intOf]; omega
        · have hz2 : (((c : Nat) : Int) == 0) = false := by simp; omega
          have e : trimD l = l.take k := by
            rw [← HT.out, show l.take k = l.take (k - 1) ++ [c] by rw [show l.take k = l.take (k - 1 + 1) by rw [show k - 1 + 1 = k by omega], List.take_succ_eq_append_getElem (by omega), ← HC.out], trimD_snoc _ _ hz]
          have HE := Lib.hid e
          clear e
          go_wp2
          refine bodyPost_ret (v := .agg #[.slice (some ⟨g, off, none⟩) k cap, .int .i64 p]) (by simp [results, Tryz.results49, go_sem]) rfl ⟨.slice (some ⟨g, off, none⟩) k cap, ?_, ?_, ?_, fun D h g' off' n' cap' e' hn' => by cases e'; exact h _ _ _ _ rfl (by omega)⟩
          · have : trimD l ≠ [] := by rw [HE.out]; intro h; have := congrArg List.length h; rw [List.length_take, List.length_nil] at this; omega
            rw [pt, if_neg this]
          · rw [HE.out]
            exact (RdI.take hcap hB HCC.out hk).below (((Below.refl _ _).alloc (Nat.le_refl _) _).alloc (by simp) _)
          · exact ((Below.refl _ _).alloc (Nat.le_refl _) _).alloc (by simp) _
      · obtain rfl : k = 0 := by omega
        have HCC := Lib.hid hc
        clear hc
        go_wp2
        have e : trimD l = [] := by rw [← HT.out, List.take_zero, trimD_nil]
        refine bodyPost_ret (v := .agg #[.slice (some ⟨g, off, none⟩) 0 cap, .int .i64 0]) (by simp [results, Tryz.results49, go_sem]) rfl ⟨.slice (some ⟨g, off, none⟩) 0 cap, ?_, ?_, ?_, fun D h g' off' n' cap' e' hn' => by cases e'; omega⟩
        · rw [e, pt_zero rfl]
        · rw [e]
          exact (RdI.take (n := 0) hcap hB HCC.out (by omega)).below (((Below.refl _ _).alloc (Nat.le_refl _) _).alloc (by simp) _)
        · exact ((Below.refl _ _).alloc (Nat.le_refl _) _).alloc (by simp) _

end Go.Proofs.YthckhhifpmhlbaaGreatDoor.deci
