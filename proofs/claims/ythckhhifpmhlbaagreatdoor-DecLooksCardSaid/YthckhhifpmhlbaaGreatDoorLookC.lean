/- The document's Looks. -/
import Derived.Test.YthckhhifpmhlbaaGreatDoorPref
namespace Go.Proofs.YthckhhifpmhlbaaGreatDoor.scan
set_option linter.unusedVariables false set_option linter.unusedSimpArgs false
open Go.ChangeShapes Go.WideShapes Go.ChangeAt Go.RowKit Go.Proofs.YthckhhifpmhlbaaGreatDoor.Deci Go.Proofs.YthckhhifpmhlbaaGreatDoor.deci

/-- How far a numeral goes. -/
def eN (s : ByteArray) : Nat := pB s + sizeB (pT s)
theorem looksOf_no (s : ByteArray) (h : noNum (pT s)) : looksOf s.data.toList = false := by
  have e : pT s = s.data.toList.drop (bl s.data.toList) := by unfold pT; rw [pB_eq]
  rw [e] at h
  unfold looksOf; dsimp only; rw [h.1, h.2]; rfl
theorem eN_le (s : ByteArray) : eN s ≤ s.size := by
  have h1 := sizeB_bd (pT s)
  have h2 := pB_le s
  have e : s.data.size = s.size := rfl
  unfold pT at h1
  rw [List.length_drop] at h1
  simp only [Array.length_toList] at h1
  unfold eN pT
  omega
theorem looksOf_yes (s : ByteArray) (h : ¬ noNum (pT s)) : looksOf s.data.toList = decide (eN s + run isB s (eN s) = s.size) := by
  have e : pT s = s.data.toList.drop (bl s.data.toList) := by unfold pT; rw [pB_eq]
  have hd : (pT s).drop (sizeB (pT s)) = s.data.toList.drop (eN s) := by unfold eN; generalize sizeB (pT s) = z; unfold pT; rw [List.drop_drop]
  have hle := eN_le s
  unfold looksOf
  dsimp only
  rw [← e, hd]
  have hl : (s.data.toList.drop (eN s)).length = s.size - eN s := by rw [List.length_drop]; simp
  rw [hl]
  have hr : bl (s.data.toList.drop (eN s)) = run isB s (eN s) := rfl
  rw [hr]
  have hb : ((run isB s (eN s) : Int) == ((s.size - eN s : Nat) : Int)) = decide (eN s + run isB s (eN s) = s.size) := by
    rw [Bool.eq_iff_iff, beq_iff_eq, decide_eq_true_iff]
    omega
  rw [hb]
  cases hw : (wholeL (pT s)).isEmpty
  · simp
  · have hp : (partL (pT s)).isEmpty = false := by
      cases hp : (partL (pT s)).isEmpty
      · rfl
      · exact absurd ⟨List.isEmpty_iff.1 hw, List.isEmpty_iff.1 hp⟩ h
    rw [hp]; simp

set_option maxRecDepth 100000 in
theorem refLooks_all (s : ByteArray) (w : World) (hs : s.size ≤ 1000) : Calls Tryz.prog 6 #[.string s] w fun e w' => e = .returned (.bool (looksOf s.data.toList)) ∧ Below w.heap.size w w' := by
  by_cases h : noNum (pT s)
  · have HH := Lib.hid h
    have HL := Lib.hid (looksOf_no s h)
    have HP := Lib.hid ((pref_all s w hs).mono (R' := fun e w' => ∃ f : Nat, e = .returned (.tuple #[.float .f64 f, .int .i64 0]) ∧ Below w.heap.size w w') (fun e w' ⟨f, n, he, h0, _, hb⟩ => ⟨f, by rw [he, h0 h]; rfl, hb⟩))
    clear h
    go_enter Tryz.func6, Tryz.ntmps6
    go_wp2_with (go_at_call 12; go_must (refine (HP.out).mono ?_; rintro en w2 ⟨f, rfl, hb⟩))
    go_ret
    exact ⟨by rw [HL.out]; rfl, hb⟩
  · have HL := Lib.hid (looksOf_yes s h)
    have hpos : 0 < eN s := by have := sizeB_pos (pT s) h; unfold eN; omega
    have HP := Lib.hid ((pref_all s w hs).mono (R' := fun e w' => ∃ f : Nat, e = .returned (.tuple #[.float .f64 f, .int .i64 (eN s : Nat)]) ∧ Below w.heap.size w w') (fun e w' ⟨f, n, he, _, h1, hb⟩ => ⟨f, by rw [he, h1 h]; rfl, hb⟩))
    have HIN := Lib.hid (fun k (h : k < run isB s (eN s)) => run_inw isB s (eN s) k h)
    have HOUT := Lib.hid (run_out isB s (eN s))
    have hrl := run_le isB s (eN s) (eN_le s)
    clear h
    generalize run isB s (eN s) = R at *
    generalize eN s = N at *
    have hne : ((N : Int) == 0) = false := by rw [beq_eq_false_iff_ne]; omega
    go_enter Tryz.func6, Tryz.ntmps6
    go_wp2_with (go_at_call 12; go_must (refine (HP.out).mono ?_; rintro en w2 ⟨f, rfl, hb⟩; have HB := Lib.hid hb; clear hb))
    go_loopw [5] (fun iv wr => ∃ x : Nat, iv = .int .i64 (x : Int) ∧ N ≤ x ∧ x ≤ N + R ∧ w2 = wr) (fun iv _ => N + R - (intOf iv).toNat)
    case atStart => exact ⟨N, rfl, by omega, by omega, rfl⟩
    case round =>
      obtain ⟨x, rfl, hx0, hx1, rfl⟩ := hrel
      have hx : (0 : Int) ≤ (x : Int) := by omega
      by_cases hxr : x < N + R
      · obtain ⟨hx2, hxd⟩ := HIN.out (x - N) (by omega)
        have hxs : x < s.size := by omega
        have HC := Lib.hid (show isB s[x] = true by
          have : s[N + (x - N)]'hx2 = s[x] := by congr 1; omega
          rw [← this]; exact hxd)
        have h2 : (x : Int) < (s.size : Int) := by omega
        clear hxd hx2
        go_wp2_with (go_at_call 13; go_must (refine (blankD_all s[x] _).mono ?_; rintro en w3 ⟨rfl, rfl⟩; rw [HC.out]))
        go_roundw
        case rel => exact ⟨x + 1, by go_num, by omega, by omega, by simp⟩
        case measure => simp [intOf]; omega
      · by_cases hxs : x < s.size
        · have hxe : x = N + R := by omega
          have HC := Lib.hid (show isB s[x] = false by subst hxe; exact HOUT.out hxs)
          have HD := Lib.hid (show decide (N + R = s.size) = false from decide_eq_false (by omega))
          have h2 : (x : Int) < (s.size : Int) := by omega
          clear hxe
          go_wp2_with (go_at_call 13; go_must (refine (blankD_all s[x] _).mono ?_; rintro en w3 ⟨rfl, rfl⟩; rw [HC.out]))
          go_ret
          exact ⟨by rw [HL.out, HD.out]; rfl, HB.out⟩
        · have HD := Lib.hid (show decide (N + R = s.size) = true from decide_eq_true (by omega))
          have h2 : ¬ (x : Int) < (s.size : Int) := by omega
          go_wp2_with fail
          go_ret
          exact ⟨by rw [HL.out, HD.out]; rfl, HB.out⟩
end Go.Proofs.YthckhhifpmhlbaaGreatDoor.scan
