/- The law EreSets: the walk. -/
import Derived.Test.YtmcbhphcilgfoaaSets
import Derived.Test.YtmcbhphcilgfoaaAwake3
namespace Go.Proofs.Ytmcbhphcilgfoaa.law03
set_option linter.unusedVariables false set_option linter.unusedSimpArgs false
open Go.ChangeShapes Go.WideShapes Go.ChangeAt Go.RowKit Go.Proofs.Ytmcbhphcilgfoaa.base Go.Proofs.Ytmcbhphcilgfoaa.read Go.Proofs.Ytmcbhphcilgfoaa.spec Go.Proofs.Ytmcbhphcilgfoaa.set Go.Proofs.Ytmcbhphcilgfoaa.nums Go.Proofs.Ytmcbhphcilgfoaa.parts Go.Proofs.Ytmcbhphcilgfoaa.items Go.Proofs.Ytmcbhphcilgfoaa.sets

/-- The cells of 256 counts. -/
def iA (f : Nat → Nat) : Array Value := ((List.range 256).map fun k => Value.int .i64 (f k : Nat)).toArray
theorem iA_size (f : Nat → Nat) : (iA f).size = 256 := by simp [iA]
theorem iA_get (f : Nat → Nat) (k : Nat) (h : k < 256) : (iA f)[k]? = some (.int .i64 (f k : Nat)) := by simp [iA, h]
theorem iA_ext (f g : Nat → Nat) (h : ∀ k, k < 256 → f k = g k) : iA f = iA g := by
  unfold iA
  congr 1
  apply List.map_congr_left
  intro k hk
  rw [h k (by simpa using hk)]
theorem iA_set (f : Nat → Nat) (k n : Nat) (h : k < 256) : (iA f).setIfInBounds k (.int .i64 (n : Nat)) = iA (fun j => if j = k then n else f j) := by
  apply Array.ext_getElem?
  intro j
  rw [Array.getElem?_setIfInBounds]
  by_cases hj : j < 256
  · rw [iA_get _ j hj, iA_get _ j hj, iA_size]
    by_cases e : k = j
    · subst e; simp [hj]
    · have e' : ¬ j = k := fun h => e h.symm
      simp [e, e']
  · have h1 : (iA f)[j]? = none := by rw [Array.getElem?_eq_none]; rw [iA_size]; omega
    have h2 : (iA fun j => if j = k then n else f j)[j]? = none := by rw [Array.getElem?_eq_none]; rw [iA_size]; omega
    rw [h1, h2, if_neg (by omega)]
theorem zero_ints (W : World) : (zeroValue 31).run Try.prog W = .ok (.agg (iA fun _ => 0)) W :=
  (zero_of_info (P := Try.prog) (t := 31) (v := .agg (iA fun _ => 0)) (n := 256) (by kernel_rfl)).1 W
theorem info_ints (f : Nat → Nat) : (Try.prog.info? 31).map (·.size) = some (iA f).size := by
  rw [iA_size]; kernel_rfl

def ct (b : Nat → Nat) (l : List UInt8) : Nat → Nat := fun j => b j + List.count (UInt8.ofNat j) l
theorem ct_next (b : Nat → Nat) (l : List UInt8) (k : Nat) (h : k < l.length) : iA (ct b (l.take (k + 1))) = iA (fun j => if j = l[k].toNat then ct b (l.take k) l[k].toNat + 1 else ct b (l.take k) j) := by
  apply iA_ext
  intro j hj
  unfold ct
  rw [List.take_succ_eq_append_getElem h, List.count_append]
  have hb := l[k].toNat_lt
  by_cases e : j = l[k].toNat
  · rw [if_pos e, e]
    have : UInt8.ofNat l[k].toNat = l[k] := by simp
    rw [this]
    simp [List.count_cons]
    omega
  · rw [if_neg e]
    have : ¬ l[k] = UInt8.ofNat j := by
      intro h
      apply e
      rw [h]
      simp
      omega
    have h0 : List.count (UInt8.ofNat j) [l[k]] = 0 := by simp [List.count_cons, this]
    rw [h0]
    rfl
theorem ct_zero (b : Nat → Nat) (l : List UInt8) : iA (ct b (l.take 0)) = iA b := by
  apply iA_ext
  intro j _
  simp [ct]
theorem ct_le (b : Nat → Nat) (hb : ∀ j, b j ≤ 100000) (l : List UInt8) (hl : l.length ≤ 100000) (j : Nat) : ct b l j ≤ 200000 := by
  unfold ct
  have := List.count_le_length (a := UInt8.ofNat j) (l := l)
  have := hb j
  omega

theorem texts (s : ByteArray) : ((⟨#[91]⟩ ++ s) ++ ⟨#[93]⟩ : ByteArray).data.toList = 91 :: (s.data.toList ++ [93]) ∧ ((⟨#[91, 94]⟩ ++ s) ++ ⟨#[93]⟩ : ByteArray).data.toList = 91 :: 94 :: (s.data.toList ++ [93]) := by
  constructor
  · conv => lhs; rw [← str_eta s]
    have e1 : (⟨#[91]⟩ ++ ⟨s.data.toList.toArray⟩ : ByteArray) = ⟨([91] ++ s.data.toList).toArray⟩ := app_list [91] _
    have e2 : (⟨([91] ++ s.data.toList).toArray⟩ ++ ⟨#[93]⟩ : ByteArray) = ⟨(([91] ++ s.data.toList) ++ [93]).toArray⟩ := app_list _ [93]
    rw [e1, e2]
    simp
  · conv => lhs; rw [← str_eta s]
    have e1 : (⟨#[91, 94]⟩ ++ ⟨s.data.toList.toArray⟩ : ByteArray) = ⟨([91, 94] ++ s.data.toList).toArray⟩ := app_list [91, 94] _
    have e2 : (⟨([91, 94] ++ s.data.toList).toArray⟩ ++ ⟨#[93]⟩ : ByteArray) = ⟨(([91, 94] ++ s.data.toList) ++ [93]).toArray⟩ := app_list _ [93]
    rw [e1, e2]
    simp
theorem toList_ne (s : ByteArray) (h : 0 < s.size) : (s.toList == []) = false := by
  rw [Lib.toList_data]
  have := len_list s
  cases hl : s.data.toList with
  | nil => rw [hl] at this; simp at this; omega
  | cons x t => rfl
theorem op_ne {o : ByteArray} (h : o ≠ setW) : (o.toList == [115, 101, 116]) = false := by
  rw [Lib.toList_data, beq_eq_false_iff_ne]
  intro e
  exact h (by rw [← str_eta o, e]; rfl)

theorem sets_out (s : ByteArray) (w : World) (hm : Mx w) (hs : 200 < s.size ∨ s.size = 0 ∨ ∃ h : 0 < s.size, s[0] = 94) : Calls Try.prog 5 #[.string s] w fun e w' => e = .returned (.bool true) ∧ Frm No w w' := by
  have HM := Lib.hid hm
  clear hm
  rcases hs with h | h | ⟨h0, h⟩
  · go_enter Try.func5, Try.ntmps5
    go_wp2_with (first | (go_at_call 6; go_must (refine (awake_all w HM.out).mono ?_; rintro e w1 ⟨rfl, hf1⟩)))
    go_ret
    exact ⟨rfl, hf1⟩
  · have e : s = ⟨#[]⟩ := by
      rw [← str_eta s]
      have := len_list s
      rw [h] at this
      rw [List.eq_nil_of_length_eq_zero this]
    subst e
    go_enter Try.func5, Try.ntmps5
    go_wp2_with (first | (go_at_call 6; go_must (refine (awake_all w HM.out).mono ?_; rintro e w1 ⟨rfl, hf1⟩)))
    go_ret
    exact ⟨rfl, hf1⟩
  · by_cases hbig : 200 < s.size
    · go_enter Try.func5, Try.ntmps5
      go_wp2_with (first | (go_at_call 6; go_must (refine (awake_all w HM.out).mono ?_; rintro e w1 ⟨rfl, hf1⟩)))
      go_ret
      exact ⟨rfl, hf1⟩
    · have hne := toList_ne s h0
      have hc : ((s[0].toNat : Int) == 94) = true := by rw [h]; rfl
      clear h
      go_enter Try.func5, Try.ntmps5
      go_wp2_with (first | (go_at_call 6; go_must (refine (awake_all w HM.out).mono ?_; rintro e w1 ⟨rfl, hf1⟩)))
      go_ret
      exact ⟨rfl, hf1⟩

theorem concat_hd (s : ByteArray) (h0 : 0 < s.size) (h : s[0] ≠ 94) : hd (s.data.toList ++ [93]) 94 = false := by
  have hg := get_list s 0 h0
  cases hl : s.data.toList with
  | nil => rw [hl] at hg; cases hg
  | cons x t =>
    rw [hl] at hg
    simp at hg
    subst hg
    simpa [hd] using h

set_option maxRecDepth 100000 in
set_option maxHeartbeats 2000000 in
theorem sets_in (s : ByteArray) (w : World) (hm : Mx w) (h0 : 0 < s.size) (h200 : s.size ≤ 200) (h94 : s[0] ≠ 94) : Calls Try.prog 5 #[.string s] w fun e w' => e = .returned (.bool true) ∧ Frm No w w' := by
  have HM := Lib.hid hm
  clear hm
  have hne := toList_ne s h0
  have hc94 : ((s[0].toNat : Int) == 94) = false := by
    rw [beq_eq_false_iff_ne]
    intro e
    exact h94 (UInt8.toNat_inj.1 (by show s[0].toNat = 94; omega))
  obtain ⟨t, t', f, hA, hB, hR⟩ := parse_sets (s.data.toList ++ [93]) (concat_hd s h0 h94)
  rw [← (texts s).1] at hA
  rw [← (texts s).2] at hB
  have HPA := Lib.hid hA
  have HPB := Lib.hid hB
  have HLA := Lib.hid (show ((⟨#[91]⟩ ++ s) ++ ⟨#[93]⟩ : ByteArray).size ≤ 100000 by
    have := congrArg List.length (texts s).1
    simp only [List.length_cons, List.length_append, List.length_nil] at this
    rw [len_list, len_list] at this
    omega)
  have HLB := Lib.hid (show ((⟨#[91, 94]⟩ ++ s) ++ ⟨#[93]⟩ : ByteArray).size ≤ 100000 by
    have := congrArg List.length (texts s).2
    simp only [List.length_cons, List.length_append, List.length_nil] at this
    rw [len_list, len_list] at this
    omega)
  clear hA hB h94
  by_cases hf0 : f = 0
  · subst hf0
    rcases hR rfl with ⟨F, rfl, rfl⟩ | ⟨ho, ho'⟩
    · obtain ⟨X, hX⟩ : ∃ X, X = setText F := ⟨_, rfl⟩
      obtain ⟨Y, hY⟩ : ∃ Y, Y = setText (fun k => !F k) := ⟨_, rfl⟩
      have hXl : X.length ≤ 256 := by rw [hX]; exact tx_len F 256
      have hYl : Y.length ≤ 256 := by rw [hY]; exact tx_len _ 256
      have HONE := Lib.hid (show ∀ k, k < 256 → List.count (UInt8.ofNat k) X + List.count (UInt8.ofNat k) Y = 1 by intro k hk; rw [hX, hY]; exact both_once F k hk)
      have ht : (setP F).t = ⟨⟨#[115, 101, 116]⟩, ⟨X.toArray⟩, 0, 0, .nil⟩ := by rw [hX]; rfl
      have ht' : (setP fun k => !F k).t = ⟨⟨#[115, 101, 116]⟩, ⟨Y.toArray⟩, 0, 0, .nil⟩ := by rw [hY]; rfl
      rw [ht] at HPA
      rw [ht'] at HPB
      clear ht ht' hX hY hR
      have HXS : (⟨X.toArray⟩ : ByteArray).size = X.length := by simp [ByteArray.size]
      have HYS : (⟨Y.toArray⟩ : ByteArray).size = Y.length := by simp [ByteArray.size]
      have hz100 : ∀ j, (fun _ : Nat => 0) j ≤ 100000 := fun _ => by simp
      have hx100 : ∀ j, ct (fun _ => 0) X j ≤ 100000 := fun j => by
        have := List.count_le_length (a := UInt8.ofNat j) (l := X)
        show 0 + List.count (UInt8.ofNat j) X ≤ 100000
        omega
      obtain ⟨Z, hZ⟩ : ∃ Z, Z = iA (fun _ => 0) := ⟨_, rfl⟩
      have hz0 : ∀ W, (zeroValue 31).run Try.prog W = .ok (.agg Z) W := by rw [hZ]; exact zero_ints
      have HZ := Lib.hid hZ
      clear hZ
      go_enter Try.func5, Try.ntmps5
      go_wp2_with (first | (go_at_call 6; go_must (refine (awake_all w HM.out).mono ?_; rintro e w1 ⟨rfl, hf1⟩; have HF1 := Lib.hid hf1; clear hf1)) | (go_at_call 7; refine (parse_c _ _ (HM.out.frm (HF2.out.alloc _) id) HLB.out _ HPB.out).mono ?_; rintro e w3 ⟨C2, rfl, ⟨a2, cap2, rfl, hk2⟩, hf3⟩; have HF3 := Lib.hid (Frm.then (HF2.out.alloc _) hf3 (fun _ _ e => e)); have HB3 := Lib.hid (show Box w3 w2.heap.size 25 #[.string ⟨#[115, 101, 116]⟩, .string ⟨X.toArray⟩, .slice a1 0 cap1, .int .i64 0, .int .i64 0] from Box.frm (Box.new w2 _ _) hf3 id); have hlt3 := HB3.out.lt; have e0 : w3.cell? ⟨w2.heap.size, 0, none⟩ = some (.string ⟨#[115, 101, 116]⟩) := HB3.out.cell 0; have e1 : w3.cell? ⟨w2.heap.size, 1, none⟩ = some (.string ⟨X.toArray⟩) := HB3.out.cell 1; clear hk2 hf3) | (go_at_call 7; refine (parse_c w1 _ (HM.out.frm HF1.out id) HLA.out _ HPA.out).mono ?_; rintro e w2 ⟨C1, rfl, ⟨a1, cap1, rfl, hk1⟩, hf2⟩; have HF2 := Lib.hid (HF1.out.trans hf2); clear hk1 hf2))
      have hz100' := Lib.hid hz100
      have hx100' := Lib.hid hx100
      clear hz100 hx100
      go_loopw [8] (fun iv wr => ∃ k : Nat, k ≤ X.length ∧ iv = .int .i64 k ∧ Hid (Box wr (w3.heap.size + 1) 31 (iA (ct (fun _ => 0) (X.take k)))) ∧ Box wr w2.heap.size 25 #[.string ⟨#[115, 101, 116]⟩, .string ⟨X.toArray⟩, .slice a1 0 cap1, .int .i64 0, .int .i64 0] ∧ Box wr w3.heap.size 25 #[.string ⟨#[115, 101, 116]⟩, .string ⟨Y.toArray⟩, .slice a2 0 cap2, .int .i64 0, .int .i64 0] ∧ Frm No w wr) (fun iv _ => X.length - (intOf iv).toNat)
      case atStart =>
        refine ⟨0, by omega, rfl, Lib.hid ?_, (HB3.out.alloc _).alloc _, (Box.new w3 _ _).alloc _, (HF3.out.alloc _).alloc _⟩
        rw [ct_zero, ← HZ.out]
        have := Box.new (w3.alloc (.cells #[.string ⟨#[115, 101, 116]⟩, .string ⟨Y.toArray⟩, .slice a2 0 cap2, .int .i64 0, .int .i64 0] 25)) 31 Z
        rw [World.size_alloc] at this
        exact this
      case round =>
        obtain ⟨k, hk, rfl, HBI, hbe1, hbe2, hf⟩ := hrel
        have HBE1 := Lib.hid hbe1
        have HBE2 := Lib.hid hbe2
        have HF := Lib.hid hf
        have hz100 := hz100'.out
        clear hbe1 hbe2 hf
        by_cases hlt : k < X.length
        · have hltW := HBI.out.lt
          have hx3 : wr.cell? ⟨w2.heap.size, 1, none⟩ = some (.string ⟨X.toArray⟩) := HBE1.out.cell 1
          have hck : (⟨X.toArray⟩ : ByteArray)[k]'(by rw [HXS]; exact hlt) = X[k] := rfl
          obtain ⟨n, hn⟩ : ∃ n, n = ct (fun _ => 0) (X.take k) X[k].toNat := ⟨_, rfl⟩
          have hn2 : n ≤ 200000 := by rw [hn]; exact ct_le _ hz100 _ (by rw [List.length_take]; omega) _
          have hcell : wr.cell? ⟨w3.heap.size + 1, X[k].toNat, none⟩ = some (.int .i64 (n : Nat)) := by
            rw [HBI.out.cell, iA_get _ _ X[k].toNat_lt, hn]
          have hfz := HBI.out.f X[k].toNat
          have hb1 : (X[k].toNat : Int) < 256 := by have := X[k].toNat_lt; omega
          have hb0 : (0 : Int) ≤ (X[k].toNat : Int) := by omega
          have HN := Lib.hid hn
          clear hn
          go_wp2
          go_roundw
          case rel =>
            refine ⟨k + 1, by omega, by go_num, Lib.hid ?_, HBE1.out.set_ne _ (by omega), HBE2.out.set_ne _ (by omega), HF.out.setCell ⟨w3.heap.size + 1, X[k].toNat, none⟩ _ (fun hk => absurd (show w3.heap.size + 1 < w.heap.size from hk) (by have := HF3.out.size; omega))⟩
            have := HBI.out.set X[k].toNat (.int .i64 ((n + 1 : Nat) : Int))
            rw [iA_set _ _ _ X[k].toNat_lt] at this
            rw [ct_next _ _ k hlt, ← HN.out]
            push_cast at this
            exact this
          case measure => simp [intOf]; omega
        · obtain rfl : k = X.length := by omega
          have hx3 : wr.cell? ⟨w2.heap.size, 1, none⟩ = some (.string ⟨X.toArray⟩) := HBE1.out.cell 1
          have HBI2 := Lib.hid (show Box wr (w3.heap.size + 1) 31 (iA (ct (fun _ => 0) X)) by
            have := HBI.out
            rw [List.take_of_length_le (Nat.le_refl _)] at this
            exact this)
          clear HBI hz100
          go_wp2
          go_loopw [9] (fun iv wr => ∃ k : Nat, k ≤ Y.length ∧ iv = .int .i64 k ∧ Hid (Box wr (w3.heap.size + 1) 31 (iA (ct (ct (fun _ => 0) X) (Y.take k)))) ∧ Box wr w2.heap.size 25 #[.string ⟨#[115, 101, 116]⟩, .string ⟨X.toArray⟩, .slice a1 0 cap1, .int .i64 0, .int .i64 0] ∧ Box wr w3.heap.size 25 #[.string ⟨#[115, 101, 116]⟩, .string ⟨Y.toArray⟩, .slice a2 0 cap2, .int .i64 0, .int .i64 0] ∧ Frm No w wr) (fun iv _ => Y.length - (intOf iv).toNat)
          case atStart => exact ⟨0, by omega, rfl, Lib.hid (by rw [ct_zero]; exact HBI2.out), HBE1.out, HBE2.out, HF.out⟩
          case round =>
            rename_i wr0 _
            clear HBI2 HBE1 HBE2 HF hx3
            obtain ⟨k, hk, rfl, HBI, hbe1, hbe2, hf⟩ := hrel
            rename_i wr
            have HBE1 := Lib.hid hbe1
            have HBE2 := Lib.hid hbe2
            have HF := Lib.hid hf
            have hx100 := hx100'.out
            clear hbe1 hbe2 hf
            by_cases hlt : k < Y.length
            · have hltW := HBI.out.lt
              have hx3 : wr.cell? ⟨w3.heap.size, 1, none⟩ = some (.string ⟨Y.toArray⟩) := HBE2.out.cell 1
              have hck : (⟨Y.toArray⟩ : ByteArray)[k]'(by rw [HYS]; exact hlt) = Y[k] := rfl
              obtain ⟨n, hn⟩ : ∃ n, n = ct (ct (fun _ => 0) X) (Y.take k) Y[k].toNat := ⟨_, rfl⟩
              have hn2 : n ≤ 200000 := by rw [hn]; exact ct_le _ hx100 _ (by rw [List.length_take]; omega) _
              have hcell : wr.cell? ⟨w3.heap.size + 1, Y[k].toNat, none⟩ = some (.int .i64 (n : Nat)) := by
                rw [HBI.out.cell, iA_get _ _ Y[k].toNat_lt, hn]
              have hfz := HBI.out.f Y[k].toNat
              have hb1 : (Y[k].toNat : Int) < 256 := by have := Y[k].toNat_lt; omega
              have hb0 : (0 : Int) ≤ (Y[k].toNat : Int) := by omega
              have HN := Lib.hid hn
              clear hn
              go_wp2
              go_roundw
              case rel =>
                refine ⟨k + 1, by omega, by go_num, Lib.hid ?_, HBE1.out.set_ne _ (by omega), HBE2.out.set_ne _ (by omega), HF.out.setCell ⟨w3.heap.size + 1, Y[k].toNat, none⟩ _ (fun hk => absurd (show w3.heap.size + 1 < w.heap.size from hk) (by have := HF3.out.size; omega))⟩
                have := HBI.out.set Y[k].toNat (.int .i64 ((n + 1 : Nat) : Int))
                rw [iA_set _ _ _ Y[k].toNat_lt] at this
                rw [ct_next _ _ k hlt, ← HN.out]
                push_cast at this
                exact this
              case measure => simp [intOf]; omega
            · obtain rfl : k = Y.length := by omega
              have hx3 : wr.cell? ⟨w3.heap.size, 1, none⟩ = some (.string ⟨Y.toArray⟩) := HBE2.out.cell 1
              obtain ⟨D, hD⟩ : ∃ D, D = iA (ct (ct (fun _ => 0) X) Y) := ⟨_, rfl⟩
              have HBD := Lib.hid (show Box wr (w3.heap.size + 1) 31 D by
                have := HBI.out
                rw [List.take_of_length_le (Nat.le_refl _)] at this
                rw [hD]
                exact this)
              have HID := Lib.hid (show (Try.prog.info? 31).map (·.size) = some D.size by rw [hD]; exact info_ints _)
              have HD1 := Lib.hid (show ∀ k, k < 256 → D[k]? = some (.int .i64 1) by
                intro k hk
                rw [hD, iA_get _ k hk]
                have := HONE.out k hk
                congr 2
                show ((0 + List.count (UInt8.ofNat k) X + List.count (UInt8.ofNat k) Y : Nat) : Int) = 1
                omega)
              clear HBI hD hx100
              go_wp2_with (refine wpList_load_row rfl 31 (.tmp 7) rfl (w3.heap.size + 1) rfl 31 D (0, 0) _ HBD.out Try.underlying31 rfl HID.out ?_)
              go_loopw [11, 92] (fun _ iv w' => ∃ k : Nat, k ≤ 256 ∧ iv = .int .i64 k ∧ w' = wr) (fun _ iv _ => (256 - intOf iv).toNat)
              case atStart => exact ⟨0, by omega, rfl, by first | rfl | trivial⟩
              case round =>
                obtain ⟨k, hk, rfl, rfl⟩ := hrel
                by_cases hlt : k < 256
                · have hcell := fun W => run_index_one (P := Try.prog) 31 3 256 D k _ Try.underlying31 hlt (HD1.out k hlt) Try.sizeOf3 Try.isAgg3 W
                  go_wp2
                  go_roundw
                  case rel => exact ⟨k + 1, by omega, by go_num, by first | rfl | trivial⟩
                  case measure => simp [intOf]; omega
                · obtain rfl : k = 256 := by omega
                  go_wp2
                  go_ret
                  exact ⟨rfl, HF.out⟩
    · have hop := op_ne ho
      clear ho ho' hR
      go_enter Try.func5, Try.ntmps5
      go_wp2_with (first | (go_at_call 6; go_must (refine (awake_all w HM.out).mono ?_; rintro e w1 ⟨rfl, hf1⟩; have HF1 := Lib.hid hf1; clear hf1)) | (go_at_call 7; refine (parse_c _ _ (HM.out.frm (HF2.out.alloc _) id) HLB.out _ HPB.out).mono ?_; rintro e w3 ⟨C2, rfl, ⟨a2, cap2, rfl, hk2⟩, hf3⟩; have HF3 := Lib.hid (Frm.then (HF2.out.alloc _) hf3 (fun _ _ e => e)); have HB3 := Lib.hid (Box.frm (Box.new w2 _ _) hf3 id); have hlt3 := HB3.out.lt; have e0 := HB3.out.cell 0; have e1 := HB3.out.cell 1; clear hk2 hf3) | (go_at_call 7; refine (parse_c w1 _ (HM.out.frm HF1.out id) HLA.out _ HPA.out).mono ?_; rintro e w2 ⟨C1, rfl, ⟨a1, cap1, rfl, hk1⟩, hf2⟩; have HF2 := Lib.hid (HF1.out.trans hf2); clear hk1 hf2))
      go_ret
      exact ⟨rfl, HF3.out.alloc _⟩
  · have hfi : (((f : Nat) : Int) == 0) = false := by simp; omega
    clear hR
    go_enter Try.func5, Try.ntmps5
    go_wp2_with (first | (go_at_call 6; go_must (refine (awake_all w HM.out).mono ?_; rintro e w1 ⟨rfl, hf1⟩; have HF1 := Lib.hid hf1; clear hf1)) | (go_at_call 7; refine (parse_c _ _ (HM.out.frm (HF2.out.alloc _) id) HLB.out _ HPB.out).mono ?_; rintro e w3 ⟨C2, rfl, ⟨a2, cap2, rfl, hk2⟩, hf3⟩; have HF3 := Lib.hid (Frm.then (HF2.out.alloc _) hf3 (fun _ _ e => e)); have HB3 := Lib.hid (Box.frm (Box.new w2 _ _) hf3 id); have hlt3 := HB3.out.lt; have e0 := HB3.out.cell 0; have e1 := HB3.out.cell 1; clear hk2 hf3) | (go_at_call 7; refine (parse_c w1 _ (HM.out.frm HF1.out id) HLA.out _ HPA.out).mono ?_; rintro e w2 ⟨C1, rfl, ⟨a1, cap1, rfl, hk1⟩, hf2⟩; have HF2 := Lib.hid (HF1.out.trans hf2); clear hk1 hf2))
    go_ret
    exact ⟨rfl, HF3.out.alloc _⟩
theorem sets (s : ByteArray) (w : World) (hm : Mx w) : Calls Try.prog 5 #[.string s] w fun e w' => e = .returned (.bool true) ∧ Frm No w w' := by
  by_cases h : 0 < s.size ∧ s.size ≤ 200
  · by_cases h94 : s[0]'h.1 = 94
    · exact sets_out s w hm (Or.inr (Or.inr ⟨h.1, h94⟩))
    · exact sets_in s w hm h.1 h.2 h94
  · exact sets_out s w hm (by omega)
end Go.Proofs.Ytmcbhphcilgfoaa.law03
