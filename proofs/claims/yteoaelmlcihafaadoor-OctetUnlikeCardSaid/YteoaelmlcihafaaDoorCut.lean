/- Contracts of octet.endOf and octet.Cut, for every input. -/
import Derived.Test.YteoaelmlcihafaaDoorShelf
import Derived.Test.YteoaelmlcihafaaDoorKit
namespace Go.Proofs.YteoaelmlcihafaaDoor.octetCut
open Go.ChangeShapes Go.WideShapes Go.ChangeAt Go.RowKit

theorem endOf_all (size fr n : Int) (w : World) (hs0 : 0 ≤ size) (hs1 : size ≤ 281474976710656) (hf0 : -9223372036854775808 ≤ fr) (hf1 : fr ≤ 9223372036854775807) (hn0 : 0 < n) (hn1 : n ≤ 9223372036854775807) :
    Calls Tryd.prog 21 #[.int .i64 size, .int .i64 fr, .int .i64 n] w fun e w' => e = .returned (.int .i64 (min (fr + n) (size + 1))) ∧ w = w' := by
  by_cases hf : 0 < fr
  · by_cases h : n > size - fr
    · go_enter Tryd.func21, Tryd.ntmps21
      go_wp2
      go_ret
      exact ⟨ret_int (by omega), rfl⟩
    · go_enter Tryd.func21, Tryd.ntmps21
      go_wp2
      go_ret
      exact ⟨rfl, rfl⟩
  · go_enter Tryd.func21, Tryd.ntmps21
    go_wp2
    go_ret
    exact ⟨rfl, rfl⟩

/-- What Cut answers: the bytes at the places (from 1 on) at least fr, below fr + n. -/
def cutL (l : List UInt8) (fr n : Int) : List UInt8 :=
  (l.take (min (fr + n) (l.length + 1) - 1).toNat).drop (max fr 1 - 1).toNat

theorem strings_Clone_all (s : ByteArray) (w : World) (hlim : s.size ≤ 140737488351232) :
    Calls Tryd.prog 22 #[.string s] w fun e w' => e = .returned (.string s) ∧ Below w.heap.size w w' := by
  go_enter Tryd.func22, Tryd.ntmps22
  go_wp2_with (go_at_call 31; refine (Tryd.stringslite_Clone _ _ (by omega)).mono ?_; rintro e w' ⟨rfl, hb⟩)
  go_ret
  exact ⟨rfl, hb⟩

theorem Cut_all (s : ByteArray) (fr n : Int) (w : World) (hs : s.size ≤ 140737488351232) (hf0 : -9223372036854775808 ≤ fr) (hf1 : fr ≤ 9223372036854775807) (hn0 : -9223372036854775808 ≤ n) (hn1 : n ≤ 9223372036854775807) :
    Calls Tryd.prog 16 #[.string s, .int .i64 fr, .int .i64 n] w fun e w' => e = .returned (.string ⟨(cutL s.data.toList fr n).toArray⟩) ∧ Below w.heap.size w w' := by
  by_cases hn : n ≤ 0
  · have e : cutL s.data.toList fr n = [] := by
      unfold cutL
      rw [List.drop_eq_nil_iff, List.length_take]
      omega
    rw [e]
    go_enter Tryd.func16, Tryd.ntmps16
    go_wp2
    go_ret
    exact ⟨rfl, Below.refl _ _⟩
  · by_cases h : min (fr + n) (s.size + 1) ≤ max fr 1
    · have e : cutL s.data.toList fr n = [] := by
        unfold cutL
        rw [List.drop_eq_nil_iff, List.length_take]
        have : s.data.toList.length = s.size := by simp
        omega
      rw [e]
      go_enter Tryd.func16, Tryd.ntmps16
      go_wp2_with (go_at_call 21; refine (endOf_all _ _ _ _ (by omega) (by omega) (by omega) (by omega) (by omega) (by omega)).mono ?_; rintro e w' ⟨rfl, rfl⟩)
      go_ret
      exact ⟨rfl, Below.refl _ _⟩
    · have h1 : 0 ≤ max fr 1 - 1 := by omega
      have h2 : max fr 1 - 1 ≤ min (fr + n) (s.size + 1) - 1 := by omega
      have h3 : min (fr + n) (s.size + 1) - 1 ≤ s.size := by omega
      have h4 : 0 ≤ min (fr + n) (s.size + 1) - 1 := by omega
      have hc : cutL s.data.toList fr n = (s.data.toList.take ((min (fr + n) (s.size + 1)).toNat - 1)).drop ((max fr 1).toNat - 1) := by
        unfold cutL
        rw [show s.data.toList.length = s.size by simp]
        congr 1
        · omega
        · congr 1; omega
      have HC : Hid (cutL s.data.toList fr n = (s.data.toList.take ((min (fr + n) (s.size + 1)).toNat - 1)).drop ((max fr 1).toNat - 1)) := hc
      clear hc
      go_enter Tryd.func16, Tryd.ntmps16
      go_wp2_with (first | (go_at_call 21; refine (endOf_all _ _ _ _ (by omega) (by omega) (by omega) (by omega) (by omega) (by omega)).mono ?_; rintro e w' ⟨rfl, rfl⟩) | (go_at_call 22; refine (strings_Clone_all _ _ (by simp only [ByteArray.size_extract]; omega)).mono ?_; rintro e w' ⟨rfl, hb⟩))
      go_ret
      exact ⟨by rw [HC.out, extract_list]; rfl, hb⟩

theorem cutL_none (l : List UInt8) (fr n : Int) (hn : n ≤ 0) : cutL l fr n = [] := by
  unfold cutL
  rw [List.drop_eq_nil_iff, List.length_take]
  omega

theorem cutL_snoc (l : List UInt8) (k : Nat) (c : UInt8) (hc : l[k]? = some c) (fr n : Int) :
    cutL (l.take (k + 1)) fr n = cutL (l.take k) fr n ++ if max fr 1 ≤ (k : Int) + 1 ∧ (k : Int) + 1 < fr + n then [c] else [] := by
  obtain ⟨h1, rfl⟩ := List.getElem?_eq_some_iff.1 hc
  unfold cutL
  have e1 : (l.take (k + 1)).length = k + 1 := by simp; omega
  have e0 : (l.take k).length = k := by simp; omega
  rw [e1, e0, List.take_take, List.take_take]
  by_cases h : max fr 1 ≤ (k : Int) + 1 ∧ (k : Int) + 1 < fr + n
  · rw [if_pos h]
    rw [show min (min (fr + n) (((k + 1 : Nat) : Int) + 1) - 1).toNat (k + 1) = k + 1 by omega, show min (min (fr + n) ((k : Int) + 1) - 1).toNat k = k by omega]
    rw [List.take_succ_eq_append_getElem h1, List.drop_append_of_le_length (by rw [e0]; omega)]
  · rw [if_neg h, List.append_nil]
    by_cases h2 : (k : Int) + 1 < fr + n
    · have h3 : (k : Int) + 1 < max fr 1 := by omega
      rw [List.drop_eq_nil_of_le (by rw [List.length_take]; omega), List.drop_eq_nil_of_le (by rw [List.length_take]; omega)]
    · rw [show min (min (fr + n) (((k + 1 : Nat) : Int) + 1) - 1).toNat (k + 1) = min (min (fr + n) ((k : Int) + 1) - 1).toNat k by omega]

theorem below_all (i fr n : Int) (w : World) (h0 : -9223372036854775808 ≤ fr + n) (h1 : fr + n ≤ 9223372036854775807) :
    Calls Tryd.prog 23 #[.int .i64 i, .int .i64 fr, .int .i64 n] w fun e w' => e = .returned (.bool (decide (i < fr + n))) ∧ w = w' := by
  go_enter Tryd.func23, Tryd.ntmps23
  go_wp2
  go_ret
  exact ⟨rfl, rfl⟩

set_option maxHeartbeats 400000 in
theorem refCut_all (s : ByteArray) (fr n : Int) (w : World) (hs : s.size ≤ 140737488351232) (hf0 : -9223372036854775808 ≤ fr) (hf1 : fr ≤ 9223372036854775807) (hn0 : -9223372036854775808 ≤ n) (hn1 : n ≤ 9223372036854775807) :
    Calls Tryd.prog 17 #[.string s, .int .i64 fr, .int .i64 n] w fun e w' => e = .returned (.string ⟨(cutL s.data.toList fr n).toArray⟩) ∧ Below w.heap.size w w' := by
  have HI := Lib.hid (show (Tryd.prog.info? 5).map (fun i => (i.zero, i.size, i.bytes)) = some (some (.int .u8 0), 1, 1) by kernel_rfl)
  go_enter Tryd.func17, Tryd.ntmps17
  go_wp2
  go_loopw [7, 8] (fun v i wr => ∃ k : Nat, k ≤ s.size ∧ i = .int .i64 ((k : Int) + 1) ∧ OwnB wr w.heap.size 5 v (cutL (s.data.toList.take k) fr n) ∧ Below w.heap.size w wr) (fun _ i _ => s.size + 1 - (intOf i).toNat)
  case atStart => exact ⟨0, Nat.zero_le _, rfl, (by have e : cutL (s.data.toList.take 0) fr n = [] := (by simp [cutL]); rw [e]; exact OwnB.nil _ _ _), Below.refl _ _⟩
  case round =>
    obtain ⟨k, hk, rfl, hown, hbel⟩ := hrel
    have hsz := hbel.size
    by_cases hlt : k < s.size
    · have HS := Lib.hid (cutL_snoc _ k _ (get_list s k hlt) fr n)
      have hlen : (cutL (s.data.toList.take k) fr n).length ≤ k := by unfold cutL; simp; omega
      by_cases hin : max fr 1 ≤ (k : Int) + 1 ∧ (k : Int) + 1 < fr + n
      · rw [if_pos hin] at HS
        obtain ⟨hin1, hin2⟩ := hin
        have hi1 : fr ≤ (k : Int) + 1 := by omega
        by_cases hf : 0 < fr
        all_goals
          go_wp2_with (first | (go_at_call 23; refine (below_all _ _ _ _ (by omega) (by omega)).mono ?_; rintro e w' ⟨rfl, rfl⟩) | (at_builtin; refine wpList_app1 _ rfl _ _ 30 rfl w.heap.size 5 Tryd.underlying30 HI.out _ _ rfl hown _ rfl s[k] (by first | rfl | simp) (by omega) (by omega) ?_; intro v' w1 hown' hb1))
          go_roundw
          case rel => exact ⟨k + 1, by omega, by go_num, by rw [HS.out]; exact hown', hbel.trans hb1⟩
          case measure => simp [intOf]; omega
      · rw [if_neg hin, List.append_nil] at HS
        by_cases hfk : fr ≤ (k : Int) + 1
        · have hin2 : fr + n ≤ (k : Int) + 1 := by omega
          by_cases hf : 0 < fr
          · go_wp2
            all_goals
              go_roundw
              case rel => exact ⟨k + 1, by omega, by go_num, by rw [HS.out]; exact hown, hbel⟩
              case measure => simp [intOf]; omega
          · by_cases hn : 0 < n
            all_goals
              go_wp2_with (go_at_call 23; refine (below_all _ _ _ _ (by omega) (by omega)).mono ?_; rintro e w' ⟨rfl, rfl⟩)
              go_roundw
              case rel => exact ⟨k + 1, by omega, by go_num, by rw [HS.out]; exact hown, hbel⟩
              case measure => simp [intOf]; omega
        · clear hin
          go_wp2
          go_roundw
          case rel => exact ⟨k + 1, by omega, by go_num, by rw [HS.out]; exact hown, hbel⟩
          case measure => simp [intOf]; omega
    · obtain rfl : k = s.size := by omega
      have hcv := hown.str (P := Tryd.prog) 30 9 Tryd.underlying30 Tryd.underlying5 Tryd.underlying9
      go_wp2
      go_ret
      exact ⟨ret_str (by rw [List.take_of_length_le (by simp)]), hbel⟩
end Go.Proofs.YteoaelmlcihafaaDoor.octetCut
