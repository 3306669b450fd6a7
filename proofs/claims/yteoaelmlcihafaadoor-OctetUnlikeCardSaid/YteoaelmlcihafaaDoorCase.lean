/- Contracts of the document's Upper and Lower. -/
import Derived.Test.YteoaelmlcihafaaDoorProg
import Derived.Test.YteoaelmlcihafaaDoorKit
namespace Go.Proofs.YteoaelmlcihafaaDoor.octetCase
open Go.ChangeShapes Go.WideShapes Go.ChangeAt Go.RowKit

def up (c : UInt8) : UInt8 := if 97 ≤ c ∧ c ≤ 122 then c - 32 else c
def low (c : UInt8) : UInt8 := if 65 ≤ c ∧ c ≤ 90 then c + 32 else c

theorem up_yes (c : UInt8) (h1 : 97 ≤ (c.toNat : Int)) (h2 : (c.toNat : Int) ≤ 122) : (c.toNat : Int) - 32 = ((up c).toNat : Int) := by
  have h : 97 ≤ c ∧ c ≤ 122 := by
    rw [UInt8.le_iff_toNat_le, UInt8.le_iff_toNat_le]
    exact ⟨by simpa using Int.ofNat_le.1 h1, by simpa using Int.ofNat_le.1 h2⟩
  unfold up
  rw [if_pos h, UInt8.toNat_sub_of_le _ _ (by rw [UInt8.le_iff_toNat_le]; have := Int.ofNat_le.1 h1; simp; omega)]
  simp only [UInt8.reduceToNat]
  omega
theorem up_no (c : UInt8) (h : ¬ (97 ≤ (c.toNat : Int) ∧ (c.toNat : Int) ≤ 122)) : (c.toNat : Int) = ((up c).toNat : Int) := by
  unfold up
  rw [if_neg]
  rw [UInt8.le_iff_toNat_le, UInt8.le_iff_toNat_le]
  simp only [UInt8.reduceToNat]
  omega
theorem low_yes (c : UInt8) (h1 : 65 ≤ (c.toNat : Int)) (h2 : (c.toNat : Int) ≤ 90) : (c.toNat : Int) + 32 = ((low c).toNat : Int) := by
  have h : 65 ≤ c ∧ c ≤ 90 := by
    rw [UInt8.le_iff_toNat_le, UInt8.le_iff_toNat_le]
    exact ⟨by simpa using Int.ofNat_le.1 h1, by simpa using Int.ofNat_le.1 h2⟩
  unfold low
  rw [if_pos h, UInt8.toNat_add]
  simp only [UInt8.reduceToNat]
  omega
theorem low_no (c : UInt8) (h : ¬ (65 ≤ (c.toNat : Int) ∧ (c.toNat : Int) ≤ 90)) : (c.toNat : Int) = ((low c).toNat : Int) := by
  unfold low
  rw [if_neg]
  rw [UInt8.le_iff_toNat_le, UInt8.le_iff_toNat_le]
  simp only [UInt8.reduceToNat]
  omega
theorem up_low (c : UInt8) : up (low c) = up c := by
  have h : ∀ n : Fin 256, up (low (UInt8.ofNat n.val)) = up (UInt8.ofNat n.val) := by decide +kernel
  have hc := h ⟨c.toNat, c.toNat_lt⟩
  rwa [UInt8.ofNat_toNat] at hc

set_option maxHeartbeats 400000 in
theorem refUpper_all (s : ByteArray) (w : World) (hs : s.size ≤ 140737488351232) :
    Calls Tryd.prog 11 #[.string s] w fun e w' => e = .returned (.string ⟨(s.data.toList.map up).toArray⟩) ∧ Below w.heap.size w w' := by
  have hinf : (Tryd.prog.info? 5).map (fun i => (i.zero, i.size, i.bytes)) = some (some (.int .u8 0), 1, 1) := by kernel_rfl
  have HI : Hid _ := hinf
  clear hinf
  go_enter Tryd.func11, Tryd.ntmps11
  go_wp2
  go_loopw [3, 4] (fun v i wr => ∃ k : Nat, k ≤ s.size ∧ i = .int .i64 k ∧ OwnB wr w.heap.size 5 v ((s.data.toList.take k).map up) ∧ Below w.heap.size w wr) (fun _ i _ => s.size - (intOf i).toNat)
  case atStart => exact ⟨0, Nat.zero_le _, rfl, OwnB.nil _ _ _, Below.refl _ _⟩
  case round =>
    obtain ⟨k, hk, rfl, hown, hbel⟩ := hrel
    have hsz := hbel.size
    by_cases hlt : k < s.size
    · have hlen : ((s.data.toList.take k).map up).length ≤ k := by simp; omega
      have HS : Hid ((s.data.toList.take (k + 1)).map up = (s.data.toList.take k).map up ++ [up s[k]]) := by
        rw [take_snoc s k hlt]; exact List.map_append
      have hb := s[k].toNat_lt
      by_cases h1 : 97 ≤ (s[k].toNat : Int)
      · by_cases h2 : (s[k].toNat : Int) ≤ 122
        · have HU : Hid ((s[k].toNat : Int) - 32 = ((up s[k]).toNat : Int)) := up_yes _ h1 h2
          go_wp2_with (at_builtin; refine wpList_app1 _ rfl _ _ 30 rfl w.heap.size 5 Tryd.underlying30 HI.out _ _ rfl hown _ rfl (up s[k]) (by exact HU.out) (by omega) (by omega) ?_; intro v' w1 hown' hb1)
          go_roundw
          case rel => exact ⟨k + 1, by omega, by go_num, by rw [HS.out]; exact hown', hbel.trans hb1⟩
          case measure => simp [intOf]; omega
        · have HU : Hid ((s[k].toNat : Int) = ((up s[k]).toNat : Int)) := up_no _ (by omega)
          go_wp2_with (at_builtin; refine wpList_app1 _ rfl _ _ 30 rfl w.heap.size 5 Tryd.underlying30 HI.out _ _ rfl hown _ rfl (up s[k]) (by exact HU.out) (by omega) (by omega) ?_; intro v' w1 hown' hb1)
          go_roundw
          case rel => exact ⟨k + 1, by omega, by go_num, by rw [HS.out]; exact hown', hbel.trans hb1⟩
          case measure => simp [intOf]; omega
      · have HU : Hid ((s[k].toNat : Int) = ((up s[k]).toNat : Int)) := up_no _ (by omega)
        go_wp2_with (at_builtin; refine wpList_app1 _ rfl _ _ 30 rfl w.heap.size 5 Tryd.underlying30 HI.out _ _ rfl hown _ rfl (up s[k]) (by exact HU.out) (by omega) (by omega) ?_; intro v' w1 hown' hb1)
        go_roundw
        case rel => exact ⟨k + 1, by omega, by go_num, by rw [HS.out]; exact hown', hbel.trans hb1⟩
        case measure => simp [intOf]; omega
    · obtain rfl : k = s.size := by omega
      have hcv := hown.str (P := Tryd.prog) 30 9 Tryd.underlying30 Tryd.underlying5 Tryd.underlying9
      go_wp2
      go_ret
      exact ⟨ret_str (by rw [List.take_of_length_le (by simp)]), hbel⟩

set_option maxHeartbeats 400000 in
theorem refLower_all (s : ByteArray) (w : World) (hs : s.size ≤ 140737488351232) :
    Calls Tryd.prog 13 #[.string s] w fun e w' => e = .returned (.string ⟨(s.data.toList.map low).toArray⟩) ∧ Below w.heap.size w w' := by
  have hinf : (Tryd.prog.info? 5).map (fun i => (i.zero, i.size, i.bytes)) = some (some (.int .u8 0), 1, 1) := by kernel_rfl
  have HI : Hid _ := hinf
  clear hinf
  go_enter Tryd.func13, Tryd.ntmps13
  go_wp2
  go_loopw [3, 4] (fun v i wr => ∃ k : Nat, k ≤ s.size ∧ i = .int .i64 k ∧ OwnB wr w.heap.size 5 v ((s.data.toList.take k).map low) ∧ Below w.heap.size w wr) (fun _ i _ => s.size - (intOf i).toNat)
  case atStart => exact ⟨0, Nat.zero_le _, rfl, OwnB.nil _ _ _, Below.refl _ _⟩
  case round =>
    obtain ⟨k, hk, rfl, hown, hbel⟩ := hrel
    have hsz := hbel.size
    by_cases hlt : k < s.size
    · have hlen : ((s.data.toList.take k).map low).length ≤ k := by simp; omega
      have HS : Hid ((s.data.toList.take (k + 1)).map low = (s.data.toList.take k).map low ++ [low s[k]]) := by
        rw [take_snoc s k hlt]; exact List.map_append
      have hb := s[k].toNat_lt
      by_cases h1 : 65 ≤ (s[k].toNat : Int)
      · by_cases h2 : (s[k].toNat : Int) ≤ 90
        · have HU : Hid ((s[k].toNat : Int) + 32 = ((low s[k]).toNat : Int)) := low_yes _ h1 h2
          go_wp2_with (at_builtin; refine wpList_app1 _ rfl _ _ 30 rfl w.heap.size 5 Tryd.underlying30 HI.out _ _ rfl hown _ rfl (low s[k]) (by exact HU.out) (by omega) (by omega) ?_; intro v' w1 hown' hb1)
          go_roundw
          case rel => exact ⟨k + 1, by omega, by go_num, by rw [HS.out]; exact hown', hbel.trans hb1⟩
          case measure => simp [intOf]; omega
        · have HU : Hid ((s[k].toNat : Int) = ((low s[k]).toNat : Int)) := low_no _ (by omega)
          go_wp2_with (at_builtin; refine wpList_app1 _ rfl _ _ 30 rfl w.heap.size 5 Tryd.underlying30 HI.out _ _ rfl hown _ rfl (low s[k]) (by exact HU.out) (by omega) (by omega) ?_; intro v' w1 hown' hb1)
          go_roundw
          case rel => exact ⟨k + 1, by omega, by go_num, by rw [HS.out]; exact hown', hbel.trans hb1⟩
          case measure => simp [intOf]; omega
      · have HU : Hid ((s[k].toNat : Int) = ((low s[k]).toNat : Int)) := low_no _ (by omega)
        go_wp2_with (at_builtin; refine wpList_app1 _ rfl _ _ 30 rfl w.heap.size 5 Tryd.underlying30 HI.out _ _ rfl hown _ rfl (low s[k]) (by exact HU.out) (by omega) (by omega) ?_; intro v' w1 hown' hb1)
        go_roundw
        case rel => exact ⟨k + 1, by omega, by go_num, by rw [HS.out]; exact hown', hbel.trans hb1⟩
        case measure => simp [intOf]; omega
    · obtain rfl : k = s.size := by omega
      have hcv := hown.str (P := Tryd.prog) 30 9 Tryd.underlying30 Tryd.underlying5 Tryd.underlying9
      go_wp2
      go_ret
      exact ⟨ret_str (by rw [List.take_of_length_le (by simp)]), hbel⟩

theorem at_take (l : List UInt8) (f : UInt8 → UInt8) (k : Nat) (h : k < l.length) : ((l.take k).map f ++ l.drop k)[k]? = l[k]? := by
  have hm : min k l.length = k := by omega
  rw [List.getElem?_append_right (by simp [hm])]
  simp [hm]
theorem set_take (l : List UInt8) (f : UInt8 → UInt8) (k : Nat) (c : UInt8) (h : l[k]? = some c) : ((l.take k).map f ++ l.drop k).set k (f c) = (l.take (k + 1)).map f ++ l.drop (k + 1) := by
  obtain ⟨h1, rfl⟩ := List.getElem?_eq_some_iff.1 h
  have hm : min k l.length = k := by omega
  rw [List.set_append_right _ _ (by simp [hm])]
  simp only [List.length_map, List.length_take, hm, Nat.sub_self]
  rw [List.drop_eq_getElem_cons h1, List.set_cons_zero, List.take_succ_eq_append_getElem h1, List.map_append, List.append_assoc]
  rfl
theorem same_take (l : List UInt8) (f : UInt8 → UInt8) (k : Nat) (c : UInt8) (h : l[k]? = some c) (hf : f c = c) : (l.take k).map f ++ l.drop k = (l.take (k + 1)).map f ++ l.drop (k + 1) := by
  obtain ⟨h1, rfl⟩ := List.getElem?_eq_some_iff.1 h
  rw [List.drop_eq_getElem_cons h1, List.take_succ_eq_append_getElem h1, List.map_append, List.append_assoc, List.map_cons, hf]
  rfl

set_option maxHeartbeats 400000 in
theorem Upper_all (s : ByteArray) (w : World) (hs : s.size ≤ 140737488351232) :
    Calls Tryd.prog 10 #[.string s] w fun e w' => e = .returned (.string ⟨(s.data.toList.map up).toArray⟩) ∧ Below w.heap.size w w' := by
  have hcv := fun (w : World) => run_bytes_of_string (P := Tryd.prog) w 9 30 5 s Tryd.underlying9 Tryd.underlying30 Tryd.underlying5
  go_enter Tryd.func10, Tryd.ntmps10
  go_wp2_with fail
  clear hcv
  go_loopw [10] (fun i wr => ∃ k : Nat, k ≤ s.size ∧ i = .int .i64 k ∧ RowB wr w.heap.size 5 ((s.data.toList.take k).map up ++ s.data.toList.drop k) ∧ Below w.heap.size w wr) (fun i _ => s.size - (intOf i).toNat)
  case atStart => exact ⟨0, Nat.zero_le _, rfl, RowB.made _ _ _ _, (Below.refl _ _).drew.alloc (Nat.le_refl _) _⟩
  case round =>
    obtain ⟨k, hk, rfl, hrow, hbel⟩ := hrel
    have hsz := hbel.size
    by_cases hlt : k < s.size
    · have hat := at_take s.data.toList up k (by rw [len_list]; exact hlt)
      rw [get_list s k hlt] at hat
      have hcell := hrow.cell hat
      have hfree := hrow.free hat
      have hb := s[k].toNat_lt
      have HROW := Lib.hid hrow
      have HAT := Lib.hid hat
      have HGET := Lib.hid (get_list s k hlt)
      clear hrow hat
      by_cases h1 : 97 ≤ (s[k].toNat : Int)
      · by_cases h2 : (s[k].toNat : Int) ≤ 122
        · have HU := Lib.hid (up_yes _ h1 h2)
          go_wp2
          go_roundw
          case rel =>
            have hr := HROW.out.set k (List.getElem?_eq_some_iff.1 HAT.out).1 _ (up s[k]) HU.out
            rw [set_take _ _ _ _ HGET.out] at hr
            exact ⟨k + 1, by omega, by go_num, hr, hbel.setCell (Nat.le_refl _) _⟩
          case measure => simp [intOf]; omega
        · have HU := Lib.hid (up_no s[k] (by omega))
          go_wp2
          go_roundw
          case rel =>
            have hr := HROW.out
            rw [same_take _ _ _ _ HGET.out (UInt8.toNat.inj (Int.ofNat.inj HU.out)).symm] at hr
            exact ⟨k + 1, by omega, by go_num, hr, hbel⟩
          case measure => simp [intOf]; omega
      · have HU := Lib.hid (up_no s[k] (by omega))
        go_wp2
        go_roundw
        case rel =>
          have hr := HROW.out
          rw [same_take _ _ _ _ HGET.out (UInt8.toNat.inj (Int.ofNat.inj HU.out)).symm] at hr
          exact ⟨k + 1, by omega, by go_num, hr, hbel⟩
        case measure => simp [intOf]; omega
    · obtain rfl : k = s.size := by omega
      have hcv := fun cap => hrow.str (P := Tryd.prog) s.size (by simp) cap 30 9 Tryd.underlying30 Tryd.underlying5 Tryd.underlying9
      go_wp2
      go_ret
      exact ⟨ret_str (by rw [List.take_of_length_le (by simp), List.drop_eq_nil_of_le (by simp), List.append_nil]), hbel⟩

set_option maxHeartbeats 400000 in
theorem Lower_all (s : ByteArray) (w : World) (hs : s.size ≤ 140737488351232) :
    Calls Tryd.prog 12 #[.string s] w fun e w' => e = .returned (.string ⟨(s.data.toList.map low).toArray⟩) ∧ Below w.heap.size w w' := by
  have hcv := fun (w : World) => run_bytes_of_string (P := Tryd.prog) w 9 30 5 s Tryd.underlying9 Tryd.underlying30 Tryd.underlying5
  go_enter Tryd.func12, Tryd.ntmps12
  go_wp2_with fail
  clear hcv
  go_loopw [10] (fun i wr => ∃ k : Nat, k ≤ s.size ∧ i = .int .i64 k ∧ RowB wr w.heap.size 5 ((s.data.toList.take k).map low ++ s.data.toList.drop k) ∧ Below w.heap.size w wr) (fun i _ => s.size - (intOf i).toNat)
  case atStart => exact ⟨0, Nat.zero_le _, rfl, RowB.made _ _ _ _, (Below.refl _ _).drew.alloc (Nat.le_refl _) _⟩
  case round =>
    obtain ⟨k, hk, rfl, hrow, hbel⟩ := hrel
    have hsz := hbel.size
    by_cases hlt : k < s.size
    · have hat := at_take s.data.toList low k (by rw [len_list]; exact hlt)
      rw [get_list s k hlt] at hat
      have hcell := hrow.cell hat
      have hfree := hrow.free hat
      have hb := s[k].toNat_lt
      have HROW := Lib.hid hrow
      have HAT := Lib.hid hat
      have HGET := Lib.hid (get_list s k hlt)
      clear hrow hat
      by_cases h1 : 65 ≤ (s[k].toNat : Int)
      · by_cases h2 : (s[k].toNat : Int) ≤ 90
        · have HU := Lib.hid (low_yes _ h1 h2)
          go_wp2
          go_roundw
          case rel =>
            have hr := HROW.out.set k (List.getElem?_eq_some_iff.1 HAT.out).1 _ (low s[k]) HU.out
            rw [set_take _ _ _ _ HGET.out] at hr
            exact ⟨k + 1, by omega, by go_num, hr, hbel.setCell (Nat.le_refl _) _⟩
          case measure => simp [intOf]; omega
        · have HU := Lib.hid (low_no s[k] (by omega))
          go_wp2
          go_roundw
          case rel =>
            have hr := HROW.out
            rw [same_take _ _ _ _ HGET.out (UInt8.toNat.inj (Int.ofNat.inj HU.out)).symm] at hr
            exact ⟨k + 1, by omega, by go_num, hr, hbel⟩
          case measure => simp [intOf]; omega
      · have HU := Lib.hid (low_no s[k] (by omega))
        go_wp2
        go_roundw
        case rel =>
          have hr := HROW.out
          rw [same_take _ _ _ _ HGET.out (UInt8.toNat.inj (Int.ofNat.inj HU.out)).symm] at hr
          exact ⟨k + 1, by omega, by go_num, hr, hbel⟩
        case measure => simp [intOf]; omega
    · obtain rfl : k = s.size := by omega
      have hcv := fun cap => hrow.str (P := Tryd.prog) s.size (by simp) cap 30 9 Tryd.underlying30 Tryd.underlying5 Tryd.underlying9
      go_wp2
      go_ret
      exact ⟨ret_str (by rw [List.take_of_length_le (by simp), List.drop_eq_nil_of_le (by simp), List.append_nil]), hbel⟩
end Go.Proofs.YteoaelmlcihafaaDoor.octetCase
