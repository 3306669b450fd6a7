/- The contract of dec.powerOf. -/
import Derived.Test.YtnddldnabldnoaaGreatDoorScan
namespace Go.Proofs.YtnddldnabldnoaaGreatDoor.scan
set_option linter.unusedVariables false
open Go.ChangeShapes Go.WideShapes Go.ChangeAt Go.RowKit

def pwStep (p : Nat) (c : UInt8) : Nat := if p ≤ 1099511627776 then p * 10 + (c - 48).toNat else p
/-- The number that digits say, as far as it is told. -/
def pwN (l : List UInt8) : Nat := l.foldl pwStep 0
def pwZ (l : List UInt8) : Int := if l.head? = some 45 then -((pwN (l.drop (sg l)) : Nat) : Int) else (pwN (l.drop (sg l)) : Nat)
theorem pw_snoc (l : List UInt8) (c : UInt8) : pwN (l ++ [c]) = pwStep (pwN l) c := by unfold pwN; rw [List.foldl_append]; rfl
theorem pw_le (l : List UInt8) : pwN l ≤ 10995116278015 := by
  unfold pwN
  have h : ∀ (l : List UInt8) (p : Nat), p ≤ 10995116278015 → l.foldl pwStep p ≤ 10995116278015 := by
    intro l
    induction l with
    | nil => intro p h; exact h
    | cons c t ih =>
      intro p h
      rw [List.foldl_cons]
      refine ih _ ?_
      unfold pwStep
      have := (c - 48).toNat_lt
      split <;> omega
  exact h l 0 (by omega)

theorem sub48 (c : UInt8) : IntKind.u8.wrap ((c.toNat : Int) - 48) = ((c - 48).toNat : Int) := by
  have h : ∀ n : Fin 256, IntKind.u8.wrap ((n.val : Int) - 48) = ((UInt8.ofNat n.val - 48).toNat : Int) := by decide +kernel
  have := h ⟨c.toNat, c.toNat_lt⟩
  simpa using this

set_option maxRecDepth 100000 in
set_option maxHeartbeats 800000 in
theorem powerOf_all (s : ByteArray) (w : World) (hs : s.size ≤ 140737488350000) :
    Calls Tryz.prog 106 #[.string s] w fun e w' => e = .returned (.int .i64 (pwZ s.data.toList)) ∧ Below w.heap.size w w' := by
  have HSG := Lib.hid (fun w => signSize_all s w)
  have hsg := sg_le s.data.toList
  have hsz : s.data.toList.length = s.size := by simp
  have hp : sg s.data.toList ≤ s.size := by omega
  clear hsg hsz
  obtain ⟨r, hr⟩ : ∃ r, r = s.extract (sg s.data.toList) s.size := ⟨_, rfl⟩
  have hrs : r.size ≤ 140737488350000 := by rw [hr]; simp [ByteArray.size_extract]; omega
  have HRL := Lib.hid (show r.data.toList = s.data.toList.drop (sg s.data.toList) by rw [hr, extract_drop])
  have HR := Lib.hid hr
  have hb := fun w => Tryz.strings_HasPrefix s ⟨#[45]⟩ w
  rw [show (⟨#[45]⟩ : ByteArray).data.toList = [45] from rfl, pre_one] at hb
  have HP := Lib.hid hb
  have HZ := Lib.hid (show pwZ s.data.toList = if (s.data.toList.head? == some 45) = true then -((pwN r.data.toList : Nat) : Int) else (pwN r.data.toList : Nat) by
    unfold pwZ; rw [HRL.out]; by_cases h : s.data.toList.head? = some 45 <;> simp [h])
  have hcv := fun (w : World) => (show (convert 9 129 (.string (s.extract (sg s.data.toList) s.size))).run Tryz.prog w = (convert 9 129 (.string r)).run Tryz.prog w by rw [hr]).trans (run_bytes_of_string (P := Tryz.prog) w 9 129 5 r Tryz.underlying9 Tryz.underlying129 Tryz.underlying5)
  clear hr hb
  generalize pwZ s.data.toList = Z at *
  go_enter Tryz.func106, Tryz.ntmps106
  go_wp2_with (go_at_call 65; go_must (refine (HSG.out _).mono ?_; rintro e w' ⟨rfl, rfl⟩))
  clear hcv
  go_loopw [3, 12] (fun pv iv wr => ∃ k : Nat, k ≤ r.size ∧ iv = .int .i64 k ∧ pv = .int .i64 (pwN (r.data.toList.take k) : Nat) ∧ RowB wr w.heap.size 5 r.data.toList ∧ Below w.heap.size w wr) (fun _ iv _ => r.size - (intOf iv).toNat)
  case atStart => exact ⟨0, Nat.zero_le _, rfl, rfl, RowB.made _ _ _ _, (Below.refl _ _).drew.alloc (Nat.le_refl _) _⟩
  case round =>
    obtain ⟨k, hk, rfl, rfl, hrow, hbel⟩ := hrel
    have hsz := hbel.size
    by_cases hlt : k < r.size
    · have hcell := hrow.cell (get_list r k hlt)
      have hb := r[k].toNat_lt
      have HROW := Lib.hid hrow
      have HS := Lib.hid (pw_snoc (r.data.toList.take k) r[k])
      have HT := Lib.hid (take_snoc r k hlt)
      have hle := pw_le (r.data.toList.take k)
      have hsub := sub48 r[k]
      have hsl := (r[k] - 48).toNat_lt
      clear hrow
      generalize hN : pwN (r.data.toList.take k) = N at *
      generalize hD : (r[k] - 48).toNat = D at *
      have HD := Lib.hid hD
      clear hN hD
      by_cases h40 : (N : Int) ≤ 1099511627776
      · go_wp2
        go_roundw
        case rel => exact ⟨k + 1, by omega, by go_num, by rw [HT.out, HS.out]; unfold pwStep; rw [if_pos (by omega), HD.out]; go_num, HROW.out, hbel⟩
        case measure => simp [intOf]; omega
      · go_wp2
        go_roundw
        case rel => exact ⟨k + 1, by omega, by go_num, by rw [HT.out, HS.out]; unfold pwStep; rw [if_neg (by omega)], HROW.out, hbel⟩
        case measure => simp [intOf]; omega
    · obtain rfl : k = r.size := by omega
      have HT := Lib.hid (show r.data.toList.take r.size = r.data.toList from List.take_of_length_le (by simp))
      have hle := pw_le (r.data.toList.take r.size)
      cases hh : (s.data.toList.head? == some 45)
      · have HPF := Lib.hid (fun w => show Calls Tryz.prog 67 #[.string s, .string ⟨#[45]⟩] w fun e w' => e = .returned (.bool false) ∧ w' = w by rw [← hh]; exact HP.out w)
        have HZF := Lib.hid (show Z = (pwN r.data.toList : Nat) by rw [HZ.out, hh]; rfl)
        clear hh
        go_wp2_with (go_at_call 67; go_must (refine (HPF.out _).mono ?_; rintro e w' ⟨rfl, rfl⟩))
        go_ret
        exact ⟨ret_int (by rw [HZF.out, HT.out]), hbel⟩
      · have HPF := Lib.hid (fun w => show Calls Tryz.prog 67 #[.string s, .string ⟨#[45]⟩] w fun e w' => e = .returned (.bool true) ∧ w' = w by rw [← hh]; exact HP.out w)
        have HZF := Lib.hid (show Z = -((pwN r.data.toList : Nat) : Int) by rw [HZ.out, hh]; rfl)
        clear hh
        go_wp2_with (go_at_call 67; go_must (refine (HPF.out _).mono ?_; rintro e w' ⟨rfl, rfl⟩))
        go_ret
        exact ⟨ret_int (by rw [HZF.out, HT.out]), hbel⟩
end Go.Proofs.YtnddldnabldnoaaGreatDoor.scan
