/- dec.Looks, of every text: what readNumeral answers, in two; and Looks. -/
import Derived.Test.YtkemdhaalcploaaGreatDoorNumeral
namespace Go.Proofs.YtkemdhaalcploaaGreatDoor.scan
set_option linter.unusedVariables false set_option linter.unusedSimpArgs false
open Go.ChangeShapes Go.WideShapes Go.ChangeAt Go.RowKit

theorem rn_no (s : ByteArray) (l : List UInt8) (w : World) (hs : s.size ≤ 140737488351232) (hl : s.data.toList = l) (h : noNum l) :
    Calls Tryz.prog 21 #[.string s] w fun e w' => e = .returned (.tuple #[.agg #[.bool false, .string ⟨#[]⟩, .string ⟨#[]⟩, .string ⟨#[]⟩], .int .i64 0]) ∧ Below w.heap.size w w' := by
  cases hpt : hasPt l
  · exact rn_ff s l w hs hl hpt (by rw [h.1]; rfl)
  · exact rn_pff s l w hs hl hpt (by rw [h.1]; rfl) (by rw [h.2]; rfl)
theorem rn_yes (s : ByteArray) (l : List UInt8) (w : World) (hs : s.size ≤ 140737488351232) (hl : s.data.toList = l) (h : ¬ noNum l) :
    Calls Tryz.prog 21 #[.string s] w fun e w' => e = .returned (.tuple #[.agg #[.bool (negL l), .string ⟨(wholeL l).toArray⟩, .string ⟨(partL l).toArray⟩, .string ⟨(powL l).toArray⟩], .int .i64 (sizeB l : Nat)]) ∧ Below w.heap.size w w' := by
  cases hpt : hasPt l
  · have hw : (wholeL l).isEmpty = false := by
      cases hw : (wholeL l).isEmpty
      · rfl
      · exact absurd ⟨List.isEmpty_iff.1 hw, by unfold partL; rw [hpt]; rfl⟩ h
    cases hq : (powL l).isEmpty
    · exact rn_wq1 s l w hs hl hpt hw hq
    · exact rn_wq0 s l w hs hl hpt hw hq
  · cases hw : (wholeL l).isEmpty
    · cases hq : (powL l).isEmpty
      · exact rn_pwq1 s l w hs hl hpt hw hq
      · exact rn_pwq0 s l w hs hl hpt hw hq
    · have hp : (partL l).isEmpty = false := by
        cases hp : (partL l).isEmpty
        · rfl
        · exact absurd ⟨List.isEmpty_iff.1 hw, List.isEmpty_iff.1 hp⟩ h
      cases hq : (powL l).isEmpty
      · exact rn_ppq1 s l w hs hl hpt hw hp hq
      · exact rn_ppq0 s l w hs hl hpt hw hp hq

/-- A numeral has a byte at least. -/
theorem sizeB_pos (l : List UInt8) (h : ¬ noNum l) : 0 < sizeB l := by
  unfold sizeB sizeA
  by_cases hw : wholeL l = []
  · have hp : partL l ≠ [] := fun hp => h ⟨hw, hp⟩
    have hpt : hasPt l = true := by
      cases hpt : hasPt l
      · exact absurd (by unfold partL; rw [hpt]; rfl) hp
      · rfl
    rw [if_pos hpt]; omega
  · have := List.length_pos_iff.2 hw; omega

theorem blankSize_var (s : ByteArray) (w : World) (hs : s.size ≤ 140737488351232) (B : Nat) (hB : bl s.data.toList = B) :
    Calls Tryz.prog 20 #[.string s] w fun e w' => e = .returned (.int .i64 B) ∧ w = w' := by
  subst hB; exact blankSize_all s w hs

theorem bl_le (s : ByteArray) : bl s.data.toList ≤ s.size := by have := tw_len isB s.data.toList; simp only [Array.length_toList] at this; exact this

set_option maxRecDepth 100000 in
theorem Looks_no (s : ByteArray) (w : World) (hs : s.size ≤ 140737488351232) (h : noNum (s.data.toList.drop (bl s.data.toList))) :
    Calls Tryz.prog 14 #[.string s] w fun e w' => e = .returned (.bool false) ∧ Below w.heap.size w w' := by
  have hle := bl_le s
  have HB := Lib.hid (fun w => blankSize_var s w hs _ rfl)
  have HN := Lib.hid (fun w => rn_no (s.extract (bl s.data.toList) s.size) _ w (by simp; omega) (extract_drop s (bl s.data.toList)) h)
  have hz : (s.extract (bl s.data.toList) s.size).size = s.size - bl s.data.toList := by simp
  clear h
  generalize bl s.data.toList = B at *
  go_enter Tryz.func14, Tryz.ntmps14
  go_wp2_with (first | (go_at_call 20; go_must (refine (HB.out _).mono ?_; rintro e w1 ⟨rfl, rfl⟩)) | (go_at_call 21; go_must (refine (HN.out _).mono ?_; rintro e w1 ⟨rfl, hb1⟩; have hz1 := hb1.size)))
  go_ret
  exact ⟨rfl, hb1.alloc hz1 _⟩

set_option maxRecDepth 100000 in
theorem Looks_yes (s : ByteArray) (w : World) (hs : s.size ≤ 140737488351232) (t : List UInt8) (ht : t = s.data.toList.drop (bl s.data.toList)) (h : ¬ noNum t) (b : Bool) (hq : ((bl (t.drop (sizeB t)) : Int) == ((t.drop (sizeB t)).length : Int)) = b) :
    Calls Tryz.prog 14 #[.string s] w fun e w' => e = .returned (.bool b) ∧ Below w.heap.size w w' := by
  have hle := bl_le s
  have HB := Lib.hid (fun w => blankSize_var s w hs _ rfl)
  have hd : (s.extract (bl s.data.toList) s.size).data.toList = t := by rw [ht]; exact extract_drop s (bl s.data.toList)
  have HN := Lib.hid (fun w => rn_yes (s.extract (bl s.data.toList) s.size) t w (by simp; omega) hd h)
  have hz : (s.extract (bl s.data.toList) s.size).size = s.size - bl s.data.toList := by simp
  have htl : t.length = s.size - bl s.data.toList := by rw [ht]; simp
  have hZ := sizeB_bd t
  have hp := sizeB_pos t h
  clear h ht
  generalize bl s.data.toList = B at *
  have hr : ((s.extract B s.size).extract (sizeB t) (s.size - B)).data.toList = t.drop (sizeB t) := by rw [← hz, extract_drop, hd]
  have hrz : ((s.extract B s.size).extract (sizeB t) (s.size - B)).size = s.size - B - sizeB t := by simp
  have HC := Lib.hid (fun w => blankSize_var ((s.extract B s.size).extract (sizeB t) (s.size - B)) w (by rw [hrz]; omega) (bl (t.drop (sizeB t))) (by rw [hr]))
  have hlen : (t.drop (sizeB t)).length = s.size - B - sizeB t := by rw [List.length_drop, htl]
  rw [hlen] at hq
  have hkb : bl (t.drop (sizeB t)) ≤ s.size - B - sizeB t := by rw [← hlen]; exact tw_len isB _
  have hZ2 : sizeB t ≤ s.size - B := by omega
  generalize bl (t.drop (sizeB t)) = K at *
  generalize sizeB t = Z at *
  clear hr hlen hd
  go_enter Tryz.func14, Tryz.ntmps14
  go_wp2_with (first | (go_at_call 20; (with_reducible refine (HB.out _).mono ?_); rintro e w1 ⟨rfl, rfl⟩) | (go_at_call 21; go_loud (refine (HN.out _).mono ?_; rintro e w1 ⟨rfl, hb1⟩; have hz1 := hb1.size)) | (go_at_call 20; (with_reducible refine (HC.out _).mono ?_); rintro e w1 ⟨rfl, rfl⟩))
  go_ret
  exact ⟨by rw [← hq]; rfl, hb1.alloc hz1 _⟩

/-- What dec.Looks answers. -/
def looksOf (l : List UInt8) : Bool := let t := l.drop (bl l); !(wholeL t).isEmpty && (bl (t.drop (sizeB t)) : Int) == ((t.drop (sizeB t)).length : Int) || (wholeL t).isEmpty && !(partL t).isEmpty && (bl (t.drop (sizeB t)) : Int) == ((t.drop (sizeB t)).length : Int)
theorem Looks_all (s : ByteArray) (w : World) (hs : s.size ≤ 140737488351232) :
    Calls Tryz.prog 14 #[.string s] w fun e w' => e = .returned (.bool (looksOf s.data.toList)) ∧ Below w.heap.size w w' := by
  by_cases h : noNum (s.data.toList.drop (bl s.data.toList))
  · have e : looksOf s.data.toList = false := by unfold looksOf; dsimp only; rw [h.1, h.2]; rfl
    rw [e]; exact Looks_no s w hs h
  · refine Looks_yes s w hs _ rfl h _ ?_
    unfold looksOf
    dsimp only
    generalize s.data.toList.drop (bl s.data.toList) = t at *
    cases hw : (wholeL t).isEmpty
    · simp
    · have hp : (partL t).isEmpty = false := by
        cases hp : (partL t).isEmpty
        · rfl
        · exact absurd ⟨List.isEmpty_iff.1 hw, List.isEmpty_iff.1 hp⟩ h
      rw [hp]; simp
end Go.Proofs.YtkemdhaalcploaaGreatDoor.scan
