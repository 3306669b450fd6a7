/- Spell of a text whose percent signs are doubled. -/
import Derived.Test.YtkemdhaalcploaaGreatDoorSplS
namespace Go.Proofs.YtkemdhaalcploaaGreatDoor.spl
set_option linter.unusedVariables false set_option linter.unusedSimpArgs false
open Go.ChangeShapes Go.WideShapes Go.ChangeAt Go.RowKit Go.Proofs.YtkemdhaalcploaaGreatDoor.base

/-- How many bytes of the text a step takes. -/
def adv (l : List UInt8) : Nat := if (pl l).isEmpty then 1 else (pl l).length
theorem adv_pos {l : List UInt8} (h : l ≠ []) : 1 ≤ adv l ∧ adv l ≤ l.length := by
  unfold adv
  cases hp : (pl l) with
  | nil =>
    have := List.length_pos_iff.2 h
    simp; omega
  | cons c r =>
    have := pl_le l
    rw [hp] at this
    simp at this ⊢
    omega

set_option maxHeartbeats 2000000 in
/-- A step over a doubled text, with room. -/
theorem step_dbl (w : World) (B b : Nat) (t : List UInt8) (args : Value) (conv : ByteArray) (l : List UInt8) (most : Int) (ht : t ≠ []) (htl : t.length ≤ 1000) (h : WR B b ⟨(dbl t).toArray⟩ args conv l most w) (hM : MaxL w) (hMB : 0 < B) (hB : B ≤ w.heap.size) (hl : l.length ≤ 1000000000) (h0 : 0 ≤ most) (h2 : most ≤ 9223372036854775807) (hn : ((l.length + adv t : Nat) : Int) ≤ most) :
    Calls Tryz.prog 11 #[.pointer (some ⟨b, 0, none⟩)] w fun e w' => e = .returned (.bool true) ∧ WR B b ⟨(dbl (t.drop (adv t))).toArray⟩ args conv (l ++ t.take (adv t)) most w' ∧ Kb B b w w' := by
  have hd := dbl_len t
  have hr : (⟨(dbl t).toArray⟩ : ByteArray).size ≤ 1000000 := by rw [list_size]; omega
  have hP : Lib.cut (⟨(dbl t).toArray⟩ : ByteArray).data.toList [37] = (pl t, (Lib.cut (dbl t) [37]).2.1, (Lib.cut (dbl t) [37]).2.2) := by
    rw [list_data, ← cut_one t]
  cases hp : (pl t).isEmpty
  · have ha : adv t = (pl t).length := by unfold adv; rw [hp]; rfl
    rw [ha] at hn ⊢
    have hle : (pl t).length ≤ (dbl t).length := by
      have := congrArg List.length (dbl_pl t)
      simp at this; omega
    have k := step_plain w B b ⟨(dbl t).toArray⟩ args conv l most h hr hM hMB (pl t) _ _ hP hp (by rw [list_size]; exact hle) hB hl h0 h2 hn
    have he : (⟨(dbl t).toArray⟩ : ByteArray).extract (pl t).length (⟨(dbl t).toArray⟩ : ByteArray).size = ⟨(dbl (t.drop (pl t).length)).toArray⟩ := by
      rw [extract_list, list_size, list_data, List.take_length, dbl_drop]
    rw [he] at k
    rw [pl_take]
    exact k
  · have ha : adv t = 1 := by unfold adv; rw [hp]; rfl
    rw [ha] at hn ⊢
    have hp2 : pl t = [] := List.isEmpty_iff.1 hp
    rw [hp2] at hP
    obtain ⟨r, e1, e2⟩ := pl_nil hp2 ht
    have k := step_pct w B b ⟨(dbl t).toArray⟩ args conv l most h hr hM (dbl r) _ _ hP (by rw [list_data, e2]) hB hl h0 h2 hn
    rw [e1]
    exact k

theorem step_dbl_no (w : World) (B b : Nat) (t : List UInt8) (args : Value) (conv : ByteArray) (l : List UInt8) (most : Int) (ht : t ≠ []) (htl : t.length ≤ 1000) (h : WR B b ⟨(dbl t).toArray⟩ args conv l most w) (hM : MaxL w) (hB : B ≤ w.heap.size) (hl : l.length ≤ 1000000000) (h0 : 0 ≤ most) (h2 : most ≤ 9223372036854775807) (hn : most < ((l.length + adv t : Nat) : Int)) :
    Calls Tryz.prog 11 #[.pointer (some ⟨b, 0, none⟩)] w fun e w' => e = .returned (.bool false) ∧ Below B w w' := by
  have hd := dbl_len t
  have hr : (⟨(dbl t).toArray⟩ : ByteArray).size ≤ 1000000 := by rw [list_size]; omega
  have hP : Lib.cut (⟨(dbl t).toArray⟩ : ByteArray).data.toList [37] = (pl t, (Lib.cut (dbl t) [37]).2.1, (Lib.cut (dbl t) [37]).2.2) := by
    rw [list_data, ← cut_one t]
  cases hp : (pl t).isEmpty
  · have ha : adv t = (pl t).length := by unfold adv; rw [hp]; rfl
    rw [ha] at hn
    have hle : (pl t).length ≤ (dbl t).length := by
      have := congrArg List.length (dbl_pl t)
      simp at this; omega
    exact step_plain_no w B b ⟨(dbl t).toArray⟩ args conv l most h hr hM (pl t) _ _ hP hp (by rw [list_size]; exact hle) hB hl h0 h2 hn
  · have ha : adv t = 1 := by unfold adv; rw [hp]; rfl
    rw [ha] at hn
    have hp2 : pl t = [] := List.isEmpty_iff.1 hp
    rw [hp2] at hP
    obtain ⟨r, e1, e2⟩ := pl_nil hp2 ht
    exact step_pct_no w B b ⟨(dbl t).toArray⟩ args conv l most h hr hM (dbl r) _ _ hP (by rw [list_data, e2]) hB hl h0 h2 hn

set_option maxHeartbeats 2000000 in
set_option maxRecDepth 100000 in
theorem spell_neg (w : World) (f conv : ByteArray) (args : Value) (most : Int) (h : most < 0) :
    Calls Tryz.prog 6 #[.string f, args, .string conv, .int .i64 most] w fun e w' => e = .returned (.tuple #[.string ⟨#[]⟩, .bool false]) ∧ Below w.heap.size w w' := by
  have ht : decide (most < 0) = true := decide_eq_true h
  clear h
  go_enter Tryz.func6, Tryz.ntmps6
  go_wp2
  go_ret2
  exact ⟨rfl, Below.refl _ _⟩

theorem dbl_ne {l : List UInt8} (h : l ≠ []) : (dbl l).isEmpty = false := by
  cases hd : dbl l with
  | nil => exact absurd (dbl_nil hd) h
  | cons _ _ => rfl
/-- Where Spell stands: k bytes of the text are written. -/
def Stnd (w : World) (t : List UInt8) (args : Value) (conv : ByteArray) (most : Int) (k : Nat) (wx : World) : Prop :=
  k ≤ t.length ∧ WR w.heap.size w.heap.size ⟨(dbl (t.drop k)).toArray⟩ args conv (t.take k) most wx ∧ Below w.heap.size w wx
theorem Stnd.next {w wx w' : World} {t : List UInt8} {args : Value} {conv : ByteArray} {most : Int} {k : Nat} (h : Stnd w t args conv most k wx) (hk : k < t.length)
    (hw : WR w.heap.size w.heap.size ⟨(dbl ((t.drop k).drop (adv (t.drop k)))).toArray⟩ args conv (t.take k ++ (t.drop k).take (adv (t.drop k))) most w') (hb : Kb w.heap.size w.heap.size wx w') : Stnd w t args conv most (k + adv (t.drop k)) w' := by
  have hp := adv_pos (l := t.drop k) (by intro e; have := congrArg List.length e; simp at this; omega)
  simp only [List.length_drop] at hp
  refine ⟨by omega, ?_, h.2.2.trans hb.bel⟩
  rw [List.drop_drop] at hw
  rw [List.take_add]
  exact hw

set_option maxHeartbeats 2000000 in
set_option maxRecDepth 100000 in
theorem spell_yes (w : World) (t : List UInt8) (htl : t.length ≤ 1000) (conv : ByteArray) (a : Option Addr) (n c : Nat) (most : Int) (hM : MaxL w) (h0 : (t.length : Int) ≤ most) (h2 : most ≤ 9223372036854775807) :
    Calls Tryz.prog 6 #[.string ⟨(dbl t).toArray⟩, .slice a n c, .string conv, .int .i64 most] w fun e w' => e = .returned (.tuple #[.string ⟨t.toArray⟩, .bool true]) ∧ Below w.heap.size w w' := by
  have ht : decide (most < 0) = false := by rw [decide_eq_false_iff_not]; omega
  have HM := Lib.hid hM
  have HMB := Lib.hid (World.block_lt_of_cell? w _ hM.choose_spec)
  have HN := Lib.hid (show Stnd w t (.slice a n c) conv most 0 (w.alloc (.cells #[.string ⟨(dbl t).toArray⟩, .slice a n c, .string conv, .pointer none, .slice none 0 0, .int .i64 most] 44)) from ⟨by omega, by simpa using WR.new w ⟨(dbl t).toArray⟩ (.slice a n c) conv most, (Below.refl _ _).alloc (Nat.le_refl _) _⟩)
  have H0 := Lib.hid h0
  have H2 := Lib.hid h2
  clear hM h0 h2
  go_enter Tryz.func6, Tryz.ntmps6
  go_wp2
  go_loopg [] t.length (fun gf wx => ∃ k : Nat, t.length = gf + k ∧ Stnd w t (.slice a n c) conv most k wx)
  case atStart => exact ⟨0, rfl, HN.out⟩
  case round =>
    obtain ⟨k, hgk, hat⟩ := hrel
    have c0 := hat.2.1.c0
    have hsz := hat.2.2.size
    have HA := Lib.hid hat
    have HG := Lib.hid hgk
    by_cases hlt : k < t.length
    · have hne : t.drop k ≠ [] := by intro e; have := congrArg List.length e; simp at this; omega
      have he := dbl_ne hne
      have hp := adv_pos hne
      have HP := Lib.hid hp
      have hd : (t.drop k).length = t.length - k := by simp
      have htk : (t.take k).length = k := by simp; omega
      have HS := Lib.hid (step_dbl wr w.heap.size w.heap.size (t.drop k) _ conv (t.take k) most hne (by omega) hat.2.1 (HM.out.below hat.2.2 HMB.out) HMB.out hsz (by omega) (by have := H0.out; omega) H2.out (by have := H0.out; rw [htk]; omega))
      clear hat hgk hne htk hd hp
      go_wp2_with (go_at_call 11; go_must (refine (HS.out).mono ?_; rintro e w1 ⟨rfl, hw1, hk1⟩; have HX := Lib.hid (HA.out.next hlt hw1 hk1); clear hw1 hk1))
      go_roundg (t.length - (k + adv (t.drop k)))
      case measure => have := HG.out; have := HP.out; omega
      case rel => exact ⟨k + adv (t.drop k), by have := HX.out.1; omega, HX.out⟩
    · obtain rfl : k = t.length := by have := hat.1; omega
      have hT := Lib.hid (string_all wr w.heap.size w.heap.size _ _ conv _ most hat.2.1 hsz)
      rw [List.take_length] at hT
      rw [List.drop_length] at c0
      have he : (dbl []).isEmpty = true := rfl
      clear hat hgk
      go_wp2_with (go_at_call 12; go_must (refine (hT.out).mono ?_; rintro e w1 ⟨rfl, hk1⟩; have HK := Lib.hid hk1; clear hk1))
      go_ret2
      exact ⟨rfl, HA.out.2.2.trans HK.out.bel⟩
set_option maxHeartbeats 2000000 in
set_option maxRecDepth 100000 in
theorem spell_no (w : World) (t : List UInt8) (htl : t.length ≤ 1000) (conv : ByteArray) (a : Option Addr) (n c : Nat) (most : Int) (hM : MaxL w) (h0 : 0 ≤ most) (h2 : most < (t.length : Int)) :
    Calls Tryz.prog 6 #[.string ⟨(dbl t).toArray⟩, .slice a n c, .string conv, .int .i64 most] w fun e w' => e = .returned (.tuple #[.string ⟨#[]⟩, .bool false]) ∧ Below w.heap.size w w' := by
  have ht : decide (most < 0) = false := by rw [decide_eq_false_iff_not]; omega
  have HM := Lib.hid hM
  have HMB := Lib.hid (World.block_lt_of_cell? w _ hM.choose_spec)
  have HN := Lib.hid (show Stnd w t (.slice a n c) conv most 0 (w.alloc (.cells #[.string ⟨(dbl t).toArray⟩, .slice a n c, .string conv, .pointer none, .slice none 0 0, .int .i64 most] 44)) from ⟨by omega, by simpa using WR.new w ⟨(dbl t).toArray⟩ (.slice a n c) conv most, (Below.refl _ _).alloc (Nat.le_refl _) _⟩)
  have H0 := Lib.hid h0
  have H2 := Lib.hid h2
  clear hM h0 h2
  go_enter Tryz.func6, Tryz.ntmps6
  go_wp2
  go_loopg [] t.length (fun gf wx => ∃ k : Nat, t.length = gf + k ∧ (k : Int) ≤ most ∧ Stnd w t (.slice a n c) conv most k wx)
  case atStart => exact ⟨0, rfl, H0.out, HN.out⟩
  case round =>
    obtain ⟨k, hgk, hkm, hat⟩ := hrel
    have c0 := hat.2.1.c0
    have hsz := hat.2.2.size
    have HA := Lib.hid hat
    have HG := Lib.hid hgk
    have hlt : k < t.length := by have := H2.out; omega
    have hne : t.drop k ≠ [] := by intro e; have := congrArg List.length e; simp at this; omega
    have he := dbl_ne hne
    have hp := adv_pos hne
    have HP := Lib.hid hp
    have hd : (t.drop k).length = t.length - k := by simp
    have htk : (t.take k).length = k := by simp; omega
    by_cases hfit : ((k + adv (t.drop k) : Nat) : Int) ≤ most
    · have HS := Lib.hid (step_dbl wr w.heap.size w.heap.size (t.drop k) _ conv (t.take k) most hne (by omega) hat.2.1 (HM.out.below hat.2.2 HMB.out) HMB.out hsz (by omega) H0.out (by have := H2.out; omega) (by rw [htk]; exact hfit))
      have HF := Lib.hid hfit
      clear hat hgk hne htk hd hp hkm hfit
      go_wp2_with (go_at_call 11; go_must (refine (HS.out).mono ?_; rintro e w1 ⟨rfl, hw1, hk1⟩; have HX := Lib.hid (HA.out.next hlt hw1 hk1); clear hw1 hk1))
      go_roundg (t.length - (k + adv (t.drop k)))
      case measure => have := HG.out; have := HP.out; omega
      case rel => exact ⟨k + adv (t.drop k), by have := HX.out.1; omega, HF.out, HX.out⟩
    · have HS := Lib.hid (step_dbl_no wr w.heap.size w.heap.size (t.drop k) _ conv (t.take k) most hne (by omega) hat.2.1 (HM.out.below hat.2.2 HMB.out) hsz (by omega) H0.out (by have := H2.out; omega) (by rw [htk]; omega))
      clear hat hgk hne htk hd hp hkm hfit
      go_wp2_with (go_at_call 11; go_must (refine (HS.out).mono ?_; rintro e w1 ⟨rfl, hk1⟩; have HK := Lib.hid hk1; clear hk1))
      go_ret2
      exact ⟨rfl, HA.out.2.2.trans HK.out⟩
end Go.Proofs.YtkemdhaalcploaaGreatDoor.spl
