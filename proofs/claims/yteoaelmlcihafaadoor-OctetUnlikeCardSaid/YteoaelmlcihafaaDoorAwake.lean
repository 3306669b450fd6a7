/- The laws of tedderlaw01 that need no document's Index or Show: their walks. -/
import Derived.Test.YteoaelmlcihafaaDoorShow
import Derived.Test.YteoaelmlcihafaaDoorCut
namespace Go.Proofs.YteoaelmlcihafaaDoor.law01
open Go.ChangeShapes Go.WideShapes Go.ChangeAt Go.RowKit Go.Proofs.YteoaelmlcihafaaDoor.showSpec

/-- What the laws take of the world: the table of TrailingZeros64, at one place. -/
def Tab (w : World) : Prop := w.cell? ⟨3, 15, none⟩ = some (.int .u8 4)
theorem Tab.below {w w' : World} (h : Tab w) (hb : Below w.heap.size w w') : Tab w' := by
  unfold Tab at *
  rw [hb.cell (by exact World.block_lt_of_cell? w _ h)]
  exact h

theorem awake_show : showAt ⟨#[10]⟩ 0 = [92, 48, 49, 50] := by
  have e : (⟨#[10]⟩ : ByteArray)[0]'(by decide) = 10 := rfl
  rw [show_octal ⟨#[10]⟩ 0 (by decide) (by rw [e]; decide) (by rw [e]; decide) (by rw [dec_low ⟨#[10]⟩ 0 (by decide) (by rw [e]; decide)]; simp), show_end _ _ (by decide), e]
  decide
theorem awake_cut : octetCut.cutL [104, 101, 108, 108, 111] 0 3 = [104, 101] := by decide
theorem awake_up : [97].map octetCase.up = [65] := by decide

theorem awake_all (w : World) (h : Tab w) : Calls Tryd.prog 9 #[] w fun e w' => e = .returned (.bool true) ∧ Below w.heap.size w w' := by
  have h1 : ∀ w, Calls Tryd.prog 16 #[.string ⟨#[104, 101, 108, 108, 111]⟩, .int .i64 0, .int .i64 3] w fun e w' => e = .returned (.string ⟨#[104, 101]⟩) ∧ Below w.heap.size w w' := fun w => by
    have := octetCut.Cut_all ⟨#[104, 101, 108, 108, 111]⟩ 0 3 w (by decide) (by omega) (by omega) (by omega) (by omega)
    rw [show (⟨#[104, 101, 108, 108, 111]⟩ : ByteArray).data.toList = [104, 101, 108, 108, 111] from rfl, awake_cut] at this
    exact this
  have h2 : ∀ w, Tab w → Calls Tryd.prog 18 #[.string ⟨#[10]⟩] w fun e w' => e = .returned (.string ⟨#[92, 48, 49, 50]⟩) ∧ Below w.heap.size w w' := fun w hw => by
    have := octetShow.Show_all ⟨#[10]⟩ w (by decide) hw
    rw [awake_show] at this
    exact this
  have h3 : ∀ w, Calls Tryd.prog 10 #[.string ⟨#[97]⟩] w fun e w' => e = .returned (.string ⟨#[65]⟩) ∧ Below w.heap.size w w' := fun w => by
    have := octetCase.Upper_all ⟨#[97]⟩ w (by decide)
    rw [show (⟨#[97]⟩ : ByteArray).data.toList = [97] from rfl, awake_up] at this
    exact this
  have H1 := Lib.hid h1
  have H2 := Lib.hid h2
  have H3 := Lib.hid h3
  clear h1 h2 h3
  go_enter Tryd.func9, Tryd.ntmps9
  go_wp2_with (first | (go_at_call 16; refine (H1.out _).mono ?_; rintro e w1 ⟨rfl, hb1⟩) | (go_at_call 18; refine (H2.out _ (h.below hb1)).mono ?_; rintro e w2 ⟨rfl, hb2⟩; have hz1 := hb1.size; have hb12 := hb1.trans (hb2.mono hz1); have hz2 := hb12.size) | (go_at_call 10; refine (H3.out _).mono ?_; rintro e w3 ⟨rfl, hb3⟩))
  go_ret
  exact ⟨rfl, hb12.trans (hb3.mono hz2)⟩

set_option maxHeartbeats 400000 in
theorem cuts (s : ByteArray) (fr n : Int) (w : World) (h : Tab w) (hf0 : -9223372036854775808 ≤ fr) (hf1 : fr ≤ 9223372036854775807) (hn0 : -9223372036854775808 ≤ n) (hn1 : n ≤ 9223372036854775807) :
    Calls Tryd.prog 5 #[.string s, .int .i64 fr, .int .i64 n] w fun e w' => e = .returned (.bool true) ∧ Below w.heap.size w w' := by
  have HA := Lib.hid (fun w hw => awake_all w hw)
  by_cases hs : s.size ≤ 5000
  · go_enter Tryd.func5, Tryd.ntmps5
    go_wp2_with (first | (go_at_call 9; refine (HA.out _ h).mono ?_; rintro e w1 ⟨rfl, hb1⟩; have hz1 := hb1.size) | (go_at_call 16; refine (octetCut.Cut_all _ _ _ _ (by omega) hf0 hf1 hn0 hn1).mono ?_; rintro e w2 ⟨rfl, hb2⟩; have hb12 := hb1.trans (hb2.mono hz1); have hz2 := hb12.size) | (go_at_call 17; refine (octetCut.refCut_all _ _ _ _ (by omega) hf0 hf1 hn0 hn1).mono ?_; rintro e w3 ⟨rfl, hb3⟩))
    go_ret
    exact ⟨rfl, hb12.trans (hb3.mono hz2)⟩
  · go_enter Tryd.func5, Tryd.ntmps5
    go_wp2_with (go_at_call 9; refine (HA.out _ h).mono ?_; rintro e w1 ⟨rfl, hb1⟩)
    go_ret
    exact ⟨rfl, hb1⟩

theorem cut_first (l : List UInt8) (k : Nat) (hk : k ≤ l.length) : octetCut.cutL l 1 k = l.take k := by
  unfold octetCut.cutL
  rw [show (max (1 : Int) 1 - 1).toNat = 0 by decide, List.drop_zero]
  congr 1
  omega
theorem cut_rest (l : List UInt8) (k : Nat) (hk : k ≤ l.length) : octetCut.cutL l ((k : Int) + 1) l.length = l.drop k := by
  unfold octetCut.cutL
  rw [List.take_of_length_le (by omega)]
  congr 1
  omega

set_option maxHeartbeats 400000 in
theorem parts (s : ByteArray) (at0 : Int) (w : World) (h : Tab w) (hf0 : -9223372036854775808 ≤ at0) (hf1 : at0 ≤ 9223372036854775807) :
    Calls Tryd.prog 6 #[.string s, .int .i64 at0] w fun e w' => e = .returned (.bool true) ∧ Below w.heap.size w w' := by
  have HA := Lib.hid (fun w hw => awake_all w hw)
  by_cases hs : s.size ≤ 5000
  · obtain ⟨k, hk, hks⟩ : ∃ k : Nat, min (max at0 0) (s.size : Int) = k ∧ k ≤ s.size := ⟨(min (max at0 0) (s.size : Int)).toNat, by omega, by omega⟩
    have HC1 := Lib.hid (show ∀ w, Calls Tryd.prog 16 #[.string s, .int .i64 1, .int .i64 k] w fun e w' => e = .returned (.string ⟨(s.data.toList.take k).toArray⟩) ∧ Below w.heap.size w w' from fun w => by
      rw [← cut_first _ k (by rw [len_list]; exact hks)]
      exact octetCut.Cut_all s 1 k w (by omega) (by omega) (by omega) (by omega) (by omega))
    have HC2 := Lib.hid (show ∀ w, Calls Tryd.prog 16 #[.string s, .int .i64 ((k : Int) + 1), .int .i64 s.size] w fun e w' => e = .returned (.string ⟨(s.data.toList.drop k).toArray⟩) ∧ Below w.heap.size w w' from fun w => by
      rw [← cut_rest _ k (by rw [len_list]; exact hks), len_list]
      exact octetCut.Cut_all s (k + 1) s.size w (by omega) (by omega) (by omega) (by omega) (by omega))
    have HC3 := Lib.hid (show ∀ w, Calls Tryd.prog 16 #[.string s, .int .i64 at0, .int .i64 0] w fun e w' => e = .returned (.string ⟨#[]⟩) ∧ Below w.heap.size w w' from fun w => by
      have := octetCut.Cut_all s at0 0 w (by omega) hf0 hf1 (by omega) (by omega)
      rw [octetCut.cutL_none _ _ _ (by omega)] at this
      exact this)
    have happ : (⟨(s.data.toList.take k).toArray⟩ ++ ⟨(s.data.toList.drop k).toArray⟩ : ByteArray) = s := by
      rw [app_list, List.take_append_drop, str_eta]
    go_enter Tryd.func6, Tryd.ntmps6
    go_wp2_with (go_at_call 9; refine (HA.out _ h).mono ?_; rintro e w1 ⟨rfl, hb1⟩; have hz1 := hb1.size)
    refine (HC1.out _).mono ?_
    rintro e w2 ⟨rfl, hb2⟩
    have b2 := hb1.trans (hb2.mono hz1)
    have z2 := b2.size
    go_wp2_with fail
    refine (HC2.out _).mono ?_
    rintro e w3 ⟨rfl, hb3⟩
    have b3 := b2.trans (hb3.mono z2)
    have z3 := b3.size
    go_wp2_with fail
    refine (HC3.out _).mono ?_
    rintro e w4 ⟨rfl, hb4⟩
    have b4 := b3.trans (hb4.mono z3)
    go_wp2_with fail
    go_ret
    exact ⟨rfl, b4⟩
  · go_enter Tryd.func6, Tryd.ntmps6
    go_wp2_with (go_at_call 9; refine (HA.out _ h).mono ?_; rintro e w1 ⟨rfl, hb1⟩)
    go_ret
    exact ⟨rfl, hb1⟩

set_option maxHeartbeats 400000 in
theorem cases (s : ByteArray) (w : World) (h : Tab w) :
    Calls Tryd.prog 3 #[.string s] w fun e w' => e = .returned (.bool true) ∧ Below w.heap.size w w' := by
  have HA := Lib.hid (fun w hw => awake_all w hw)
  by_cases hs : s.size ≤ 5000
  · have hU : ∀ w, Calls Tryd.prog 10 #[.string s] w fun e w' => e = .returned (.string ⟨(s.data.toList.map octetCase.up).toArray⟩) ∧ Below w.heap.size w w' := fun w => octetCase.Upper_all s w (by omega)
    have hU2 : ∀ w, Calls Tryd.prog 10 #[.string ⟨(s.data.toList.map octetCase.low).toArray⟩] w fun e w' => e = .returned (.string ⟨(s.data.toList.map octetCase.up).toArray⟩) ∧ Below w.heap.size w w' := fun w => by
      have := octetCase.Upper_all ⟨(s.data.toList.map octetCase.low).toArray⟩ w (by show (s.data.toList.map octetCase.low).toArray.size ≤ _; simp; omega)
      rw [show (⟨(s.data.toList.map octetCase.low).toArray⟩ : ByteArray).data.toList.map octetCase.up = s.data.toList.map octetCase.up from by simp [octetCase.up_low]] at this
      exact this
    have HU := Lib.hid hU
    have HU2 := Lib.hid hU2
    clear hU hU2
    go_enter Tryd.func3, Tryd.ntmps3
    go_wp2_with (first | (go_at_call 9; refine (HA.out _ h).mono ?_; rintro e w1 ⟨rfl, hb1⟩; have hz1 := hb1.size))
    refine (HU.out _).mono ?_
    rintro e w2 ⟨rfl, hb2⟩
    have b2 := hb1.trans (hb2.mono hz1)
    have z2 := b2.size
    go_wp2_with fail
    refine (octetCase.refUpper_all s _ (by omega)).mono ?_
    rintro e w3 ⟨rfl, hb3⟩
    have b3 := b2.trans (hb3.mono z2)
    have z3 := b3.size
    go_wp2_with fail
    refine (octetCase.Lower_all s _ (by omega)).mono ?_
    rintro e w4 ⟨rfl, hb4⟩
    have b4 := b3.trans (hb4.mono z3)
    have z4 := b4.size
    go_wp2_with fail
    refine (octetCase.refLower_all s _ (by omega)).mono ?_
    rintro e w5 ⟨rfl, hb5⟩
    have b5 := b4.trans (hb5.mono z4)
    have z5 := b5.size
    go_wp2_with fail
    refine (octetCase.Lower_all s _ (by omega)).mono ?_
    rintro e w6 ⟨rfl, hb6⟩
    have b6 := b5.trans (hb6.mono z5)
    have z6 := b6.size
    go_wp2_with fail
    refine (HU2.out _).mono ?_
    rintro e w7 ⟨rfl, hb7⟩
    have b7 := b6.trans (hb7.mono z6)
    have z7 := b7.size
    go_wp2_with fail
    refine (HU.out _).mono ?_
    rintro e w8 ⟨rfl, hb8⟩
    have b8 := b7.trans (hb8.mono z7)
    have z8 := b8.size
    go_wp2_with fail
    go_ret
    exact ⟨rfl, b8⟩
  · go_enter Tryd.func3, Tryd.ntmps3
    go_wp2_with (go_at_call 9; refine (HA.out _ h).mono ?_; rintro e w1 ⟨rfl, hb1⟩)
    go_ret
    exact ⟨rfl, hb1⟩
end Go.Proofs.YteoaelmlcihafaaDoor.law01
