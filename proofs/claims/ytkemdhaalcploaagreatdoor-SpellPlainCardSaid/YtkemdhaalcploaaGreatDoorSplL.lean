/- awake of layer 12's laws; the law SpellPlain. -/
import Derived.Test.YtkemdhaalcploaaGreatDoorSplQ
namespace Go.Proofs.YtkemdhaalcploaaGreatDoor.spl
set_option linter.unusedVariables false set_option linter.unusedSimpArgs false
open Go.ChangeShapes Go.WideShapes Go.ChangeAt Go.RowKit Go.Proofs.YtkemdhaalcploaaGreatDoor.base

/-- What the law takes of the tables. -/
def Tabs (w : World) : Prop := sev.TabF w ∧ MaxL w
theorem Tabs.below {w w' : World} (h : Tabs w) (hb : Below w.heap.size w w') : Tabs w' :=
  ⟨h.1.below hb, h.2.below hb (World.block_lt_of_cell? w _ h.2.choose_spec)⟩

set_option maxHeartbeats 2000000 in
set_option maxRecDepth 100000 in
theorem awake_all (w : World) (h : Tabs w) : Calls Tryz.prog 5 #[] w fun e w' => e = .returned (.bool true) ∧ Below w.heap.size w w' := by
  have HT := Lib.hid h
  clear h
  go_enter Tryz.func5, Tryz.ntmps5
  go_wp2_with (first | (go_at_call 7; (with_reducible refine (num_c 4619567317775286272 _).mono ?_); rintro e w1 ⟨rfl, hb1⟩; have HB1 := Lib.hid hb1; clear hb1) | (go_at_call 10; go_must (refine (outside_a _).mono ?_; rintro e w2 ⟨rfl, hb2⟩; have HB2 := Lib.hid (HB1.out.trans (hb2.mono HB1.out.size)); clear hb2)) | (go_at_call 7; (with_reducible refine (num_c 4634274385308418048 _).mono ?_); rintro e w3 ⟨rfl, hb3⟩; have HB3 := Lib.hid (HB2.out.trans (hb3.mono HB2.out.size)); have HBX := Lib.hid (Box.new w3 26 #[numV 4619567317775286272, strV ⟨#[97]⟩, numV 4634274385308418048]); have HB4 := Lib.hid (HB3.out.alloc HB3.out.size (.cells #[numV 4619567317775286272, strV ⟨#[97]⟩, numV 4634274385308418048] 26)); clear hb3) | (go_at_call 6; go_must (refine (spell_ex _ _ _ (HT.out.below HB4.out).1 (HT.out.below HB4.out).2 (HBX.out.cell 0) (HBX.out.cell 1) (HBX.out.cell 2)).mono ?_; rintro e w5 ⟨rfl, hb5⟩; have HB5 := Lib.hid (HB4.out.trans (hb5.mono HB4.out.size)); clear hb5)))
  go_ret
  exact ⟨rfl, HB5.out⟩

theorem one_cut (s : ByteArray) (k : Nat) (h : k < s.size) : s.extract k (k + 1) = ⟨([s[k]] : List UInt8).toArray⟩ := by
  rw [extract_list, take_snoc s k h, List.drop_left' (by simp; omega)]
theorem dbl_in (s : ByteArray) (k : Nat) (h : k < s.size) (hc : s[k] = 37) : (⟨(dbl (s.data.toList.take k)).toArray⟩ : ByteArray) ++ s.extract k (k + 1) ++ ⟨#[37]⟩ = ⟨(dbl (s.data.toList.take (k + 1))).toArray⟩ := by
  have e2 : (⟨#[37]⟩ : ByteArray) = ⟨([37] : List UInt8).toArray⟩ := rfl
  rw [one_cut s k h, e2, app_list (dbl (s.data.toList.take k)) [s[k]], app_list (dbl (s.data.toList.take k) ++ [s[k]]) [37], take_snoc s k h, dbl_snoc, if_pos hc, hc]
  simp
theorem dbl_out (s : ByteArray) (k : Nat) (h : k < s.size) (hc : ¬ s[k] = 37) : (⟨(dbl (s.data.toList.take k)).toArray⟩ : ByteArray) ++ s.extract k (k + 1) = ⟨(dbl (s.data.toList.take (k + 1))).toArray⟩ := by
  rw [one_cut s k h, app_list (dbl (s.data.toList.take k)) [s[k]], take_snoc s k h, dbl_snoc, if_neg hc]

set_option maxHeartbeats 4000000 in
set_option maxRecDepth 100000 in
theorem plain_go (s : ByteArray) (n : Int) (w : World) (h : Tabs w) (h1 : -9223372036854775808 ≤ n) (h2 : n ≤ 9223372036854775807) (hs : s.size ≤ 1000) (r : ByteArray) (y : Bool) (hr : (y = false ∧ r = ⟨#[]⟩ ∧ n < (s.size : Int)) ∨ (y = true ∧ r = s ∧ (s.size : Int) ≤ n))
    (hsp : ∀ (W : World) (a : Option Addr), Tabs W → Calls Tryz.prog 6 #[.string ⟨(dbl s.data.toList).toArray⟩, .slice a 1 1, .string ⟨#[37, 46, 54, 103]⟩, .int .i64 n] W fun e w' => e = .returned (.tuple #[.string r, .bool y]) ∧ Below W.heap.size W w') :
    Calls Tryz.prog 3 #[.string s, .int .i64 n] w fun e w' => e = .returned (.bool true) ∧ Below w.heap.size w w' := by
  have HT := Lib.hid h
  have HS := Lib.hid hsp
  have HR := Lib.hid hr
  have HN := Lib.hid (And.intro h1 h2)
  have HSZ := Lib.hid hs
  have ht : decide ((1000 : Int) < (s.size : Int)) = false := by rw [decide_eq_false_iff_not]; omega
  clear h hsp hr h1 h2
  go_enter Tryz.func3, Tryz.ntmps3
  go_wp2_with (go_at_call 5; go_must (refine (awake_all _ HT.out).mono ?_; rintro e w1 ⟨rfl, hb1⟩; have HB1 := Lib.hid hb1; clear hb1))
  go_loopw [5, 6] (fun fv iv wr => ∃ k : Nat, k ≤ s.size ∧ iv = .int .i64 (k : Int) ∧ fv = .string ⟨(dbl (s.data.toList.take k)).toArray⟩ ∧ wr = w1) (fun _ iv _ => s.size - (intOf iv).toNat)
  case atStart => exact ⟨0, by omega, rfl, rfl, rfl⟩
  case round =>
    obtain ⟨k, hk, rfl, rfl, rfl⟩ := hrel
    have hdl : (dbl (s.data.toList.take k)).length ≤ 2000 := by
      have h3 := dbl_len (s.data.toList.take k)
      rw [List.length_take, len_list] at h3
      omega
    by_cases hlt : k < s.size
    · by_cases hc : s[k] = 37
      · have hd := Lib.hid (dbl_in s k hlt hc)
        have hq : (((s[k]).toNat : Int) == 37) = true := by rw [hc]; rfl
        clear hc
        go_wp2_with fail
        go_roundw
        case rel => exact ⟨k + 1, by omega, by go_num, by rw [hd.out], trivial⟩
        case measure => simp [intOf]; omega
      · have hd := Lib.hid (dbl_out s k hlt hc)
        have hq : (((s[k]).toNat : Int) == 37) = false := by
          rw [beq_eq_false_iff_ne]
          intro e
          exact hc (UInt8.toNat_inj.1 (by have : (s[k]).toNat = 37 := by omega
                                          exact this))
        clear hc
        go_wp2_with fail
        go_roundw
        case rel => exact ⟨k + 1, by omega, by go_num, by rw [hd.out], trivial⟩
        case measure => simp [intOf]; omega
    · obtain rfl : k = s.size := by omega
      have hsp : ∀ (W : World) (a : Option Addr), Tabs W → Calls Tryz.prog 6 #[.string ⟨(dbl (s.data.toList.take s.size)).toArray⟩, .slice a 1 1, .string ⟨#[37, 46, 54, 103]⟩, .int .i64 n] W fun e w' => e = .returned (.tuple #[.string r, .bool y]) ∧ Below W.heap.size W w' := by
        rw [show s.data.toList.take s.size = s.data.toList by rw [← len_list, List.take_length]]
        exact HS.out
      have HS2 := Lib.hid hsp
      clear hsp
      rcases HR.out with ⟨rfl, rfl, h3⟩ | ⟨rfl, rfl, h3⟩
      · have h4 : decide (n < (s.size : Int)) = true := decide_eq_true h3
        clear h3
        go_wp2_with (first | (go_at_call 7; go_must (refine (num_c 4607182418800017408 _).mono ?_; rintro e w2 ⟨rfl, hb2⟩; have HB2 := Lib.hid (HB1.out.trans (hb2.mono HB1.out.size)); have HB3 := Lib.hid (HB2.out.alloc HB2.out.size (.cells #[numV 4607182418800017408] 26)); clear hb2)) | (go_at_call 6; go_must (refine (HS2.out _ _ (by exact HT.out.below HB3.out)).mono ?_; rintro e w4 ⟨rfl, hb4⟩; have HB4 := Lib.hid (HB3.out.trans (hb4.mono HB3.out.size)); clear hb4)))
        go_ret
        exact ⟨rfl, HB4.out⟩
      · have h4 : decide (n < (r.size : Int)) = false := by rw [decide_eq_false_iff_not]; omega
        clear h3
        go_wp2_with (first | (go_at_call 7; go_must (refine (num_c 4607182418800017408 _).mono ?_; rintro e w2 ⟨rfl, hb2⟩; have HB2 := Lib.hid (HB1.out.trans (hb2.mono HB1.out.size)); have HB3 := Lib.hid (HB2.out.alloc HB2.out.size (.cells #[numV 4607182418800017408] 26)); clear hb2)) | (go_at_call 6; go_must (refine (HS2.out _ _ (by exact HT.out.below HB3.out)).mono ?_; rintro e w4 ⟨rfl, hb4⟩; have HB4 := Lib.hid (HB3.out.trans (hb4.mono HB3.out.size)); clear hb4)))
        go_ret
        exact ⟨by first | rfl | simp, HB4.out⟩

set_option maxHeartbeats 1000000 in
/-- The law, for every text and every bound. -/
theorem plain_c (s : ByteArray) (n : Int) (w : World) (h : Tabs w) (h1 : -9223372036854775808 ≤ n) (h2 : n ≤ 9223372036854775807) :
    Calls Tryz.prog 3 #[.string s, .int .i64 n] w fun e w' => e = .returned (.bool true) ∧ Below w.heap.size w w' := by
  have hl : s.data.toList.length = s.size := len_list s
  by_cases hs : s.size ≤ 1000
  · by_cases h0 : n < 0
    · exact plain_go s n w h h1 h2 hs ⟨#[]⟩ false (.inl ⟨rfl, rfl, by omega⟩) (fun W a _ => spell_neg W _ _ _ n h0)
    · by_cases h3 : n < (s.size : Int)
      · exact plain_go s n w h h1 h2 hs ⟨#[]⟩ false (.inl ⟨rfl, rfl, h3⟩) (fun W a hW => spell_no W s.data.toList (by omega) _ a 1 1 n hW.2 (by omega) (by rw [hl]; exact h3))
      · exact plain_go s n w h h1 h2 hs s true (.inr ⟨rfl, rfl, by omega⟩) (fun W a hW => by
          have k := spell_yes W s.data.toList (by omega) ⟨#[37, 46, 54, 103]⟩ a 1 1 n hW.2 (by rw [hl]; omega) h2
          rw [str_eta] at k
          exact k)
  · have HT := Lib.hid h
    have ht : decide ((1000 : Int) < (s.size : Int)) = true := by rw [decide_eq_true_iff]; omega
    clear h h1 h2 hs hl
    go_enter Tryz.func3, Tryz.ntmps3
    go_wp2_with (go_at_call 5; go_must (refine (awake_all _ HT.out).mono ?_; rintro e w1 ⟨rfl, hb1⟩; have HB1 := Lib.hid hb1; clear hb1))
    go_ret
    exact ⟨rfl, HB1.out⟩
end Go.Proofs.YtkemdhaalcploaaGreatDoor.spl
