/- The walk of the law OctetUnlike. -/
import Derived.Test.YteoaelmlcihafaaDoorUnlike
namespace Go.Proofs.YteoaelmlcihafaaDoor.law01
open Go.ChangeShapes Go.WideShapes Go.ChangeAt Go.RowKit Go.Proofs.YteoaelmlcihafaaDoor.showSpec

theorem index_lt (l : List UInt8) : octetIndex.indexF l [60] = 0 ↔ ∀ c ∈ l, c ≠ 60 := by
  unfold octetIndex.indexF
  rw [if_neg (by simp)]
  induction l with
  | nil => simp [Lib.index]
  | cons b l ih =>
    have hge := Lib.index_ge l [60]
    unfold Lib.index
    by_cases hb : b = 60
    · rw [if_pos (by simp [hb])]
      simp [hb]
    · rw [if_neg (by simp [List.isPrefixOf]; exact fun h => hb h.symm)]
      by_cases hi : Lib.index l [60] = -1
      · rw [if_pos (by rw [hi]; rfl)]
        have := ih.1 (by omega)
        simp
        exact ⟨hb, this⟩
      · rw [if_neg (by simpa using hi)]
        constructor
        · intro h; omega
        · intro h
          have := ih.2 (fun c hc => h c (by simp [hc]))
          omega

theorem beq_text (a b : ByteArray) : (a.toList == b.toList) = true ↔ a = b := by
  rw [Lib.toList_data, Lib.toList_data, beq_iff_eq]
  exact ⟨fun e => by rw [← str_eta a, e, str_eta], fun e => by rw [e]⟩

theorem beq_alike (a b : ByteArray) (P : Prop) (h : a = b ↔ P) (q : Bool) (hq : q = true ↔ P) : ((a.toList == b.toList) == q) = true := by
  rw [Lib.toList_data, Lib.toList_data]
  have e : (a.data.toList == b.data.toList) = q := by
    rw [Bool.eq_iff_iff, hq, ← h, beq_iff_eq]
    exact ⟨fun e => by rw [← str_eta a, e, str_eta], fun e => by rw [e]⟩
  rw [e]
  simp

set_option maxHeartbeats 800000 in
theorem unlike (s t : ByteArray) (w : World) (h : Tab w) (hsh : w.ShapedOpen Tryd.prog) :
    Calls Tryd.prog 8 #[.string s, .string t] w fun e w' => e = .returned (.bool true) ∧ Below w.heap.size w w' := by
  have HA := Lib.hid (fun w hw => awake_all w hw)
  have HSH := Lib.hid hsh
  clear hsh
  by_cases hs : s.size ≤ 2000
  · by_cases ht : t.size ≤ 2000
    · have HI := Lib.hid (show ∀ (s : ByteArray) (w : World), s.size ≤ 2000 → w.ShapedOpen Tryd.prog → Calls Tryd.prog 14 #[.string s, .string ⟨#[60]⟩] w fun e w' => e = .returned (.int .i64 (octetIndex.indexF s.data.toList [60])) ∧ w = w' from fun s w hs hw => octetIndex.Index_all s ⟨#[60]⟩ w (by omega) hw)
      by_cases hns : octetIndex.indexF s.data.toList [60] = 0
      · by_cases hnt : octetIndex.indexF t.data.toList [60] = 0
        · have HALL := Lib.hid (fun e => unlike.unlike s t ((index_lt _).1 hns) ((index_lt _).1 hnt) e)
          have HI1 := Lib.hid (HI.out s)
          have HI2 := Lib.hid (HI.out t)
          rw [hns] at HI1
          rw [hnt] at HI2
          obtain ⟨a, ha⟩ : ∃ a : ByteArray, a = ⟨(showAt s 0).toArray⟩ := ⟨_, rfl⟩
          obtain ⟨b, hb⟩ : ∃ b : ByteArray, b = ⟨(showAt t 0).toArray⟩ := ⟨_, rfl⟩
          have HAB := Lib.hid (show a = b ↔ s = t by
            constructor
            · intro e
              rw [ha, hb] at e
              have := congrArg (fun x : ByteArray => x.data.toList) e
              exact HALL.out (by simpa using this)
            · rintro rfl; rw [ha, hb])
          have HS := Lib.hid (show ∀ w, Tab w → Calls Tryd.prog 18 #[.string s] w fun e w' => e = .returned (.string a) ∧ Below w.heap.size w w' from fun w hw => by rw [ha]; exact octetShow.Show_all s w (by omega) hw)
          have HT := Lib.hid (show ∀ w, Tab w → Calls Tryd.prog 18 #[.string t] w fun e w' => e = .returned (.string b) ∧ Below w.heap.size w w' from fun w hw => by rw [hb]; exact octetShow.Show_all t w (by omega) hw)
          clear ha hb hns hnt
          go_enter Tryd.func8, Tryd.ntmps8
          go_wp2_with (go_at_call 9; refine (HA.out _ h).mono ?_; rintro e w1 ⟨rfl, hb1⟩; have h1 := h.below hb1; have hz1 := hb1.size)
          refine (HI1.out _ (by omega) (shaped_below HSH.out hb1)).mono ?_
          rintro e w2 ⟨rfl, rfl⟩
          go_wp2_with fail
          refine (HI2.out _ (by omega) (shaped_below HSH.out hb1)).mono ?_
          rintro e w2 ⟨rfl, rfl⟩
          go_wp2_with fail
          refine (HS.out _ h1).mono ?_
          rintro e w3 ⟨rfl, hb3⟩
          have h3 := h1.below hb3
          have b3 := hb1.trans (hb3.mono hz1)
          have hz3 := b3.size
          go_wp2_with fail
          refine (HT.out _ h3).mono ?_
          rintro e w4 ⟨rfl, hb4⟩
          have b4 := b3.trans (hb4.mono hz3)
          go_wp2_with fail
          go_ret
          exact ⟨ret_bool (beq_alike a b (s = t) HAB.out (s.toList == t.toList) (beq_text s t)), b4⟩
        · have HI1 := Lib.hid (HI.out s)
          have HI2 := Lib.hid (HI.out t)
          rw [hns] at HI1
          obtain ⟨n, hn⟩ : ∃ n, n = octetIndex.indexF t.data.toList [60] := ⟨_, rfl⟩
          rw [← hn] at HI2
          have hnz : (n != 0) = true := by rw [bne_iff_ne, hn]; exact hnt
          clear hn hns hnt
          go_enter Tryd.func8, Tryd.ntmps8
          go_wp2_with (go_at_call 9; refine (HA.out _ h).mono ?_; rintro e w1 ⟨rfl, hb1⟩; have h1 := h.below hb1; have hz1 := hb1.size)
          refine (HI1.out _ (by omega) (shaped_below HSH.out hb1)).mono ?_
          rintro e w2 ⟨rfl, rfl⟩
          go_wp2_with fail
          refine (HI2.out _ (by omega) (shaped_below HSH.out hb1)).mono ?_
          rintro e w2 ⟨rfl, rfl⟩
          go_wp2_with fail
          go_ret
          exact ⟨rfl, hb1⟩
      · have HI1 := Lib.hid (HI.out s)
        obtain ⟨n, hn⟩ : ∃ n, n = octetIndex.indexF s.data.toList [60] := ⟨_, rfl⟩
        rw [← hn] at HI1
        have hnz : (n != 0) = true := by rw [bne_iff_ne, hn]; exact hns
        clear hn hns
        go_enter Tryd.func8, Tryd.ntmps8
        go_wp2_with (go_at_call 9; refine (HA.out _ h).mono ?_; rintro e w1 ⟨rfl, hb1⟩; have h1 := h.below hb1; have hz1 := hb1.size)
        refine (HI1.out _ (by omega) (shaped_below HSH.out hb1)).mono ?_
        rintro e w2 ⟨rfl, rfl⟩
        go_wp2_with fail
        go_ret
        exact ⟨rfl, hb1⟩
    · go_enter Tryd.func8, Tryd.ntmps8
      go_wp2_with (go_at_call 9; refine (HA.out _ h).mono ?_; rintro e w1 ⟨rfl, hb1⟩; have h1 := h.below hb1; have hz1 := hb1.size)
      go_ret
      exact ⟨rfl, hb1⟩
  · go_enter Tryd.func8, Tryd.ntmps8
    go_wp2_with (go_at_call 9; refine (HA.out _ h).mono ?_; rintro e w1 ⟨rfl, hb1⟩)
    go_ret
    exact ⟨rfl, hb1⟩
end Go.Proofs.YteoaelmlcihafaaDoor.law01
