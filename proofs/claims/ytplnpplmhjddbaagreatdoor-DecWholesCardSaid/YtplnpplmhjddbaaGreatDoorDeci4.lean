/- Contracts of the document's digits with a point (package tedderref02): round, at, fixed of whole numbers, Whole. -/
import Derived.Test.YtplnpplmhjddbaaGreatDoorDeci3
import Derived.Lib.ItoaNum
import Derived.Test.YtplnpplmhjddbaaGreatDoorShelf
namespace Go.Proofs.YtplnpplmhjddbaaGreatDoor.deci
set_option linter.unusedVariables false set_option linter.unusedSimpArgs false
open Go.ChangeShapes Go.WideShapes Go.ChangeAt Go.RowKit Go.Proofs.YtplnpplmhjddbaaGreatDoor.Deci

set_option maxRecDepth 100000 in
set_option maxHeartbeats 400000 in
theorem round_keep (a : Option Addr) (n c : Nat) (p : Int) (w : World) (hn : n ≤ 100000) (hp0 : -1000000 ≤ p) (hp1 : p ≤ 1000000) (h : (n : Int) ≤ p) :
    Calls Tryz.prog 50 #[.agg #[.slice a n c, .int .i64 p], .int .i64 0] w fun e w' => e = .returned (.agg #[.slice a n c, .int .i64 p]) ∧ Below w.heap.size w w' := by
  go_enter Tryz.func50, Tryz.ntmps50
  go_wp2
  exact bodyPost_ret (v := .agg #[.slice a n c, .int .i64 p]) (by simp [results, Tryz.results50, go_sem]) rfl ⟨rfl, ((Below.refl _ _).alloc (Nat.le_refl _) _).alloc (by simp) _⟩

/-- The digit at a place of the list; 0 beside it. -/
def atD (l : List Nat) (i : Int) : Nat := if i < 0 then 0 else l.getD i.toNat 0

theorem at_all (B : Nat) (a : Option Addr) (c : Nat) (l : List Nat) (p place : Int) (w : World) (hr : RdI w B (.slice a l.length c) l) (hl : l.length ≤ 100000) (hd : Digs l) (hp0 : -1000000 ≤ p) (hp1 : p ≤ 1000000) (hq0 : -1000000 ≤ place) (hq1 : place ≤ 1000000) :
    Calls Tryz.prog 51 #[.agg #[.slice a l.length c, .int .i64 p], .int .i64 place] w fun e w' => e = .returned (.int .u8 (48 + atD l (p - 1 - place) : Nat)) ∧ Below w.heap.size w w' := by
  by_cases hi0 : p - 1 - place < 0
  · have e : atD l (p - 1 - place) = 0 := if_pos hi0
    rw [e]
    clear e hr
    go_enter Tryz.func51, Tryz.ntmps51
    go_wp2
    go_ret
    exact ⟨rfl, (Below.refl _ _).alloc (Nat.le_refl _) _⟩
  · by_cases hi1 : (l.length : Int) ≤ p - 1 - place
    · have e : atD l (p - 1 - place) = 0 := by unfold atD; rw [if_neg hi0, List.getD_eq_getElem?_getD, List.getElem?_eq_none (by omega)]; rfl
      rw [e]
      clear e hr
      go_enter Tryz.func51, Tryz.ntmps51
      go_wp2
      go_ret
      exact ⟨rfl, (Below.refl _ _).alloc (Nat.le_refl _) _⟩
    · obtain ⟨g, off, cap', he, hcap, hB0, hc⟩ := hr.addr (by omega)
      injection he with e1 e2 e3
      subst e1 e3
      have hlt : (p - 1 - place).toNat < l.length := by omega
      have hg : g < w.heap.size := World.block_lt_of_cell? w _ (hc _ hlt)
      have hcell := hc _ hlt
      have hd9 := hd (l[(p - 1 - place).toNat]) (by simp)
      have e : atD l (p - 1 - place) = l[(p - 1 - place).toNat] := by unfold atD; rw [if_neg hi0, List.getD_eq_getElem?_getD, List.getElem?_eq_getElem hlt]; rfl
      rw [e]
      clear e hc hr
      generalize l[(p - 1 - place).toNat] = d at *
      go_enter Tryz.func51, Tryz.ntmps51
      go_wp2
      go_ret
      exact ⟨by first | rfl | exact ret_int (by omega), (Below.refl _ _).alloc (Nat.le_refl _) _⟩

/-- The digits of a whole number with the point behind p of them; of nothing one zero. -/
def fixD (l : List Nat) (p : Int) : List Nat := if l = [] then [0] else l ++ List.replicate (p - l.length).toNat 0

theorem fixD_len (l : List Nat) (p : Int) (h : l ≠ [] → (l.length : Int) ≤ p) (h0 : l = [] → p = 0) : ((fixD l p).length : Int) = max (p - 1) 0 + 1 := by
  unfold fixD
  by_cases e : l = []
  · rw [if_pos e, h0 e]; rfl
  · have := h e
    have hl := List.length_pos_iff.2 e
    rw [if_neg e, List.length_append, List.length_replicate]
    omega
theorem fixD_at (l : List Nat) (p : Int) (h : l ≠ [] → (l.length : Int) ≤ p) (h0 : l = [] → p = 0) (j : Nat) (hj : j < (fixD l p).length) : (fixD l p)[j] = atD l (p - 1 - (max (p - 1) 0 - j)) := by
  by_cases e : l = []
  · subst e
    have hp := h0 rfl
    subst hp
    have hj0 : j = 0 := by simp [fixD] at hj; omega
    subst hj0
    rfl
  · have hp := h e
    have hl := List.length_pos_iff.2 e
    rw [show p - 1 - (max (p - 1) 0 - (j : Int)) = (j : Int) by omega]
    unfold atD
    rw [if_neg (by omega), Int.toNat_natCast, List.getD_eq_getElem?_getD]
    have : (fixD l p) = l ++ List.replicate (p - l.length).toNat 0 := if_neg e
    simp only [this]
    by_cases hlt : j < l.length
    · rw [List.getElem_append_left hlt, List.getElem?_eq_getElem hlt]; rfl
    · rw [List.getElem_append_right (by omega), List.getElem?_eq_none (by omega)]; simp

theorem txt_snoc (l : List Nat) (d : Nat) : txt (l ++ [d]) = txt l ++ [UInt8.ofNat (48 + d)] := by simp [txt]
theorem atD_le (l : List Nat) (hd : Digs l) (i : Int) : atD l i ≤ 9 := by
  unfold atD
  split
  · omega
  · rw [List.getD_eq_getElem?_getD]
    by_cases h : i.toNat < l.length
    · rw [List.getElem?_eq_getElem h]; exact hd _ (by simp)
    · rw [List.getElem?_eq_none (by omega)]; simp

set_option maxRecDepth 100000 in
set_option maxHeartbeats 800000 in
theorem fixed_whole (B : Nat) (a : Option Addr) (c : Nat) (l : List Nat) (p : Int) (w : World) (hr : RdI w B (.slice a l.length c) l) (hl : l.length ≤ 100000) (hd : Digs l) (hp0 : -100000 ≤ p) (hp1 : p ≤ 100000) (h : l ≠ [] → (l.length : Int) ≤ p) (h0 : l = [] → p = 0) :
    Calls Tryz.prog 29 #[.agg #[.slice a l.length c, .int .i64 p], .int .i64 0, .bool false] w fun e w' => e = .returned (.string ⟨(txt (fixD l p)).toArray⟩) ∧ Below w.heap.size w w' := by
  have HI := Lib.hid (show (Tryz.prog.info? 5).map (fun i => (i.zero, i.size, i.bytes)) = some (some (.int .u8 0), 1, 1) by kernel_rfl)
  have hkeep : (l.length : Int) ≤ p := by
    by_cases e : l = []
    · rw [h0 e, e]; simp
    · exact h e
  have HL := Lib.hid (fixD_len l p h h0)
  have HA := Lib.hid (fixD_at l p h h0)
  clear h h0
  go_enter Tryz.func29, Tryz.ntmps29
  go_wp2_with (go_at_call 50; go_must (refine (round_keep a l.length c p _ hl (by omega) (by omega) hkeep).mono ?_; rintro e w1 ⟨rfl, hb1⟩; have hz1 := hb1.size; have hb1' := Lib.hid (((Below.refl w.heap.size w).alloc (Nat.le_refl _) (.cells #[.slice a l.length c, .int .i64 p] 47)).trans (hb1.mono (by simp))); have M := Lib.hid ((Box2.new w 47 (.slice a l.length c) (.int .i64 p)).below hb1 (by simp)); have m0 := M.out.c0; have m1 := M.out.c1; have mf0 := M.out.f 0; have mf1 := M.out.f 1))
  have HR1 := Lib.hid hr
  clear hr
  go_loopw [7, 8] (fun ov pv wr => ∃ j : Nat, j ≤ (fixD l p).length ∧ pv = .int .i64 (max (p - 1) 0 - j) ∧ OwnB wr (w.heap.size + 1) 5 ov (txt ((fixD l p).take j)) ∧ Box2 wr w.heap.size 47 (.slice a l.length c) (.int .i64 p) ∧ w.heap.size + 1 ≤ wr.heap.size ∧ Below w.heap.size w wr) (fun _ pv _ => (intOf pv + 1).toNat)
  case atStart => exact ⟨0, Nat.zero_le _, by simp, OwnB.nil _ _ _, M.out.put _ _, by simp at hz1 ⊢; omega, ((((Below.refl _ _).alloc (Nat.le_refl _) _).trans (hb1.mono (by simp))).setCell (by simp) _).setCell (by simp) _⟩
  case round =>
    clear m0 m1 mf0 mf1 hb1 hz1 hb1'
    obtain ⟨j, hj, rfl, hown, hbx, hsz, hbel⟩ := hrel
    have hrd := HR1.out.below hbel
    have m0 := hbx.c0
    have m1 := hbx.c1
    have hlen := HL.out
    by_cases hlt : j < (fixD l p).length
    · have HAJ := Lib.hid (HA.out j hlt)
      have hd9 := atD_le l hd (p - 1 - (max (p - 1) 0 - (j : Int)))
      obtain ⟨D, hD⟩ : ∃ D, D = atD l (p - 1 - (max (p - 1) 0 - (j : Int))) := ⟨_, rfl⟩
      rw [← hD] at hd9
      have HD := Lib.hid hD
      have HT := Lib.hid (show txt ((fixD l p).take j) ++ [UInt8.ofNat (48 + D)] = txt ((fixD l p).take (j + 1)) by rw [List.take_succ_eq_append_getElem hlt, txt_snoc, HAJ.out, hD])
      have htl : (txt ((fixD l p).take j)).length ≤ j := by unfold txt; rw [List.length_map]; exact List.length_take_le _ _
      have HU := Lib.hid (show (48 : Int) + (D : Int) = ((UInt8.ofNat (48 + D)).toNat : Int) by rw [UInt8.toNat_ofNat', Nat.mod_eq_of_lt (by omega)]; omega)
      have HCALL := Lib.hid (fun w' (h : RdI w' B (.slice a l.length c) l) => show Calls Tryz.prog 51 #[.agg #[.slice a l.length c, .int .i64 p], .int .i64 (max (p - 1) 0 - (j : Int))] w' fun e w'' => e = .returned (.int .u8 (48 + (D : Int))) ∧ Below w'.heap.size w' w'' by
        have := at_all B a c l p (max (p - 1) 0 - (j : Int)) w' h hl hd (by omega) (by omega) (by omega) (by omega)
        rw [← hD] at this
        exact this)
      clear hD hlen
      have hjl : (j : Int) ≤ 200000 := by have := HL.out; omega
      have hmx : (j : Int) ≤ max (p - 1) 0 := by have := HL.out; omega
      have hbx1 := hbx.f 0
      go_wp2_with (first | (go_at_call 51; go_must (refine (HCALL.out _ hrd).mono ?_; rintro e w2 ⟨rfl, hb2⟩; have hz2 := hb2.size)) | (at_builtin; go_must (refine wpList_app1 _ rfl (.tmp 21) (.tmp 25) 67 rfl (w.heap.size + 1) 5 Tryz.underlying67 HI.out _ _ rfl (hown.below hb2) _ rfl (UInt8.ofNat (48 + D)) HU.out (by omega) (by omega) ?_; intro v' w3 hown' hb3)))
      go_roundw
      case rel => exact ⟨j + 1, by omega, by go_num, by rw [← HT.out]; exact hown', (hbx.below hb2 (by omega)).below hb3 (by omega), by have := hb3.size; omega, (hbel.trans (hb2.mono (by omega))).trans (hb3.mono (by omega))⟩
      case measure => simp [intOf]; omega
    · obtain rfl : j = (fixD l p).length := by omega
      have hmx : max (p - 1) 0 - ((fixD l p).length : Int) = -1 := by omega
      rw [List.take_length] at hown
      have hcv := hown.str (P := Tryz.prog) 67 9 Tryz.underlying67 Tryz.underlying5 Tryz.underlying9
      clear hlen
      go_wp2
      go_rounds 1
      go_ret
      exact ⟨rfl, hbel⟩
end Go.Proofs.YtplnpplmhjddbaaGreatDoor.deci
