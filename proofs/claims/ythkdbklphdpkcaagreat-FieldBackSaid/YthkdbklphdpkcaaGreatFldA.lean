/- Slices of texts: owned, and as they are read; contracts of the document's Same, of Clone, isBlank, and of parted and Split where the separator is a blank. -/
import Derived.Test.YthkdbklphdpkcaaGreatShelf
import Derived.Test.YthkdbklphdpkcaaGreatFrm
import Derived.Test.YthkdbklphdpkcaaGreatFldP
namespace Go.Proofs.YthkdbklphdpkcaaGreat.flds
set_option linter.unusedVariables false set_option linter.unusedSimpArgs false
open Go.ChangeShapes Go.WideShapes Go.ChangeAt Go.RowKit Go.Proofs.YthkdbklphdpkcaaGreat.base Go.Proofs.YthkdbklphdpkcaaGreat.fldp

theorem info_str : (Tryz.prog.info? 9).map (fun i => (i.zero, i.size, i.bytes)) = some (some (.string ⟨#[]⟩), 1, 16) := by kernel_rfl

/-- v is a slice of texts of the call's own, from block B on. -/
def OwnS (w : World) (B : Nat) (v : Value) (L : List ByteArray) : Prop := w.ownsRow B 9 1 v L.length (L.map Value.string)
/-- v is a slice that reads as these texts. -/
def RdS (w : World) (v : Value) (L : List ByteArray) : Prop :=
  ∃ p c, v = .slice p L.length c ∧ (L = [] ∨ ∃ g o, p = some ⟨g, o, none⟩ ∧ ∀ k x, L[k]? = some x → w.cell? ⟨g, o + k, none⟩ = some (.string x))

theorem OwnS.rd {w : World} {B : Nat} {v : Value} {L : List ByteArray} (h : OwnS w B v L) : RdS w v L := by
  rcases h.2 with ⟨rfl, h0⟩ | ⟨g, cap, cur, rfl, hb, hg, rest⟩
  · obtain rfl := List.eq_nil_of_length_eq_zero h0
    exact ⟨none, 0, rfl, .inl rfl⟩
  · refine ⟨_, cap, rfl, .inr ⟨g, 0, rfl, fun k x hx => ?_⟩⟩
    have := World.ownsRow.cells h (g := g) rfl k (.string x) (by rw [List.getElem?_map, hx]; rfl)
    rw [Addr.add_lit] at this
    exact this
theorem OwnS.below {w w' : World} {B : Nat} {v : Value} {L : List ByteArray} (h : OwnS w B v L) (hb : Below w.heap.size w w') : OwnS w' B v L :=
  World.ownsRow.kept (row := none) h ⟨hb.os, hb.tape, hb.output, hb.size, fun k hk _ => hb.block k hk⟩ (Classical.em _)
theorem OwnS.mono {w : World} {B B' : Nat} {v : Value} {L : List ByteArray} (h : OwnS w B v L) (hb : B' ≤ B) : OwnS w B' v L := by
  refine ⟨h.1, ?_⟩
  rcases h.2 with h0 | ⟨g, cap, cur, hv, hg, r⟩
  · exact .inl h0
  · exact .inr ⟨g, cap, cur, hv, Nat.le_trans hb hg, r⟩
theorem OwnS.nil (w : World) (B : Nat) : OwnS w B (.slice none 0 0) [] := World.ownsRow_nil _ _ _ _
theorem OwnS.frm {S : Nat → Prop} {w w' : World} {B : Nat} {v : Value} {L : List ByteArray} (h : OwnS w B v L) (hf : Frm S w w') (hs : ∀ k, v.ownBlock = some k → ¬ S k) : OwnS w' B v L := by
  refine ⟨h.1, ?_⟩
  rcases h.2 with h0 | ⟨g, cap, cur, hv, hb, hg, r⟩
  · exact .inl h0
  · refine .inr ⟨g, cap, cur, hv, hb, ?_, r⟩
    rw [hf.block g (Array.getElem?_eq_some_iff.1 hg).1 (hs g (by rw [hv]; rfl))]
    exact hg

theorem cell_lt {w : World} {p : Addr} {v : Value} (h : w.cell? p = some v) : p.block < w.heap.size := World.block_lt_of_cell? w _ h
theorem cell_move {w w' : World} {p : Addr} {v : Value} (h : w.cell? p = some v) (hf : Frm No w w') : w'.cell? p = some v := by
  have hl := cell_lt h
  simp only [World.cell?] at h ⊢
  rw [hf.block p.block hl (fun h => h)]
  exact h
theorem RdS.move {w w' : World} {v : Value} {L : List ByteArray} (h : RdS w v L) (hf : Frm No w w') : RdS w' v L := by
  obtain ⟨p, c, rfl, h⟩ := h
  refine ⟨p, c, rfl, ?_⟩
  rcases h with h | ⟨g, o, hp, h⟩
  · exact .inl h
  · exact .inr ⟨g, o, hp, fun k x hx => cell_move (h k x hx) hf⟩

theorem take_get {la lb : List ByteArray} {k : Nat} {x y : ByteArray} (h : la.take k = lb.take k) (hx : la[k]? = some x) (hy : lb[k]? = some y) (e : x = y) : la.take (k + 1) = lb.take (k + 1) := by
  rw [List.take_add_one, List.take_add_one, h, hx, hy, e]

theorem str_ne {x y : ByteArray} (h : x = y) : (!(x.toList == y.toList)) = false := by subst h; simp
theorem str_ne' {x y : ByteArray} (h : x ≠ y) : (!(x.toList == y.toList)) = true := by
  rw [Bool.not_eq_true', beq_eq_false_iff_ne]
  intro e
  rw [Lib.toList_data, Lib.toList_data] at e
  exact h (ByteArray.ext (Array.toList_inj.1 e))

set_option maxHeartbeats 1000000 in
theorem same_all (la lb : List ByteArray) (va vb : Value) (w : World) (ha : RdS w va la) (hb : RdS w vb lb) (hl : la.length ≤ 1000000) (hl2 : lb.length ≤ 140737488355328) :
    Calls Tryz.prog 10 #[va, vb] w fun e w' => e = .returned (.bool (decide (la = lb))) ∧ Frm No w w' := by
  obtain ⟨pa, ca, rfl, ha⟩ := ha
  obtain ⟨pb, cb, rfl, hb⟩ := hb
  by_cases hlen : la.length = lb.length
  · have HA := Lib.hid ha
    have HB := Lib.hid hb
    clear ha hb
    obtain ⟨n, hn⟩ : ∃ n, la.length = n := ⟨_, rfl⟩
    have hn2 : lb.length = n := by omega
    have HN := Lib.hid hn
    have HN2 := Lib.hid hn2
    rw [hn, hn2]
    have hln : n ≤ 1000000 := by omega
    clear hn hn2 hlen hl hl2
    go_enter Tryz.func10, Tryz.ntmps10
    go_wp2
    go_loopw [5] (fun iv wr => ∃ k : Nat, k ≤ n ∧ iv = .int .i64 k ∧ la.take k = lb.take k ∧ Frm No w wr) (fun iv _ => n - (intOf iv).toNat)
    case atStart => exact ⟨0, Nat.zero_le _, rfl, by simp, Frm.refl _ _⟩
    case round =>
      obtain ⟨k, hk, rfl, htk, hf⟩ := hrel
      have HT := Lib.hid htk
      have HF := Lib.hid hf
      clear htk hf
      by_cases hlt : k < n
      · obtain ⟨x, hx⟩ : ∃ x, la[k]? = some x := ⟨_, List.getElem?_eq_getElem (by rw [HN.out]; exact hlt)⟩
        obtain ⟨y, hy⟩ : ∃ y, lb[k]? = some y := ⟨_, List.getElem?_eq_getElem (by rw [HN2.out]; exact hlt)⟩
        obtain ⟨ga, oa, rfl, hta⟩ : ∃ g o, pa = some ⟨g, o, none⟩ ∧ ∀ k x, la[k]? = some x → w.cell? ⟨g, o + k, none⟩ = some (.string x) := by
          rcases HA.out with h | h
          · subst h; cases hx
          · exact h
        obtain ⟨gb, ob, rfl, htb⟩ : ∃ g o, pb = some ⟨g, o, none⟩ ∧ ∀ k x, lb[k]? = some x → w.cell? ⟨g, o + k, none⟩ = some (.string x) := by
          rcases HB.out with h | h
          · subst h; cases hy
          · exact h
        have x0 := cell_move (hta k x hx) HF.out
        have y0 := cell_move (htb k y hy) HF.out
        have hk0 : (0 : Int) ≤ (k : Int) := by omega
        have hk1 : (k : Int) < (n : Int) := by omega
        clear hta htb
        by_cases hxy : x = y
        · have HX := Lib.hid (take_get HT.out hx hy hxy)
          have hcmp := str_ne hxy
          clear hx hy hxy
          go_wp2
          go_quiet (fail)
          go_wp2
          go_roundw
          case rel => exact ⟨k + 1, by omega, by go_num, HX.out, (HF.out.drewN _)⟩
          case measure => simp [intOf]; omega
        · have HR := Lib.hid (show decide (la = lb) = false by
            simp only [decide_eq_false_iff_not]
            intro e
            subst e
            rw [hx] at hy
            exact hxy (Option.some.inj hy))
          have hcmp := str_ne' hxy
          clear hx hy hxy
          go_wp2
          go_quiet (fail)
          go_wp2
          go_ret
          exact ⟨ret_bool HR.out.symm, HF.out.drewN _⟩
      · have HR := Lib.hid (show decide (la = lb) = true by
          simp only [decide_eq_true_eq]
          have hkn : k = n := by omega
          have := HT.out
          rw [List.take_of_length_le (by rw [HN.out]; omega), List.take_of_length_le (by rw [HN2.out]; omega)] at this
          exact this)
        go_wp2
        go_ret
        exact ⟨ret_bool HR.out.symm, HF.out⟩
  · have HR := Lib.hid (show decide (la = lb) = false by
      simp only [decide_eq_false_iff_not]
      intro e
      exact hlen (by rw [e]))
    have hne : ¬ ((la.length : Int) = (lb.length : Int)) := by omega
    clear ha hb
    go_enter Tryz.func10, Tryz.ntmps10
    go_wp2
    go_ret
    exact ⟨ret_bool HR.out.symm, Frm.refl _ _⟩

theorem clone_c (s : ByteArray) (w : World) (hs : s.size ≤ 140737488355328) :
    Calls Tryz.prog 21 #[.string s] w fun e w' => e = .returned (.string s) ∧ Below w.heap.size w w' := by
  have HC := Lib.hid (Tryz.stringslite_Clone s w (by omega))
  clear hs
  go_enter Tryz.func21, Tryz.ntmps21
  go_wp2_with (go_at_call 33; go_must (refine HC.out.mono ?_; rintro e w1 ⟨rfl, hb1⟩))
  go_ret
  exact ⟨rfl, hb1⟩

theorem blank_pays (w : World) : PredAtRunes Tryz.prog 31 #[] pB w := by
  intro W x hx hb
  show Calls Tryz.prog 31 #[.int .i32 (x : Int)] W _
  have HP : pB x = (((x : Int) == 32) || ((x : Int) == 9) || ((x : Int) == 10)) := by
    unfold pB
    rw [Bool.eq_iff_iff]
    simp only [Bool.or_eq_true, beq_iff_eq]
    omega
  rw [HP]
  have hx0 : (0 : Int) ≤ (x : Int) := by omega
  have hx1 : (x : Int) ≤ 1114111 := by omega
  generalize (x : Int) = n at *
  clear hb HP hx
  go_enter Tryz.func31, Tryz.ntmps31
  go_wp2
  all_goals
    go_ret
    refine ⟨ret_bool ?_, 0, rfl⟩
    simp_all

set_option maxHeartbeats 1000000 in
/-- parted at a blank. -/
theorem parted_blank (s : ByteArray) (lines : Bool) (w : World) (hs : s.size ≤ 1000000) :
    Calls Tryz.prog 20 #[.string s, .string ⟨#[32]⟩, .bool lines] w fun e w' => ∃ v, e = .returned (.tuple #[v, .bool true]) ∧ OwnS w' w.heap.size v (Lib.goFieldsP pB s) ∧ Below w.heap.size w w' := by
  by_cases h0 : s.size = 0
  · obtain rfl : s = ⟨#[]⟩ := by
      apply ByteArray.ext
      exact Array.eq_empty_of_size_eq_zero h0
    go_enter Tryz.func20, Tryz.ntmps20
    go_wp2
    go_ret2
    exact ⟨_, rfl, OwnS.nil _ _, Below.refl _ _⟩
  · have hne : (s.toList == []) = false := by
      rw [beq_eq_false_iff_ne]
      intro e
      rw [Lib.toList_data] at e
      exact h0 (by have := congrArg List.length e; simpa using this)
    have HF := Lib.hid (Tryz.strings_FieldsFunc_runes 31 #[] (enters_of Tryz.func31 (by kernel_rfl) rfl) pB s w (by omega) (blank_pays w))
    clear h0 hs
    go_enter Tryz.func20, Tryz.ntmps20
    go_wp2_with (go_at_call 30; go_must (refine HF.out.mono ?_; rintro e w1 ⟨A, rfl, hA, hown, hb1⟩))
    go_ret2
    exact ⟨_, rfl, hown, hb1⟩

/-- Split at a blank: the document's runs. -/
theorem split_blank (s : ByteArray) (lines : Bool) (w : World) (hs : s.size ≤ 1000000) :
    Calls Tryz.prog 8 #[.string s, .string ⟨#[32]⟩, .bool lines] w fun e w' => ∃ v, e = .returned (.tuple #[v, .bool true]) ∧ OwnS w' w.heap.size v (Lib.goFieldsP pB s) ∧ Below w.heap.size w w' := by
  have HC := Lib.hid (clone_c s w (by omega))
  have HP := Lib.hid (fun w1 => parted_blank s lines w1 hs)
  clear hs
  go_enter Tryz.func8, Tryz.ntmps8
  go_wp2_with (first | (go_at_call 21; go_must (refine HC.out.mono ?_; rintro e w1 ⟨rfl, hb1⟩; have hz1 := hb1.size)) | (go_at_call 20; go_must (refine (HP.out _).mono ?_; rintro e w2 ⟨v, rfl, hown, hb2⟩)))
  go_ret2
  exact ⟨v, rfl, hown.mono hz1, hb1.trans (hb2.mono hz1)⟩

end Go.Proofs.YthkdbklphdpkcaaGreat.flds
