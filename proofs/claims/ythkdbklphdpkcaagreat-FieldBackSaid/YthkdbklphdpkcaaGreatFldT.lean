/- Contracts of a record's Set and SetNF, and of New where the separator is a blank. -/
import Derived.Test.YthkdbklphdpkcaaGreatFldR
namespace Go.Proofs.YthkdbklphdpkcaaGreat.flds
set_option linter.unusedVariables false set_option linter.unusedSimpArgs false
open Go.ChangeShapes Go.WideShapes Go.ChangeAt Go.RowKit Go.Proofs.YthkdbklphdpkcaaGreat.base Go.Proofs.YthkdbklphdpkcaaGreat.fldp

theorem wrap_small (n : Nat) (h : n ≤ 100000) : IntKind.i64.wrap (n : Int) = (n : Int) := by
  rw [IntKind.wrap_i64]
  have h2 : wrap64 (n : Int) = (n : Int) := IntWalk.wrap64_in _ ⟨by omega, by omega⟩
  unfold wrap64 at h2
  omega

theorem resz_len (L : List ByteArray) (n : Nat) : (resz L n).length = n := by
  unfold resz
  rw [List.length_append, List.length_take, List.length_replicate]
  omega

/-- The fields behind Set. -/
def setL (L : List ByteArray) (i : Nat) (s : ByteArray) : List ByteArray := (resz L (max i L.length)).set (i - 1) s
theorem setL_len (L : List ByteArray) (i : Nat) (s : ByteArray) : (setL L i s).length = max i L.length := by
  unfold setL
  rw [List.length_set, resz_len]

/-- What Set and SetNF may write: the record's blocks, and new ones. -/
def After (w w' : World) (B R : Nat) (v : Value) (line : ByteArray) (L : List ByteArray) : Prop :=
  ∃ v', RecV w' B R v' line L ∧ Frm (At2v R v) w w' ∧ (∀ k, v'.ownBlock = some k → v.ownBlock = some k ∨ w.heap.size ≤ k)

theorem RecV.store {w : World} {B R : Nat} {g m c j : Nat} {line : ByteArray} {L : List ByteArray} (h : RecV w B R (.slice (some ⟨g, 0, none⟩) m c) line L) (hm : m = L.length) (s : ByteArray) :
    RecV (w.setCell ⟨g, j, none⟩ (.string s)) B R (.slice (some ⟨g, 0, none⟩) m c) line (L.set j s) := by
  subst hm
  have hne : g ≠ R := fun e => h.apart (by subst e; rfl)
  refine ⟨h.1.set_ne _ hne, ?_, h.2.2⟩
  have := (World.ownsRow.stored h.2.1 j (.string s)).1
  unfold OwnS
  rw [List.length_set, List.map_set]
  exact this

set_option maxHeartbeats 2000000 in
set_option maxRecDepth 20000 in
theorem setnf_all (w : World) (B R : Nat) (v : Value) (line : ByteArray) (L : List ByteArray) (h : RecV w B R v line L) (n : Int) (hn : -9223372036854775808 ≤ n) (hn2 : n ≤ 9223372036854775807) (sep : ByteArray) (hL : L.length ≤ 100000)
    (hl : mayH n L.length = true → (joinL (resz L n.toNat) sep).size ≤ 140737488355328) :
    Calls Tryz.prog 16 #[.pointer (some ⟨R, 0, none⟩), .int .i64 n, .string sep] w fun e w' => e = .returned (.bool (mayH n L.length)) ∧
      (if mayH n L.length then After w w' B R v (joinL (resz L n.toNat) sep) (resz L n.toNat) else w' = w) := by
  have HM := Lib.hid (mayHave_all w B R v line L h n hn hn2)
  cases hm : mayH n L.length
  · rw [hm] at HM
    simp only [Bool.false_eq_true, if_false]
    clear h hl hm
    go_enter Tryz.func16, Tryz.ntmps16
    go_wp2_with (go_at_call 24; go_must (refine HM.out.mono ?_; rintro e w1 ⟨rfl, rfl⟩))
    go_ret
    exact ⟨rfl, rfl⟩
  · rw [hm] at HM
    simp only [if_true]
    have hm' := hm
    unfold mayH at hm'
    simp only [decide_eq_true_eq] at hm'
    obtain ⟨k, rfl⟩ : ∃ k : Nat, n = (k : Int) := ⟨n.toNat, by omega⟩
    simp only [Int.toNat_natCast] at hl ⊢
    have hk : k ≤ 100000 := by omega
    have HR := Lib.hid (resize_all w B R v line L h k (by omega) (by omega))
    have HJ := Lib.hid (fun w1 v1 (h1 : RecV w1 B R v1 line (resz L k)) => join_all w1 B R v1 line (resz L k) h1 sep (by rw [resz_len]; omega) (hl hm))
    obtain ⟨J, hJ⟩ : ∃ J, joinL (resz L k) sep = J := ⟨_, rfl⟩
    rw [hJ] at HJ ⊢
    clear h hl hm hm' hn hn2 hJ
    go_enter Tryz.func16, Tryz.ntmps16
    go_wp2_with (first | (go_at_call 24; go_must (refine HM.out.mono ?_; rintro e w1 ⟨rfl, rfl⟩)) | (go_at_call 25; go_must (refine HR.out.mono ?_; rintro e w2 ⟨rfl, v2, hr2, hf2, hb2⟩; have HR2 := Lib.hid hr2; have HF2 := Lib.hid hf2; have HB2 := Lib.hid hb2; clear hr2 hf2 hb2)) | (go_at_call 26; go_must (refine (HJ.out _ _ HR2.out).mono ?_; rintro e w3 ⟨rfl, hr3, hf3⟩)))
    go_ret
    exact ⟨rfl, v2, hr3, HF2.out.then hf3 (fun k hk e => .inl e), HB2.out⟩

/-- May the ith field be set? -/
def maySet (i : Int) (k : Nat) : Bool := decide (1 ≤ i ∧ i ≤ max 1000 (k : Int))

set_option maxHeartbeats 4000000 in
set_option maxRecDepth 20000 in
theorem set_all (w : World) (B R : Nat) (v : Value) (line : ByteArray) (L : List ByteArray) (h : RecV w B R v line L) (i : Int) (hn : -9223372036854775808 ≤ i) (hn2 : i ≤ 9223372036854775807) (s sep : ByteArray) (hL : L.length ≤ 100000)
    (hs : s.size ≤ 140737488355328) (hl : maySet i L.length = true → (joinL (setL L i.toNat s) sep).size ≤ 140737488355328) :
    Calls Tryz.prog 14 #[.pointer (some ⟨R, 0, none⟩), .int .i64 i, .string s, .string sep] w fun e w' => e = .returned (.bool (maySet i L.length)) ∧
      (if maySet i L.length then After w w' B R v (joinL (setL L i.toNat s) sep) (setL L i.toNat s) else w' = w) := by
  by_cases h0 : i = 0
  · subst h0
    have hm : maySet 0 L.length = false := by unfold maySet; simp
    rw [hm]
    simp only [Bool.false_eq_true, if_false]
    clear h hl hm hs
    go_enter Tryz.func14, Tryz.ntmps14
    go_wp2
    go_ret
    exact ⟨rfl, rfl⟩
  · have hms : maySet i L.length = mayH i L.length := by unfold maySet mayH; rw [decide_eq_decide]; omega
    rw [hms] at hl ⊢
    have HM := Lib.hid (mayHave_all w B R v line L h i hn hn2)
    have h0b : (i == 0) = false := by simpa using h0
    cases hm : mayH i L.length
    · rw [hm] at HM
      simp only [Bool.false_eq_true, if_false]
      clear h hl hm hs hms
      go_enter Tryz.func14, Tryz.ntmps14
      go_wp2_with (go_at_call 24; go_must (refine HM.out.mono ?_; rintro e w1 ⟨rfl, rfl⟩))
      go_ret
      exact ⟨rfl, rfl⟩
    · rw [hm] at HM
      simp only [if_true]
      have hm' := hm
      unfold mayH at hm'
      simp only [decide_eq_true_eq] at hm'
      obtain ⟨j, rfl⟩ : ∃ j : Nat, i = (j : Int) + 1 := ⟨i.toNat - 1, by omega⟩
      have hj : j ≤ 100000 := by omega
      have hjt : ((j : Int) + 1).toNat = j + 1 := by omega
      rw [hjt] at hl ⊢
      obtain ⟨n, hn'⟩ : ∃ n : Nat, max (j + 1) L.length = n := ⟨_, rfl⟩
      have hnI : max ((j : Int) + 1) (L.length : Int) = (n : Int) := by omega
      have hjn : (j : Int) < (n : Int) := by omega
      have hn5 : n ≤ 100001 := by omega
      have HR := Lib.hid (resize_all w B R v line L h n (by omega) (by omega))
      have HC := Lib.hid (fun w1 => clone_c s w1 hs)
      have HS := Lib.hid (show setL L (j + 1) s = (resz L n).set j s by unfold setL; rw [hn']; rfl)
      have HJ := Lib.hid (fun w1 v1 (h1 : RecV w1 B R v1 line ((resz L n).set j s)) => join_all w1 B R v1 line ((resz L n).set j s) h1 sep (by rw [List.length_set, resz_len]; omega) (by rw [← HS.out]; exact hl hm))
      rw [HS.out]
      obtain ⟨J, hJ⟩ : ∃ J, joinL ((resz L n).set j s) sep = J := ⟨_, rfl⟩
      rw [hJ] at HJ ⊢
      obtain ⟨a, c, hv⟩ := h.2.1.form
      subst hv
      have c1 := h.1.cell 1
      clear h hl hm hm' hn hn2 hJ hs hms h0 hL HS hjt
      go_enter Tryz.func14, Tryz.ntmps14
      go_wp2_with (first | (go_at_call 24; go_must (refine HM.out.mono ?_; rintro e w1 ⟨rfl, rfl⟩)) | (go_at_call 25; go_must (refine HR.out.mono ?_; rintro e w2 ⟨rfl, v2, hr2, hf2, hb2⟩; have HR2 := Lib.hid hr2; have HF2 := Lib.hid hf2; have HB2 := Lib.hid hb2; clear hr2 hf2 hb2)))
      obtain ⟨a2, c2, hv2⟩ := HR2.out.2.1.form
      rw [resz_len] at hv2
      subst hv2
      rcases HR2.out.2.1.cap with ⟨ha, hl2, hc2⟩ | ⟨g, ha, hc2, hg⟩
      · exfalso
        have := congrArg List.length hl2
        rw [resz_len] at this
        simp at this
        omega
      subst ha
      have d1 := HR2.out.1.cell 1
      have hRl := HR2.out.1.lt
      have hj0 : (0 : Int) ≤ (j : Int) := by omega
      have hln : (resz L n).length = n := resz_len L n
      have hgx : ∃ x, w2.cell? ⟨g, j, none⟩ = some (.string x) := ⟨_, by
        have := World.ownsRow.cells HR2.out.2.1 (g := g) rfl j (.string ((resz L n)[j]'(by omega))) (by rw [List.getElem?_map, List.getElem?_eq_getElem (by omega)]; rfl)
        rw [Addr.add_lit, Nat.zero_add] at this
        exact this⟩
      obtain ⟨x, hgx⟩ := hgx
      have HGX := Lib.hid hgx
      clear hgx
      have HSW := Lib.hid (show ∀ w3, Frm No w2 w3 → RecV (w3.setCell ⟨g, j, none⟩ (.string s)) B R (.slice (some ⟨g, 0, none⟩) n c2) line ((resz L n).set j s) from fun w3 hf => by
        exact (HR2.out.frm hf (fun _ _ h => h)).store hln.symm s)
      have hwr : IntKind.i64.wrap (j : Int) = (j : Int) := wrap_small j hj
      clear hln hc2
      have HT := Lib.hid (show ∀ w3, Below w2.drew.heap.size w2.drew w3 → Frm No w2 w3 ∧ w3.cell? ⟨R, 1, none⟩ = some (.slice (some ⟨g, 0, none⟩) n c2) ∧ w3.cell? ⟨g, j, none⟩ = some (.string x) ∧ w3.frozen? ⟨g, j, none⟩ = false from fun w3 hb3 => by
        have hf3 : Frm No w2 w3 := ((Frm.refl No w2).drew).trans (Frm.ofBelow hb3 (Nat.le_refl _))
        refine ⟨hf3, (HR2.out.1.frm hf3 (fun h => h)).cell 1, cell_move HGX.out hf3, ?_⟩
        have h3 := (HR2.out.2.1.frm hf3 (fun _ _ h => h))
        unfold OwnS at h3
        rw [resz_len] at h3
        exact World.ownsRow.frozenAt h3 j)
      go_region_law (first | (go_simp; refine (HC.out _).mono ?_; rintro e w3 ⟨rfl, hb3⟩; dsimp only; obtain ⟨hf3, e1, g1, f1⟩ := HT.out _ hb3; have HF3 := Lib.hid hf3; clear hf3 hb3))
      all_goals
        have HR4 := Lib.hid (HSW.out _ HF3.out)
        have HF4 := Lib.hid (show Frm (At g) w3 (w3.setCell ⟨g, j, none⟩ (.string s)) from (Frm.refl _ w3).setCell _ _ (fun _ => rfl))
        clear e1 g1 f1
        generalize w3.setCell ⟨g, j, none⟩ (.string s) = w4 at HR4 HF4 ⊢
        go_wp2_with ((go_at_call 26; go_must (refine (HJ.out _ _ HR4.out).mono ?_; rintro e w5 ⟨rfl, hr5, hf5⟩)))
        go_ret
        refine ⟨rfl, _, hr5, ((HF2.out.then HF3.out (fun k hk e => e.elim)).then HF4.out (fun k hk e => ?_)).then hf5 (fun k hk e => .inl e), HB2.out⟩
        have e : k = g := e
        subst e
        rcases HB2.out k rfl with h | h
        · exact .inr h
        · omega

end Go.Proofs.YthkdbklphdpkcaaGreat.flds
