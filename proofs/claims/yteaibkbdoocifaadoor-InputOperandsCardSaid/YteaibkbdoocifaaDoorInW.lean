/- Contracts of a strings.Builder of its own. -/
import Derived.Test.YteaibkbdoocifaaDoorShelf
import Derived.Test.YteaibkbdoocifaaDoorFrm
import Derived.Lib.Builder
import Derived.Lib.UnsafeStr
import Derived.Shelf.RegionOpenPlain
import Derived.Deep.RegionWith
namespace Go.Proofs.YteaibkbdoocifaaDoor.wrd
set_option linter.unusedVariables false set_option linter.unusedSimpArgs false
open Go.ChangeShapes Go.WideShapes Go.ChangeAt Go.RowKit Go.Proofs.YteaibkbdoocifaaDoor.base

/-- The writer in block b: what it has written, and how much it may hold. -/
def WR (B b : Nat) (l : List UInt8) (w : World) : Prop :=
  B ≤ b ∧ ∃ p v, (p = .pointer none ∨ p = .pointer (some ⟨b, 0, none⟩)) ∧ Box w b 51 #[p, v] ∧ OwnB w B 5 v l ∧ v.ownBlock ≠ some b
theorem WR.lt {B b : Nat} {l : List UInt8} {w : World} (h : WR B b l w) : b < w.heap.size := by
  obtain ⟨_, p, v, _, h, _⟩ := h
  exact h.lt
theorem WR.frm {B b : Nat} {l : List UInt8} {w w' : World} (h : WR B b l w) (k : Frm No w w') : WR B b l w' := by
  obtain ⟨h0, p, v, h1, h2, h3, h4⟩ := h
  exact ⟨h0, p, v, h1, h2.frm k id, h3.below (k.below (Nat.le_refl _) (fun _ _ => id)), h4⟩
theorem WR.new (w : World) : WR w.heap.size w.heap.size [] (w.alloc (.cells #[.pointer none, .slice none 0 0] 51)) :=
  ⟨Nat.le_refl _, _, _, Or.inl rfl, Box.new _ _ _, OwnB.nil _ _ _, by intro h; cases h⟩

/-- What the writer may write: its block, and rows of bytes. -/
def SW (b : Nat) (w : World) : Nat → Prop := fun k => k = b ∨ ∃ C f, w.heap[k]? = some (.cells C 5 f)
/-- What a call of the writer's keeps. -/
structure Kb (B b : Nat) (w w' : World) : Prop where
  bel : Below B w w'
  frm : Frm (SW b w) w w'
theorem Kb.trans {B b : Nat} {w1 w2 w3 : World} (h : Kb B b w1 w2) (k : Kb B b w2 w3) : Kb B b w1 w3 := by
  refine ⟨h.bel.trans k.bel, h.frm.then k.frm (fun i hi hs => ?_)⟩
  rcases hs with e | ⟨C, f, e⟩
  · exact .inl e
  · by_cases hc : SW b w1 i
    · exact hc
    · rw [h.frm.block i hi hc] at e
      exact .inr ⟨C, f, e⟩
theorem Kb.of {B b : Nat} {w w' : World} (h : Frm No w w') (hB : B ≤ w.heap.size) : Kb B b w w' := ⟨h.below hB (fun _ _ => id), h.mono (fun _ _ e => e.elim)⟩
theorem Kb.at {B b : Nat} {w w' : World} (h : Frm (At b) w w') (hB : B ≤ w.heap.size) (hb : B ≤ b) : Kb B b w w' :=
  ⟨h.below hB (fun k hk e => by have e2 : k = b := e; omega), h.mono (fun _ _ e => .inl e)⟩
theorem Kb.grown {B b : Nat} {w w' : World} {v : Value} {l : List UInt8} (h : OwnB w B 5 v l) (hg : w.grownBy w' v.ownBlock) (hB : B ≤ w.heap.size) : Kb B b w w' := by
  refine ⟨(Below.refl B w).grown hg hB (fun q hq => ((World.ownsRow.lt h) q hq).1), hg.os, hg.tape, hg.output, hg.size, fun k hk hn => hg.block k hk (fun e => hn ?_)⟩
  rcases h.2 with ⟨rfl, _⟩ | ⟨g, cap, cur, rfl, _, hh, _⟩
  · cases e
  · obtain rfl : g = k := by injection e.symm
    exact .inr ⟨_, _, hh⟩

theorem bld_size : (Tryd.prog.info? 51).map (·.size) = some 2 := by kernel_rfl
theorem bld_lies : liesAt Tryd.prog Tryd.prog.depth 51 (2 / Tryd.prog.cellsOf 51) 0 51 1 = true := by kernel_rfl
theorem byte_info : (Tryd.prog.info? 5).map (fun i => (i.zero, i.size, i.bytes)) = some (some (.int .u8 0), 1, 1) := by kernel_rfl
theorem byte_cells : Tryd.prog.cellsOf 5 = 1 := by kernel_rfl

set_option maxHeartbeats 1000000 in
set_option maxRecDepth 100000 in
/-- copyCheck: the builder knows itself. -/
theorem check_all (w : World) (b : Nat) (p v : Value) (h : Box w b 51 #[p, v]) (hp : p = .pointer none ∨ p = .pointer (some ⟨b, 0, none⟩)) :
    Calls Tryd.prog 51 #[.pointer (some ⟨b, 0, none⟩)] w fun e w' => e = .returned (.tuple #[]) ∧ Box w' b 51 #[.pointer (some ⟨b, 0, none⟩), v] ∧ Frm (At b) w w' := by
  obtain ⟨j, hj, hjs⟩ := Option.map_eq_some_iff.1 bld_size
  have h0 : w.cell? ⟨b, 0, none⟩ = some p := h.cell 0
  have hf : w.frozen? ⟨b, 0, none⟩ = false := h.f 0
  rcases hp with rfl | rfl
  · have hsh : w.shape? b = some (51, 2) := by simp [World.shape?, show w.heap[b]? = _ from h]
    have hst := Lib.hid (h.set 0 (.pointer (some ⟨b, 0, none⟩)))
    clear h
    go_enter Tryd.func51, Tryd.ntmps51
    go_wp2
    rw [Lib.run_to_unsafe w ⟨b, 0, none⟩ Tryd.underlying49 Tryd.underlying75 hj (by rw [hjs]; decide) hsh (Nat.zero_lt_succ 1)]
    simp only [Result.andThen]
    rw [Oper.upon_value]
    go_wp2
    rw [run_callFunc_extern Tryd.func63 (by kernel_rfl) (by kernel_rfl) (by kernel_rfl) (e := Extern.AbiNoEscape.same) (by kernel_rfl)]
    rw [Lib.run_noEscape]
    simp only [Result.andThen]
    rw [Oper.upon_value]
    go_wp2
    rw [Lib.run_from_unsafe w ⟨b, 0, none⟩ Tryd.underlying75 Tryd.underlying49 hj hsh bld_lies]
    simp only [Result.andThen]
    rw [Oper.upon_value]
    go_wp2
    go_end0
    exact ⟨rfl, hst.out, (Frm.refl _ w).setCell _ _ (fun _ => rfl)⟩
  · go_enter Tryd.func51, Tryd.ntmps51
    go_wp2
    rw [Lib.run_neq_ptr_same w _ Tryd.underlying49 hj]
    go_wp2
    go_end0
    exact ⟨rfl, h, Frm.refl _ _⟩

set_option maxHeartbeats 2000000 in
set_option maxRecDepth 100000 in
/-- WriteString. -/
theorem writes_all (w : World) (B b : Nat) (l : List UInt8) (h : WR B b l w) (s : ByteArray) (news : List UInt8) (hs : s.data.toList = news) (hl : l.length + news.length ≤ 140737488355328) (hB : B ≤ w.heap.size) :
    Calls Tryd.prog 29 #[.pointer (some ⟨b, 0, none⟩), .string s] w fun e w' => e = .returned (.tuple #[.int .i64 (s.size : Int), .nilIface]) ∧ WR B b (l ++ news) w' ∧ Kb B b w w' := by
  obtain ⟨h0, p, v, h1, h2, h3, h4⟩ := h
  have HC := Lib.hid (check_all w b p v h2 h1)
  have H3 := Lib.hid (fun (w1 : World) (hf : Frm (At b) w w1) => show OwnB w1 B 5 v l from ⟨h3.1, h3.2.elim Or.inl (fun ⟨g, cap, cur, hv, hg, hh, r⟩ => Or.inr ⟨g, cap, cur, hv, hg, (hf.block g (Array.getElem?_eq_some_iff.1 hh).1 (by rintro rfl; exact h4 (by rw [hv]; rfl))).trans hh, r⟩)⟩)
  clear h2 h1 h3
  have HS := Lib.hid hs
  have HL := Lib.hid hl
  clear hs hl
  go_enter Tryd.func29, Tryd.ntmps29
  go_wp2_with (go_at_call 51; refine HC.out.mono ?_)
  rintro e w1 ⟨rfl, hb1, hf1⟩
  have hown := H3.out w1 hf1
  have c0 : w1.cell? ⟨b, 0, none⟩ = some (.pointer (some ⟨b, 0, none⟩)) := hb1.cell 0
  have c1 : w1.cell? ⟨b, 1, none⟩ = some v := hb1.cell 1
  have hB1 : B ≤ w1.heap.size := Nat.le_trans hB hf1.size
  obtain ⟨i0, hi, hz0, hz1, hz2⟩ := info_parts byte_info
  have hsz : news.length = s.size := by rw [← HS.out]; simp
  go_wp2_with (at_builtin; refine Lib.wpList_append_own_string w1 rfl _ _ 30 9 rfl B 5 i0 Tryd.underlying30 Tryd.underlying9 hi hz0 hz1 hz2 v _ _ rfl hown s rfl (by have := HL.out; unfold maxLen; omega) (by have := HL.out; omega) hB1 ?_)
  intro v' w2 hown' hg _
  have hbw : Box w2 b 51 #[.pointer (some ⟨b, 0, none⟩), v] := (hg.block b hb1.lt (fun e => h4 e.symm)).trans hb1
  have hown2 : OwnB w2 B 5 v' (l ++ news) := by
    unfold OwnB
    rw [List.length_append, List.map_append, hsz, ← HS.out]
    exact hown'
  have hF := Lib.hid ((Kb.at (B := B) hf1 hB h0).trans (Kb.grown hown hg hB1))
  have hB2 : B ≤ w2.heap.size := Nat.le_trans hB1 hg.size
  have hst := Lib.hid (hbw.set 1 v')
  have hkeep := Lib.hid (hF.out.trans (Kb.at (B := B) ((Frm.refl (At b) w2).setCell ⟨b, 1, none⟩ v' (fun _ => rfl)) hB2 h0))
  have hfin : WR B b (l ++ news) (w2.setCell ⟨b, 1, none⟩ v') := by
    refine ⟨h0, _, v', Or.inr rfl, hst.out, ?_, ?_⟩
    · refine ⟨hown2.1, hown2.2.elim Or.inl (fun ⟨g, cap, cur, hv, hgB, hh, r⟩ => Or.inr ⟨g, cap, cur, hv, hgB, ?_, r⟩)⟩
      refine (Below.heap_setCell w2 ⟨b, 1, none⟩ v' g ?_).trans hh
      rintro rfl
      rw [show w2.heap[g]? = _ from hbw] at hh
      injection hh with hh
      injection hh with _ ht _
      exact absurd ht (by decide)
    · intro e
      rcases hown2.2 with ⟨rfl, _⟩ | ⟨g, cap, cur, rfl, hgB, hh, _⟩
      · cases e
      · obtain rfl : g = b := by injection e
        rw [show w2.heap[g]? = _ from hbw] at hh
        injection hh with hh
        injection hh with _ ht _
        exact absurd ht (by decide)
  have hfin' := Lib.hid hfin
  have d0 : w2.cell? ⟨b, 0, none⟩ = some (.pointer (some ⟨b, 0, none⟩)) := hbw.cell 0
  have f1 : w2.frozen? ⟨b, 1, none⟩ = false := hbw.f 1
  have d1 : w2.cell? ⟨b, 1, none⟩ = some v := hbw.cell 1
  obtain ⟨ao, n', cap, rfl⟩ : ∃ ao n' cap, v' = .slice ao n' cap := by
    rcases hown2.2 with ⟨hv, _⟩ | ⟨g, cap, cur, hv, _⟩
    · exact ⟨_, _, _, hv⟩
    · exact ⟨_, _, _, hv⟩
  clear hfin hown2 hown' hown hg hbw hb1 hf1
  go_wp2
  go_ret2
  exact ⟨rfl, hfin'.out, hkeep.out⟩

theorem kb_freeze {B b : Nat} {w w' : World} (h : Kb B b w w') {g : Nat} {C : Array Value} {f : Nat × Nat} (hB : B ≤ w'.heap.size) (hg : w'.heap[g]? = some (.cells C 5 f)) (hgB : B ≤ g) (n : Nat) : Kb B b w (w'.freeze ⟨g, 0, none⟩ n) := by
  refine h.trans ⟨Lib.below_freeze (Below.refl B w') (p := ⟨g, 0, none⟩) hgB n, ?_⟩
  unfold World.freeze
  split
  · exact Frm.refl _ _
  · exact ⟨rfl, rfl, rfl, by simp, fun k hk hn => by
      simp only [Array.getElem?_modify]
      rw [if_neg (fun e => hn (by subst e; exact .inr ⟨C, f, hg⟩))]⟩

set_option maxHeartbeats 2000000 in
set_option maxRecDepth 100000 in
/-- String. -/
theorem string_all (w : World) (B b : Nat) (l : List UInt8) (h : WR B b l w) (hB : B ≤ w.heap.size) :
    Calls Tryd.prog 30 #[.pointer (some ⟨b, 0, none⟩)] w fun e w' => e = .returned (.string ⟨l.toArray⟩) ∧ Kb B b w w' := by
  obtain ⟨h0, p, v, _, hb, hown, _⟩ := h
  have c1 : w.cell? ⟨b, 1, none⟩ = some v := hb.cell 1
  have c1d : w.drew.cell? ⟨b, 1, none⟩ = some v := hb.cell 1
  have mixed : Tryd.prog.follows .mixedOrders = true := by kernel_rfl
  have hUS0 : ∀ (W : World) (q : Option Addr), (Builtin.unsafeString_ #[69, 3] 9 #[.pointer q, .int .i64 0]).run Tryd.prog W = .ok (.string .empty) W := fun W q => Lib.run_unsafeString_none W _ _ _ q
  rcases hown.2 with ⟨rfl, hl0⟩ | ⟨g, cap, cur, rfl, hgB, hg, hnc, hcm, hcs, htk⟩
  · obtain rfl : l = [] := List.eq_nil_of_length_eq_zero hl0
    have hSD : (Builtin.unsafeSliceData_ #[30] 69 #[.slice none 0 0]).run Tryd.prog w.drew = .ok (.pointer none) w.drew := rfl
    clear hown hb
    go_enter Tryd.func30, Tryd.ntmps30
    go_wp2
    go_region_o
    all_goals (go_wp2; go_ret; exact ⟨rfl, Kb.of (Frm.refl No w).drew hB⟩)
  · have hg' : w.drew.heap[g]? = some (.cells cur 5 (0, 0)) := hg
    cases hl : l with
    | cons x r =>
      rw [← hl]
      have hSD : (Builtin.unsafeSliceData_ #[30] 69 #[.slice (some ⟨g, 0, none⟩) l.length cap]).run Tryd.prog w.drew = .ok (.pointer (some ⟨g, 0, none⟩)) w.drew :=
        Lib.run_unsafeSliceData_row _ _ _ _ _ _ (by rw [hl] at hnc; simp at hnc; omega)
      have hUS : (Builtin.unsafeString_ #[69, 3] 9 #[.pointer (some ⟨g, 0, none⟩), .int .i64 (l.length : Int)]).run Tryd.prog w.drew = .ok (.string ⟨l.toArray⟩) (w.drew.freeze ⟨g, 0, none⟩ l.length) := by
        refine Lib.run_unsafeString_row w.drew 69 3 9 5 Tryd.underlying69 byte_cells g cur.size (by simp [World.shape?, hg']) l (by rw [hl]; simp) (by omega) (by unfold maxLen at hcm; omega) ?_
        intro j y hy
        exact World.ownsRow.cells hown (g := g) rfl j (bV y) (by simp [hy])
      clear hown hb hl
      go_enter Tryd.func30, Tryd.ntmps30
      go_wp2
      go_region_o
      all_goals (go_wp2; go_ret; exact ⟨rfl, kb_freeze (Kb.of (Frm.refl No w).drew hB) hB hg' hgB _⟩)
    | nil =>
      subst hl
      by_cases hc0 : cap = 0
      · subst hc0
        have hSD : (Builtin.unsafeSliceData_ #[30] 69 #[.slice (some ⟨g, 0, none⟩) 0 0]).run Tryd.prog w.drew = .ok (.pointer (some ⟨w.drew.heap.size, 0, none⟩)) (w.drew.alloc (.view ⟨g, 0, none⟩ 5)) :=
          Lib.run_unsafeSliceData_zero w.drew _ _ 5 Tryd.underlying69 ⟨g, 0, none⟩ 0 (5, cur.size) (by simp [World.shape?, hg'])
        have c2 : (w.drew.alloc (.view ⟨g, 0, none⟩ 5)).cell? ⟨b, 1, none⟩ = some (.slice (some ⟨g, 0, none⟩) 0 0) := by
          exact ((hb.drew).alloc _).cell 1
        have c3 : (w.alloc (.view ⟨g, 0, none⟩ 5)).drew.cell? ⟨b, 1, none⟩ = some (.slice (some ⟨g, 0, none⟩) 0 0) := c2
        clear hown hb
        go_enter Tryd.func30, Tryd.ntmps30
        go_wp2
        go_region_o
        all_goals (go_wp2; go_ret; exact ⟨rfl, Kb.of ((Frm.refl No w).drew.alloc _) hB⟩)
      · have hSD : (Builtin.unsafeSliceData_ #[30] 69 #[.slice (some ⟨g, 0, none⟩) 0 cap]).run Tryd.prog w.drew = .ok (.pointer (some ⟨g, 0, none⟩)) w.drew :=
          Lib.run_unsafeSliceData_row _ _ _ _ _ _ hc0
        clear hown hb hc0
        go_enter Tryd.func30, Tryd.ntmps30
        go_wp2
        go_region_o
        all_goals (go_wp2; go_ret; exact ⟨rfl, Kb.of (Frm.refl No w).drew hB⟩)
end Go.Proofs.YteaibkbdoocifaaDoor.wrd
