/- Contracts of the writer: a strings.Builder at the head of a struct, and how much it may hold. -/
import Derived.Test.YtacbpdnpepgngaaSpc
import Derived.Test.YtacbpdnpepgngaaWdP
import Derived.Test.YtacbpdnpepgngaaShelf
import Derived.Lib.Builder
import Derived.Deep.RegionWith
namespace Go.Proofs.Ytacbpdnpepgngaa.wrd
set_option linter.unusedVariables false set_option linter.unusedSimpArgs false
open Go.ChangeShapes Go.WideShapes Go.ChangeAt Go.RowKit Go.Proofs.Ytacbpdnpepgngaa.base

end Go.Proofs.Ytacbpdnpepgngaa.wrd
namespace Go.Proofs.Ytacbpdnpepgngaa.base
open Go.ChangeShapes Go.WideShapes Go.ChangeAt Go.RowKit
theorem Frm.below {S : Nat → Prop} {B : Nat} {w w' : World} (h : Frm S w w') (hB : B ≤ w.heap.size) (hs : ∀ k, k < B → ¬ S k) : Below B w w' :=
  ⟨h.os, h.tape, h.output, h.size, fun k hk => h.block k (by omega) (hs k hk)⟩
end Go.Proofs.Ytacbpdnpepgngaa.base
namespace Go.Proofs.Ytacbpdnpepgngaa.wrd
set_option linter.unusedVariables false set_option linter.unusedSimpArgs false
open Go.ChangeShapes Go.WideShapes Go.ChangeAt Go.RowKit Go.Proofs.Ytacbpdnpepgngaa.base

/-- The writer in block b: what it has written, and how much it may hold. -/
def WR (B b : Nat) (l : List UInt8) (most : Int) (w : World) : Prop :=
  B ≤ b ∧ ∃ p v, (p = .pointer none ∨ p = .pointer (some ⟨b, 0, none⟩)) ∧ Box w b 65 #[p, v, .int .i64 most] ∧ OwnB w B 5 v l ∧ v.ownBlock ≠ some b
theorem WR.lt {B b : Nat} {l : List UInt8} {most : Int} {w : World} (h : WR B b l most w) : b < w.heap.size := by
  obtain ⟨_, p, v, _, h, _⟩ := h
  exact h.lt
theorem WR.frm {B b : Nat} {l : List UInt8} {most : Int} {w w' : World} (h : WR B b l most w) (k : Frm No w w') : WR B b l most w' := by
  obtain ⟨h0, p, v, h1, h2, h3, h4⟩ := h
  exact ⟨h0, p, v, h1, h2.frm k id, h3.below (k.below (Nat.le_refl _) (fun _ _ => id)), h4⟩
theorem WR.new (w : World) (most : Int) : WR w.heap.size w.heap.size [] most (w.alloc (.cells #[.pointer none, .slice none 0 0, .int .i64 most] 65)) :=
  ⟨Nat.le_refl _, _, _, Or.inl rfl, Box.new _ _ _, OwnB.nil _ _ _, by intro h; cases h⟩

/-- What the writer may write: its block, and rows of bytes. -/
def SW (b : Nat) (w : World) : Nat → Prop := fun k => k = b ∨ ∃ C f, w.heap[k]? = some (.cells C 5 f)
/-- What a call of the writer's keeps. -/
structure Kb (B b : Nat) (w w' : World) : Prop where
  bel : Below B w w'
  frm : Frm (SW b w) w w'
theorem Kb.trans {B b : Nat} {w1 w2 w3 : World} (h : Kb B b w1 w2) (k : Kb B b w2 w3) : Kb B b w1 w3 := by
  refine ⟨h.bel.trans k.bel, h.frm.then k.frm (fun i hi hs => ?_)⟩
  rcases hs with e | ⟨C, f, e⟩
  · exact .inl e
  · by_cases hc : SW b w1 i
    · exact hc
    · rw [h.frm.block i hi hc] at e
      exact .inr ⟨C, f, e⟩
theorem Kb.of {B b : Nat} {w w' : World} (h : Frm No w w') (hB : B ≤ w.heap.size) : Kb B b w w' := ⟨h.below hB (fun _ _ => id), h.mono (fun _ _ e => e.elim)⟩
theorem Kb.at {B b : Nat} {w w' : World} (h : Frm (At b) w w') (hB : B ≤ w.heap.size) (hb : B ≤ b) : Kb B b w w' :=
  ⟨h.below hB (fun k hk e => by have e2 : k = b := e; omega), h.mono (fun _ _ e => .inl e)⟩
theorem Kb.grown {B b : Nat} {w w' : World} {v : Value} {l : List UInt8} (h : OwnB w B 5 v l) (hg : w.grownBy w' v.ownBlock) (hB : B ≤ w.heap.size) : Kb B b w w' := by
  refine ⟨(Below.refl B w).grown hg hB (fun q hq => ((World.ownsRow.lt h) q hq).1), hg.os, hg.tape, hg.output, hg.size, fun k hk hn => hg.block k hk (fun e => hn ?_)⟩
  rcases h.2 with ⟨rfl, _⟩ | ⟨g, cap, cur, rfl, _, hh, _⟩
  · cases e
  · obtain rfl : g = k := by injection e.symm
    exact .inr ⟨_, _, hh⟩

theorem bld_size : (Try.prog.info? 63).map (·.size) = some 2 := by kernel_rfl
theorem bld_lies : liesAt Try.prog Try.prog.depth 65 (3 / Try.prog.cellsOf 65) 0 63 1 = true := by kernel_rfl
theorem byte_info : (Try.prog.info? 5).map (fun i => (i.zero, i.size, i.bytes)) = some (some (.int .u8 0), 1, 1) := by kernel_rfl
theorem byte_cells : Try.prog.cellsOf 5 = 1 := by kernel_rfl

set_option maxHeartbeats 1000000 in
set_option maxRecDepth 100000 in
/-- copyCheck: the builder knows itself. -/
theorem check_all (w : World) (b : Nat) (p v : Value) (most : Int) (h : Box w b 65 #[p, v, .int .i64 most]) (hp : p = .pointer none ∨ p = .pointer (some ⟨b, 0, none⟩)) :
    Calls Try.prog 60 #[.pointer (some ⟨b, 0, none⟩)] w fun e w' => e = .returned (.tuple #[]) ∧ Box w' b 65 #[.pointer (some ⟨b, 0, none⟩), v, .int .i64 most] ∧ Frm (At b) w w' := by
  obtain ⟨j, hj, hjs⟩ := Option.map_eq_some_iff.1 bld_size
  have h0 : w.cell? ⟨b, 0, none⟩ = some p := h.cell 0
  have hf : w.frozen? ⟨b, 0, none⟩ = false := h.f 0
  rcases hp with rfl | rfl
  · have hsh : w.shape? b = some (65, 3) := by simp [World.shape?, show w.heap[b]? = _ from h]
    have hst := Lib.hid (h.set 0 (.pointer (some ⟨b, 0, none⟩)))
    clear h
    go_enter Try.func60, Try.ntmps60
    go_wp2
    rw [Lib.run_to_unsafe w ⟨b, 0, none⟩ Try.underlying60 Try.underlying128 hj (by rw [hjs]; decide) hsh (Nat.zero_lt_succ 2)]
    simp only [Result.andThen]
    rw [Oper.upon_value]
    go_wp2
    rw [run_callFunc_extern Try.func78 (by kernel_rfl) (by kernel_rfl) (by kernel_rfl) (e := Extern.AbiNoEscape.same) (by kernel_rfl)]
    rw [Lib.run_noEscape]
    simp only [Result.andThen]
    rw [Oper.upon_value]
    go_wp2
    rw [Lib.run_from_unsafe w ⟨b, 0, none⟩ Try.underlying128 Try.underlying60 hj hsh bld_lies]
    simp only [Result.andThen]
    rw [Oper.upon_value]
    go_wp2
    go_end0
    exact ⟨rfl, hst.out, (Frm.refl _ w).setCell _ _ (fun _ => rfl)⟩
  · go_enter Try.func60, Try.ntmps60
    go_wp2
    rw [Lib.run_neq_ptr_same w _ Try.underlying60 hj]
    go_wp2
    go_end0
    exact ⟨rfl, h, Frm.refl _ _⟩

set_option maxHeartbeats 1000000 in
/-- Len. -/
theorem len_all (w : World) (B b : Nat) (l : List UInt8) (most : Int) (h : WR B b l most w) :
    Calls Try.prog 45 #[.pointer (some ⟨b, 0, none⟩)] w fun e w' => e = .returned (.int .i64 (l.length : Int)) ∧ w' = w := by
  obtain ⟨h0, p, v, h1, h2, h3, h4⟩ := h
  have c1 : w.cell? ⟨b, 1, none⟩ = some v := h2.cell 1
  have hl := Lib.hid h3
  rcases h3.forms with ⟨rfl, rfl⟩ | ⟨g, cap, rfl⟩
  · clear h3 h2 h1
    go_enter Try.func45, Try.ntmps45
    go_wp2
    go_ret
    exact ⟨rfl, rfl⟩
  · clear h3 h2 h1
    go_enter Try.func45, Try.ntmps45
    go_wp2
    go_ret
    exact ⟨rfl, rfl⟩

set_option maxHeartbeats 2000000 in
set_option maxRecDepth 100000 in
/-- WriteString. -/
theorem writes_all (w : World) (B b : Nat) (l : List UInt8) (most : Int) (h : WR B b l most w) (s : ByteArray) (news : List UInt8) (hs : s.data.toList = news) (hl : l.length + news.length ≤ 140737488355328) (hB : B ≤ w.heap.size) :
    Calls Try.prog 46 #[.pointer (some ⟨b, 0, none⟩), .string s] w fun e w' => e = .returned (.tuple #[.int .i64 (s.size : Int), .nilIface]) ∧ WR B b (l ++ news) most w' ∧ Kb B b w w' := by
  obtain ⟨h0, p, v, h1, h2, h3, h4⟩ := h
  have HC := Lib.hid (check_all w b p v most h2 h1)
  have H3 := Lib.hid (fun (w1 : World) (hf : Frm (At b) w w1) => show OwnB w1 B 5 v l from ⟨h3.1, h3.2.elim Or.inl (fun ⟨g, cap, cur, hv, hg, hh, r⟩ => Or.inr ⟨g, cap, cur, hv, hg, (hf.block g (Array.getElem?_eq_some_iff.1 hh).1 (by rintro rfl; exact h4 (by rw [hv]; rfl))).trans hh, r⟩)⟩)
  clear h2 h1 h3
  have HS := Lib.hid hs
  have HL := Lib.hid hl
  clear hs hl
  go_enter Try.func46, Try.ntmps46
  go_wp2_with (go_at_call 60; refine HC.out.mono ?_)
  rintro e w1 ⟨rfl, hb1, hf1⟩
  have hown := H3.out w1 hf1
  have c0 : w1.cell? ⟨b, 0, none⟩ = some (.pointer (some ⟨b, 0, none⟩)) := hb1.cell 0
  have c1 : w1.cell? ⟨b, 1, none⟩ = some v := hb1.cell 1
  have hB1 : B ≤ w1.heap.size := Nat.le_trans hB hf1.size
  obtain ⟨i0, hi, hz0, hz1, hz2⟩ := info_parts byte_info
  have hsz : news.length = s.size := by rw [← HS.out]; simp
  go_wp2_with (at_builtin; refine Lib.wpList_append_own_string w1 rfl _ _ 61 9 rfl B 5 i0 Try.underlying61 Try.underlying9 hi hz0 hz1 hz2 v _ _ rfl hown s rfl (by have := HL.out; unfold maxLen; omega) (by have := HL.out; omega) hB1 ?_)
  intro v' w2 hown' hg _
  have hbw : Box w2 b 65 #[.pointer (some ⟨b, 0, none⟩), v, .int .i64 most] := (hg.block b hb1.lt (fun e => h4 e.symm)).trans hb1
  have hown2 : OwnB w2 B 5 v' (l ++ news) := by
    unfold OwnB
    rw [List.length_append, List.map_append, hsz, ← HS.out]
    exact hown'
  have hF := Lib.hid ((Kb.at (B := B) hf1 hB h0).trans (Kb.grown hown hg hB1))
  have hB2 : B ≤ w2.heap.size := Nat.le_trans hB1 hg.size
  have hst := Lib.hid (hbw.set 1 v')
  have hkeep := Lib.hid (hF.out.trans (Kb.at (B := B) ((Frm.refl (At b) w2).setCell ⟨b, 1, none⟩ v' (fun _ => rfl)) hB2 h0))
  have hfin : WR B b (l ++ news) most (w2.setCell ⟨b, 1, none⟩ v') := by
    refine ⟨h0, _, v', Or.inr rfl, hst.out, ?_, ?_⟩
    · refine ⟨hown2.1, hown2.2.elim Or.inl (fun ⟨g, cap, cur, hv, hgB, hh, r⟩ => Or.inr ⟨g, cap, cur, hv, hgB, ?_, r⟩)⟩
      refine (Below.heap_setCell w2 ⟨b, 1, none⟩ v' g ?_).trans hh
      rintro rfl
      rw [show w2.heap[g]? = _ from hbw] at hh
      injection hh with hh
      injection hh with _ ht _
      exact absurd ht (by decide)
    · intro e
      rcases hown2.2 with ⟨rfl, _⟩ | ⟨g, cap, cur, rfl, hgB, hh, _⟩
      · cases e
      · obtain rfl : g = b := by injection e
        rw [show w2.heap[g]? = _ from hbw] at hh
        injection hh with hh
        injection hh with _ ht _
        exact absurd ht (by decide)
  have hfin' := Lib.hid hfin
  have d0 : w2.cell? ⟨b, 0, none⟩ = some (.pointer (some ⟨b, 0, none⟩)) := hbw.cell 0
  have f1 : w2.frozen? ⟨b, 1, none⟩ = false := hbw.f 1
  have d1 : w2.cell? ⟨b, 1, none⟩ = some v := hbw.cell 1
  obtain ⟨ao, n', cap, rfl⟩ : ∃ ao n' cap, v' = .slice ao n' cap := by
    rcases hown2.2 with ⟨hv, _⟩ | ⟨g, cap, cur, hv, _⟩
    · exact ⟨_, _, _, hv⟩
    · exact ⟨_, _, _, hv⟩
  clear hfin hown2 hown' hown hg hbw hb1 hf1
  go_wp2
  go_ret2
  exact ⟨rfl, hfin'.out, hkeep.out⟩

theorem wrap_in (n : Int) (h : -9223372036854775808 ≤ n) (k : n ≤ 9223372036854775807) : IntKind.i64.wrap n = n := by
  rw [IntKind.wrap_i64]
  have h2 : wrap64 n = n := IntWalk.wrap64_in _ ⟨by omega, by omega⟩
  unfold wrap64 at h2
  omega

set_option maxHeartbeats 2000000 in
set_option maxRecDepth 100000 in
/-- write, where it would be too long. -/
theorem write_no (w : World) (B b : Nat) (l : List UInt8) (most : Int) (h : WR B b l most w) (s : ByteArray) (h1 : -9223372036854775808 ≤ most - (l.length : Int)) (h2 : most ≤ 9223372036854775807) (hn : most - (l.length : Int) < (s.size : Int)) :
    Calls Try.prog 28 #[.pointer (some ⟨b, 0, none⟩), .string s] w fun e w' => e = .returned (.bool false) ∧ Frm No w w' := by
  have HL := Lib.hid (fun n => len_all (w.drewN n) B b l most (h.frm ((Frm.refl No w).drewN n)))
  obtain ⟨h0, p, v, _, hb, _, _⟩ := h
  have c2 : w.cell? ⟨b, 2, none⟩ = some (.int .i64 most) := hb.cell 2
  have hw := wrap_in (most - (l.length : Int)) h1 (by omega)
  have ht : decide (most - (l.length : Int) < (s.size : Int)) = true := decide_eq_true hn
  clear hb h1 h2 hn
  go_enter Try.func28, Try.ntmps28
  go_wp2
  go_quiet ((go_at_call 45; exact Calls.quiet_of_same (HL.out _)))
  go_wp2
  go_ret
  exact ⟨rfl, (Frm.refl No w).drewN _⟩

set_option maxHeartbeats 2000000 in
set_option maxRecDepth 100000 in
/-- write, where there is room. -/
theorem write_yes (w : World) (B b : Nat) (l : List UInt8) (most : Int) (h : WR B b l most w) (s : ByteArray) (news : List UInt8) (hs : s.data.toList = news) (hB : B ≤ w.heap.size) (hl : l.length + news.length ≤ 140737488355328) (h1 : -9223372036854775808 ≤ most - (l.length : Int)) (h2 : most ≤ 9223372036854775807) (hn : (news.length : Int) ≤ most - (l.length : Int)) :
    Calls Try.prog 28 #[.pointer (some ⟨b, 0, none⟩), .string s] w fun e w' => e = .returned (.bool true) ∧ WR B b (l ++ news) most w' ∧ Kb B b w w' := by
  have HL := Lib.hid (fun n => len_all (w.drewN n) B b l most (h.frm ((Frm.refl No w).drewN n)))
  have HW := Lib.hid (fun n => writes_all (w.drewN n) B b l most (h.frm ((Frm.refl No w).drewN n)) s news hs hl hB)
  obtain ⟨h0, p, v, _, hb, _, _⟩ := h
  have c2 : w.cell? ⟨b, 2, none⟩ = some (.int .i64 most) := hb.cell 2
  have hw := wrap_in (most - (l.length : Int)) h1 (by omega)
  have hsz : news.length = s.size := by rw [← hs]; simp
  have ht : decide (most - (l.length : Int) < (s.size : Int)) = false := by rw [decide_eq_false_iff_not]; omega
  clear hb h1 h2 hn hs hl hsz
  go_enter Try.func28, Try.ntmps28
  go_wp2
  go_quiet ((go_at_call 45; exact Calls.quiet_of_same (HL.out _)))
  go_wp2_with (go_at_call 46; go_must (refine (HW.out _).mono ?_; rintro e w1 ⟨rfl, hw1, hb1⟩))
  go_ret
  exact ⟨rfl, hw1, (Kb.of ((Frm.refl No w).drewN _) hB).trans hb1⟩

end Go.Proofs.Ytacbpdnpepgngaa.wrd
