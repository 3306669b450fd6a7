/- write of three parts; fill. -/
import Derived.Test.YtkemdhaalcploaaGreatDoorSplH
namespace Go.Proofs.YtkemdhaalcploaaGreatDoor.spl
set_option linter.unusedVariables false set_option linter.unusedSimpArgs false
open Go.ChangeShapes Go.WideShapes Go.ChangeAt Go.RowKit Go.Proofs.YtkemdhaalcploaaGreatDoor.base

/-- What one part's writing needs. -/
structure RF (B b : Nat) (rest : ByteArray) (args : Value) (conv : ByteArray) (l : List UInt8) (most : Int) (s : ByteArray) (w : World) : Prop where
  len : ∀ n, Calls Tryz.prog 23 #[.pointer (some ⟨b, 3, none⟩)] (w.drewN n) fun e w' => e = .returned (.int .i64 (l.length : Int)) ∧ w' = w.drewN n
  wr : ∀ n, Calls Tryz.prog 24 #[.pointer (some ⟨b, 3, none⟩), .string s] (w.drewN n) fun e w' => e = .returned (.tuple #[.int .i64 (s.size : Int), .nilIface]) ∧ ∃ l', l' = l ++ s.data.toList ∧ WR B b rest args conv l' most w' ∧ Kb B b w w'
  sub : IntKind.i64.wrap (most - (l.length : Int)) = most - (l.length : Int)
  tst : decide (most - (l.length : Int) < (s.size : Int)) = false
  c5 : w.cell? ⟨b, 5, none⟩ = some (.int .i64 most)
theorem rf_of {w : World} {B b : Nat} {rest : ByteArray} {args : Value} {conv : ByteArray} {l : List UInt8} {most : Int} (h : WR B b rest args conv l most w) (s : ByteArray) (hB : B ≤ w.heap.size) (h1 : 0 ≤ most) (h2 : most ≤ 1000000000) (hn : ((l.length + s.size : Nat) : Int) ≤ most) : RF B b rest args conv l most s w where
  len n := len_all (w.drewN n) B b rest args conv l most (h.frm ((Frm.refl No w).drewN n))
  wr n := (writes_all (w.drewN n) B b rest args conv l most (h.frm ((Frm.refl No w).drewN n)) s s.data.toList rfl (by simp; omega) hB).mono fun e w' ⟨e1, e2, e3⟩ => ⟨e1, _, rfl, e2, (Kb.of ((Frm.refl No w).drewN _) hB).trans e3⟩
  sub := wrap_in _ (by omega) (by omega)
  tst := by rw [decide_eq_false_iff_not]; omega
  c5 := h.c5

theorem Kb.str {B b g : Nat} {w w' : World} {C : Array Value} (h : Kb B b w w') (hg : Box w g 9 C) (hgb : g ≠ b) : Box w' g 9 C := by
  refine (h.frm.block g hg.lt ?_).trans hg
  rintro (e | ⟨D, f, e⟩)
  · exact hgb e
  · rw [show w.heap[g]? = _ from hg] at e
    injection e with e
    injection e with _ e _
    exact absurd e (by decide)

set_option maxHeartbeats 4000000 in
set_option maxRecDepth 100000 in
/-- write of three parts, where there is room. -/
theorem write3_yes (w : World) (B b : Nat) (rest : ByteArray) (args : Value) (conv : ByteArray) (l : List UInt8) (most : Int) (h : WR B b rest args conv l most w) (g : Nat) (x y z : ByteArray) (hg : Box w g 9 #[.string x, .string y, .string z]) (hgb : g ≠ b) (hB : B ≤ w.heap.size) (h1 : 0 ≤ most) (h2 : most ≤ 1000000000) (hn : ((l.length + x.size + y.size + z.size : Nat) : Int) ≤ most) :
    Calls Tryz.prog 16 #[.pointer (some ⟨b, 0, none⟩), .slice (some ⟨g, 0, none⟩) 3 3] w fun e w' => e = .returned (.bool true) ∧ WR B b rest args conv (l ++ x.data.toList ++ y.data.toList ++ z.data.toList) most w' ∧ Kb B b w w' := by
  have R0 := rf_of h x hB h1 h2 (by omega)
  have hw := R0.sub
  have ht := R0.tst
  have c5 := R0.c5
  have g0 := hg.cell 0
  have HR0 := Lib.hid R0
  have HG := Lib.hid hg
  have HN := Lib.hid hn
  have H1 := Lib.hid h1
  have H2 := Lib.hid h2
  clear R0 h hg hn h1 h2
  go_enter Tryz.func16, Tryz.ntmps16
  go_wp2
  refine wp_loop_rounds 4 ?_
  rw [rounds_succ]
  go_wp2
  go_quiet ((go_at_call 23; exact Calls.quiet_of_same (HR0.out.len _)))
  go_wp2_with (go_at_call 24; go_must (refine (HR0.out.wr _).mono ?_; rintro e w1 ⟨rfl, l1, hl1, hw1, hk1⟩; have HL1 := Lib.hid hl1; have HK1 := Lib.hid hk1; have HG1 := Lib.hid (hk1.str HG.out hgb); have HR1 := Lib.hid (rf_of hw1 y (Nat.le_trans hB hk1.bel.size) H1.out H2.out (by have := HN.out; have := congrArg List.length hl1; simp at this; omega)); clear hw1 hk1 hl1))
  clear hw ht c5 g0
  have hw := HR1.out.sub
  have ht := HR1.out.tst
  have c5 := HR1.out.c5
  have g1 := HG1.out.cell 1
  rw [rounds_succ]
  go_wp2
  go_quiet ((go_at_call 23; exact Calls.quiet_of_same (HR1.out.len _)))
  go_wp2_with (go_at_call 24; go_must (refine (HR1.out.wr _).mono ?_; rintro e w2 ⟨rfl, l2, hl2, hw2, hk2⟩; have HL2 := Lib.hid hl2; have HK2 := Lib.hid (HK1.out.trans hk2); have HG2 := Lib.hid (hk2.str HG1.out hgb); have HR2 := Lib.hid (rf_of hw2 z (Nat.le_trans hB (HK1.out.trans hk2).bel.size) H1.out H2.out (by have := HN.out; have := congrArg List.length HL1.out; have := congrArg List.length hl2; simp at *; omega)); clear hw2 hk2 hl2))
  clear hw ht c5 g1
  have hw := HR2.out.sub
  have ht := HR2.out.tst
  have c5 := HR2.out.c5
  have g2 := HG2.out.cell 2
  rw [rounds_succ]
  go_wp2
  go_quiet ((go_at_call 23; exact Calls.quiet_of_same (HR2.out.len _)))
  go_wp2_with (go_at_call 24; go_must (refine (HR2.out.wr _).mono ?_; rintro e w3 ⟨rfl, l3, hl3, hw3, hk3⟩; have HL3 := Lib.hid hl3; have HK3 := Lib.hid (HK2.out.trans hk3); have HW3 := Lib.hid hw3; clear hw3 hk3 hl3))
  rw [rounds_succ]
  go_wp2
  go_ret
  have hW := HW3.out
  rw [HL3.out, HL2.out, HL1.out] at hW
  exact ⟨rfl, hW, HK3.out⟩
end Go.Proofs.YtkemdhaalcploaaGreatDoor.spl
