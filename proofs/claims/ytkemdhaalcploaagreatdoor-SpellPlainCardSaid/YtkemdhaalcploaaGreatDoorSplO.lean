/- write, and Spell's steps where no conversion stands. -/
import Derived.Test.YtkemdhaalcploaaGreatDoorSplP
import Derived.Test.YtkemdhaalcploaaGreatDoorSplW
import Derived.Test.YtkemdhaalcploaaGreatDoorShelf
import Derived.WalkSpells
namespace Go.Proofs.YtkemdhaalcploaaGreatDoor.spl
set_option linter.unusedVariables false set_option linter.unusedSimpArgs false
open Go.ChangeShapes Go.WideShapes Go.ChangeAt Go.RowKit Go.Proofs.YtkemdhaalcploaaGreatDoor.base

theorem WR.rest {B b : Nat} {rest r2 : ByteArray} {args : Value} {conv : ByteArray} {l : List UInt8} {most : Int} {w : World} (h : WR B b rest args conv l most w) : WR B b r2 args conv l most (w.setCell ⟨b, 0, none⟩ (.string r2)) := by
  obtain ⟨h0, p, v, h1, h2, h3, h4⟩ := h
  refine ⟨h0, p, v, h1, h2.set 0 (.string r2), ⟨h3.1, h3.2.elim Or.inl (fun ⟨g, cap, cur, hv, hg, hh, r⟩ => Or.inr ⟨g, cap, cur, hv, hg, ?_, r⟩)⟩, h4⟩
  refine (Below.heap_setCell w ⟨b, 0, none⟩ (.string r2) g ?_).trans hh
  rintro rfl
  exact h4 (by rw [hv]; rfl)
theorem WR.c0 {B b : Nat} {rest : ByteArray} {args : Value} {conv : ByteArray} {l : List UInt8} {most : Int} {w : World} (h : WR B b rest args conv l most w) : w.cell? ⟨b, 0, none⟩ = some (.string rest) := by
  obtain ⟨h0, p, v, h1, h2, h3, h4⟩ := h
  exact h2.cell 0
theorem WR.c5 {B b : Nat} {rest : ByteArray} {args : Value} {conv : ByteArray} {l : List UInt8} {most : Int} {w : World} (h : WR B b rest args conv l most w) : w.cell? ⟨b, 5, none⟩ = some (.int .i64 most) := by
  obtain ⟨h0, p, v, h1, h2, h3, h4⟩ := h
  exact h2.cell 5
theorem WR.f {B b : Nat} {rest : ByteArray} {args : Value} {conv : ByteArray} {l : List UInt8} {most : Int} {w : World} (h : WR B b rest args conv l most w) (o : Nat) : w.frozen? ⟨b, o, none⟩ = false := by
  obtain ⟨h0, p, v, h1, h2, h3, h4⟩ := h
  exact h2.f o

set_option maxHeartbeats 2000000 in
set_option maxRecDepth 100000 in
/-- write of one part, where it would be too long. -/
theorem write1_no (w : World) (B b : Nat) (rest : ByteArray) (args : Value) (conv : ByteArray) (l : List UInt8) (most : Int) (h : WR B b rest args conv l most w) (g : Nat) (s : ByteArray) (hc : w.cell? ⟨g, 0, none⟩ = some (.string s)) (h1 : -9223372036854775808 ≤ most - (l.length : Int)) (h2 : most ≤ 9223372036854775807) (hn : most - (l.length : Int) < (s.size : Int)) :
    Calls Tryz.prog 16 #[.pointer (some ⟨b, 0, none⟩), .slice (some ⟨g, 0, none⟩) 1 1] w fun e w' => e = .returned (.bool false) ∧ Frm No w w' := by
  have HL := Lib.hid (fun n => len_all (w.drewN n) B b rest args conv l most (h.frm ((Frm.refl No w).drewN n)))
  have c5 := h.c5
  have hw := wrap_in (most - (l.length : Int)) h1 (by omega)
  have ht : decide (most - (l.length : Int) < (s.size : Int)) = true := decide_eq_true hn
  clear h h1 h2 hn
  go_enter Tryz.func16, Tryz.ntmps16
  go_wp2
  refine wp_loop_rounds 1 ?_
  rw [rounds_succ]
  go_wp2
  go_quiet ((go_at_call 23; exact Calls.quiet_of_same (HL.out _)))
  go_wp2
  go_ret
  exact ⟨rfl, (Frm.refl No w).drewN _⟩

set_option maxHeartbeats 2000000 in
set_option maxRecDepth 100000 in
/-- write of one part, where there is room. -/
theorem write1_yes (w : World) (B b : Nat) (rest : ByteArray) (args : Value) (conv : ByteArray) (l : List UInt8) (most : Int) (h : WR B b rest args conv l most w) (g : Nat) (s : ByteArray) (hc : w.cell? ⟨g, 0, none⟩ = some (.string s)) (news : List UInt8) (hs : s.data.toList = news) (hB : B ≤ w.heap.size) (hl : l.length + news.length ≤ 140737488355328) (h1 : -9223372036854775808 ≤ most - (l.length : Int)) (h2 : most ≤ 9223372036854775807) (hn : (news.length : Int) ≤ most - (l.length : Int)) :
    Calls Tryz.prog 16 #[.pointer (some ⟨b, 0, none⟩), .slice (some ⟨g, 0, none⟩) 1 1] w fun e w' => e = .returned (.bool true) ∧ WR B b rest args conv (l ++ news) most w' ∧ Kb B b w w' := by
  have HL := Lib.hid (fun n => len_all (w.drewN n) B b rest args conv l most (h.frm ((Frm.refl No w).drewN n)))
  have HW := Lib.hid (fun n => writes_all (w.drewN n) B b rest args conv l most (h.frm ((Frm.refl No w).drewN n)) s news hs hl hB)
  have c5 := h.c5
  have hw := wrap_in (most - (l.length : Int)) h1 (by omega)
  have hsz : news.length = s.size := by rw [← hs]; simp
  have ht : decide (most - (l.length : Int) < (s.size : Int)) = false := by rw [decide_eq_false_iff_not]; omega
  clear h h1 h2 hn hs hl hsz
  go_enter Tryz.func16, Tryz.ntmps16
  go_wp2
  refine wp_loop_rounds 2 ?_
  rw [rounds_succ]
  go_wp2
  go_quiet ((go_at_call 23; exact Calls.quiet_of_same (HL.out _)))
  go_wp2_with (go_at_call 24; go_must (refine (HW.out _).mono ?_; rintro e w1 ⟨rfl, hw1, hb1⟩))
  rw [rounds_succ]
  go_wp2
  go_ret
  exact ⟨rfl, hw1, (Kb.of ((Frm.refl No w).drewN _) hB).trans hb1⟩

/-- What the walks take of the tables. -/
def MaxL (w : World) : Prop := ∃ m : Int, w.cell? ⟨0, 0, none⟩ = some (.int .i64 m)
theorem MaxL.below {w w' : World} (h : MaxL w) {B : Nat} (hb : Below B w w') (hB : 0 < B) : MaxL w' := by
  obtain ⟨m, h⟩ := h
  exact ⟨m, by rw [hb.cell (by exact hB)]; exact h⟩
theorem cutp (s : ByteArray) (w : World) (hs : s.size ≤ 1000000) (h : MaxL w) (P Q : List UInt8) (y : Bool) (hP : Lib.cut s.data.toList [37] = (P, Q, y)) :
    Calls Tryz.prog 15 #[.string s, .string ⟨#[37]⟩] w fun e w' => e = .returned (.tuple #[.string ⟨P.toArray⟩, .string ⟨Q.toArray⟩, .bool y]) ∧ ∃ n, w' = w.drewN n := by
  obtain ⟨m, hm⟩ := h
  have h := Tryz.strings_Cut s ⟨#[37]⟩ m w (by omega) hm
  rw [show (⟨#[37]⟩ : ByteArray).data.toList = [37] from rfl, hP] at h
  exact h

theorem new_cell (W : World) (n : Nat) (a : Addr) (v x : Value) (T : TypeId) : (((W.drewN n).setCell a v).alloc (.cells #[x] T)).cell? ⟨W.heap.size, 0, none⟩ = some x := by
  have h := (Box.new ((W.drewN n).setCell a v) T #[x]).cell 0
  have hs : ((W.drewN n).setCell a v).heap.size = W.heap.size := by simp
  rw [hs] at h
  exact h
theorem list_size (l : List UInt8) : (⟨l.toArray⟩ : ByteArray).size = l.length := by show l.toArray.size = _; simp
theorem list_data (l : List UInt8) : (⟨l.toArray⟩ : ByteArray).data.toList = l := rfl

set_option maxHeartbeats 2000000 in
set_option maxRecDepth 100000 in
/-- A step where something stands ahead of the next %. -/
theorem step_plain (w : World) (B b : Nat) (rest : ByteArray) (args : Value) (conv : ByteArray) (l : List UInt8) (most : Int) (h : WR B b rest args conv l most w) (hr : rest.size ≤ 1000000) (hM : MaxL w) (hMB : 0 < B) (P Q : List UInt8) (y : Bool) (hP : Lib.cut rest.data.toList [37] = (P, Q, y)) (hP0 : P.isEmpty = false) (hPl : P.length ≤ rest.size) (hB : B ≤ w.heap.size) (hl : l.length ≤ 1000000000) (h0 : 0 ≤ most) (h2 : most ≤ 9223372036854775807) (hn : ((l.length + P.length : Nat) : Int) ≤ most) :
    Calls Tryz.prog 11 #[.pointer (some ⟨b, 0, none⟩)] w fun e w' => e = .returned (.bool true) ∧ WR B b (rest.extract P.length rest.size) args conv (l ++ P) most w' ∧ Kb B b w w' := by
  have HC := Lib.hid (cutp rest w hr hM P Q y hP)
  have c0 := h.c0
  have hsz := list_size P
  have hne : (⟨P.toArray⟩ : ByteArray).toList.isEmpty = false := by rw [Lib.toList_data, list_data]; exact hP0
  have HW := Lib.hid (fun (W : World) (hk : Kb B b w W) (g : Nat) (hw : WR B b (rest.extract P.length rest.size) args conv l most W) (hc : W.cell? ⟨g, 0, none⟩ = some (.string ⟨P.toArray⟩)) => write1_yes W B b _ args conv l most hw g ⟨P.toArray⟩ hc P rfl (Nat.le_trans hB hk.bel.size) (by omega) (by omega) h2 (by omega))
  have HS := Lib.hid (fun n => show WR B b (rest.extract P.length rest.size) args conv l most ((w.drewN n).setCell ⟨b, 0, none⟩ (.string (rest.extract P.length rest.size))) from (h.frm ((Frm.refl No w).drewN n)).rest)
  have hf := h.f 0
  have hBb : B ≤ b := h.1
  have HKW := Lib.hid (fun (n : Nat) (T : TypeId) (C : Array Value) => show Kb B b w (((w.drewN n).setCell ⟨b, 0, none⟩ (.string (rest.extract P.length rest.size))).alloc (.cells C T)) from Kb.at ((((Frm.refl (At b) w).drewN n).setCell ⟨b, 0, none⟩ _ (fun _ => rfl)).alloc _) hB hBb)
  have hlt := Lib.hid (show ((P.length : Nat) : Int) ≤ (rest.size : Int) by omega)
  clear h hr hM hMB hP hl h0 h2 hn
  go_enter Tryz.func11, Tryz.ntmps11
  go_wp2_with (first | (go_at_call 15; go_must (refine (HC.out).mono ?_; rintro e w1 ⟨rfl, nq, rfl⟩)) | (go_at_call 16; go_must (refine (HW.out _ (HKW.out _ _ _) _ ((HS.out _).frm ((Frm.refl No _).alloc _)) (new_cell _ _ _ _ _ _)).mono ?_; rintro e w2 ⟨rfl, hw2, hk2⟩; have HK := Lib.hid ((HKW.out _ _ _).trans hk2); have HW2 := Lib.hid hw2)))
  go_ret
  exact ⟨rfl, HW2.out, HK.out⟩
end Go.Proofs.YtkemdhaalcploaaGreatDoor.spl
