/- The builder in memory; contracts of match's builder.add and builder.fork. -/
import Derived.Test.YtbfekknhmjndaaaGreatRead4
namespace Go.Proofs.YtbfekknhmjndaaaGreat.part
set_option linter.unusedVariables false set_option linter.unusedSimpArgs false
open Go.ChangeShapes Go.WideShapes Go.ChangeAt Go.RowKit Go.Proofs.YtbfekknhmjndaaaGreat.base Go.Proofs.YtbfekknhmjndaaaGreat.spec Go.Proofs.YtbfekknhmjndaaaGreat.nfa Go.Proofs.YtbfekknhmjndaaaGreat.set Go.Proofs.YtbfekknhmjndaaaGreat.parts Go.Proofs.YtbfekknhmjndaaaGreat.items
attribute [local go_sem ↓] Go.wp_at_zero Go.wp_at_succ

/-- The four cells of a state. -/
def StV (w : World) (st : St) (k : Int) (x : Option Addr) (y z : Int) : Prop := match st with
  | .acc => k = 0
  | .take f nx => k = 1 ∧ y = (nx : Int) ∧ ∃ fb, x = some ⟨fb, 0, none⟩ ∧ FB w fb f
  | .fork a b => k = 2 ∧ y = (a : Int) ∧ z = (b : Int)
  | .bol nx => k = 3 ∧ y = (nx : Int)
  | .eol nx => k = 4 ∧ y = (nx : Int)
def SL (w : World) : List St → List Value → Prop
  | [], C => C = []
  | st :: t, C => ∃ k x y z C', C = .int .i64 k :: .pointer x :: .int .i64 y :: .int .i64 z :: C' ∧ StV w st k x y z ∧ SL w t C'
theorem StV.go {w w' : World} {st : St} {k y z : Int} {x : Option Addr} (h : StV w st k x y z) (hb : ∀ fb f, FB w fb f → FB w' fb f) : StV w' st k x y z := by
  cases st with
  | acc => exact h
  | take f nx => obtain ⟨h1, h2, fb, h3, h4⟩ := h; exact ⟨h1, h2, fb, h3, hb _ _ h4⟩
  | fork a b => exact h
  | bol nx => exact h
  | eol nx => exact h
theorem SL.go {w w' : World} {l : List St} {C : List Value} (h : SL w l C) (hb : ∀ fb f, FB w fb f → FB w' fb f) : SL w' l C := by
  induction l generalizing C with
  | nil => exact h
  | cons st t ih =>
    obtain ⟨k, x, y, z, C', h1, h2, h3⟩ := h
    exact ⟨k, x, y, z, C', h1, h2.go hb, ih h3⟩
theorem SL.len {w : World} {l : List St} {C : List Value} (h : SL w l C) : C.length = l.length * 4 := by
  induction l generalizing C with
  | nil => rw [show C = [] from h]; rfl
  | cons st t ih =>
    obtain ⟨k, x, y, z, C', h1, h2, h3⟩ := h
    rw [h1]
    simp only [List.length_cons, ih h3]
    omega
theorem SL.snoc {w : World} {l : List St} {C : List Value} (h : SL w l C) {st : St} {k y z : Int} {x : Option Addr} (hs : StV w st k x y z) : SL w (l ++ [st]) (C ++ [.int .i64 k, .pointer x, .int .i64 y, .int .i64 z]) := by
  induction l generalizing C with
  | nil => rw [show C = [] from h]; exact ⟨k, x, y, z, [], rfl, hs, rfl⟩
  | cons st' t ih =>
    obtain ⟨k', x', y', z', C', rfl, h2, h3⟩ := h
    exact ⟨k', x', y', z', _, rfl, h2, ih h3⟩
theorem SL.get {w : World} {l : List St} {C : List Value} (h : SL w l C) {i : Nat} {st : St} (hi : l[i]? = some st) : ∃ k x y z, StV w st k x y z ∧ C[i * 4]? = some (.int .i64 k) ∧ C[i * 4 + 1]? = some (.pointer x) ∧ C[i * 4 + 2]? = some (.int .i64 y) ∧ C[i * 4 + 3]? = some (.int .i64 z) := by
  induction l generalizing C i with
  | nil => cases hi
  | cons st' t ih =>
    obtain ⟨k, x, y, z, C', rfl, h2, h3⟩ := h
    cases i with
    | zero => cases hi; exact ⟨k, x, y, z, h2, rfl, rfl, rfl, rfl⟩
    | succ i =>
      obtain ⟨k, x, y, z, e1, e2, e3, e4, e5⟩ := ih h3 hi
      refine ⟨k, x, y, z, e1, ?_, ?_, ?_, ?_⟩
      · rw [show (i + 1) * 4 = i * 4 + 1 + 1 + 1 + 1 by omega]; exact e2
      · rw [show (i + 1) * 4 + 1 = i * 4 + 1 + 1 + 1 + 1 + 1 by omega]; exact e3
      · rw [show (i + 1) * 4 + 2 = i * 4 + 2 + 1 + 1 + 1 + 1 by omega]; exact e4
      · rw [show (i + 1) * 4 + 3 = i * 4 + 3 + 1 + 1 + 1 + 1 by omega]; exact e5
/-- Another next state. -/
theorem SL.patch {w : World} {l : List St} {C : List Value} (h : SL w l C) {i : Nat} {a b : Nat} (hi : l[i]? = some (.fork a b)) (n : Nat) : SL w (l.set i (.fork n b)) (C.set (i * 4 + 2) (.int .i64 (n : Int))) := by
  induction l generalizing C i with
  | nil => cases hi
  | cons st' t ih =>
    obtain ⟨k, x, y, z, C', rfl, h2, h3⟩ := h
    cases i with
    | zero =>
      cases hi
      exact ⟨k, x, (n : Int), z, C', rfl, ⟨h2.1, rfl, h2.2.2⟩, h3⟩
    | succ i =>
      have := ih h3 hi
      rw [show (i + 1) * 4 + 2 = i * 4 + 2 + 1 + 1 + 1 + 1 by omega]
      exact ⟨k, x, y, z, _, rfl, h2, this⟩

/-- The builder at BB holds the states l. -/
def BW (w : World) (B BB : Nat) (l : List St) : Prop := ∃ a cap C, Box w BB 105 #[.slice a l.length cap] ∧ w.ownsRow B 108 4 (.slice a l.length cap) l.length C ∧ SL w l C
/-- What building may write. -/
def SB (w : World) (B BB : Nat) : Nat → Prop := fun k => k = BB ∨ B ≤ k ∧ ∃ C, Box w k 108 C
theorem SB.then {a b c : World} {B BB : Nat} (h : Frm (SB a B BB) a b) (k : Frm (SB b B BB) b c) : Frm (SB a B BB) a c :=
  h.then k (fun i hi e => by
    rcases e with e | ⟨hB, C, e⟩
    · exact Or.inl e
    · by_cases hs : SB a B BB i
      · exact hs
      · have hb := h.block i hi hs
        exact Or.inr ⟨hB, C, show a.heap[i]? = _ from hb ▸ e⟩)
theorem SB.no {a b : World} {B BB : Nat} (h : Frm No a b) : Frm (SB a B BB) a b := h.mono (fun _ _ h => h.elim)
theorem BW.no {w w' : World} {B BB : Nat} {l : List St} (h : BW w B BB l) (hf : Frm No w w') : BW w' B BB l := by
  obtain ⟨a, cap, C, h1, h2, h3⟩ := h
  exact ⟨a, cap, C, h1.frm hf id, own_move h2 hf (fun _ _ => id), h3.go (fun fb f h => Box.frm h hf id)⟩
theorem fb_sb {w w' : World} {B BB : Nat} {D : Array Value} (hB : Box w BB 105 D) (hf : Frm (SB w B BB) w w') {fb : Nat} {f : Nat → Bool} (h : FB w fb f) : FB w' fb f := Box.frm h hf (fun e => by
  rcases e with e | ⟨_, C, e⟩
  · subst e; have h3 := box_ty hB h; revert h3; decide
  · have h3 := box_ty e h; revert h3; decide)
theorem pt_sb {w w' : World} {B BB : Nat} {D : Array Value} (hB : Box w BB 105 D) (hf : Frm (SB w B BB) w w') {F : Nat → Prop} {v : Value} {t : T} (h : PT w F v t) : PT w' F v t :=
  h.go (fun g cur h1 h2 => ⟨h1, h2.frm hf (fun e => by
    rcases e with e | ⟨_, C, e⟩
    · subst e; have h3 := box_ty hB h2; revert h3; decide
    · have h3 := box_ty e h2; revert h3; decide)⟩) (fun fb f h => fb_sb hB hf h)

theorem bw_push {w w2 : World} {B BB g gcap cap : Nat} {a : Option Addr} {l : List St} {C : List Value} {st : St} {k y z : Int} {x : Option Addr} (hB : Box w BB 105 #[.slice a l.length cap]) (hO : w.ownsRow B 108 4 (.slice a l.length cap) l.length C) (hS : SL w l C) (hst : StV w st k x y z)
    (hf : Frm (fun k => (Value.slice a l.length cap).ownBlock = some k) w w2) (hown : w2.ownsRow B 108 4 (.slice (some ⟨g, 0, none⟩) (l.length + 1) gcap) (l.length + 1) (C ++ [.int .i64 k, .pointer x, .int .i64 y, .int .i64 z])) :
    BW (w2.setCell ⟨BB, 0, none⟩ (.slice (some ⟨g, 0, none⟩) (l.length + 1) gcap)) B BB (l ++ [st]) ∧ Frm (SB w B BB) w (w2.setCell ⟨BB, 0, none⟩ (.slice (some ⟨g, 0, none⟩) (l.length + 1) gcap)) := by
  have hB2 := hB.frm hf (own_far hO hB (by decide))
  have hfr : Frm (SB w B BB) w (w2.setCell ⟨BB, 0, none⟩ (.slice (some ⟨g, 0, none⟩) (l.length + 1) gcap)) :=
    (hf.mono (S' := SB w B BB) (fun k _ e => by obtain ⟨h1, _, cur, h⟩ := own_type hO e; exact Or.inr ⟨h1, cur, h⟩)).setCell ⟨BB, 0, none⟩ _ (fun _ => Or.inl rfl)
  have e2 : (l ++ [st]).length = l.length + 1 := by simp
  refine ⟨⟨some ⟨g, 0, none⟩, gcap, _, ?_, ?_, (hS.snoc hst).go (fun fb f h => fb_sb hB hfr h)⟩, hfr⟩
  · rw [e2]; exact hB2.set 0 _
  · rw [e2]
    exact own_move hown (Frm.setCell (S := At BB) (Frm.refl _ _) ⟨BB, 0, none⟩ _ (fun _ => rfl)) (fun g' e1 e3 => own_far hown hB2 (by decide) (by have e4 : g' = BB := e3; rw [← e4]; exact e1))

theorem info_st : (Tryz.prog.info? 108).map (fun i => (i.zero, i.size, i.bytes)) = some (some (.agg #[.int .i64 0, .pointer none, .int .i64 0, .int .i64 0]), 4, 32) := by kernel_rfl

set_option maxRecDepth 20000 in
set_option maxHeartbeats 2000000 in
theorem add_all (w : World) (B BB : Nat) (l : List St) (h : BW w B BB l) (hB : B ≤ w.heap.size) (hl : l.length ≤ 1000000000) (st : St) (k y z : Int) (x : Option Addr) (hst : StV w st k x y z) :
    Calls Tryz.prog 51 #[.pointer (some ⟨BB, 0, none⟩), .agg #[.int .i64 k, .pointer x, .int .i64 y, .int .i64 z]] w fun en w' => en = .returned (.int .i64 (l.length : Int)) ∧ BW w' B BB (l ++ [st]) ∧ Frm (SB w B BB) w w' := by
  obtain ⟨a, cap, C, hb, ho, hs⟩ := h
  have HB := Lib.hid hb
  have HO := Lib.hid ho
  have HS := Lib.hid hs
  have HST := Lib.hid hst
  have hlt := hb.lt
  have hCl := hs.len
  have hne := own_far ho hb (by decide)
  have c0 : (w.alloc (.cells #[.int .i64 k, .pointer x, .int .i64 y, .int .i64 z] 108)).cell? ⟨BB, 0, none⟩ = some (.slice a l.length cap) := (hb.alloc _).cell 0
  have HX := Lib.hid (Box.new w 108 #[.int .i64 k, .pointer x, .int .i64 y, .int .i64 z])
  obtain ⟨i0, hi, hz0, hz1, hz2⟩ := info_parts info_st
  clear hb ho hs hst
  go_enter Tryz.func51, Tryz.ntmps51
  go_wp2
  have HB1 := Lib.hid (HB.out.alloc (.cells #[.int .i64 k, .pointer x, .int .i64 y, .int .i64 z] 108))
  have HO1 := Lib.hid (HO.out.alloc (.cells #[.int .i64 k, .pointer x, .int .i64 y, .int .i64 z] 108))
  have HF1 := Lib.hid ((Frm.refl No w).alloc (.cells #[.int .i64 k, .pointer x, .int .i64 y, .int .i64 z] 108))
  have hsz1 : (w.alloc (.cells #[.int .i64 k, .pointer x, .int .i64 y, .int .i64 z] 108)).heap.size = w.heap.size + 1 := World.size_alloc _ _
  generalize w.alloc (.cells #[.int .i64 k, .pointer x, .int .i64 y, .int .i64 z] 108) = w1 at HB1 HO1 HF1 HX hsz1 c0 ⊢
  have x0 : w1.cell? ⟨w.heap.size, 0, none⟩ = some (.int .i64 k) := HX.out.cell 0
  have x1 : w1.cell? ⟨w.heap.size, 1, none⟩ = some (.pointer x) := HX.out.cell 1
  have x2 : w1.cell? ⟨w.heap.size, 2, none⟩ = some (.int .i64 y) := HX.out.cell 2
  have x3 : w1.cell? ⟨w.heap.size, 3, none⟩ = some (.int .i64 z) := HX.out.cell 3
  go_region_law ((refine step_append_lies _ (by rfl) _ _ _ (by rfl) B 108 i0 _ 4 32 Tryz.underlying103 hi hz0 hz1 hz2 (by rfl) (by omega) (.slice a l.length cap) l.length C (by rfl) (by exact (HO1.out.alloc _).drew) ⟨w.heap.size + 1, 0, none⟩ 1 1 [.int .i64 k, .pointer x, .int .i64 y, .int .i64 z] (by rfl) (by rfl) (World.news_of_block (cs := #[.int .i64 k, .pointer x, .int .i64 y, .int .i64 z]) (t := 108) (fr := (0, 0)) (by rw [← hsz1]; exact heap_alloc_new w1 _)) (by simp [Value.oneCell']) (by omega) (by unfold maxLen; omega) (by omega) (by simp; omega) (w.heap.size + 1 + 1) (by simp; omega) ?_; intro g gcap w2 hown2 hgrow hat hlt2; have e0 : w2.cell? ⟨BB, 0, none⟩ = some (.slice a l.length cap) := (hgrow.cell_far _ (by simp; omega) (Ne.symm hne)).trans (by exact (HB1.out.alloc _).cell 0); have f0 : w2.frozen? ⟨BB, 0, none⟩ = false := (hgrow.frozen_far _ (by simp; omega) (Ne.symm hne)).trans (by exact (HB1.out.alloc _).f 0)))
  all_goals
    have HS1 := HS.out.go (fun fb f h => Box.frm h HF1.out id)
    have HST1 := HST.out.go (fun fb f h => Box.frm h HF1.out id)
    have hfg := (((Frm.refl (fun k => (Value.slice a l.length cap).ownBlock = some k) w1).alloc (.cells #[.int .i64 k, .pointer x, .int .i64 y, .int .i64 z] 108)).drew).grown hgrow (fun k h _ => h)
    obtain ⟨hbw, hfr⟩ := bw_push HB1.out HO1.out HS1 HST1 hfg hown2
    have HBW := Lib.hid hbw
    have HFR := Lib.hid (SB.then (SB.no HF1.out) hfr)
    have hb3 := (HB1.out.frm hfg (own_far HO1.out HB1.out (by decide))).set 0 (.slice (some ⟨g, 0, none⟩) (l.length + 1) gcap)
    have k0 : (w2.setCell ⟨BB, 0, none⟩ (.slice (some ⟨g, 0, none⟩) (l.length + 1) gcap)).cell? ⟨BB, 0, none⟩ = some (.slice (some ⟨g, 0, none⟩) (l.length + 1) gcap) := hb3.cell 0
    clear hbw hfr hfg HS1 HST1 hb3
    generalize w2.setCell ⟨BB, 0, none⟩ (.slice (some ⟨g, 0, none⟩) (l.length + 1) gcap) = w3 at HBW HFR k0 ⊢
    go_wp2
    go_ret
    exact ⟨ret_int (by omega), HBW.out, HFR.out⟩
theorem fork_all (w : World) (B BB : Nat) (l : List St) (h : BW w B BB l) (hB : B ≤ w.heap.size) (hl : l.length ≤ 1000000000) (a b : Nat) :
    Calls Tryz.prog 86 #[.pointer (some ⟨BB, 0, none⟩), .int .i64 (a : Int), .int .i64 (b : Int)] w fun en w' => en = .returned (.int .i64 (l.length : Int)) ∧ BW w' B BB (l ++ [.fork a b]) ∧ Frm (SB w B BB) w w' := by
  have H := Lib.hid h
  clear h
  go_enter Tryz.func86, Tryz.ntmps86
  go_wp2_with ((go_at_call 51; go_must (refine (add_all w B BB l H.out hB hl (.fork a b) 2 (a : Int) (b : Int) none ⟨rfl, rfl, rfl⟩).mono ?_; rintro en w2 ⟨rfl, h2, hf2⟩)))
  go_ret
  exact ⟨rfl, h2, hf2⟩
end Go.Proofs.YtbfekknhmjndaaaGreat.part
