/- Contract of ere's row.add. -/
import Derived.Test.YtfgdhafpiikpjaaJoin
import Derived.Deep.RegionLaw
import Derived.Deep.AppendLies
import Derived.Deep.DrawnRows
namespace Go.Proofs.Ytfgdhafpiikpjaa.parts
set_option linter.unusedVariables false set_option linter.unusedSimpArgs false
open Go.ChangeShapes Go.WideShapes Go.ChangeAt Go.RowKit Go.Proofs.Ytfgdhafpiikpjaa.base Go.Proofs.Ytfgdhafpiikpjaa.read Go.Proofs.Ytfgdhafpiikpjaa.spec Go.Proofs.Ytfgdhafpiikpjaa.set
attribute [local go_sem ↓] Go.wp_at_zero Go.wp_at_succ

/-- A row in the variable L, its kids in a slice of the call's own (a block from B on, below U). -/
def RowV (w : World) (B U L : Nat) (r : Row) : Prop :=
  r.n ≤ 2001 ∧ ∃ a cap C, Box w L 102 #[.slice a r.kids.len cap, .int .i64 r.n] ∧ w.ownsRow B 24 5 (.slice a r.kids.len cap) r.kids.len C ∧
    RepC w (fun k => B ≤ k ∧ (Value.slice a r.kids.len cap).ownBlock ≠ some k) r.kids C ∧ (∀ g, (Value.slice a r.kids.len cap).ownBlock = some g → g < U) ∧ (r.kids.len = 0 → a = none ∧ cap = 0)
/-- What a row's add may write: its variable, and blocks of trees from B on. -/
def RowS (w : World) (B L : Nat) : Nat → Prop := fun k => k = L ∨ (B ≤ k ∧ ∃ C, Box w k 24 C)

/-- The block of a slice of the call's own. -/
theorem own_box {w : World} {B n : Nat} {v : Value} {C : List Value} (h : w.ownsRow B 24 5 v n C) {g : Nat} (hg : v.ownBlock = some g) : ∃ cur cap, Box w g 24 cur ∧ B ≤ g ∧ v = .slice (some ⟨g, 0, none⟩) n cap ∧ cur.toList.take (n * 5) = C := by
  rcases h.2 with ⟨rfl, _⟩ | ⟨g', cap, cur, rfl, hB, hh, _, _, _, ht⟩
  · cases hg
  · simp only [Value.ownBlock, Option.some.injEq] at hg
    subst hg
    exact ⟨cur, cap, hh, hB, rfl, ht⟩
theorem own_ne {w : World} {B n : Nat} {v : Value} {C : List Value} (h : w.ownsRow B 24 5 v n C) {b : Nat} {T : TypeId} {D : Array Value} (hb : Box w b T D) (hT : T ≠ 24) : v.ownBlock ≠ some b := by
  intro e
  obtain ⟨cur, cap, h1, _⟩ := own_box h e
  exact hT (box_type hb h1)
theorem own_frm {S : Nat → Prop} {w w' : World} {B n : Nat} {v : Value} {C : List Value} (h : w.ownsRow B 24 5 v n C) (hf : Frm S w w') (hs : ∀ g cur, Box w g 24 cur → v.ownBlock = some g → ¬ S g) : w'.ownsRow B 24 5 v n C := by
  refine ⟨h.1, h.2.elim Or.inl (fun ⟨g, cap, cur, hv, hg, hh, r⟩ => Or.inr ⟨g, cap, cur, hv, hg, ?_, r⟩)⟩
  have hb : Box w g 24 cur := hh
  exact hb.frm hf (hs g cur hb (by rw [hv]; rfl))

theorem info_ere : (Try.prog.info? 24).map (fun i => (i.zero, i.size, i.bytes)) = some (some (.agg #[.string ⟨#[]⟩, .string ⟨#[]⟩, .slice none 0 0, .int .i64 0, .int .i64 0]), 5, 72) := by kernel_rfl

theorem RepC.snoc {w : World} {F : Nat → Prop} {f : Forest} {C : List Value} (h : RepC w F f C) (t : T) (k : Value) (hk : KV w F k t.kids) : RepC w F (f.snoc t) (C ++ [.string t.op, .string t.set, k, .int .i64 t.lo, .int .i64 t.hi]) := by
  induction f generalizing C with
  | nil =>
    rw [show C = [] from h]
    exact ⟨k, [], rfl, hk, rfl⟩
  | cons op set lo hi kids rest ih1 ih2 =>
    obtain ⟨k', C', rfl, h1, h2⟩ := h
    exact ⟨k', C' ++ _, rfl, h1, ih2 h2⟩

/-- Five cells that are stored. -/
def set5 (w : World) (g o : Nat) (a0 a1 a2 a3 a4 : Value) : World := ((((w.setCell ⟨g, o, none⟩ a0).setCell ⟨g, o + 1, none⟩ a1).setCell ⟨g, o + 2, none⟩ a2).setCell ⟨g, o + 3, none⟩ a3).setCell ⟨g, o + 4, none⟩ a4
theorem frm_set5 (w : World) (g o : Nat) (a0 a1 a2 a3 a4 : Value) : Frm (At g) w (set5 w g o a0 a1 a2 a3 a4) :=
  (((((Frm.refl (At g) w).setCell ⟨g, o, none⟩ _ (fun _ => rfl)).setCell ⟨g, o + 1, none⟩ _ (fun _ => rfl)).setCell ⟨g, o + 2, none⟩ _ (fun _ => rfl)).setCell ⟨g, o + 3, none⟩ _ (fun _ => rfl)).setCell ⟨g, o + 4, none⟩ _ (fun _ => rfl)
theorem set_five (C : List Value) (n : Nat) (hC : C.length = n) (z0 z1 z2 z3 z4 a0 a1 a2 a3 a4 : Value) : (((((C ++ [z0, z1, z2, z3, z4]).set n a0).set (n + 1) a1).set (n + 2) a2).set (n + 3) a3).set (n + 4) a4 = C ++ [a0, a1, a2, a3, a4] := by
  subst hC
  rw [List.set_append_right _ _ (by omega), List.set_append_right _ _ (by omega), List.set_append_right _ _ (by omega), List.set_append_right _ _ (by omega), List.set_append_right _ _ (by omega)]
  simp [show C.length + 1 - C.length = 1 by omega, show C.length + 2 - C.length = 2 by omega, show C.length + 3 - C.length = 3 by omega, show C.length + 4 - C.length = 4 by omega]
theorem own_set5 {w : World} {B g n cap : Nat} {C : List Value} {z0 z1 z2 z3 z4 : Value} (a0 a1 a2 a3 a4 : Value) (m : Nat) (h : w.ownsRow B 24 5 (.slice (some ⟨g, 0, none⟩) n cap) n (C ++ [z0, z1, z2, z3, z4])) (hC : C.length = m) :
    (set5 w g m a0 a1 a2 a3 a4).ownsRow B 24 5 (.slice (some ⟨g, 0, none⟩) n cap) n (C ++ [a0, a1, a2, a3, a4]) := by
  rw [← set_five C m hC z0 z1 z2 z3 z4]
  exact (((((h.stored m a0).1.stored (m + 1) a1).1.stored (m + 2) a2).1.stored (m + 3) a3).1.stored (m + 4) a4).1

/-- What add leaves, told of whatever world its stores come to. -/
theorem add_fin {w W0 w1 W' : World} {B U L g gcap : Nat} {r : Row} {p : Part} {F : Nat → Prop} {ra : Option Addr} {rcap : Nat} {C : List Value} {a : Option Addr} {cap : Nat}
    (hbox : Box w L 102 #[.slice ra r.kids.len rcap, .int .i64 r.n]) (hown : w.ownsRow B 24 5 (.slice ra r.kids.len rcap) r.kids.len C)
    (hrep : RepC w (fun k => B ≤ k ∧ (Value.slice ra r.kids.len rcap).ownBlock ≠ some k) r.kids C) (hU : ∀ g, (Value.slice ra r.kids.len rcap).ownBlock = some g → g < U)
    (hk : KV w F (.slice a p.t.kids.len cap) p.t.kids) (hF : ∀ k, F k → U ≤ k) (hBU : B ≤ U) (hB : B ≤ w.heap.size) (hs : r.n + p.n < 2001)
    (hf0 : Frm (At L) w W0) (hgrow : Frm (fun k => (Value.slice ra r.kids.len rcap).ownBlock = some k) W0 w1) (hat : (Value.slice ra r.kids.len rcap).ownBlock = some g ∨ (g = w.heap.size + 2)) (hlt : g < w1.heap.size)
    (hf1 : Frm (At2 L g) w1 W') (hbox' : Box W' L 102 #[.slice (some ⟨g, 0, none⟩) (r.kids.len + 1) gcap, .int .i64 ((r.n + p.n : Nat) : Int)])
    (hown' : W'.ownsRow B 24 5 (.slice (some ⟨g, 0, none⟩) (r.kids.len + 1) gcap) (r.kids.len + 1) (C ++ [.string p.t.op, .string p.t.set, .slice a p.t.kids.len cap, .int .i64 p.t.lo, .int .i64 p.t.hi])) :
    RowV W' B W'.heap.size L (r.add p) ∧ Frm (RowS w B L) w W' := by
  have hgB : ∀ k, k < w.heap.size → (Value.slice ra r.kids.len rcap).ownBlock = some k → B ≤ k ∧ ∃ C, Box w k 24 C := by
    intro k hk h
    obtain ⟨cur, _, h1, h2, _⟩ := own_box hown h
    exact ⟨h2, cur, h1⟩
  have hfr : Frm (fun k => k = L ∨ (Value.slice ra r.kids.len rcap).ownBlock = some k) w W' := by
    refine ((hf0.mono (S' := fun k => k = L ∨ (Value.slice ra r.kids.len rcap).ownBlock = some k) (fun k _ e => Or.inl e)).then hgrow (fun k _ e => Or.inr e)).then hf1 (fun k hk e => ?_)
    rcases e with e | e
    · exact Or.inl e
    · subst e
      rcases hat with h | h
      · exact Or.inr h
      · omega
  have hsz := hf0.size
  have hstay : ∀ k cur, (B ≤ k ∧ (Value.slice ra r.kids.len rcap).ownBlock ≠ some k) → Box w k 24 cur → (B ≤ k ∧ (Value.slice (some ⟨g, 0, none⟩) (r.kids.len + 1) gcap).ownBlock ≠ some k) ∧ Box W' k 24 cur := by
    intro k cur ⟨h1, h2⟩ h3
    refine ⟨⟨h1, ?_⟩, h3.frm hfr ?_⟩
    · intro e
      simp only [Value.ownBlock, Option.some.injEq] at e
      subst e
      rcases hat with h | h
      · exact h2 h
      · have := h3.lt
        omega
    · rintro (e | e)
      · subst e
        have := box_type h3 hbox
        revert this
        decide
      · exact h2 e
  have hadd : r.add p = ⟨r.kids.snoc p.t, r.n + p.n⟩ := by rw [Row.add, if_pos hs]
  refine ⟨⟨?_, some ⟨g, 0, none⟩, gcap, C ++ [.string p.t.op, .string p.t.set, .slice a p.t.kids.len cap, .int .i64 p.t.lo, .int .i64 p.t.hi], ?_, ?_, ?_, ?_, ?_⟩, hfr.mono (fun k hk e => ?_)⟩
  · rw [hadd]; show r.n + p.n ≤ 2001; omega
  · rw [hadd]; simp only [Forest.len_snoc]; exact hbox'
  · rw [hadd]; simp only [Forest.len_snoc]; exact hown'
  · rw [hadd]
    simp only [Forest.len_snoc]
    refine RepC.snoc (hrep.go hstay) p.t _ (hk.go (fun k cur h1 h2 => ?_))
    refine hstay k cur ⟨Nat.le_trans hBU (hF k h1), fun e => ?_⟩ h2
    have := hU k e
    have := hF k h1
    omega
  · rw [hadd]
    intro k e
    simp only [Value.ownBlock, Option.some.injEq] at e
    have := hf1.size
    omega
  · rw [hadd]
    intro h
    simp only [Forest.len_snoc] at h
    omega
  · rcases e with e | e
    · exact Or.inl e
    · exact Or.inr (hgB k hk e)

set_option maxHeartbeats 4000000 in
theorem add_small (w : World) (B U L : Nat) (r : Row) (F : Nat → Prop) (v : Value) (p : Part) (hr : RowV w B U L r) (hp : PV w F v p) (hF : ∀ k, F k → U ≤ k) (hBU : B ≤ U) (hB : B ≤ w.heap.size) (hlen : r.kids.len ≤ 200000) (hs : r.n + p.n < 2001) :
    Calls Try.prog 59 #[.pointer (some ⟨L, 0, none⟩), v] w fun e w' => e = .returned (.tuple #[]) ∧ RowV w' B w'.heap.size L (r.add p) ∧ Frm (RowS w B L) w w' := by
  obtain ⟨hrn, ra, rcap, C, hbox, hown, hrep, hU, _⟩ := hr
  obtain ⟨hn, a, cap, rfl, hk⟩ := hp
  have hClen := hrep.len
  have HK := Lib.hid hk
  have HREP := Lib.hid hrep
  have HOWN := Lib.hid hown
  have HBX := Lib.hid hbox
  have hL := hbox.lt
  have l0 := hbox.cell 0
  have l1 := hbox.cell 1
  have lf := hbox.f 0
  have lf1 := hbox.f 1
  have hmin : min ((r.n : Int) + (p.n : Int)) 2001 = (r.n : Int) + p.n := by omega
  have hne : ((r.n : Int) + (p.n : Int) == 2001) = false := by simp; omega
  obtain ⟨i0, hi, hz0, hz1, hz2⟩ := info_parts info_ere
  have hx0 : (0 : Int) ≤ (r.kids.len : Int) := by omega
  have hx1 : (r.kids.len : Int) < (r.kids.len : Int) + 1 := by omega
  have hx2 : (r.kids.len : Int) < ((r.kids.len + 1 : Nat) : Int) := by omega
  have HU := Lib.hid hU
  have HFU := Lib.hid hF
  clear hk hrep hown hbox hU hF
  go_enter Try.func59, Try.ntmps59
  go_wp2
  go_region
  go_wp2
  generalize hW : ((w.setCell { block := L, off := 1 } (Value.int IntKind.i64 ((r.n : Int) + (p.n : Int)))).alloc (Obj.cells #[Value.string p.t.op, Value.string p.t.set, Value.slice a p.t.kids.len cap, Value.int IntKind.i64 p.t.lo, Value.int IntKind.i64 p.t.hi, Value.int IntKind.i64 (p.n : Int)] 88)).drew = W0
  have HW := Lib.hid hW
  have hsz : W0.heap.size = w.heap.size + 1 := by rw [← hW]; simp
  have HXL := Lib.hid (show Box W0 L 102 #[.slice ra r.kids.len rcap, .int .i64 ((r.n : Int) + p.n)] by rw [← hW]; exact ((HBX.out.set 1 _).alloc _))
  have HXP := Lib.hid (show Box W0 w.heap.size 88 #[.string p.t.op, .string p.t.set, .slice a p.t.kids.len cap, .int .i64 p.t.lo, .int .i64 p.t.hi, .int .i64 (p.n : Int)] by
    rw [← hW]
    have := Box.new (w.setCell { block := L, off := 1 } (Value.int IntKind.i64 ((r.n : Int) + (p.n : Int)))) 88 #[.string p.t.op, .string p.t.set, .slice a p.t.kids.len cap, .int .i64 p.t.lo, .int .i64 p.t.hi, .int .i64 (p.n : Int)]
    rw [show (w.setCell { block := L, off := 1 } (Value.int IntKind.i64 ((r.n : Int) + (p.n : Int)))).heap.size = w.heap.size by simp] at this
    exact this)
  have HF0 := Lib.hid (show Frm (At L) w W0 by
    rw [← hW]
    exact (((Frm.refl (At L) w).setCell ⟨L, 1, none⟩ _ (fun _ => rfl)).alloc _).drew)
  have HXO := Lib.hid (show W0.ownsRow B 24 5 (.slice ra r.kids.len rcap) r.kids.len C by
    exact own_frm HOWN.out HF0.out (fun g cur _ e e2 => own_ne HOWN.out HBX.out (by decide) (by cases e2; exact e)))
  have neL := own_ne HXO.out HXL.out (by decide)
  have neP := own_ne HXO.out HXP.out (by decide)
  have k0 : W0.cell? ⟨L, 0, none⟩ = some (.slice ra r.kids.len rcap) := HXL.out.cell 0
  have q0 : W0.cell? ⟨w.heap.size, 0, none⟩ = some (.string p.t.op) := HXP.out.cell 0
  have q1 : W0.cell? ⟨w.heap.size, 1, none⟩ = some (.string p.t.set) := HXP.out.cell 1
  have q2 : W0.cell? ⟨w.heap.size, 2, none⟩ = some (.slice a p.t.kids.len cap) := HXP.out.cell 2
  have q3 : W0.cell? ⟨w.heap.size, 3, none⟩ = some (.int .i64 p.t.lo) := HXP.out.cell 3
  have q4 : W0.cell? ⟨w.heap.size, 4, none⟩ = some (.int .i64 p.t.hi) := HXP.out.cell 4
  have kf := HXL.out.f 0
  have HGL := Lib.hid (show ∀ g, ((Value.slice ra r.kids.len rcap).ownBlock = some g ∨ g = w.heap.size + 2) → g ≠ L ∧ g ≠ w.heap.size by
    intro g h
    rcases h with h | h
    · exact ⟨fun e => neL (by rw [← e]; exact h), fun e => neP (by rw [← e]; exact h)⟩
    · omega)
  have hLP : w.heap.size ≠ L := by omega
  clear hW l0 l1 lf lf1 hmin hne
  go_region_law ((refine step_append_lies _ (by rfl) _ _ _ (by rfl) B 24 i0 _ 5 72 Try.underlying22 hi hz0 hz1 hz2 (by rfl) (by omega) (.slice ra r.kids.len rcap) r.kids.len C (by rfl) (by exact (HXO.out.alloc _).drew) ⟨w.heap.size + 1, 0, none⟩ 1 1 [.string ⟨#[]⟩, .string ⟨#[]⟩, .slice none 0 0, .int .i64 0, .int .i64 0] (by rfl) (by rfl) (World.news_of_block (cs := #[.string ⟨#[]⟩, .string ⟨#[]⟩, .slice none 0 0, .int .i64 0, .int .i64 0]) (t := 24) (fr := (0, 0)) (by rw [← hsz]; exact heap_alloc_new W0 _)) (by simp [Value.oneCell']) (by omega) (by unfold maxLen; omega) (by omega) (by simp; omega) (w.heap.size + 2) (by simp; omega) ?_; intro g gcap w1 hown1 hgrow hat hlt; have e0 : w1.cell? ⟨L, 0, none⟩ = some (.slice ra r.kids.len rcap) := (hgrow.cell_far _ (by simp; omega) (Ne.symm neL)).trans (by exact (HXL.out.alloc _).cell 0); have ef : w1.frozen? ⟨L, 0, none⟩ = false := (hgrow.frozen_far _ (by simp; omega) (Ne.symm neL)).trans (by exact (HXL.out.alloc _).f 0); have z0 : w1.cell? ⟨g, r.kids.len * 5, none⟩ = some (.string ⟨#[]⟩) := (hown1.cellAt (r.kids.len * 5) (by omega)).trans (by rw [List.getElem?_append_right (by omega)]; rw [show r.kids.len * 5 - C.length = 0 by omega]; rfl); have zf0 : w1.frozen? ⟨g, r.kids.len * 5, none⟩ = false := hown1.frozenAt (r.kids.len * 5); have z1 : w1.cell? ⟨g, r.kids.len * 5 + 1, none⟩ = some (.string ⟨#[]⟩) := (hown1.cellAt (r.kids.len * 5 + 1) (by omega)).trans (by rw [List.getElem?_append_right (by omega)]; rw [show r.kids.len * 5 + 1 - C.length = 1 by omega]; rfl); have zf1 : w1.frozen? ⟨g, r.kids.len * 5 + 1, none⟩ = false := hown1.frozenAt (r.kids.len * 5 + 1); have z2 : w1.cell? ⟨g, r.kids.len * 5 + 2, none⟩ = some (.slice none 0 0) := (hown1.cellAt (r.kids.len * 5 + 2) (by omega)).trans (by rw [List.getElem?_append_right (by omega)]; rw [show r.kids.len * 5 + 2 - C.length = 2 by omega]; rfl); have zf2 : w1.frozen? ⟨g, r.kids.len * 5 + 2, none⟩ = false := hown1.frozenAt (r.kids.len * 5 + 2); have z3 : w1.cell? ⟨g, r.kids.len * 5 + 3, none⟩ = some (.int .i64 0) := (hown1.cellAt (r.kids.len * 5 + 3) (by omega)).trans (by rw [List.getElem?_append_right (by omega)]; rw [show r.kids.len * 5 + 3 - C.length = 3 by omega]; rfl); have zf3 : w1.frozen? ⟨g, r.kids.len * 5 + 3, none⟩ = false := hown1.frozenAt (r.kids.len * 5 + 3); have z4 : w1.cell? ⟨g, r.kids.len * 5 + 4, none⟩ = some (.int .i64 0) := (hown1.cellAt (r.kids.len * 5 + 4) (by omega)).trans (by rw [List.getElem?_append_right (by omega)]; rw [show r.kids.len * 5 + 4 - C.length = 4 by omega]; rfl); have zf4 : w1.frozen? ⟨g, r.kids.len * 5 + 4, none⟩ = false := hown1.frozenAt (r.kids.len * 5 + 4); have hgL : g ≠ L := (HGL.out g hat).1; have hgP : g ≠ w.heap.size := (HGL.out g hat).2; have hgL' : L ≠ g := Ne.symm hgL; have hgP' : w.heap.size ≠ g := Ne.symm hgP))
  all_goals
    have HG1 := Lib.hid (show Frm (fun k => (Value.slice ra r.kids.len rcap).ownBlock = some k) W0 w1 from Frm.then (S' := fun k => (Value.slice ra r.kids.len rcap).ownBlock = some k) ((Frm.refl _ W0).alloc _) ⟨hgrow.os, hgrow.tape, hgrow.output, hgrow.size, fun k hk hn => hgrow.block k hk (fun e => hn e.symm)⟩ (fun _ _ e => e))
    have HB1 := Lib.hid (show Box w1 L 102 #[.slice ra r.kids.len rcap, .int .i64 ((r.n + p.n : Nat) : Int)] by
      rw [show ((r.n + p.n : Nat) : Int) = (r.n : Int) + p.n by push_cast; rfl]
      exact HXL.out.frm HG1.out neL)
    have hm : C.length = r.kids.len * 5 := by omega
    refine bodyPost_end (v := .tuple #[]) (by simp [results, Try.results59, go_sem]) rfl ⟨rfl, ?_⟩
    first
      | (with_reducible show RowV (World.setCell _ ⟨L, 0, none⟩ _) _ _ _ _ ∧ _); exact add_fin HBX.out HOWN.out HREP.out HU.out HK.out HFU.out hBU hB hs HF0.out HG1.out hat hlt (((frm_set5 w1 g (r.kids.len * 5) _ _ _ _ _).mono (fun _ _ e => Or.inr e)).setCell ⟨L, 0, none⟩ _ (fun _ => Or.inl rfl)) ((HB1.out.frm (frm_set5 w1 g (r.kids.len * 5) _ _ _ _ _) (fun e => hgL e.symm)).set 0 _) (own_frm (own_set5 _ _ _ _ _ (r.kids.len * 5) hown1 hm) (Frm.setCell (S := At L) (Frm.refl _ _) ⟨L, 0, none⟩ _ (fun _ => rfl)) (fun k cur _ e e2 => by simp only [Value.ownBlock, Option.some.injEq] at e; exact hgL (e.trans e2)))
      | exact add_fin HBX.out HOWN.out HREP.out HU.out HK.out HFU.out hBU hB hs HF0.out HG1.out hat hlt (((Frm.refl (At2 L g) w1).setCell ⟨L, 0, none⟩ _ (fun _ => Or.inl rfl)).trans ((frm_set5 _ g (r.kids.len * 5) _ _ _ _ _).mono (fun _ _ e => Or.inr e))) ((HB1.out.set 0 _).frm (frm_set5 _ g (r.kids.len * 5) _ _ _ _ _) (fun e => hgL e.symm)) (own_set5 _ _ _ _ _ (r.kids.len * 5) (own_frm hown1 (Frm.setCell (S := At L) (Frm.refl _ _) ⟨L, 0, none⟩ _ (fun _ => rfl)) (fun k cur _ e e2 => by simp only [Value.ownBlock, Option.some.injEq] at e; exact hgL (e.trans e2))) hm)
end Go.Proofs.Ytfgdhafpiikpjaa.parts
