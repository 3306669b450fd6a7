/- A machine and a search in memory. -/
import Derived.Test.YtbfekknhmjndaaaGreatRead
import Derived.Test.YtbfekknhmjndaaaGreatSrch
import Derived.Deep.RegionLaw
import Derived.Deep.AppendLies
import Derived.Deep.DrawnRows
import Derived.Deep.RegionHeld3
namespace Go.Proofs.YtbfekknhmjndaaaGreat.nfa
set_option linter.unusedVariables false set_option linter.unusedSimpArgs false
open Go.ChangeShapes Go.WideShapes Go.ChangeAt Go.RowKit Go.Proofs.YtbfekknhmjndaaaGreat.base

/-- Blocks from B on. -/
def Ge (B : Nat) : Nat → Prop := fun k => B ≤ k
theorem cell_frm {S : Nat → Prop} {w w' : World} (hf : Frm S w w') {b o : Nat} {v : Value} (h : w.cell? ⟨b, o, none⟩ = some v) (hs : ¬ S b) : w'.cell? ⟨b, o, none⟩ = some v := by
  rw [World.cell?_of_block (hf.block b (World.block_lt_of_cell? w _ h) hs)]
  exact h

def iC (n : Nat) : Value := .int .i64 (n : Int)
def thC (x : Nat × Nat) : List Value := [iC x.1, iC x.2]
def thL (l : List (Nat × Nat)) : List Value := l.flatMap thC
theorem thL_len (l : List (Nat × Nat)) : (thL l).length = l.length * 2 := by
  induction l with
  | nil => rfl
  | cons x t ih => simp only [thL, List.flatMap_cons, List.length_append, List.length_cons] at ih ⊢; rw [ih]; simp [thC]; omega
theorem thL_get (l : List (Nat × Nat)) (k : Nat) (x : Nat × Nat) (h : l[k]? = some x) : (thL l)[k * 2]? = some (iC x.1) ∧ (thL l)[k * 2 + 1]? = some (iC x.2) := by
  induction l generalizing k with
  | nil => cases h
  | cons y t ih =>
    cases k with
    | zero =>
      simp only [List.getElem?_cons_zero, Option.some.injEq] at h
      subst h
      simp [thL, thC]
    | succ k =>
      simp only [List.getElem?_cons_succ] at h
      obtain ⟨h1, h2⟩ := ih k h
      have e1 : (k + 1) * 2 = k * 2 + 1 + 1 := by omega
      have e2 : (k + 1) * 2 + 1 = k * 2 + 1 + 1 + 1 := by omega
      simp only [thL, List.flatMap_cons, thC, List.cons_append, List.nil_append] at h1 h2 ⊢
      rw [e2, e1, List.getElem?_cons_succ, List.getElem?_cons_succ, List.getElem?_cons_succ, List.getElem?_cons_succ]
      exact ⟨h1, h2⟩

/-- The 256 cells from o on of block b are what f says. -/
def FW (w : World) (b o : Nat) (f : Nat → Bool) : Prop := ∀ k, k < 256 → w.cell? ⟨b, o + k, none⟩ = some (.bool (f k))

/-- The four cells from o on of block SB are st. -/
def StW (w : World) (B SB o : Nat) : St → Prop
  | .acc => w.cell? ⟨SB, o, none⟩ = some (iC 0)
  | .take f nx => w.cell? ⟨SB, o, none⟩ = some (iC 1) ∧ w.cell? ⟨SB, o + 2, none⟩ = some (iC nx) ∧ ∃ fb, w.cell? ⟨SB, o + 1, none⟩ = some (.pointer (some ⟨fb, 0, none⟩)) ∧ fb < B ∧ FW w fb 0 f
  | .fork a b => w.cell? ⟨SB, o, none⟩ = some (iC 2) ∧ w.cell? ⟨SB, o + 2, none⟩ = some (iC a) ∧ w.cell? ⟨SB, o + 3, none⟩ = some (iC b)
  | .bol nx => w.cell? ⟨SB, o, none⟩ = some (iC 3) ∧ w.cell? ⟨SB, o + 2, none⟩ = some (iC nx)
  | .eol nx => w.cell? ⟨SB, o, none⟩ = some (iC 4) ∧ w.cell? ⟨SB, o + 2, none⟩ = some (iC nx)
theorem StW.frm {S : Nat → Prop} {w w' : World} {B SB o : Nat} {st : St} (h : StW w B SB o st) (hf : Frm S w w') (hs : ∀ k, k < B → ¬ S k) (hSB : SB < B) : StW w' B SB o st := by
  cases st with
  | acc => exact cell_frm hf h (hs _ hSB)
  | take f nx =>
    obtain ⟨h1, h2, fb, h3, h4, h5⟩ := h
    exact ⟨cell_frm hf h1 (hs _ hSB), cell_frm hf h2 (hs _ hSB), fb, cell_frm hf h3 (hs _ hSB), h4, fun k hk => cell_frm hf (h5 k hk) (hs _ h4)⟩
  | fork a b => exact ⟨cell_frm hf h.1 (hs _ hSB), cell_frm hf h.2.1 (hs _ hSB), cell_frm hf h.2.2 (hs _ hSB)⟩
  | bol nx => exact ⟨cell_frm hf h.1 (hs _ hSB), cell_frm hf h.2 (hs _ hSB)⟩
  | eol nx => exact ⟨cell_frm hf h.1 (hs _ hSB), cell_frm hf h.2 (hs _ hSB)⟩

/-- The machine M lies at block MB; all of it below B. -/
structure MachW (w : World) (B MB : Nat) (M : Nm) (f : Nat → Bool) (em : Bool) (SB cap : Nat) : Prop where
  c0 : w.cell? ⟨MB, 0, none⟩ = some (.slice (some ⟨SB, 0, none⟩) M.sts.length cap)
  c1 : w.cell? ⟨MB, 1, none⟩ = some (iC M.start)
  c2 : FW w MB 2 f
  c3 : w.cell? ⟨MB, 258, none⟩ = some (.bool em)
  hM : MB < B
  hS : SB < B
  st : ∀ k st, M.sts[k]? = some st → StW w B SB (k * 4) st
  n : M.sts.length ≤ 1000000
theorem MachW.frm {S : Nat → Prop} {w w' : World} {B MB : Nat} {M : Nm} {f : Nat → Bool} {em : Bool} {SB cap : Nat} (h : MachW w B MB M f em SB cap) (hf : Frm S w w') (hs : ∀ k, k < B → ¬ S k) : MachW w' B MB M f em SB cap :=
  ⟨cell_frm hf h.c0 (hs _ h.hM), cell_frm hf h.c1 (hs _ h.hM), fun k hk => cell_frm hf (h.c2 k hk) (hs _ h.hM), cell_frm hf h.c3 (hs _ h.hM), h.hM, h.hS, fun k st hk => (h.st k st hk).frm hf hs h.hS, h.n⟩
theorem MachW.ge {w w' : World} {B MB : Nat} {M : Nm} {f : Nat → Bool} {em : Bool} {SB cap : Nat} (h : MachW w B MB M f em SB cap) (hf : Frm (Ge B) w w') : MachW w' B MB M f em SB cap :=
  h.frm hf (fun k hk => by unfold Ge; omega)

/-- A search lies at block R; all that it may write lies from B on. -/
structure SV (w : World) (B R MB : Nat) (s : ByteArray) (p : Nat) (nv sv ev ov : Value) (e : E) (spr : List (Nat × Nat)) : Prop where
  box : Box w R 147 #[.pointer (some ⟨MB, 0, none⟩), .string s, .int .i64 (p : Int), nv, sv, ev, ov, .bool e.fd, .int .i64 (e.rs : Int), .int .i64 (e.re : Int)]
  hn : w.ownsRow B 163 2 nv e.now.length (thL e.now)
  hs : w.ownsRow B 163 2 sv spr.length (thL spr)
  he : w.ownsRow B 3 1 ev e.seen.length (e.seen.map iC)
  ho : w.ownsRow B 3 1 ov e.opn.length (e.opn.reverse.map iC)
  ns : ∀ g, nv.ownBlock = some g → sv.ownBlock ≠ some g
  eo : ∀ g, ov.ownBlock = some g → ev.ownBlock ≠ some g
  hR : B ≤ R
def SW (w : World) (B R MB : Nat) (s : ByteArray) (p : Nat) (sv ev : Value) (e : E) (spr : List (Nat × Nat)) : Prop := ∃ nv ov, SV w B R MB s p nv sv ev ov e spr

theorem own_type {w : World} {B n z : Nat} {v : Value} {C : List Value} {T : TypeId} (h : w.ownsRow B T z v n C) {g : Nat} (hg : v.ownBlock = some g) : B ≤ g ∧ g < w.heap.size ∧ ∃ cur, Box w g T cur := by
  rcases h.2 with ⟨rfl, _⟩ | ⟨g', cap, cur, rfl, hB, hh, _⟩
  · cases hg
  · simp only [Value.ownBlock, Option.some.injEq] at hg
    subst hg
    exact ⟨hB, (Array.getElem?_eq_some_iff.1 hh).1, cur, hh⟩
theorem box_ty {w : World} {g : Nat} {T T' : TypeId} {C C' : Array Value} (h : Box w g T C) (h' : Box w g T' C') : T = T' := by
  unfold Box at h h'
  rw [h] at h'
  cases h'
  rfl
theorem own_far {w : World} {B n z b : Nat} {v : Value} {C : List Value} {T T' : TypeId} {D : Array Value} (h : w.ownsRow B T z v n C) (hb : Box w b T' D) (hT : T' ≠ T) : v.ownBlock ≠ some b := fun e => by
  obtain ⟨_, _, cur, h1⟩ := own_type h e
  exact hT (box_ty hb h1)
theorem own_apart {w : World} {B n z B' n' z' : Nat} {v v' : Value} {C C' : List Value} {T T' : TypeId} (h : w.ownsRow B T z v n C) (h' : w.ownsRow B' T' z' v' n' C') (hT : T' ≠ T) {g : Nat} (hg : v.ownBlock = some g) : v'.ownBlock ≠ some g := fun e => by
  obtain ⟨_, _, cur, h1⟩ := own_type h hg
  obtain ⟨_, _, cur', h1'⟩ := own_type h' e
  exact hT (box_ty h1' h1)
theorem own_move {S : Nat → Prop} {w w' : World} {B n z : Nat} {v : Value} {C : List Value} {T : TypeId} (h : w.ownsRow B T z v n C) (hf : Frm S w w') (hs : ∀ g, v.ownBlock = some g → ¬ S g) : w'.ownsRow B T z v n C := by
  refine ⟨h.1, h.2.elim Or.inl (fun ⟨g, cap, cur, hv, hg, hh, r⟩ => Or.inr ⟨g, cap, cur, hv, hg, ?_, r⟩)⟩
  have hb : Box w g T cur := hh
  exact hb.frm hf (hs g (by rw [hv]; rfl))

theorem SV.cells {w : World} {B R MB : Nat} {s : ByteArray} {p : Nat} {nv sv ev ov : Value} {e : E} {spr : List (Nat × Nat)} (h : SV w B R MB s p nv sv ev ov e spr) :
    w.cell? ⟨R, 0, none⟩ = some (.pointer (some ⟨MB, 0, none⟩)) ∧ w.cell? ⟨R, 1, none⟩ = some (.string s) ∧ w.cell? ⟨R, 2, none⟩ = some (.int .i64 (p : Int)) ∧ w.cell? ⟨R, 3, none⟩ = some nv ∧ w.cell? ⟨R, 4, none⟩ = some sv ∧ w.cell? ⟨R, 5, none⟩ = some ev ∧ w.cell? ⟨R, 6, none⟩ = some ov ∧ w.cell? ⟨R, 7, none⟩ = some (.bool e.fd) ∧ w.cell? ⟨R, 8, none⟩ = some (.int .i64 (e.rs : Int)) ∧ w.cell? ⟨R, 9, none⟩ = some (.int .i64 (e.re : Int)) :=
  ⟨h.box.cell 0, h.box.cell 1, h.box.cell 2, h.box.cell 3, h.box.cell 4, h.box.cell 5, h.box.cell 6, h.box.cell 7, h.box.cell 8, h.box.cell 9⟩
end Go.Proofs.YtbfekknhmjndaaaGreat.nfa
