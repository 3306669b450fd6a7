/- Trees, tokens and the parser's state in memory. -/
import Derived.Test.YtgbibfhacjjaeaaGreatSynSpec
import Derived.Test.YtgbibfhacjjaeaaGreatFrm
import Derived.Deep.AppendLies
import Derived.Deep.WholeRow
namespace Go.Proofs.YtgbibfhacjjaeaaGreat.syn
set_option linter.unusedVariables false set_option linter.unusedSimpArgs false
open Go.ChangeShapes Go.WideShapes Go.ChangeAt Go.RowKit Go.Proofs.YtgbibfhacjjaeaaGreat.base
open Go.Proofs.YtgbibfhacjjaeaaGreat.lexs (Tok kNl kNum kStr kEre kOp kName kFunc kWord kBuilt)

abbrev tN : TypeId := 27
abbrev tT : TypeId := 69
abbrev tP : TypeId := 56

theorem box_type {w : World} {g : Nat} {T T' : TypeId} {C C' : Array Value} (h : Box w g T C) (h' : Box w g T' C') : T = T' := by
  unfold Box at h h'
  rw [h] at h'
  cases h'
  rfl
theorem setRow_eq {w : World} {g : Nat} {T : TypeId} {C D : Array Value} (h : Box w g T C) : Box (w.setRow g D) g T D := setRow_heap w g C D T (0, 0) h
theorem frm_setRow {S : Nat → Prop} {a w : World} (h : Frm S a w) (g : Nat) (D : Array Value) (hg : g < a.heap.size → S g) : Frm S a (w.setRow g D) :=
  h.then (S' := At g) ⟨rfl, rfl, rfl, by simp [World.setRow], fun k _ hk => by simp only [World.setRow, Array.getElem?_modify]; rw [if_neg (fun e => hk e.symm)]⟩ (fun k hk e => by cases e; exact hg hk)
theorem frm1 (w : World) (o : Obj) : Frm No w (w.alloc o) := (Frm.refl No w).alloc o

/-- Some trees, and no more of them than a slice may hold. -/
def Okl (f : Fo) (cap : Nat) : Prop := f ≠ .nil ∧ f.len ≤ maxLen ∧ f.len ≤ cap
/-- The cells C are these trees, one behind the other; their kids lie in blocks of F. -/
def RepC (w : World) (F : Nat → Prop) : Fo → List Value → Prop
  | .nil, C => C = []
  | .cons op tx kids rest, C => ∃ k C', C = .string ⟨op.toArray⟩ :: .string ⟨tx.toArray⟩ :: k :: C' ∧
      ((k = .slice none 0 0 ∧ kids = .nil) ∨ ∃ g cap cur, k = .slice (some ⟨g, 0, none⟩) kids.len cap ∧ Okl kids cap ∧ F g ∧ Box w g tN cur ∧ RepC w F kids (cur.toList.take (3 * kids.len))) ∧ RepC w F rest C'
/-- k is a slice of these trees. -/
def KV (w : World) (F : Nat → Prop) (k : Value) (kids : Fo) : Prop :=
  (k = .slice none 0 0 ∧ kids = .nil) ∨ ∃ g cap cur, k = .slice (some ⟨g, 0, none⟩) kids.len cap ∧ Okl kids cap ∧ F g ∧ Box w g tN cur ∧ RepC w F kids (cur.toList.take (3 * kids.len))
theorem RepC.len {w : World} {F : Nat → Prop} {f : Fo} {C : List Value} (h : RepC w F f C) : C.length = 3 * f.len := by
  induction f generalizing C with
  | nil => rw [show C = [] from h]; rfl
  | cons op tx kids rest ih1 ih2 =>
    obtain ⟨k, C', rfl, _, h2⟩ := h
    have := ih2 h2
    simp only [List.length_cons, Fo.len]
    omega
theorem RepC.go {w w' : World} {F F' : Nat → Prop} {f : Fo} {C : List Value} (h : RepC w F f C) (hw : ∀ g cur, F g → Box w g tN cur → F' g ∧ Box w' g tN cur) : RepC w' F' f C := by
  induction f generalizing C with
  | nil => exact h
  | cons op tx kids rest ih1 ih2 =>
    obtain ⟨k, C', hC, hk, h2⟩ := h
    refine ⟨k, C', hC, ?_, ih2 h2⟩
    rcases hk with hk | ⟨g, cap, cur, h3, h4, h5, h6, h7⟩
    · exact Or.inl hk
    · obtain ⟨h8, h9⟩ := hw g cur h5 h6
      exact Or.inr ⟨g, cap, cur, h3, h4, h8, h9, ih1 h7⟩
theorem KV.go {w w' : World} {F F' : Nat → Prop} {f : Fo} {k : Value} (h : KV w F k f) (hw : ∀ g cur, F g → Box w g tN cur → F' g ∧ Box w' g tN cur) : KV w' F' k f := by
  rcases h with h | ⟨g, cap, cur, h3, h4, h5, h6, h7⟩
  · exact Or.inl h
  · obtain ⟨h8, h9⟩ := hw g cur h5 h6
    exact Or.inr ⟨g, cap, cur, h3, h4, h8, h9, h7.go hw⟩
theorem KV.frm {S F : Nat → Prop} {w w' : World} {f : Fo} {k : Value} (h : KV w F k f) (hf : Frm S w w') (hs : ∀ g, F g → g < w.heap.size → ¬ S g) : KV w' F k f :=
  h.go fun g cur h1 h2 => ⟨h1, h2.frm hf (hs g h1 h2.lt)⟩
theorem KV.mono {F F' : Nat → Prop} {w : World} {f : Fo} {k : Value} (h : KV w F k f) (hs : ∀ g, F g → g < w.heap.size → F' g) : KV w F' k f :=
  h.go fun g cur h1 h2 => ⟨hs g h1 h2.lt, h2⟩
theorem KV.move {F : Nat → Prop} {w w' : World} {f : Fo} {k : Value} (h : KV w F k f) (hf : Frm No w w') : KV w' F k f := h.frm hf (fun _ _ _ => id)
/-- Blocks of another type may be written. -/
theorem KV.other {F S : Nat → Prop} {w w' : World} {f : Fo} {k : Value} (h : KV w F k f) (hf : Frm S w w') (hs : ∀ g, S g → g < w.heap.size → ∃ T C, Box w g T C ∧ T ≠ tN) : KV w' F k f :=
  h.go fun g cur h1 h2 => ⟨h1, h2.frm hf (fun hx => by obtain ⟨T, C, hb, hT⟩ := hs g hx h2.lt; exact hT (box_type hb h2))⟩
theorem KV.nil (w : World) (F : Nat → Prop) : KV w F (.slice none 0 0) .nil := Or.inl ⟨rfl, rfl⟩
theorem KV.forms {w : World} {F : Nat → Prop} {f : Fo} {k : Value} (h : KV w F k f) : ∃ a cap, k = .slice a f.len cap := by
  rcases h with ⟨rfl, rfl⟩ | ⟨g, cap, cur, rfl, _⟩
  · exact ⟨_, _, rfl⟩
  · exact ⟨_, _, rfl⟩
/-- The trees of a new block. -/
theorem KV.block {w : World} {F : Nat → Prop} {f : Fo} (hf : f ≠ .nil ∧ f.len ≤ maxLen) (g : Nat) (hg : F g) (cur : Array Value) (hb : Box w g tN cur) (cap n : Nat) (hn : n = f.len) (hc : RepC w F f (cur.toList.take (3 * f.len))) (hcap : n ≤ cap := by omega) : KV w F (.slice (some ⟨g, 0, none⟩) n cap) f := by
  subst hn
  exact Or.inr ⟨g, cap, cur, rfl, ⟨hf.1, hf.2, hcap⟩, hg, hb, hc⟩
theorem RepC.nil (w : World) (F : Nat → Prop) : RepC w F .nil [] := rfl
theorem RepC.cons {w : World} {F : Nat → Prop} {op tx : B} {kids rest : Fo} {k : Value} {C : List Value} (hk : KV w F k kids) (h : RepC w F rest C) : RepC w F (.cons op tx kids rest) (.string ⟨op.toArray⟩ :: .string ⟨tx.toArray⟩ :: k :: C) := ⟨k, C, rfl, hk, h⟩
theorem RepC.snoc {w : World} {F : Nat → Prop} {f : Fo} {C : List Value} (h : RepC w F f C) (n : Nd) (k : Value) (hk : KV w F k n.kids) : RepC w F (f.snoc n) (C ++ [.string ⟨n.op.toArray⟩, .string ⟨n.tx.toArray⟩, k]) := by
  induction f generalizing C with
  | nil =>
    rw [show C = [] from h]
    exact ⟨k, [], rfl, hk, rfl⟩
  | cons op tx kids rest ih1 ih2 =>
    obtain ⟨k', C', rfl, h1, h2⟩ := h
    exact ⟨k', C' ++ _, rfl, h1, ih2 h2⟩
/-- A node's cells. -/
def nC (n : Nd) (k : Value) : List Value := [.string ⟨n.op.toArray⟩, .string ⟨n.tx.toArray⟩, k]
theorem KV.k1 {w : World} {F : Nat → Prop} {n : Nd} {k : Value} (hk : KV w F k n.kids) (g : Nat) (hg : F g) (hb : Box w g tN (nC n k).toArray) (cap : Nat) (hcap : 1 ≤ cap := by omega) : KV w F (.slice (some ⟨g, 0, none⟩) 1 cap) (one n) :=
  KV.block (f := one n) ⟨(by intro h; cases h), (show 1 ≤ maxLen by unfold maxLen; omega)⟩ g hg _ hb cap 1 rfl (RepC.cons hk (RepC.nil w F)) hcap
theorem KV.k2 {w : World} {F : Nat → Prop} {n m : Nd} {k l : Value} (hk : KV w F k n.kids) (hl : KV w F l m.kids) (g : Nat) (hg : F g) (hb : Box w g tN (nC n k ++ nC m l).toArray) (cap : Nat) (hcap : 2 ≤ cap := by omega) : KV w F (.slice (some ⟨g, 0, none⟩) 2 cap) (two n m) :=
  KV.block (f := two n m) ⟨(by intro h; cases h), (show 2 ≤ maxLen by unfold maxLen; omega)⟩ g hg _ hb cap 2 rfl (RepC.cons hk (RepC.cons hl (RepC.nil w F))) hcap
theorem KV.k3 {w : World} {F : Nat → Prop} {n m o : Nd} {k l i : Value} (hk : KV w F k n.kids) (hl : KV w F l m.kids) (hi : KV w F i o.kids) (g : Nat) (hg : F g) (hb : Box w g tN (nC n k ++ nC m l ++ nC o i).toArray) (cap : Nat) (hcap : 3 ≤ cap := by omega) : KV w F (.slice (some ⟨g, 0, none⟩) 3 cap) (three n m o) :=
  KV.block (f := three n m o) ⟨(by intro h; cases h), (show 3 ≤ maxLen by unfold maxLen; omega)⟩ g hg _ hb cap 3 rfl (RepC.cons hk (RepC.cons hl (RepC.cons hi (RepC.nil w F)))) hcap
theorem KV.k4 {w : World} {F : Nat → Prop} {n m o p : Nd} {k l i j : Value} (hk : KV w F k n.kids) (hl : KV w F l m.kids) (hi : KV w F i o.kids) (hj : KV w F j p.kids) (g : Nat) (hg : F g) (hb : Box w g tN (nC n k ++ nC m l ++ nC o i ++ nC p j).toArray) (cap : Nat) (hcap : 4 ≤ cap := by omega) : KV w F (.slice (some ⟨g, 0, none⟩) 4 cap) (four n m o p) :=
  KV.block (f := four n m o p) ⟨(by intro h; cases h), (show 4 ≤ maxLen by unfold maxLen; omega)⟩ g hg _ hb cap 4 rfl (RepC.cons hk (RepC.cons hl (RepC.cons hi (RepC.cons hj (RepC.nil w F))))) hcap

/-- A row of trees in a slice of the call's own: its blocks lie from B on. -/
def RowN (w : World) (B : Nat) (a : Option Addr) (cap : Nat) (f : Fo) : Prop := ∃ C, w.ownsRow B tN 3 (.slice a f.len cap) f.len C ∧
  RepC w (fun k => B ≤ k ∧ (Value.slice a f.len cap).ownBlock ≠ some k) f C ∧ (f.len = 0 → a = none ∧ cap = 0)
theorem RowN.nil (w : World) (B : Nat) : RowN w B none 0 .nil := ⟨[], World.ownsRow_nil _ _ _ _, rfl, fun _ => ⟨rfl, rfl⟩⟩
theorem own_box {w : World} {B n : Nat} {v : Value} {C : List Value} (h : w.ownsRow B tN 3 v n C) {g : Nat} (hg : v.ownBlock = some g) : ∃ cur cap, Box w g tN cur ∧ B ≤ g ∧ v = .slice (some ⟨g, 0, none⟩) n cap ∧ cur.toList.take (n * 3) = C := by
  rcases h.2 with ⟨rfl, _⟩ | ⟨g', cap, cur, rfl, hB, hh, _, _, _, ht⟩
  · cases hg
  · simp only [Value.ownBlock, Option.some.injEq] at hg
    subst hg
    exact ⟨cur, cap, hh, hB, rfl, ht⟩
theorem own_frm {S : Nat → Prop} {w w' : World} {B n : Nat} {v : Value} {C : List Value} (h : w.ownsRow B tN 3 v n C) (hf : Frm S w w') (hs : ∀ g cur, Box w g tN cur → v.ownBlock = some g → ¬ S g) : w'.ownsRow B tN 3 v n C := by
  refine ⟨h.1, h.2.elim Or.inl (fun ⟨g, cap, cur, hv, hg, hh, r⟩ => Or.inr ⟨g, cap, cur, hv, hg, ?_, r⟩)⟩
  have hb : Box w g tN cur := hh
  exact hb.frm hf (hs g cur hb (by rw [hv]; rfl))
theorem RowN.other {S : Nat → Prop} {w w' : World} {B : Nat} {a : Option Addr} {cap : Nat} {f : Fo} (h : RowN w B a cap f) (hf : Frm S w w') (hs : ∀ g, S g → g < w.heap.size → ∃ T C, Box w g T C ∧ T ≠ tN) : RowN w' B a cap f := by
  obtain ⟨C, h1, h2, h4⟩ := h
  have hn : ∀ g cur, Box w g tN cur → ¬ S g := fun g cur hb hx => by obtain ⟨T, D, hd, hT⟩ := hs g hx hb.lt; exact hT (box_type hd hb)
  exact ⟨C, own_frm h1 hf (fun g cur hb _ => hn g cur hb), h2.go (fun g cur e hb => ⟨e, hb.frm hf (hn g cur hb)⟩), h4⟩
theorem RowN.move {w w' : World} {B : Nat} {a : Option Addr} {cap : Nat} {f : Fo} (h : RowN w B a cap f) (hf : Frm No w w') : RowN w' B a cap f := h.other hf (fun g e => e.elim)
/-- The row as a tree's kids. -/
theorem RowN.kv {w : World} {B cap : Nat} {a : Option Addr} {f : Fo} (h : RowN w B a cap f) : KV w (fun k => B ≤ k) (.slice a f.len cap) f := by
  obtain ⟨C, h1, h2, h4⟩ := h
  by_cases he : f.len = 0
  · obtain ⟨rfl, rfl⟩ := h4 he
    cases f with
    | nil => exact KV.nil _ _
    | cons _ _ _ r => simp only [Fo.len] at he; omega
  · rcases h1.2 with ⟨ea, eb⟩ | ⟨g, cap1, cur, ea, hB, eb, e1, e2, _, ec⟩
    · exact absurd eb he
    · rw [ea]
      refine Or.inr ⟨g, cap1, cur, rfl, ⟨(by rintro rfl; exact he rfl), Nat.le_trans e1 e2, e1⟩, hB, eb, ?_⟩
      rw [show 3 * f.len = f.len * 3 by omega, ec]
      exact h2.go (fun k cur ⟨e1, _⟩ hb => ⟨e1, hb⟩)
theorem RowN.mono {w : World} {B B' cap : Nat} {a : Option Addr} {f : Fo} (h : RowN w B a cap f) (hB : B' ≤ B) : RowN w B' a cap f := by
  obtain ⟨C, h1, h2, h4⟩ := h
  exact ⟨C, ⟨h1.1, h1.2.elim Or.inl (fun ⟨g, cap, cur, hv, hg, r⟩ => Or.inr ⟨g, cap, cur, hv, Nat.le_trans hB hg, r⟩)⟩, h2.go (fun g cur ⟨e1, e2⟩ hb => ⟨⟨Nat.le_trans hB e1, e2⟩, hb⟩), h4⟩

theorem info_node : (Tryz.prog.info? tN).map (fun i => (i.zero, i.size, i.bytes)) = some (some (.agg #[.string ⟨#[]⟩, .string ⟨#[]⟩, .slice none 0 0]), 3, 56) := by kernel_rfl
theorem info_nd : (Tryz.prog.info? tN).map (·.size) = some 3 := by kernel_rfl
theorem info_tk : (Tryz.prog.info? tT).map (·.size) = some 2 := by kernel_rfl
theorem info_pr : (Tryz.prog.info? tP).map (·.size) = some 6 := by kernel_rfl

/-- The tokens ts stand behind the address ra. -/
def TR (w : World) (ra : Option Addr) (rc : Nat) (ts : List Tok) : Prop := ts.length ≤ rc ∧ ts.length ≤ 100000 ∧ (ts = [] ∨ ∃ g o cur, ra = some ⟨g, o, none⟩ ∧ Box w g tT cur ∧
  ∀ i t, ts[i]? = some t → cur[o + i * 2]? = some (.string ⟨t.k.toArray⟩) ∧ cur[o + i * 2 + 1]? = some (.string ⟨t.t.toArray⟩))
theorem TR.nil (w : World) (ra : Option Addr) (rc : Nat) : TR w ra rc [] := ⟨Nat.zero_le _, Nat.zero_le _, Or.inl rfl⟩
theorem TR.other {S : Nat → Prop} {w w' : World} {ra : Option Addr} {rc : Nat} {ts : List Tok} (h : TR w ra rc ts) (hf : Frm S w w') (hs : ∀ g, S g → g < w.heap.size → ∃ T C, Box w g T C ∧ T ≠ tT) : TR w' ra rc ts := by
  obtain ⟨h0, h1, h2⟩ := h
  refine ⟨h0, h1, h2.elim Or.inl ?_⟩
  rintro ⟨g, o, cur, e1, e2, e3⟩
  exact Or.inr ⟨g, o, cur, e1, e2.frm hf (fun hx => by obtain ⟨T, D, hd, hT⟩ := hs g hx e2.lt; exact hT (box_type hd e2)), e3⟩
theorem TR.tail {w : World} {g o rc : Nat} {t : Tok} {ts : List Tok} (h : TR w (some ⟨g, o, none⟩) rc (t :: ts)) (ra' : Option Addr) (hra : ra' = some ⟨g, o + 2, none⟩ ∨ rc ≤ 1) : TR w ra' (rc - 1) ts := by
  obtain ⟨h0, h1, h2⟩ := h
  simp only [List.length_cons] at h0 h1
  refine ⟨by omega, by omega, ?_⟩
  rcases hra with rfl | h
  · rcases h2 with h2 | ⟨g', o', cur, e1, e2, e3⟩
    · cases h2
    · cases e1
      refine Or.inr ⟨g, o + 2, cur, rfl, e2, fun i u hu => ?_⟩
      have := e3 (i + 1) u (by simpa using hu)
      rw [show o + (i + 1) * 2 = o + 2 + i * 2 by omega] at this
      exact this
  · left
    apply List.eq_nil_of_length_eq_zero
    omega

/-- The parser's box. -/
def pC (ra : Option Addr) (rc : Nat) (n : Nat) (s : PS) : Array Value := #[.slice ra s.r.length rc, .bool s.f, .int .i64 n, .string ⟨s.k.toArray⟩, .int .i64 s.l, .bool s.s]
def PWr (w : World) (R : Nat) (n : Nat) (s : PS) (ra : Option Addr) (rc : Nat) : Prop := Box w R tP (pC ra rc n s) ∧ TR w ra rc s.r
/-- The parser in box R is in the state s, with n nodes around. -/
def PW (w : World) (R : Nat) (n : Nat) (s : PS) : Prop := ∃ ra rc, PWr w R n s ra rc
theorem PW.box {w : World} {R n : Nat} {s : PS} (h : PW w R n s) : ∃ ra rc, Box w R tP (pC ra rc n s) := by obtain ⟨ra, rc, h, _⟩ := h; exact ⟨ra, rc, h⟩
theorem PW.lt {w : World} {R n : Nat} {s : PS} (h : PW w R n s) : R < w.heap.size := by obtain ⟨ra, rc, h, _⟩ := h; exact h.lt
theorem PW.len {w : World} {R n : Nat} {s : PS} (h : PW w R n s) : s.r.length ≤ 100000 := by obtain ⟨ra, rc, _, h⟩ := h; exact h.2.1
/-- Blocks of other types may be written. -/
theorem PW.other {S : Nat → Prop} {w w' : World} {R n : Nat} {s : PS} (h : PW w R n s) (hf : Frm S w w') (hs : ∀ g, S g → g < w.heap.size → ∃ T C, Box w g T C ∧ T ≠ tT ∧ T ≠ tP) : PW w' R n s := by
  obtain ⟨ra, rc, h1, h2⟩ := h
  exact ⟨ra, rc, h1.frm hf (fun hx => by obtain ⟨T, D, hd, _, hT⟩ := hs R hx h1.lt; exact hT (box_type hd h1)), h2.other hf (fun g hg hl => by obtain ⟨T, C, hb, hT, _⟩ := hs g hg hl; exact ⟨T, C, hb, hT⟩)⟩
theorem PW.move {w w' : World} {R n : Nat} {s : PS} (h : PW w R n s) (hf : Frm No w w') : PW w' R n s := h.other hf (fun g e => e.elim)
theorem PW.setRow {w : World} {R n : Nat} {s : PS} (h : PW w R n s) {b : Nat} {T : TypeId} {C : Array Value} (hb : Box w b T C) (hT : T ≠ tT ∧ T ≠ tP) (D : Array Value) : PW (w.setRow b D) R n s :=
  h.other (frm_setRow (S := At b) (Frm.refl _ w) b D (fun _ => rfl)) (fun g e _ => by cases e; exact ⟨T, C, hb, hT⟩)
/-- The parser's box is written. -/
theorem PW.to {w w' : World} {R n m : Nat} {s s' : PS} (h : PW w R n s) (hf : Frm (At R) w w') (ra : Option Addr) (rc : Nat) (hb : Box w' R tP (pC ra rc m s')) (ht : TR w ra rc s'.r) : PW w' R m s' :=
  ⟨ra, rc, hb, ht.other hf (fun g e _ => by cases e; obtain ⟨ra, rc, h⟩ := h.box; exact ⟨_, _, h, by decide⟩)⟩
/-- Trees stay where the parser goes on. -/
theorem KV.at {F : Nat → Prop} {w w' : World} {f : Fo} {k : Value} (h : KV w F k f) {R n : Nat} {s : PS} (hp : PW w R n s) (hf : Frm (At R) w w') : KV w' F k f :=
  h.other hf (fun g e _ => by cases e; obtain ⟨ra, rc, h⟩ := hp.box; exact ⟨_, _, h, by decide⟩)
theorem RowN.at {w w' : World} {B : Nat} {a : Option Addr} {cap : Nat} {f : Fo} (h : RowN w B a cap f) {R n : Nat} {s : PS} (hp : PW w R n s) (hf : Frm (At R) w w') : RowN w' B a cap f :=
  h.other hf (fun g e _ => by cases e; obtain ⟨ra, rc, h⟩ := hp.box; exact ⟨_, _, h, by decide⟩)
theorem Box.at {w w' : World} {b : Nat} {T : TypeId} {C : Array Value} (h : Box w b T C) {R n : Nat} {s : PS} (hp : PW w R n s) (hf : Frm (At R) w w') (hT : T ≠ tP) : Box w' b T C :=
  h.frm hf (fun e => by cases e; obtain ⟨ra, rc, h2⟩ := hp.box; exact hT (box_type h h2))

/-- What a function that reads a node answers. -/
def Ans (w : World) (R n : Nat) (q : Nd × PS) : Ending → World → Prop := fun e w' => ∃ a c, e = .returned (.agg #[.string ⟨q.1.op.toArray⟩, .string ⟨q.1.tx.toArray⟩, .slice a q.1.kids.len c]) ∧ KV w' (fun g => w.heap.size ≤ g) (.slice a q.1.kids.len c) q.1.kids ∧ PW w' R n q.2 ∧ Frm (At R) w w'
/-- What a function that reads a list answers. -/
def AnsL (w : World) (R n : Nat) (q : Fo × PS) : Ending → World → Prop := fun e w' => ∃ a c, e = .returned (.slice a q.1.len c) ∧ RowN w' w.heap.size a c q.1 ∧ PW w' R n q.2 ∧ Frm (At R) w w'
/-- The contract of such a function, with n nodes around. -/
def RC (f : FuncId) (n : Nat) (rd : Rd) : Prop := ∀ w R s, PW w R n s → Calls Tryz.prog f #[.pointer (some ⟨R, 0, none⟩)] w (Ans w R n (rd s))
def RL (f : FuncId) (n : Nat) (rd : PS → Fo × PS) : Prop := ∀ w R s, PW w R n s → Calls Tryz.prog f #[.pointer (some ⟨R, 0, none⟩)] w (AnsL w R n (rd s))

end Go.Proofs.YtgbibfhacjjaeaaGreat.syn
