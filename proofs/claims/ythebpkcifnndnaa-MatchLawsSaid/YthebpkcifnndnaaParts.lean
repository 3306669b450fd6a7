/- Trees in memory, and the contracts of ere's parts: big, sized, oneByte, setOf, edge, repeated. -/
import Derived.Test.YthebpkcifnndnaaSet
namespace Go.Proofs.Ythebpkcifnndnaa.parts
set_option linter.unusedVariables false set_option linter.unusedSimpArgs false
open Go.ChangeShapes Go.WideShapes Go.ChangeAt Go.RowKit Go.Proofs.Ythebpkcifnndnaa.base Go.Proofs.Ythebpkcifnndnaa.read Go.Proofs.Ythebpkcifnndnaa.spec Go.Proofs.Ythebpkcifnndnaa.set

/-- The cells C are these trees, one behind the other; their kids lie in blocks of F. -/
def RepC (w : World) (F : Nat → Prop) : Forest → List Value → Prop
  | .nil, C => C = []
  | .cons op set lo hi kids rest, C => ∃ k C', C = .string op :: .string set :: k :: .int .i64 lo :: .int .i64 hi :: C' ∧
      ((k = .slice none 0 0 ∧ kids = .nil) ∨ ∃ g cap cur, k = .slice (some ⟨g, 0, none⟩) kids.len cap ∧ kids ≠ .nil ∧ F g ∧ Box w g 26 cur ∧ RepC w F kids (cur.toList.take (5 * kids.len))) ∧ RepC w F rest C'
/-- k is a slice of these trees. -/
def KV (w : World) (F : Nat → Prop) (k : Value) (kids : Forest) : Prop :=
  (k = .slice none 0 0 ∧ kids = .nil) ∨ ∃ g cap cur, k = .slice (some ⟨g, 0, none⟩) kids.len cap ∧ kids ≠ .nil ∧ F g ∧ Box w g 26 cur ∧ RepC w F kids (cur.toList.take (5 * kids.len))

theorem RepC.len {w : World} {F : Nat → Prop} {f : Forest} {C : List Value} (h : RepC w F f C) : C.length = 5 * f.len := by
  induction f generalizing C with
  | nil => rw [show C = [] from h]; rfl
  | cons op set lo hi kids rest ih1 ih2 =>
    obtain ⟨k, C', rfl, _, h2⟩ := h
    have := ih2 h2
    simp only [List.length_cons, Forest.len]
    omega
theorem RepC.go {w w' : World} {F F' : Nat → Prop} {f : Forest} {C : List Value} (h : RepC w F f C) (hw : ∀ g cur, F g → Box w g 26 cur → F' g ∧ Box w' g 26 cur) : RepC w' F' f C := by
  induction f generalizing C with
  | nil => exact h
  | cons op set lo hi kids rest ih1 ih2 =>
    obtain ⟨k, C', hC, hk, h2⟩ := h
    refine ⟨k, C', hC, ?_, ih2 h2⟩
    rcases hk with hk | ⟨g, cap, cur, h3, h4, h5, h6, h7⟩
    · exact Or.inl hk
    · obtain ⟨h8, h9⟩ := hw g cur h5 h6
      exact Or.inr ⟨g, cap, cur, h3, h4, h8, h9, ih1 h7⟩
theorem KV.go {w w' : World} {F F' : Nat → Prop} {f : Forest} {k : Value} (h : KV w F k f) (hw : ∀ g cur, F g → Box w g 26 cur → F' g ∧ Box w' g 26 cur) : KV w' F' k f := by
  rcases h with h | ⟨g, cap, cur, h3, h4, h5, h6, h7⟩
  · exact Or.inl h
  · obtain ⟨h8, h9⟩ := hw g cur h5 h6
    exact Or.inr ⟨g, cap, cur, h3, h4, h8, h9, h7.go hw⟩
theorem KV.frm {S F : Nat → Prop} {w w' : World} {f : Forest} {k : Value} (h : KV w F k f) (hf : Frm S w w') (hs : ∀ g, F g → g < w.heap.size → ¬ S g) : KV w' F k f :=
  h.go fun g cur h1 h2 => ⟨h1, h2.frm hf (hs g h1 h2.lt)⟩
theorem KV.mono {F F' : Nat → Prop} {w : World} {f : Forest} {k : Value} (h : KV w F k f) (hs : ∀ g, F g → g < w.heap.size → F' g) : KV w F' k f :=
  h.go fun g cur h1 h2 => ⟨hs g h1 h2.lt, h2⟩
theorem KV.move {F : Nat → Prop} {w w' : World} {f : Forest} {k : Value} (h : KV w F k f) (hf : Frm No w w') : KV w' F k f := h.frm hf (fun _ _ _ => id)
theorem box_type {w : World} {g : Nat} {T T' : TypeId} {C C' : Array Value} (h : Box w g T C) (h' : Box w g T' C') : T = T' := by
  unfold Box at h h'
  rw [h] at h'
  cases h'
  rfl
/-- Blocks of another type may be written. -/
theorem KV.other {F S : Nat → Prop} {w w' : World} {f : Forest} {k : Value} (h : KV w F k f) (hf : Frm S w w') (hs : ∀ g, S g → g < w.heap.size → ∃ T C, Box w g T C ∧ T ≠ 26) : KV w' F k f :=
  h.go fun g cur h1 h2 => ⟨h1, h2.frm hf (fun hx => by obtain ⟨T, C, hb, hT⟩ := hs g hx h2.lt; exact hT (box_type hb h2))⟩
theorem KV.setRow {F : Nat → Prop} {w : World} {f : Forest} {k : Value} (h : KV w F k f) {b : Nat} {T : TypeId} {C : Array Value} (hb : Box w b T C) (hT : T ≠ 26) (D : Array Value) : KV (w.setRow b D) F k f :=
  h.other (frm_setRow (S := At b) (Frm.refl _ w) b D (fun _ => rfl)) (fun g e _ => by cases e; exact ⟨T, C, hb, hT⟩)
theorem KV.rd {F : Nat → Prop} {w w' : World} {f : Forest} {k : Value} (h : KV w F k f) {R : Nat} {s : ByteArray} {d : Nat} {l : List UInt8} (hf : Frm (At R) w w') (hr : Rd w R s d l) : KV w' F k f :=
  h.other hf (fun g e _ => by cases e; obtain ⟨i, hr, _⟩ := hr; exact ⟨_, _, hr.1, by decide⟩)
theorem KV.nil (w : World) (F : Nat → Prop) : KV w F (.slice none 0 0) .nil := Or.inl ⟨rfl, rfl⟩
theorem KV.forms {w : World} {F : Nat → Prop} {f : Forest} {k : Value} (h : KV w F k f) : ∃ a cap, k = .slice a f.len cap := by
  rcases h with ⟨rfl, rfl⟩ | ⟨g, cap, cur, rfl, _⟩
  · exact ⟨_, _, rfl⟩
  · exact ⟨_, _, rfl⟩
/-- The one tree of a new block. -/
theorem KV.one {w : World} {F : Nat → Prop} {k : Value} (t : T) (h : KV w F k t.kids) (g : Nat) (hg : F g) (cur : Array Value) (hb : Box w g 26 cur) (hc : cur = #[.string t.op, .string t.set, k, .int .i64 t.lo, .int .i64 t.hi]) (cap : Nat) : KV w F (.slice (some ⟨g, 0, none⟩) 1 cap) (Forest.nil.snoc t) := by
  refine Or.inr ⟨g, cap, cur, rfl, (by intro h; cases h), hg, hb, ?_⟩
  subst hc
  exact ⟨k, [], rfl, h, rfl⟩

/-- v is a part. -/
def PV (w : World) (F : Nat → Prop) (v : Value) (p : Part) : Prop :=
  p.n ≤ 2001 ∧ ∃ a cap, v = .agg #[.string p.t.op, .string p.t.set, .slice a p.t.kids.len cap, .int .i64 p.t.lo, .int .i64 p.t.hi, .int .i64 p.n] ∧ KV w F (.slice a p.t.kids.len cap) p.t.kids
theorem PV.frm {S F : Nat → Prop} {w w' : World} {v : Value} {p : Part} (h : PV w F v p) (hf : Frm S w w') (hs : ∀ g, F g → g < w.heap.size → ¬ S g) : PV w' F v p := by
  obtain ⟨h1, a, cap, h2, h3⟩ := h
  exact ⟨h1, a, cap, h2, h3.frm hf hs⟩
theorem PV.mono {F F' : Nat → Prop} {w : World} {v : Value} {p : Part} (h : PV w F v p) (hs : ∀ g, F g → g < w.heap.size → F' g) : PV w F' v p := by
  obtain ⟨h1, a, cap, h2, h3⟩ := h
  exact ⟨h1, a, cap, h2, h3.mono hs⟩
theorem PV.move {F : Nat → Prop} {w w' : World} {v : Value} {p : Part} (h : PV w F v p) (hf : Frm No w w') : PV w' F v p := h.frm hf (fun _ _ _ => id)
theorem PV.setRow {F : Nat → Prop} {w : World} {v : Value} {p : Part} (h : PV w F v p) {b : Nat} {T : TypeId} {C : Array Value} (hb : Box w b T C) (hT : T ≠ 26) (D : Array Value) : PV (w.setRow b D) F v p := by
  obtain ⟨h1, a, cap, h2, h3⟩ := h
  exact ⟨h1, a, cap, h2, h3.setRow hb hT D⟩
theorem PV.rd {F : Nat → Prop} {w w' : World} {v : Value} {p : Part} (h : PV w F v p) {R : Nat} {s : ByteArray} {d : Nat} {l : List UInt8} (hf : Frm (At R) w w') (hr : Rd w R s d l) : PV w' F v p := by
  obtain ⟨h1, a, cap, h2, h3⟩ := h
  exact ⟨h1, a, cap, h2, h3.rd hf hr⟩
/-- A value of part's shape, be it a part or not. -/
def Sh (v : Value) : Prop := ∃ (op set : ByteArray) (a : Option Addr) (n c : Nat) (lo hi m : Int), v = .agg #[.string op, .string set, .slice a n c, .int .i64 lo, .int .i64 hi, .int .i64 m]
theorem PV.sh {F : Nat → Prop} {w : World} {v : Value} {p : Part} (h : PV w F v p) : Sh v := by
  obtain ⟨h1, a, cap, h2, h3⟩ := h
  exact ⟨_, _, _, _, _, _, _, _, h2⟩

theorem big_all (w : World) (op set : ByteArray) (a : Option Addr) (n c : Nat) (lo hi m : Int) :
    Calls Try.prog 47 #[.agg #[.string op, .string set, .slice a n c, .int .i64 lo, .int .i64 hi, .int .i64 m]] w fun e w' => e = .returned (.bool (decide (2000 < m))) ∧ Frm No w w' := by
  go_enter Try.func47, Try.ntmps47
  go_wp2
  go_ret
  exact ⟨rfl, (Frm.refl No w).alloc _⟩

/-- The cells of no part. -/
def zp : Array Value := #[.string ⟨#[]⟩, .string ⟨#[]⟩, .slice none 0 0, .int .i64 0, .int .i64 0, .int .i64 0]
theorem info_part : (Try.prog.info? 88).map (·.size) = some 6 := by kernel_rfl
theorem frm1 (w : World) (o : Obj) : Frm No w (w.alloc o) := (Frm.refl No w).alloc o
theorem frm2 (w : World) (o p : Obj) : Frm No w ((w.alloc o).alloc p) := ((Frm.refl No w).alloc o).alloc p

theorem sized_all (w : World) (F : Nat → Prop) (t : T) (a : Option Addr) (c n : Nat) (hk : KV w F (.slice a t.kids.len c) t.kids) :
    Calls Try.prog 69 #[.agg #[.string t.op, .string t.set, .slice a t.kids.len c, .int .i64 t.lo, .int .i64 t.hi], .int .i64 n] w fun e w' => ∃ v, e = .returned v ∧ PV w' F v (sizedP t n) ∧ Frm No w w' := by
  have HK := Lib.hid hk
  clear hk
  by_cases hn : 2000 < n
  · go_enter Try.func69, Try.ntmps69
    go_wp2
    refine bodyPost_ret (v := .agg #[.string ⟨#[]⟩, .string ⟨#[]⟩, .slice none 0 0, .int .i64 0, .int .i64 0, .int .i64 2001]) (by simp [results, Try.results69, go_sem]) rfl ⟨_, rfl, ?_, frm2 _ _ _⟩
    rw [sizedP, if_pos hn]
    exact ⟨Nat.le_refl _, none, 0, rfl, KV.nil _ _⟩
  · go_enter Try.func69, Try.ntmps69
    go_wp2
    refine bodyPost_ret (v := .agg #[.string t.op, .string t.set, .slice a t.kids.len c, .int .i64 t.lo, .int .i64 t.hi, .int .i64 n]) (by simp [results, Try.results69, go_sem]) rfl ⟨_, rfl, ?_, frm2 _ _ _⟩
    rw [sizedP, if_neg hn]
    exact ⟨by show n ≤ 2001; omega, a, c, rfl, HK.out.move (frm2 _ _ _)⟩

theorem oneByte_all (w : World) (F : Nat → Prop) (c : UInt8) :
    Calls Try.prog 82 #[.int .u8 (c.toNat : Int)] w fun e w' => ∃ v, e = .returned v ∧ PV w' F v (oneP c) ∧ Frm No w w' := by
  have hstr := str_lit (P := Try.prog) (w.alloc (.cells #[.string ⟨#[]⟩, .string ⟨#[]⟩, .slice none 0 0, .int .i64 0, .int .i64 0, .int .i64 0] 88)) #[.int .u8 (c.toNat : Int)] [c] rfl 1 rfl 108 9 5 Try.underlying108 Try.underlying5 Try.underlying9
  rw [World.size_alloc] at hstr
  go_enter Try.func82, Try.ntmps82
  go_wp2
  refine bodyPost_ret (v := .agg #[.string ⟨#[115, 101, 116]⟩, .string ⟨#[c]⟩, .slice none 0 0, .int .i64 0, .int .i64 0, .int .i64 1]) (by simp [results, Try.results82, go_sem]) rfl ⟨_, rfl, ⟨by show 1 ≤ 2001; omega, none, 0, rfl, KV.nil _ _⟩, ?_⟩
  repeat' first | exact Frm.refl _ _ | apply Frm.alloc | (refine Frm.setCell ?_ _ _ (fun hk => absurd hk (by simp)))

theorem edge_all (w : World) (F : Nat → Prop) (op : ByteArray) :
    Calls Try.prog 81 #[.string op] w fun e w' => ∃ v, e = .returned v ∧ PV w' F v (edgeP op) ∧ Frm No w w' := by
  go_enter Try.func81, Try.ntmps81
  go_wp2
  refine bodyPost_ret (v := .agg #[.string op, .string ⟨#[]⟩, .slice none 0 0, .int .i64 0, .int .i64 0, .int .i64 1]) (by simp [results, Try.results81, go_sem]) rfl ⟨_, rfl, ⟨by show 1 ≤ 2001; omega, none, 0, rfl, KV.nil _ _⟩, frm1 _ _⟩

theorem setOf_all (w : World) (F : Nat → Prop) (f : Nat → Bool) (C : Array Value) (hC : C = bA f) :
    Calls Try.prog 79 #[.agg C] w fun e w' => ∃ v, e = .returned v ∧ PV w' F v (setP f) ∧ Frm No w w' := by
  have HB := Lib.hid ((Box.new w 116 C).alloc (.cells #[.string ⟨#[]⟩, .string ⟨#[]⟩, .slice none 0 0, .int .i64 0, .int .i64 0, .int .i64 0] 88))
  have HI := Lib.hid (show (Try.prog.info? 116).map (·.size) = some C.size by rw [hC]; exact info_set _)
  have HT := Lib.hid (fun W => text_c W f C hC)
  have HB2 := Lib.hid (Box.new (w.alloc (.cells C 116)) 88 zp)
  rw [World.size_alloc] at HB2
  clear hC
  go_enter Try.func79, Try.ntmps79
  go_wp2_with (first | (refine wpList_load_row rfl 116 (.tmp 1) rfl w.heap.size rfl 116 C (0, 0) _ HB.out Try.underlying116 rfl HI.out ?_) | (go_at_call 88; go_must (refine (HT.out _).mono ?_; rintro e w1 ⟨rfl, hf⟩; have HX := Lib.hid (HB2.out.frm hf id); have HF := Lib.hid hf; clear hf)) | (refine wpList_store_row rfl 88 (.tmp 2) (.tmp 6) rfl (w.heap.size + 1) #[.string setW, .string ⟨(setText f).toArray⟩, .slice none 0 0, .int .i64 0, .int .i64 0, .int .i64 1] rfl rfl 88 zp HX.out info_part rfl (by simp [Value.oneCell']) ?_))
  refine bodyPost_ret (results_cell_row Try.results79 _ _ (w.heap.size + 1) 88 _ (0, 0) _ rfl (setRow_eq HX.out) Try.underlying88 rfl info_part) rfl ⟨_, rfl, ⟨by show 1 ≤ 2001; omega, none, 0, rfl, KV.nil _ _⟩, ?_⟩
  exact frm_setRow ((((Frm.refl No w).alloc _).alloc _).trans HF.out) _ _ (fun hk => by omega)
end Go.Proofs.Ythebpkcifnndnaa.parts
