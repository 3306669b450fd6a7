/- Contract of match's readLeaf. A row of parts in memory, which grows; the k-th tree. -/
import Derived.Test.YtbfekknhmjndaaaGreatTree

namespace Go.Proofs.YtbfekknhmjndaaaGreat.part
set_option linter.unusedVariables false set_option linter.unusedSimpArgs false
open Go.ChangeShapes Go.WideShapes Go.ChangeAt Go.RowKit Go.Proofs.YtbfekknhmjndaaaGreat.base Go.Proofs.YtbfekknhmjndaaaGreat.spec Go.Proofs.YtbfekknhmjndaaaGreat.nfa Go.Proofs.YtbfekknhmjndaaaGreat.set Go.Proofs.YtbfekknhmjndaaaGreat.parts Go.Proofs.YtbfekknhmjndaaaGreat.items

theorem leaf_kids (w : World) (t : T) (a : Option Addr) (cap : Nat) (hk : t.kids.len ≠ 0) :
    Calls Tryz.prog 65 #[.agg #[.string t.op, .string t.set, .slice a t.kids.len cap, .int .i64 t.lo, .int .i64 t.hi]] w (ReadPost w none) := by
  have hk' : (0 : Int) < (t.kids.len : Int) := by omega
  have HB := Lib.hid (Box.new (w.alloc (.cells #[.string t.op, .string t.set, .slice a t.kids.len cap, .int .i64 t.lo, .int .i64 t.hi] 47)) 100 zc)
  rw [World.size_alloc] at HB
  go_enter Tryz.func65, Tryz.ntmps65
  go_wp2
  refine bodyPost_ret (v := .tuple #[.agg zc, .int .i64 0, .bool false]) (by simp [results, Tryz.results65, go_sem, zc]) rfl ⟨?_, rfl⟩
  repeat' first | exact Frm.refl _ _ | apply Frm.alloc | (refine Frm.setCell ?_ _ _ (fun hk => absurd hk (by simp)))
theorem leaf_edge (w : World) (t : T) (a : Option Addr) (cap : Nat) (hk : t.kids.len = 0) (hop : t.op = bolW ∨ t.op = eolW) :
    Calls Tryz.prog 65 #[.agg #[.string t.op, .string t.set, .slice a t.kids.len cap, .int .i64 t.lo, .int .i64 t.hi]] w (ReadPost w (some (⟨t.op, t.set, 0, 0, .nil⟩, 1))) := by
  have hl : (t.op.toList == [115, 101, 116]) = false := by rcases hop with h | h <;> (rw [h]; decide +kernel)
  have hne : t.op ≠ setW := by rcases hop with h | h <;> (rw [h]; decide)
  clear hop
  rw [hk]
  go_enter Tryz.func65, Tryz.ntmps65
  go_wp2
  refine bodyPost_ret (v := .tuple #[.agg #[.string t.op, .pointer none, .slice none 0 0, .int .i64 0, .int .i64 0], .int .i64 1, .bool true]) (by simp [results, Tryz.results65, go_sem]) rfl ⟨?_, ⟨_, rfl, PT.no _ _ _ hne _ _ _⟩⟩
  repeat' first | exact Frm.refl _ _ | apply Frm.alloc | (refine Frm.setCell ?_ _ _ (fun hk => absurd hk (by simp)))

theorem zero_set4 (W : World) : (zeroValue 111).run Tryz.prog W = .ok (.agg (bA emptyF)) W :=
  (zero_of_info (P := Tryz.prog) (t := 111) (v := .agg (bA emptyF)) (n := 256) (by kernel_rfl)).1 W
theorem inS_snoc (l : List UInt8) (c : UInt8) (k : Nat) : (l ++ [c]).any (fun x => x.toNat == k) = if k = c.toNat then true else l.any (fun x => x.toNat == k) := by
  rw [List.any_append]
  by_cases h : k = c.toNat
  · subst h; simp
  · have : (c.toNat == k) = false := beq_eq_false_iff_ne.2 (fun e => h e.symm)
    simp [this, h]
/-- A variable of many cells and two values, as results. -/
theorem results_part3 {P : Program} {fn : Func} {p q r : Tmp} {ty : TypeId} (h : fn.results = #[.cell p ty, .tmp q, .tmp r]) (tmps : Array Value) (w : World) (g : Nat) (t : TypeId) (cs : Array Value) (fr : Nat × Nat) (d : TypeDesc) (v u : Value)
    (hp : tmps.getD p undef = .pointer (some ⟨g, 0, none⟩)) (hq : tmps.getD q undef = v) (hr : tmps.getD r undef = u) (hg : w.heap[g]? = some (.cells cs t fr))
    (hu : P.underlying ty = some d) (hd : (match d with | .struct _ | .array _ _ => true | _ => false) = true) (hi : (P.info? ty).map (·.size) = some cs.size) :
    (results fn tmps).run P w = .ok (.tuple #[.agg cs, v, u]) w := by
  have hp' : tmps[p]?.getD undef = .pointer (some ⟨g, 0, none⟩) := by simpa using hp
  have hq' : tmps[q]?.getD undef = v := by simpa using hq
  have hr' : tmps[r]?.getD undef = u := by simpa using hr
  simp [results, h, hp', hq', hr', asAddr, run_loadVar_row w g t ty cs fr d hg hu hd hi]

set_option maxRecDepth 100000 in
set_option maxHeartbeats 1000000 in
theorem leaf_set (w : World) (t : T) (a : Option Addr) (cap : Nat) (hk : t.kids.len = 0) (hop : t.op = setW) (Z : Array Value) (hZ : Z = bA emptyF) (hz : t.set.size ≤ 9223372036854775807) :
    Calls Tryz.prog 65 #[.agg #[.string t.op, .string t.set, .slice a t.kids.len cap, .int .i64 t.lo, .int .i64 t.hi]] w (ReadPost w (some (⟨t.op, t.set, 0, 0, .nil⟩, 1))) := by
  have hl : (t.op.toList == [115, 101, 116]) = true := by rw [hop]; decide +kernel
  have hz0 : ∀ W, (zeroValue 111).run Tryz.prog W = .ok (.agg Z) W := by rw [hZ]; exact zero_set4
  have HZ := Lib.hid hZ
  have HOP := Lib.hid hop
  clear hZ hop
  rw [hk]
  have hz' : (t.set.size : Int) ≤ 9223372036854775807 := by omega
  clear hz
  go_enter Tryz.func65, Tryz.ntmps65
  go_wp2
  go_loopw [23] (fun iv wr => ∃ k : Nat, k ≤ t.set.size ∧ iv = .int .i64 (k : Int) ∧ Box wr (w.heap.size + 1 + 1 + 1) 111 (bA fun c => (t.set.data.toList.take k).any (fun x => x.toNat == c)) ∧
    Box wr (w.heap.size + 1 + 1) 100 #[.string t.op, .pointer (some ⟨w.heap.size + 1 + 1 + 1, 0, none⟩), .slice none 0 0, .int .i64 0, .int .i64 0] ∧ Box wr (w.heap.size + 1) 100 zc ∧
    Box wr w.heap.size 47 #[.string t.op, .string t.set, .slice a 0 cap, .int .i64 t.lo, .int .i64 t.hi] ∧ Frm No w wr) (fun iv _ => t.set.size - (intOf iv).toNat)
  case atStart =>
    have b4 : Box (w.alloc (.cells #[.string t.op, .string t.set, .slice a 0 cap, .int .i64 t.lo, .int .i64 t.hi] 47)) w.heap.size 47 #[.string t.op, .string t.set, .slice a 0 cap, .int .i64 t.lo, .int .i64 t.hi] := Box.new w _ _
    have b3 : Box ((w.alloc (.cells #[.string t.op, .string t.set, .slice a 0 cap, .int .i64 t.lo, .int .i64 t.hi] 47)).alloc (.cells zc 100)) (w.heap.size + 1) 100 zc := by
      have := Box.new (w.alloc (.cells #[.string t.op, .string t.set, .slice a 0 cap, .int .i64 t.lo, .int .i64 t.hi] 47)) 100 zc
      rw [World.size_alloc] at this; exact this
    have b2 : Box (((w.alloc (.cells #[.string t.op, .string t.set, .slice a 0 cap, .int .i64 t.lo, .int .i64 t.hi] 47)).alloc (.cells zc 100)).alloc (.cells #[.string t.op, .pointer (some ⟨w.heap.size + 1 + 1 + 1, 0, none⟩), .slice none 0 0, .int .i64 0, .int .i64 0] 100)) (w.heap.size + 1 + 1) 100 #[.string t.op, .pointer (some ⟨w.heap.size + 1 + 1 + 1, 0, none⟩), .slice none 0 0, .int .i64 0, .int .i64 0] := by
      have := Box.new ((w.alloc (.cells #[.string t.op, .string t.set, .slice a 0 cap, .int .i64 t.lo, .int .i64 t.hi] 47)).alloc (.cells zc 100)) 100 #[.string t.op, .pointer (some ⟨w.heap.size + 1 + 1 + 1, 0, none⟩), .slice none 0 0, .int .i64 0, .int .i64 0]
      rw [World.size_alloc, World.size_alloc] at this; exact this
    have b1 : Box ((((w.alloc (.cells #[.string t.op, .string t.set, .slice a 0 cap, .int .i64 t.lo, .int .i64 t.hi] 47)).alloc (.cells zc 100)).alloc (.cells #[.string t.op, .pointer (some ⟨w.heap.size + 1 + 1 + 1, 0, none⟩), .slice none 0 0, .int .i64 0, .int .i64 0] 100)).alloc (.cells Z 111)) (w.heap.size + 1 + 1 + 1) 111 (bA fun c => (t.set.data.toList.take 0).any (fun x => x.toNat == c)) := by
      have := Box.new (((w.alloc (.cells #[.string t.op, .string t.set, .slice a 0 cap, .int .i64 t.lo, .int .i64 t.hi] 47)).alloc (.cells zc 100)).alloc (.cells #[.string t.op, .pointer (some ⟨w.heap.size + 1 + 1 + 1, 0, none⟩), .slice none 0 0, .int .i64 0, .int .i64 0] 100)) 111 Z
      rw [World.size_alloc, World.size_alloc, World.size_alloc] at this
      rw [HZ.out] at this ⊢
      exact this
    refine ⟨0, Nat.zero_le _, rfl, b1, b2.alloc _, (b3.alloc _).alloc _, ((b4.alloc _).alloc _).alloc _, ?_⟩
    repeat' first | exact Frm.refl _ _ | apply Frm.alloc | (refine Frm.setCell ?_ _ _ (fun hk => absurd hk (by simp; try omega)))
  case round =>
    obtain ⟨k, hk2, rfl, hb1, hb2, hb3, hb4, hf⟩ := hrel
    have HB1 := Lib.hid hb1
    have HB2 := Lib.hid hb2
    have HB3 := Lib.hid hb3
    have HB4 := Lib.hid hb4
    have HF := Lib.hid hf
    have c1 : wr.cell? ⟨w.heap.size + 1 + 1, 1, none⟩ = some (.pointer (some ⟨w.heap.size + 1 + 1 + 1, 0, none⟩)) := hb2.cell 1
    have e1 : wr.cell? ⟨w.heap.size, 1, none⟩ = some (.string t.set) := hb4.cell 1
    by_cases hlt : k < t.set.size
    · have hc : t.set[k].toNat < 256 := t.set[k].toNat_lt
      have hc' : (t.set[k].toNat : Int) < 256 := by omega
      have hc0 : (0 : Int) ≤ (t.set[k].toNat : Int) := by omega
      have hcell := hb1.cell t.set[k].toNat
      rw [bA_get _ _ hc] at hcell
      have hfz := hb1.f t.set[k].toNat
      clear hb1 hb2 hb3 hb4 hf
      go_wp2
      go_region
      go_wp2
      go_roundw
      case rel =>
        refine ⟨k + 1, by omega, by go_num, ?_, (HB2.out.set_ne _ (by omega)).drew, (HB3.out.set_ne _ (by omega)).drew, (HB4.out.set_ne _ (by omega)).drew, (Frm.setCell HF.out _ _ (fun hk => absurd hk (by simp; try omega))).drew⟩
        have h2 : (bA fun c => (t.set.data.toList.take (k + 1)).any (fun x => x.toNat == c)) = bA (fun j => if j = t.set[k].toNat then true else (t.set.data.toList.take k).any (fun x => x.toNat == j)) :=
          bA_ext _ _ (fun j _ => by rw [take_snoc _ _ hlt]; exact inS_snoc _ _ j)
        rw [h2, ← bA_set _ _ true hc]
        exact (HB1.out.set t.set[k].toNat (.bool true)).drew
      case measure => simp [intOf]; omega
    · obtain rfl : k = t.set.size := by omega
      clear hb1 hb2 hb3 hb4 hf
      go_wp2_with (first | (refine wpList_load_row rfl 100 (.tmp 5) rfl (w.heap.size + 1 + 1) rfl 100 _ (0, 0) _ HB2.out Tryz.underlying100 rfl info_part5 ?_) | (refine wpList_store_row rfl 100 (.tmp 2) (.tmp 35) rfl (w.heap.size + 1) _ rfl rfl 100 zc HB3.out info_part5 rfl (by simp [Value.oneCell']) ?_))
      refine bodyPost_ret (results_part3 Tryz.results65 _ _ (w.heap.size + 1) 100 _ (0, 0) _ (.int .i64 1) (.bool true) rfl rfl rfl (setRow_eq HB3.out) Tryz.underlying100 rfl info_part5) rfl ⟨frm_setRow HF.out _ _ (fun hk => absurd hk (by omega)), _, rfl, ?_⟩
      refine ⟨_, none, 0, rfl, fun _ => ⟨_, rfl, ?_⟩, Or.inl ⟨rfl, rfl⟩⟩
      have := HB1.out
      rw [List.take_of_length_le (by simp)] at this
      exact this.frm (frm_setRow (S := At (w.heap.size + 1)) (Frm.refl _ _) _ _ (fun _ => rfl)) (fun h => by have h' : w.heap.size + 1 + 1 + 1 = w.heap.size + 1 := h; omega)
end Go.Proofs.YtbfekknhmjndaaaGreat.part

namespace Go.Proofs.YtbfekknhmjndaaaGreat.part
set_option linter.unusedVariables false set_option linter.unusedSimpArgs false
open Go.ChangeShapes Go.WideShapes Go.ChangeAt Go.RowKit Go.Proofs.YtbfekknhmjndaaaGreat.base Go.Proofs.YtbfekknhmjndaaaGreat.spec Go.Proofs.YtbfekknhmjndaaaGreat.nfa Go.Proofs.YtbfekknhmjndaaaGreat.set Go.Proofs.YtbfekknhmjndaaaGreat.parts Go.Proofs.YtbfekknhmjndaaaGreat.items

def fsz : Forest → Nat
  | .nil => 0
  | .cons _ _ _ _ k r => 1 + fsz k + fsz r
def nd (t : T) : Nat := 1 + fsz t.kids
theorem len_fsz (f : Forest) : f.len ≤ fsz f := by
  induction f with
  | nil => exact Nat.le_refl _
  | cons op set lo hi k r _ ih => simp only [Forest.len, fsz]; omega
theorem nthF_nd {f : Forest} {j : Nat} {t : T} (h : nthF f j = some t) : nd t ≤ fsz f := by
  induction f generalizing j with
  | nil => cases h
  | cons op set lo hi k r _ ih =>
    cases j with
    | zero => cases h; simp only [nd, fsz]; omega
    | succ j => have := ih h; simp only [fsz]; omega
theorem nthF_some {f : Forest} {j : Nat} (h : j < f.len) : ∃ t, nthF f j = some t := by
  induction f generalizing j with
  | nil => cases h
  | cons op set lo hi k r _ ih =>
    cases j with
    | zero => exact ⟨_, rfl⟩
    | succ j => exact ih (by simp only [Forest.len] at h; omega)
theorem rdF_nth {f : Forest} {d k : Nat} {t : T} (h : nthF f k = some t) : (rdF f d)[k]? = some (rdT t d) := by
  induction f generalizing k with
  | nil => cases h
  | cons op set lo hi kk r _ ih =>
    cases k with
    | zero => cases h; rfl
    | succ k =>
      simp only [rdF, List.getElem?_cons_succ]
      exact ih h
theorem drop_at {α : Type} {l : List α} {k : Nat} {x : α} (h : l[k]? = some x) : l.drop k = x :: l.drop (k + 1) := by
  obtain ⟨h1, rfl⟩ := List.getElem?_eq_some_iff.1 h
  exact List.drop_eq_getElem_cons h1

theorem info_prt : (Tryz.prog.info? 100).map (fun i => (i.zero, i.size, i.bytes)) = some (some (.agg #[.string ⟨#[]⟩, .pointer none, .slice none 0 0, .int .i64 0, .int .i64 0]), 5, 64) := by kernel_rfl

/-- A row in the variable L, whose kids lie in a slice of the call's own. -/
def RowW (w : World) (B L : Nat) (op : ByteArray) (f : Forest) (a : Option Addr) (cap : Nat) : Prop := ∃ C, Box w L 100 #[.string op, .pointer none, .slice a f.len cap, .int .i64 0, .int .i64 0] ∧ w.ownsRow B 100 5 (.slice a f.len cap) f.len C ∧
  PC w (fun k => B ≤ k ∧ (Value.slice a f.len cap).ownBlock ≠ some k) f C ∧ (f.len = 0 → a = none ∧ cap = 0) ∧ L < B
theorem RowW.move {w w' : World} {B L : Nat} {op : ByteArray} {f : Forest} {a : Option Addr} {cap : Nat} (h : RowW w B L op f a cap) (hf : Frm No w w') : RowW w' B L op f a cap := by
  obtain ⟨C, h1, h2, h3, h4, h5⟩ := h
  exact ⟨C, h1.frm hf id, own_move h2 hf (fun _ _ => id), h3.go (fun g cur h hb => ⟨h, hb.frm hf id⟩) (fun fb f h => Box.frm h hf id), h4, h5⟩
theorem RowW.new (w : World) (B L : Nat) (op : ByteArray) (h : Box w L 100 #[.string op, .pointer none, .slice none 0 0, .int .i64 0, .int .i64 0]) (hL : L < B) : RowW w B L op .nil none 0 :=
  ⟨[], h, World.ownsRow_nil _ _ _ _, rfl, fun _ => ⟨rfl, rfl⟩, hL⟩
/-- The row is a part. -/
theorem RowW.part {w : World} {B L : Nat} {op : ByteArray} {f : Forest} {a : Option Addr} {cap : Nat} (h : RowW w B L op f a cap) (hop : op ≠ setW) : PT w (Ge B) (.agg #[.string op, .pointer none, .slice a f.len cap, .int .i64 0, .int .i64 0]) ⟨op, ⟨#[]⟩, 0, 0, f⟩ := by
  obtain ⟨C, h1, h2, h3, h4, h5⟩ := h
  refine ⟨none, a, cap, rfl, fun e => absurd e hop, ?_⟩
  rcases h2.2 with ⟨h6, h0⟩ | ⟨g, cap', cur, h6, h7, h8, h9, h10, h11, h12⟩
  · have hz : f = .nil := by
      cases f with
      | nil => rfl
      | cons op set lo hi k r => cases h0
    subst hz
    exact Or.inl ⟨h6, rfl⟩
  · by_cases hz : f = .nil
    · subst hz
      obtain ⟨rfl, rfl⟩ := h4 rfl
      cases h6
    · cases h6
      refine Or.inr ⟨g, cap, cur, rfl, ⟨hz, h9⟩, h7, h8, ?_⟩
      rw [Nat.mul_comm, h12]
      exact h3.go (fun g cur h hb => ⟨h.1, hb⟩) (fun fb f h => h)
/-- One more. -/
theorem RowW.push {w w1 : World} {B L g cap' : Nat} {op : ByteArray} {f : Forest} {a : Option Addr} {cap : Nat} {p : T} {x ak : Option Addr} {ck : Nat} {U : Nat} {N : Nat → Prop} (h : RowW w B L op f a cap) (hp : PT w N (.agg #[.string p.op, .pointer x, .slice ak p.kids.len ck, .int .i64 p.lo, .int .i64 p.hi]) p) (hN : ∀ k, N k → k < w.heap.size → U ≤ k)
    (hU : ∀ g, (Value.slice a f.len cap).ownBlock = some g → g < U) (hBU : B ≤ U) (C : List Value) (hC : w.ownsRow B 100 5 (.slice a f.len cap) f.len C)
    (hown : w1.ownsRow B 100 5 (.slice (some ⟨g, 0, none⟩) (f.len + 1) cap') (f.len + 1) (C ++ [.string p.op, .pointer x, .slice ak p.kids.len ck, .int .i64 p.lo, .int .i64 p.hi])) (hf : Frm (fun k => (Value.slice a f.len cap).ownBlock = some k) w w1)
    (hat : (Value.slice a f.len cap).ownBlock = some g ∨ w.heap.size ≤ g) :
    RowW (w1.setCell ⟨L, 2, none⟩ (.slice (some ⟨g, 0, none⟩) (f.len + 1) cap')) B L op (f.snoc p) (some ⟨g, 0, none⟩) cap' ∧ Frm (fun k => k = L ∨ B ≤ k) w (w1.setCell ⟨L, 2, none⟩ (.slice (some ⟨g, 0, none⟩) (f.len + 1) cap')) := by
  obtain ⟨C', h1, h2, h3, h4, h5⟩ := h
  have hCC : C' = C := by
    rcases h2.2 with ⟨e1, e0⟩ | ⟨g1, c1, cur1, e1, e2, e3, e4, e5, e6, e7⟩
    · have l1 := h2.1
      have l2 := hC.1
      rw [e0, Nat.zero_mul] at l1 l2
      rw [List.eq_nil_of_length_eq_zero l1, List.eq_nil_of_length_eq_zero l2]
    · rcases hC.2 with ⟨d1, d0⟩ | ⟨g2, c2, cur2, d1, d2, d3, d4, d5, d6, d7⟩
      · rw [e1] at d1; cases d1
      · rw [e1] at d1
        cases d1
        rw [e3] at d3
        cases d3
        rw [← e7, ← d7]
  subst hCC
  have hgB : ∀ k, (Value.slice a f.len cap).ownBlock = some k → B ≤ k := fun k e => (own_type h2 e).1
  have hLn : (Value.slice a f.len cap).ownBlock ≠ some L := fun e => by have := hgB L e; omega
  have hgL : g ≠ L := by
    rcases hat with e | e
    · intro e'; rw [e'] at e; exact hLn e
    · have := h1.lt; omega
  have hfL : Frm (At L) w1 (w1.setCell ⟨L, 2, none⟩ (.slice (some ⟨g, 0, none⟩) (f.len + 1) cap')) := Frm.setCell (Frm.refl _ _) ⟨L, 2, none⟩ _ (fun _ => rfl)
  have hfr : Frm (fun k => k = L ∨ (Value.slice a f.len cap).ownBlock = some k) w (w1.setCell ⟨L, 2, none⟩ (.slice (some ⟨g, 0, none⟩) (f.len + 1) cap')) :=
    (hf.mono (S' := fun k => k = L ∨ (Value.slice a f.len cap).ownBlock = some k) (fun k _ e => Or.inr e)).then hfL (fun k _ e => Or.inl e)
  have hfb : ∀ fb f', FB w fb f' → FB (w1.setCell ⟨L, 2, none⟩ (.slice (some ⟨g, 0, none⟩) (f.len + 1) cap')) fb f' := fun fb f' hb => Box.frm hb hfr (fun e => by
    rcases e with e | e
    · subst e
      have h6 := box_ty h1 hb
      revert h6
      decide
    · exact own_far h2 hb (by decide) e)
  have hstay : ∀ k cur, (B ≤ k ∧ (Value.slice a f.len cap).ownBlock ≠ some k) → Box w k 100 cur → (B ≤ k ∧ (Value.slice (some ⟨g, 0, none⟩) (f.snoc p).len cap').ownBlock ≠ some k) ∧ Box (w1.setCell ⟨L, 2, none⟩ (.slice (some ⟨g, 0, none⟩) (f.len + 1) cap')) k 100 cur := by
    intro k cur ⟨k1, k2⟩ k3
    refine ⟨⟨k1, fun e => ?_⟩, k3.frm hfr (fun e => ?_)⟩
    · simp only [Value.ownBlock, Option.some.injEq] at e
      subst e
      rcases hat with e | e
      · exact k2 e
      · have := k3.lt; omega
    · rcases e with e | e
      · omega
      · exact k2 e
  refine ⟨⟨C' ++ [.string p.op, .pointer x, .slice ak p.kids.len ck, .int .i64 p.lo, .int .i64 p.hi], ?_, ?_, ?_, ?_, h5⟩, hfr.mono (fun k _ e => e.imp (fun e => e) (hgB k))⟩
  · rw [Forest.len_snoc]; exact (h1.frm hf hLn).set 2 _
  · rw [Forest.len_snoc]; exact own_move hown hfL (fun g' e1 e2 => by simp only [Value.ownBlock, Option.some.injEq] at e1; exact hgL (e1.trans e2))
  · obtain ⟨x', a', c', hv, hs, hk⟩ := hp
    cases hv
    exact PC.snoc (h3.go hstay hfb) p x _ (fun e => by obtain ⟨fb, e1, e2⟩ := hs e; exact ⟨fb, e1, hfb _ _ e2⟩) (hk.go (fun k cur k1 k2 => hstay k cur ⟨by have := hN k k1 k2.lt; omega, fun e => by have := hU k e; have := hN k k1 k2.lt; omega⟩ k2) hfb)
  · rw [Forest.len_snoc]; intro e; omega
/-- No set's text is longer than a machine can hold. -/
def SzF : Forest → Prop
  | .nil => True
  | .cons _ set _ _ kids rest => set.size ≤ 9223372036854775807 ∧ SzF kids ∧ SzF rest
def SzT (t : T) : Prop := t.set.size ≤ 9223372036854775807 ∧ SzF t.kids
theorem SzF.nth {f : Forest} (h : SzF f) {k : Nat} {t : T} (hk : nthF f k = some t) : SzT t := by
  induction f generalizing k with
  | nil => cases hk
  | cons op set lo hi kids r _ ih =>
    cases k with
    | zero => cases hk; exact ⟨h.1, h.2.1⟩
    | succ k => exact ih h.2.2 hk

end Go.Proofs.YtbfekknhmjndaaaGreat.part
