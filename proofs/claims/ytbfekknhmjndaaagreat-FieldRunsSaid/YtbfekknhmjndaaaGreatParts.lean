/- Contracts of sets of bytes: add, others, text. Trees in memory, and the contracts of ere's parts: big, sized, oneByte, setOf, edge, repeated. -/
import Derived.Test.YtbfekknhmjndaaaGreatNums3
import Derived.Deep.WholeRow

namespace Go.Proofs.YtbfekknhmjndaaaGreat.set
set_option linter.unusedVariables false set_option linter.unusedSimpArgs false
open Go.ChangeShapes Go.WideShapes Go.ChangeAt Go.RowKit Go.Proofs.YtbfekknhmjndaaaGreat.base Go.Proofs.YtbfekknhmjndaaaGreat.read Go.Proofs.YtbfekknhmjndaaaGreat.spec

/-- The cells of a set. -/
def bA (f : Nat → Bool) : Array Value := ((List.range 256).map fun k => Value.bool (f k)).toArray
theorem bA_size (f : Nat → Bool) : (bA f).size = 256 := by simp [bA]
theorem bA_get (f : Nat → Bool) (k : Nat) (h : k < 256) : (bA f)[k]? = some (.bool (f k)) := by simp [bA, h]
theorem bA_one (f : Nat → Bool) : (bA f).all (·.oneCell') = true := by simp [bA, Value.oneCell']
theorem bA_ext (f g : Nat → Bool) (h : ∀ k, k < 256 → f k = g k) : bA f = bA g := by
  unfold bA
  congr 1
  apply List.map_congr_left
  intro k hk
  rw [h k (by simpa using hk)]
theorem bA_set (f : Nat → Bool) (k : Nat) (b : Bool) (h : k < 256) : (bA f).setIfInBounds k (.bool b) = bA (fun j => if j = k then b else f j) := by
  apply Array.ext_getElem?
  intro j
  rw [Array.getElem?_setIfInBounds]
  by_cases hj : j < 256
  · rw [bA_get _ j hj, bA_get _ j hj, bA_size]
    by_cases e : k = j
    · subst e; simp [hj]
    · have e' : ¬ j = k := fun h => e h.symm
      simp [e, e']
  · have h1 : (bA f)[j]? = none := by rw [Array.getElem?_eq_none]; rw [bA_size]; omega
    have h2 : (bA fun j => if j = k then b else f j)[j]? = none := by rw [Array.getElem?_eq_none]; rw [bA_size]; omega
    rw [h1, h2, if_neg (by omega)]

set_option maxHeartbeats 400000 in
theorem add_all (w : World) (Q : Nat) (f : Nat → Bool) (lo hi : UInt8) (h : Box w Q 154 (bA f)) :
    Calls Tryz.prog 123 #[.pointer (some ⟨Q, 0, none⟩), .int .u8 (lo.toNat : Int), .int .u8 (hi.toNat : Int)] w fun e w' => e = .returned (.tuple #[]) ∧ Box w' Q 154 (bA (addF f lo hi)) ∧ Frm (At Q) w w' := by
  have H := Lib.hid h
  have hlo : lo.toNat < 256 := lo.toNat_lt
  have hhi : hi.toNat < 256 := hi.toNat_lt
  clear h
  go_enter Tryz.func123, Tryz.ntmps123
  go_wp2
  go_loopw [6] (fun cv wr => ∃ c : Nat, c ≤ 256 ∧ cv = .int .i64 c ∧ lo.toNat ≤ c ∧ (c ≤ lo.toNat ∨ c ≤ hi.toNat + 1) ∧ Box wr Q 154 (bA fun k => f k || (decide (lo.toNat ≤ k) && decide (k < c))) ∧ Frm (At Q) w wr) (fun cv _ => (256 - intOf cv).toNat)
  case atStart =>
    refine ⟨lo.toNat, by omega, rfl, by omega, by omega, ?_, Frm.refl _ w⟩
    rw [bA_ext _ f (fun k _ => by
      by_cases hk : lo.toNat ≤ k
      · simp [hk]; intro h; omega
      · simp [hk])]
    exact H.out
  case round =>
    obtain ⟨c, hc, rfl, hlc, hch, hb, hf⟩ := hrel
    have HB := Lib.hid hb
    have HF := Lib.hid hf
    clear hb hf
    by_cases hle : c ≤ hi.toNat
    · have hcell := HB.out.cell c
      rw [bA_get _ c (by omega)] at hcell
      have hfz := HB.out.f c
      go_wp2
      go_roundw
      case rel =>
        refine ⟨c + 1, by omega, by go_num, by omega, by omega, ?_, HF.out.setCell ⟨Q, c, none⟩ _ (fun _ => rfl)⟩
        have := HB.out.set c (.bool true)
        rw [bA_set _ c true (by omega)] at this
        rw [bA_ext _ _ (fun k _ => by
          show (f k || (decide (lo.toNat ≤ k) && decide (k < c + 1))) = if k = c then true else f k || (decide (lo.toNat ≤ k) && decide (k < c))
          by_cases e : k = c
          · subst e; simp [hlc]
          · rw [if_neg e]
            have : decide (k < c + 1) = decide (k < c) := by
              rw [decide_eq_decide]; omega
            rw [this])]
        exact this
      case measure => simp [intOf]; omega
    · go_wp2
      refine bodyPost_end (v := .tuple #[]) (by simp [results, Tryz.results123, go_sem]) rfl ⟨rfl, ?_, HF.out⟩
      rw [bA_ext (addF f lo hi) _ (fun k _ => by
        show (f k || (decide (lo.toNat ≤ k) && decide (k ≤ hi.toNat))) = (f k || (decide (lo.toNat ≤ k) && decide (k < c)))
        by_cases hk : lo.toNat ≤ k
        · have : decide (k ≤ hi.toNat) = decide (k < c) := by rw [decide_eq_decide]; omega
          rw [this]
        · simp [hk])]
      exact HB.out

theorem zero_set (W : World) : (zeroValue 154).run Tryz.prog W = .ok (.agg (bA emptyF)) W :=
  (zero_of_info (P := Tryz.prog) (t := 154) (v := .agg (bA emptyF)) (n := 256) (by kernel_rfl)).1 W
theorem info_set (f : Nat → Bool) : (Tryz.prog.info? 154).map (·.size) = some (bA f).size := by
  rw [bA_size]; kernel_rfl
theorem setRow_eq {w : World} {g : Nat} {T : TypeId} {C D : Array Value} (h : Box w g T C) : Box (w.setRow g D) g T D := setRow_heap w g C D T (0, 0) h
theorem frm_setRow {S : Nat → Prop} {a w : World} (h : Frm S a w) (g : Nat) (D : Array Value) (hg : g < a.heap.size → S g) : Frm S a (w.setRow g D) :=
  h.then (S' := At g) ⟨rfl, rfl, rfl, by simp [World.setRow], fun k _ hk => by simp only [World.setRow, Array.getElem?_modify]; rw [if_neg (fun e => hk e.symm)]⟩ (fun k hk e => by cases e; exact hg hk)

set_option maxRecDepth 100000 in
set_option maxHeartbeats 400000 in
theorem others_c (w : World) (f : Nat → Bool) (C Z D : Array Value) (hC : C = bA f) (hZ : Z = bA emptyF) (hD : D = bA fun k => !f k) :
    Calls Tryz.prog 104 #[.agg C] w fun e w' => e = .returned (.agg D) ∧ Frm No w w' := by
  have hz0 : ∀ W, (zeroValue 154).run Tryz.prog W = .ok (.agg Z) W := by rw [hZ]; exact zero_set
  have HI := Lib.hid (show (Tryz.prog.info? 154).map (·.size) = some D.size by rw [hD]; exact info_set _)
  have HS := Lib.hid (show Z.size = D.size by rw [hZ, hD, bA_size, bA_size])
  have H1 := Lib.hid (show D.all (·.oneCell') = true by rw [hD]; exact bA_one _)
  have HC := Lib.hid hC
  have HZ := Lib.hid hZ
  have HD := Lib.hid hD
  clear hC hZ hD
  go_enter Tryz.func104, Tryz.ntmps104
  go_wp2
  go_loopw [3, 4] (fun _ cv wr => ∃ c : Nat, c ≤ 256 ∧ cv = .int .i64 c ∧ Hid (Box wr w.heap.size 154 (bA fun k => if k < c then !f k else f k)) ∧ Hid (Box wr (w.heap.size + 1) 154 Z) ∧ Frm No w wr) (fun _ cv _ => (256 - intOf cv).toNat)
  case atStart =>
    refine ⟨0, by omega, rfl, Lib.hid ?_, Lib.hid ?_, ((Frm.refl No w).alloc _).alloc _⟩
    · rw [bA_ext _ f (fun k _ => by simp), ← HC.out]
      exact (Box.new _ _ _).alloc _
    · have := Box.new (w.alloc (.cells C 154)) 154 Z
      rw [World.size_alloc] at this
      exact this
  case round =>
    obtain ⟨c, hc, rfl, HB, HB2, hf⟩ := hrel
    have HF := Lib.hid hf
    clear hf
    by_cases hlt : c < 256
    · have hc2 : wr.cell? ⟨w.heap.size, c, none⟩ = some (.bool (f c)) := by
        rw [HB.out.cell c, bA_get _ c (by omega)]; simp
      have hfz := HB.out.f c
      go_wp2
      go_roundw
      case rel =>
        refine ⟨c + 1, by omega, by go_num, Lib.hid ?_, Lib.hid (HB2.out.set_ne _ (by omega)), HF.out.setCell ⟨w.heap.size, c, none⟩ _ (fun hk => absurd hk (Nat.lt_irrefl _))⟩
        have := HB.out.set c (.bool (!f c))
        rw [bA_set _ c _ (by omega)] at this
        rw [bA_ext _ _ (fun k _ => by
          show (if k < c + 1 then !f k else f k) = if k = c then !f c else (if k < c then !f k else f k)
          by_cases e : k = c
          · subst e; simp
          · rw [if_neg e]
            by_cases h1 : k < c
            · rw [if_pos h1, if_pos (by omega)]
            · rw [if_neg h1, if_neg (by omega)])]
        exact this
      case measure => simp [intOf]; omega
    · obtain rfl : c = 256 := by omega
      have HB' := Lib.hid (show Box wr w.heap.size 154 D by
        rw [HD.out, bA_ext _ _ (fun k hk => by show (!f k) = if k < 256 then !f k else f k; rw [if_pos hk])]
        exact HB.out)
      clear HB
      go_wp2_with (first | (refine wpList_load_row rfl 154 (.tmp 1) rfl w.heap.size rfl 154 D (0, 0) _ HB'.out Tryz.underlying154 rfl HI.out ?_) | (refine wpList_store_row rfl 154 (.tmp 2) (.tmp 14) rfl (w.heap.size + 1) D rfl rfl 154 Z HB2.out HI.out HS.out H1.out ?_))
      refine bodyPost_ret (v := .agg D) (results_cell_row Tryz.results104 _ _ (w.heap.size + 1) 154 _ (0, 0) _ rfl (setRow_eq HB2.out) Tryz.underlying154 rfl HI.out) rfl ⟨rfl, frm_setRow HF.out _ _ (fun hk => by omega)⟩

/-- 'a[i]' of an array by value whose elements are one cell each. -/
theorem run_index_one {P : Program} (t e : TypeId) (n : Nat) (C : Array Value) (c : Nat) (v : Value) (hu : P.underlying t = some (.array n e)) (hc : c < n) (hv : C[c]? = some v)
    (hs : ∀ W, (sizeOf e).run P W = .ok 1 W) (ha : ∀ W, (isAgg e).run P W = .ok false W) (W : World) : (Instr.index t (.agg C) (.int .i64 (c : Nat))).run P W = .ok v W := by
  have h1 : (0 : Int) ≤ (c : Nat) ∧ ((c : Nat) : Int) < (n : Nat) := by omega
  simp [Instr.index, run_underlying hu, asIntOf, h1, go_sem, hs, ha, part, hv]
  intro h
  omega

/-- The first c bytes that a set has. -/
def tx (f : Nat → Bool) (c : Nat) : List UInt8 := ((List.range c).filter f).map UInt8.ofNat
theorem tx_step (f : Nat → Bool) (c : Nat) : tx f (c + 1) = tx f c ++ (if f c then [UInt8.ofNat c] else []) := by
  unfold tx
  rw [List.range_succ, List.filter_append, List.map_append]
  congr 1
  by_cases h : f c = true
  · simp [h]
  · simp [h]
theorem tx_len (f : Nat → Bool) (c : Nat) : (tx f c).length ≤ c := by
  unfold tx
  rw [List.length_map]
  exact Nat.le_trans (List.length_filter_le _ _) (by simp)

set_option maxRecDepth 100000 in
set_option maxHeartbeats 400000 in
theorem text_c (w : World) (f : Nat → Bool) (C : Array Value) (hC : C = bA f) :
    Calls Tryz.prog 114 #[.agg C] w fun e w' => e = .returned (.string ⟨(setText f).toArray⟩) ∧ Frm No w w' := by
  have HB := Lib.hid (Box.new w 154 C)
  have HI := Lib.hid (show (Tryz.prog.info? 154).map (·.size) = some C.size by rw [hC]; exact info_set _)
  have HG := Lib.hid (show ∀ c, c < 256 → C[c]? = some (.bool (f c)) by intro c hc; rw [hC]; exact bA_get f c hc)
  have hsz : C.size = 256 := by rw [hC]; exact bA_size f
  have HU := Lib.hid (show (Tryz.prog.info? 5).map (fun i => (i.zero, i.size, i.bytes)) = some (some (.int .u8 0), 1, 1) by kernel_rfl)
  clear hC
  go_enter Tryz.func114, Tryz.ntmps114
  go_wp2_with (refine wpList_load_row rfl 154 (.tmp 1) rfl w.heap.size rfl 154 C (0, 0) _ HB.out Tryz.underlying154 rfl HI.out ?_)
  go_loopw [3, 4, 5, 7] (fun bv _ _ cv wr => ∃ c : Nat, c ≤ 256 ∧ cv = .int .i64 c ∧ OwnB wr w.heap.size 5 bv (tx f c) ∧ Frm No w wr) (fun _ _ _ cv _ => (256 - intOf cv).toNat)
  case atStart => exact ⟨0, by omega, rfl, OwnB.nil _ _ _, (Frm.refl No w).alloc _⟩
  case round =>
    obtain ⟨c, hc, rfl, hown, hf⟩ := hrel
    have HF := Lib.hid hf
    have HO := Lib.hid hown
    have HST := Lib.hid (tx_step f c)
    have hl := tx_len f c
    have hwsz := hf.size
    clear hf hown
    by_cases hlt : c < 256
    · have hcell := fun W => run_index_one (P := Tryz.prog) 154 4 256 C c _ Tryz.underlying154 hlt (HG.out c hlt) Tryz.sizeOf4 Tryz.isAgg4 W
      by_cases hfc : f c = true
      · have HST' := Lib.hid (show tx f (c + 1) = tx f c ++ [UInt8.ofNat c] by rw [HST.out, if_pos hfc])
        have hcb : (c : Int) = ((UInt8.ofNat c).toNat : Int) := by simp; omega
        have HCB := Lib.hid hcb
        clear hcb HST
        go_wp2_with (at_builtin; go_must (refine wpList_app1 _ rfl (.tmp 12) (.tmp 15) 67 rfl w.heap.size 5 Tryz.underlying67 HU.out _ _ rfl HO.out _ rfl (UInt8.ofNat c) HCB.out (by omega) (by omega) ?_; intro v' w1 hown' hb1))
        go_roundw
        case rel => exact ⟨c + 1, by omega, by go_num, by rw [HST'.out]; exact hown', HF.out.then (S' := fun k => w.heap.size ≤ k) ⟨hb1.os, hb1.tape, hb1.output, hb1.size, fun k hk hn => hb1.block k (by omega)⟩ (fun k hk h => absurd hk (by omega))⟩
        case measure => simp [intOf]; omega
      · have hfc' : f c = false := by simpa using hfc
        have HST' := Lib.hid (show tx f (c + 1) = tx f c by rw [HST.out, if_neg hfc, List.append_nil])
        clear hfc HST
        go_wp2
        go_roundw
        case rel => exact ⟨c + 1, by omega, by go_num, by rw [HST'.out]; exact HO.out, HF.out⟩
        case measure => simp [intOf]; omega
    · obtain rfl : c = 256 := by omega
      have hstr := HO.out.str (P := Tryz.prog) 67 9 Tryz.underlying67 Tryz.underlying5 Tryz.underlying9
      go_wp2
      go_ret
      exact ⟨rfl, HF.out⟩
end Go.Proofs.YtbfekknhmjndaaaGreat.set

namespace Go.Proofs.YtbfekknhmjndaaaGreat.parts
set_option linter.unusedVariables false set_option linter.unusedSimpArgs false
open Go.ChangeShapes Go.WideShapes Go.ChangeAt Go.RowKit Go.Proofs.YtbfekknhmjndaaaGreat.base Go.Proofs.YtbfekknhmjndaaaGreat.read Go.Proofs.YtbfekknhmjndaaaGreat.spec Go.Proofs.YtbfekknhmjndaaaGreat.set

/-- The cells C are these trees, one behind the other; their kids lie in blocks of F. -/
def RepC (w : World) (F : Nat → Prop) : Forest → List Value → Prop
  | .nil, C => C = []
  | .cons op set lo hi kids rest, C => ∃ k C', C = .string op :: .string set :: k :: .int .i64 lo :: .int .i64 hi :: C' ∧
      ((k = .slice none 0 0 ∧ kids = .nil) ∨ ∃ g cap cur, k = .slice (some ⟨g, 0, none⟩) kids.len cap ∧ kids ≠ .nil ∧ F g ∧ Box w g 47 cur ∧ RepC w F kids (cur.toList.take (5 * kids.len))) ∧ RepC w F rest C'
/-- k is a slice of these trees. -/
def KV (w : World) (F : Nat → Prop) (k : Value) (kids : Forest) : Prop :=
  (k = .slice none 0 0 ∧ kids = .nil) ∨ ∃ g cap cur, k = .slice (some ⟨g, 0, none⟩) kids.len cap ∧ kids ≠ .nil ∧ F g ∧ Box w g 47 cur ∧ RepC w F kids (cur.toList.take (5 * kids.len))

theorem RepC.len {w : World} {F : Nat → Prop} {f : Forest} {C : List Value} (h : RepC w F f C) : C.length = 5 * f.len := by
  induction f generalizing C with
  | nil => rw [show C = [] from h]; rfl
  | cons op set lo hi kids rest ih1 ih2 =>
    obtain ⟨k, C', rfl, _, h2⟩ := h
    have := ih2 h2
    simp only [List.length_cons, Forest.len]
    omega
theorem RepC.go {w w' : World} {F F' : Nat → Prop} {f : Forest} {C : List Value} (h : RepC w F f C) (hw : ∀ g cur, F g → Box w g 47 cur → F' g ∧ Box w' g 47 cur) : RepC w' F' f C := by
  induction f generalizing C with
  | nil => exact h
  | cons op set lo hi kids rest ih1 ih2 =>
    obtain ⟨k, C', hC, hk, h2⟩ := h
    refine ⟨k, C', hC, ?_, ih2 h2⟩
    rcases hk with hk | ⟨g, cap, cur, h3, h4, h5, h6, h7⟩
    · exact Or.inl hk
    · obtain ⟨h8, h9⟩ := hw g cur h5 h6
      exact Or.inr ⟨g, cap, cur, h3, h4, h8, h9, ih1 h7⟩
theorem KV.go {w w' : World} {F F' : Nat → Prop} {f : Forest} {k : Value} (h : KV w F k f) (hw : ∀ g cur, F g → Box w g 47 cur → F' g ∧ Box w' g 47 cur) : KV w' F' k f := by
  rcases h with h | ⟨g, cap, cur, h3, h4, h5, h6, h7⟩
  · exact Or.inl h
  · obtain ⟨h8, h9⟩ := hw g cur h5 h6
    exact Or.inr ⟨g, cap, cur, h3, h4, h8, h9, h7.go hw⟩
theorem KV.frm {S F : Nat → Prop} {w w' : World} {f : Forest} {k : Value} (h : KV w F k f) (hf : Frm S w w') (hs : ∀ g, F g → g < w.heap.size → ¬ S g) : KV w' F k f :=
  h.go fun g cur h1 h2 => ⟨h1, h2.frm hf (hs g h1 h2.lt)⟩
theorem KV.mono {F F' : Nat → Prop} {w : World} {f : Forest} {k : Value} (h : KV w F k f) (hs : ∀ g, F g → g < w.heap.size → F' g) : KV w F' k f :=
  h.go fun g cur h1 h2 => ⟨hs g h1 h2.lt, h2⟩
theorem KV.move {F : Nat → Prop} {w w' : World} {f : Forest} {k : Value} (h : KV w F k f) (hf : Frm No w w') : KV w' F k f := h.frm hf (fun _ _ _ => id)
theorem box_type {w : World} {g : Nat} {T T' : TypeId} {C C' : Array Value} (h : Box w g T C) (h' : Box w g T' C') : T = T' := by
  unfold Box at h h'
  rw [h] at h'
  cases h'
  rfl
/-- Blocks of another type may be written. -/
theorem KV.other {F S : Nat → Prop} {w w' : World} {f : Forest} {k : Value} (h : KV w F k f) (hf : Frm S w w') (hs : ∀ g, S g → g < w.heap.size → ∃ T C, Box w g T C ∧ T ≠ 47) : KV w' F k f :=
  h.go fun g cur h1 h2 => ⟨h1, h2.frm hf (fun hx => by obtain ⟨T, C, hb, hT⟩ := hs g hx h2.lt; exact hT (box_type hb h2))⟩
theorem KV.setRow {F : Nat → Prop} {w : World} {f : Forest} {k : Value} (h : KV w F k f) {b : Nat} {T : TypeId} {C : Array Value} (hb : Box w b T C) (hT : T ≠ 47) (D : Array Value) : KV (w.setRow b D) F k f :=
  h.other (frm_setRow (S := At b) (Frm.refl _ w) b D (fun _ => rfl)) (fun g e _ => by cases e; exact ⟨T, C, hb, hT⟩)
theorem KV.rd {F : Nat → Prop} {w w' : World} {f : Forest} {k : Value} (h : KV w F k f) {R : Nat} {s : ByteArray} {d : Nat} {l : List UInt8} (hf : Frm (At R) w w') (hr : Rd w R s d l) : KV w' F k f :=
  h.other hf (fun g e _ => by cases e; obtain ⟨i, hr, _⟩ := hr; exact ⟨_, _, hr.1, by decide⟩)
theorem KV.nil (w : World) (F : Nat → Prop) : KV w F (.slice none 0 0) .nil := Or.inl ⟨rfl, rfl⟩
theorem KV.forms {w : World} {F : Nat → Prop} {f : Forest} {k : Value} (h : KV w F k f) : ∃ a cap, k = .slice a f.len cap := by
  rcases h with ⟨rfl, rfl⟩ | ⟨g, cap, cur, rfl, _⟩
  · exact ⟨_, _, rfl⟩
  · exact ⟨_, _, rfl⟩
/-- The one tree of a new block. -/
theorem KV.one {w : World} {F : Nat → Prop} {k : Value} (t : T) (h : KV w F k t.kids) (g : Nat) (hg : F g) (cur : Array Value) (hb : Box w g 47 cur) (hc : cur = #[.string t.op, .string t.set, k, .int .i64 t.lo, .int .i64 t.hi]) (cap : Nat) : KV w F (.slice (some ⟨g, 0, none⟩) 1 cap) (Forest.nil.snoc t) := by
  refine Or.inr ⟨g, cap, cur, rfl, (by intro h; cases h), hg, hb, ?_⟩
  subst hc
  exact ⟨k, [], rfl, h, rfl⟩

/-- v is a part. -/
def PV (w : World) (F : Nat → Prop) (v : Value) (p : Part) : Prop :=
  p.n ≤ 2001 ∧ ∃ a cap, v = .agg #[.string p.t.op, .string p.t.set, .slice a p.t.kids.len cap, .int .i64 p.t.lo, .int .i64 p.t.hi, .int .i64 p.n] ∧ KV w F (.slice a p.t.kids.len cap) p.t.kids
theorem PV.frm {S F : Nat → Prop} {w w' : World} {v : Value} {p : Part} (h : PV w F v p) (hf : Frm S w w') (hs : ∀ g, F g → g < w.heap.size → ¬ S g) : PV w' F v p := by
  obtain ⟨h1, a, cap, h2, h3⟩ := h
  exact ⟨h1, a, cap, h2, h3.frm hf hs⟩
theorem PV.mono {F F' : Nat → Prop} {w : World} {v : Value} {p : Part} (h : PV w F v p) (hs : ∀ g, F g → g < w.heap.size → F' g) : PV w F' v p := by
  obtain ⟨h1, a, cap, h2, h3⟩ := h
  exact ⟨h1, a, cap, h2, h3.mono hs⟩
theorem PV.move {F : Nat → Prop} {w w' : World} {v : Value} {p : Part} (h : PV w F v p) (hf : Frm No w w') : PV w' F v p := h.frm hf (fun _ _ _ => id)
theorem PV.setRow {F : Nat → Prop} {w : World} {v : Value} {p : Part} (h : PV w F v p) {b : Nat} {T : TypeId} {C : Array Value} (hb : Box w b T C) (hT : T ≠ 47) (D : Array Value) : PV (w.setRow b D) F v p := by
  obtain ⟨h1, a, cap, h2, h3⟩ := h
  exact ⟨h1, a, cap, h2, h3.setRow hb hT D⟩
theorem PV.rd {F : Nat → Prop} {w w' : World} {v : Value} {p : Part} (h : PV w F v p) {R : Nat} {s : ByteArray} {d : Nat} {l : List UInt8} (hf : Frm (At R) w w') (hr : Rd w R s d l) : PV w' F v p := by
  obtain ⟨h1, a, cap, h2, h3⟩ := h
  exact ⟨h1, a, cap, h2, h3.rd hf hr⟩
/-- A value of part's shape, be it a part or not. -/
def Sh (v : Value) : Prop := ∃ (op set : ByteArray) (a : Option Addr) (n c : Nat) (lo hi m : Int), v = .agg #[.string op, .string set, .slice a n c, .int .i64 lo, .int .i64 hi, .int .i64 m]
theorem PV.sh {F : Nat → Prop} {w : World} {v : Value} {p : Part} (h : PV w F v p) : Sh v := by
  obtain ⟨h1, a, cap, h2, h3⟩ := h
  exact ⟨_, _, _, _, _, _, _, _, h2⟩

theorem big_all (w : World) (op set : ByteArray) (a : Option Addr) (n c : Nat) (lo hi m : Int) :
    Calls Tryz.prog 49 #[.agg #[.string op, .string set, .slice a n c, .int .i64 lo, .int .i64 hi, .int .i64 m]] w fun e w' => e = .returned (.bool (decide (2000 < m))) ∧ Frm No w w' := by
  go_enter Tryz.func49, Tryz.ntmps49
  go_wp2
  go_ret
  exact ⟨rfl, (Frm.refl No w).alloc _⟩

/-- The cells of no part. -/
def zp : Array Value := #[.string ⟨#[]⟩, .string ⟨#[]⟩, .slice none 0 0, .int .i64 0, .int .i64 0, .int .i64 0]
theorem info_part : (Tryz.prog.info? 94).map (·.size) = some 6 := by kernel_rfl
theorem frm1 (w : World) (o : Obj) : Frm No w (w.alloc o) := (Frm.refl No w).alloc o
theorem frm2 (w : World) (o p : Obj) : Frm No w ((w.alloc o).alloc p) := ((Frm.refl No w).alloc o).alloc p

theorem sized_all (w : World) (F : Nat → Prop) (t : T) (a : Option Addr) (c n : Nat) (hk : KV w F (.slice a t.kids.len c) t.kids) :
    Calls Tryz.prog 82 #[.agg #[.string t.op, .string t.set, .slice a t.kids.len c, .int .i64 t.lo, .int .i64 t.hi], .int .i64 n] w fun e w' => ∃ v, e = .returned v ∧ PV w' F v (sizedP t n) ∧ Frm No w w' := by
  have HK := Lib.hid hk
  clear hk
  by_cases hn : 2000 < n
  · go_enter Tryz.func82, Tryz.ntmps82
    go_wp2
    refine bodyPost_ret (v := .agg #[.string ⟨#[]⟩, .string ⟨#[]⟩, .slice none 0 0, .int .i64 0, .int .i64 0, .int .i64 2001]) (by simp [results, Tryz.results82, go_sem]) rfl ⟨_, rfl, ?_, frm2 _ _ _⟩
    rw [sizedP, if_pos hn]
    exact ⟨Nat.le_refl _, none, 0, rfl, KV.nil _ _⟩
  · go_enter Tryz.func82, Tryz.ntmps82
    go_wp2
    refine bodyPost_ret (v := .agg #[.string t.op, .string t.set, .slice a t.kids.len c, .int .i64 t.lo, .int .i64 t.hi, .int .i64 n]) (by simp [results, Tryz.results82, go_sem]) rfl ⟨_, rfl, ?_, frm2 _ _ _⟩
    rw [sizedP, if_neg hn]
    exact ⟨by show n ≤ 2001; omega, a, c, rfl, HK.out.move (frm2 _ _ _)⟩

theorem oneByte_all (w : World) (F : Nat → Prop) (c : UInt8) :
    Calls Tryz.prog 106 #[.int .u8 (c.toNat : Int)] w fun e w' => ∃ v, e = .returned v ∧ PV w' F v (oneP c) ∧ Frm No w w' := by
  have hstr := str_lit (P := Tryz.prog) (w.alloc (.cells #[.string ⟨#[]⟩, .string ⟨#[]⟩, .slice none 0 0, .int .i64 0, .int .i64 0, .int .i64 0] 94)) #[.int .u8 (c.toNat : Int)] [c] rfl 1 rfl 67 9 5 Tryz.underlying67 Tryz.underlying5 Tryz.underlying9
  rw [World.size_alloc] at hstr
  go_enter Tryz.func106, Tryz.ntmps106
  go_wp2
  refine bodyPost_ret (v := .agg #[.string ⟨#[115, 101, 116]⟩, .string ⟨#[c]⟩, .slice none 0 0, .int .i64 0, .int .i64 0, .int .i64 1]) (by simp [results, Tryz.results106, go_sem]) rfl ⟨_, rfl, ⟨by show 1 ≤ 2001; omega, none, 0, rfl, KV.nil _ _⟩, ?_⟩
  repeat' first | exact Frm.refl _ _ | apply Frm.alloc | (refine Frm.setCell ?_ _ _ (fun hk => absurd hk (by simp)))

theorem edge_all (w : World) (F : Nat → Prop) (op : ByteArray) :
    Calls Tryz.prog 105 #[.string op] w fun e w' => ∃ v, e = .returned v ∧ PV w' F v (edgeP op) ∧ Frm No w w' := by
  go_enter Tryz.func105, Tryz.ntmps105
  go_wp2
  refine bodyPost_ret (v := .agg #[.string op, .string ⟨#[]⟩, .slice none 0 0, .int .i64 0, .int .i64 0, .int .i64 1]) (by simp [results, Tryz.results105, go_sem]) rfl ⟨_, rfl, ⟨by show 1 ≤ 2001; omega, none, 0, rfl, KV.nil _ _⟩, frm1 _ _⟩

theorem setOf_all (w : World) (F : Nat → Prop) (f : Nat → Bool) (C : Array Value) (hC : C = bA f) :
    Calls Tryz.prog 103 #[.agg C] w fun e w' => ∃ v, e = .returned v ∧ PV w' F v (setP f) ∧ Frm No w w' := by
  have HB := Lib.hid ((Box.new w 154 C).alloc (.cells #[.string ⟨#[]⟩, .string ⟨#[]⟩, .slice none 0 0, .int .i64 0, .int .i64 0, .int .i64 0] 94))
  have HI := Lib.hid (show (Tryz.prog.info? 154).map (·.size) = some C.size by rw [hC]; exact info_set _)
  have HT := Lib.hid (fun W => text_c W f C hC)
  have HB2 := Lib.hid (Box.new (w.alloc (.cells C 154)) 94 zp)
  rw [World.size_alloc] at HB2
  clear hC
  go_enter Tryz.func103, Tryz.ntmps103
  go_wp2_with (first | (refine wpList_load_row rfl 154 (.tmp 1) rfl w.heap.size rfl 154 C (0, 0) _ HB.out Tryz.underlying154 rfl HI.out ?_) | (go_at_call 114; go_must (refine (HT.out _).mono ?_; rintro e w1 ⟨rfl, hf⟩; have HX := Lib.hid (HB2.out.frm hf id); have HF := Lib.hid hf; clear hf)) | (refine wpList_store_row rfl 94 (.tmp 2) (.tmp 6) rfl (w.heap.size + 1) #[.string setW, .string ⟨(setText f).toArray⟩, .slice none 0 0, .int .i64 0, .int .i64 0, .int .i64 1] rfl rfl 94 zp HX.out info_part rfl (by simp [Value.oneCell']) ?_))
  refine bodyPost_ret (results_cell_row Tryz.results103 _ _ (w.heap.size + 1) 94 _ (0, 0) _ rfl (setRow_eq HX.out) Tryz.underlying94 rfl info_part) rfl ⟨_, rfl, ⟨by show 1 ≤ 2001; omega, none, 0, rfl, KV.nil _ _⟩, ?_⟩
  exact frm_setRow ((((Frm.refl No w).alloc _).alloc _).trans HF.out) _ _ (fun hk => by omega)
end Go.Proofs.YtbfekknhmjndaaaGreat.parts
