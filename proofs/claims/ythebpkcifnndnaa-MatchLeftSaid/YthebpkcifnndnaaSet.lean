/- Contracts of sets of bytes: add, others, text. -/
import Derived.Test.YthebpkcifnndnaaNums3
import Derived.Deep.WholeRow
namespace Go.Proofs.Ythebpkcifnndnaa.set
set_option linter.unusedVariables false set_option linter.unusedSimpArgs false
open Go.ChangeShapes Go.WideShapes Go.ChangeAt Go.RowKit Go.Proofs.Ythebpkcifnndnaa.base Go.Proofs.Ythebpkcifnndnaa.read Go.Proofs.Ythebpkcifnndnaa.spec

/-- The cells of a set. -/
def bA (f : Nat → Bool) : Array Value := ((List.range 256).map fun k => Value.bool (f k)).toArray
theorem bA_size (f : Nat → Bool) : (bA f).size = 256 := by simp [bA]
theorem bA_get (f : Nat → Bool) (k : Nat) (h : k < 256) : (bA f)[k]? = some (.bool (f k)) := by simp [bA, h]
theorem bA_one (f : Nat → Bool) : (bA f).all (·.oneCell') = true := by simp [bA, Value.oneCell']
theorem bA_ext (f g : Nat → Bool) (h : ∀ k, k < 256 → f k = g k) : bA f = bA g := by
  unfold bA
  congr 1
  apply List.map_congr_left
  intro k hk
  rw [h k (by simpa using hk)]
theorem bA_set (f : Nat → Bool) (k : Nat) (b : Bool) (h : k < 256) : (bA f).setIfInBounds k (.bool b) = bA (fun j => if j = k then b else f j) := by
  apply Array.ext_getElem?
  intro j
  rw [Array.getElem?_setIfInBounds]
  by_cases hj : j < 256
  · rw [bA_get _ j hj, bA_get _ j hj, bA_size]
    by_cases e : k = j
    · subst e; simp [hj]
    · have e' : ¬ j = k := fun h => e h.symm
      simp [e, e']
  · have h1 : (bA f)[j]? = none := by rw [Array.getElem?_eq_none]; rw [bA_size]; omega
    have h2 : (bA fun j => if j = k then b else f j)[j]? = none := by rw [Array.getElem?_eq_none]; rw [bA_size]; omega
    rw [h1, h2, if_neg (by omega)]

set_option maxHeartbeats 400000 in
theorem add_all (w : World) (Q : Nat) (f : Nat → Bool) (lo hi : UInt8) (h : Box w Q 116 (bA f)) :
    Calls Try.prog 96 #[.pointer (some ⟨Q, 0, none⟩), .int .u8 (lo.toNat : Int), .int .u8 (hi.toNat : Int)] w fun e w' => e = .returned (.tuple #[]) ∧ Box w' Q 116 (bA (addF f lo hi)) ∧ Frm (At Q) w w' := by
  have H := Lib.hid h
  have hlo : lo.toNat < 256 := lo.toNat_lt
  have hhi : hi.toNat < 256 := hi.toNat_lt
  clear h
  go_enter Try.func96, Try.ntmps96
  go_wp2
  go_loopw [6] (fun cv wr => ∃ c : Nat, c ≤ 256 ∧ cv = .int .i64 c ∧ lo.toNat ≤ c ∧ (c ≤ lo.toNat ∨ c ≤ hi.toNat + 1) ∧ Box wr Q 116 (bA fun k => f k || (decide (lo.toNat ≤ k) && decide (k < c))) ∧ Frm (At Q) w wr) (fun cv _ => (256 - intOf cv).toNat)
  case atStart =>
    refine ⟨lo.toNat, by omega, rfl, by omega, by omega, ?_, Frm.refl _ w⟩
    rw [bA_ext _ f (fun k _ => by
      by_cases hk : lo.toNat ≤ k
      · simp [hk]; intro h; omega
      · simp [hk])]
    exact H.out
  case round =>
    obtain ⟨c, hc, rfl, hlc, hch, hb, hf⟩ := hrel
    have HB := Lib.hid hb
    have HF := Lib.hid hf
    clear hb hf
    by_cases hle : c ≤ hi.toNat
    · have hcell := HB.out.cell c
      rw [bA_get _ c (by omega)] at hcell
      have hfz := HB.out.f c
      go_wp2
      go_roundw
      case rel =>
        refine ⟨c + 1, by omega, by go_num, by omega, by omega, ?_, HF.out.setCell ⟨Q, c, none⟩ _ (fun _ => rfl)⟩
        have := HB.out.set c (.bool true)
        rw [bA_set _ c true (by omega)] at this
        rw [bA_ext _ _ (fun k _ => by
          show (f k || (decide (lo.toNat ≤ k) && decide (k < c + 1))) = if k = c then true else f k || (decide (lo.toNat ≤ k) && decide (k < c))
          by_cases e : k = c
          · subst e; simp [hlc]
          · rw [if_neg e]
            have : decide (k < c + 1) = decide (k < c) := by
              rw [decide_eq_decide]; omega
            rw [this])]
        exact this
      case measure => simp [intOf]; omega
    · go_wp2
      refine bodyPost_end (v := .tuple #[]) (by simp [results, Try.results96, go_sem]) rfl ⟨rfl, ?_, HF.out⟩
      rw [bA_ext (addF f lo hi) _ (fun k _ => by
        show (f k || (decide (lo.toNat ≤ k) && decide (k ≤ hi.toNat))) = (f k || (decide (lo.toNat ≤ k) && decide (k < c)))
        by_cases hk : lo.toNat ≤ k
        · have : decide (k ≤ hi.toNat) = decide (k < c) := by rw [decide_eq_decide]; omega
          rw [this]
        · simp [hk])]
      exact HB.out

theorem zero_set (W : World) : (zeroValue 116).run Try.prog W = .ok (.agg (bA emptyF)) W :=
  (zero_of_info (P := Try.prog) (t := 116) (v := .agg (bA emptyF)) (n := 256) (by kernel_rfl)).1 W
theorem info_set (f : Nat → Bool) : (Try.prog.info? 116).map (·.size) = some (bA f).size := by
  rw [bA_size]; kernel_rfl
theorem setRow_eq {w : World} {g : Nat} {T : TypeId} {C D : Array Value} (h : Box w g T C) : Box (w.setRow g D) g T D := setRow_heap w g C D T (0, 0) h
theorem frm_setRow {S : Nat → Prop} {a w : World} (h : Frm S a w) (g : Nat) (D : Array Value) (hg : g < a.heap.size → S g) : Frm S a (w.setRow g D) :=
  h.then (S' := At g) ⟨rfl, rfl, rfl, by simp [World.setRow], fun k _ hk => by simp only [World.setRow, Array.getElem?_modify]; rw [if_neg (fun e => hk e.symm)]⟩ (fun k hk e => by cases e; exact hg hk)

set_option maxRecDepth 100000 in
set_option maxHeartbeats 400000 in
theorem others_c (w : World) (f : Nat → Bool) (C Z D : Array Value) (hC : C = bA f) (hZ : Z = bA emptyF) (hD : D = bA fun k => !f k) :
    Calls Try.prog 80 #[.agg C] w fun e w' => e = .returned (.agg D) ∧ Frm No w w' := by
  have hz0 : ∀ W, (zeroValue 116).run Try.prog W = .ok (.agg Z) W := by rw [hZ]; exact zero_set
  have HI := Lib.hid (show (Try.prog.info? 116).map (·.size) = some D.size by rw [hD]; exact info_set _)
  have HS := Lib.hid (show Z.size = D.size by rw [hZ, hD, bA_size, bA_size])
  have H1 := Lib.hid (show D.all (·.oneCell') = true by rw [hD]; exact bA_one _)
  have HC := Lib.hid hC
  have HZ := Lib.hid hZ
  have HD := Lib.hid hD
  clear hC hZ hD
  go_enter Try.func80, Try.ntmps80
  go_wp2
  go_loopw [3, 4] (fun _ cv wr => ∃ c : Nat, c ≤ 256 ∧ cv = .int .i64 c ∧ Hid (Box wr w.heap.size 116 (bA fun k => if k < c then !f k else f k)) ∧ Hid (Box wr (w.heap.size + 1) 116 Z) ∧ Frm No w wr) (fun _ cv _ => (256 - intOf cv).toNat)
  case atStart =>
    refine ⟨0, by omega, rfl, Lib.hid ?_, Lib.hid ?_, ((Frm.refl No w).alloc _).alloc _⟩
    · rw [bA_ext _ f (fun k _ => by simp), ← HC.out]
      exact (Box.new _ _ _).alloc _
    · have := Box.new (w.alloc (.cells C 116)) 116 Z
      rw [World.size_alloc] at this
      exact this
  case round =>
    obtain ⟨c, hc, rfl, HB, HB2, hf⟩ := hrel
    have HF := Lib.hid hf
    clear hf
    by_cases hlt : c < 256
    · have hc2 : wr.cell? ⟨w.heap.size, c, none⟩ = some (.bool (f c)) := by
        rw [HB.out.cell c, bA_get _ c (by omega)]; simp
      have hfz := HB.out.f c
      go_wp2
      go_roundw
      case rel =>
        refine ⟨c + 1, by omega, by go_num, Lib.hid ?_, Lib.hid (HB2.out.set_ne _ (by omega)), HF.out.setCell ⟨w.heap.size, c, none⟩ _ (fun hk => absurd hk (Nat.lt_irrefl _))⟩
        have := HB.out.set c (.bool (!f c))
        rw [bA_set _ c _ (by omega)] at this
        rw [bA_ext _ _ (fun k _ => by
          show (if k < c + 1 then !f k else f k) = if k = c then !f c else (if k < c then !f k else f k)
          by_cases e : k = c
          · subst e; simp
          · rw [if_neg e]
            by_cases h1 : k < c
            · rw [if_pos h1, if_pos (by omega)]
            · rw [if_neg h1, if_neg (by omega)])]
        exact this
      case measure => simp [intOf]; omega
    · obtain rfl : c = 256 := by omega
      have HB' := Lib.hid (show Box wr w.heap.size 116 D by
        rw [HD.out, bA_ext _ _ (fun k hk => by show (!f k) = if k < 256 then !f k else f k; rw [if_pos hk])]
        exact HB.out)
      clear HB
      go_wp2_with (first | (refine wpList_load_row rfl 116 (.tmp 1) rfl w.heap.size rfl 116 D (0, 0) _ HB'.out Try.underlying116 rfl HI.out ?_) | (refine wpList_store_row rfl 116 (.tmp 2) (.tmp 14) rfl (w.heap.size + 1) D rfl rfl 116 Z HB2.out HI.out HS.out H1.out ?_))
      refine bodyPost_ret (v := .agg D) (results_cell_row Try.results80 _ _ (w.heap.size + 1) 116 _ (0, 0) _ rfl (setRow_eq HB2.out) Try.underlying116 rfl HI.out) rfl ⟨rfl, frm_setRow HF.out _ _ (fun hk => by omega)⟩
theorem others_all (w : World) (f : Nat → Bool) :
    Calls Try.prog 80 #[.agg (bA f)] w fun e w' => e = .returned (.agg (bA fun k => !f k)) ∧ Frm No w w' := others_c w f _ _ _ rfl rfl rfl

/-- 'a[i]' of an array by value whose elements are one cell each. -/
theorem run_index_one {P : Program} (t e : TypeId) (n : Nat) (C : Array Value) (c : Nat) (v : Value) (hu : P.underlying t = some (.array n e)) (hc : c < n) (hv : C[c]? = some v)
    (hs : ∀ W, (sizeOf e).run P W = .ok 1 W) (ha : ∀ W, (isAgg e).run P W = .ok false W) (W : World) : (Instr.index t (.agg C) (.int .i64 (c : Nat))).run P W = .ok v W := by
  have h1 : (0 : Int) ≤ (c : Nat) ∧ ((c : Nat) : Int) < (n : Nat) := by omega
  simp [Instr.index, run_underlying hu, asIntOf, h1, go_sem, hs, ha, part, hv]
  intro h
  omega

/-- The first c bytes that a set has. -/
def tx (f : Nat → Bool) (c : Nat) : List UInt8 := ((List.range c).filter f).map UInt8.ofNat
theorem tx_step (f : Nat → Bool) (c : Nat) : tx f (c + 1) = tx f c ++ (if f c then [UInt8.ofNat c] else []) := by
  unfold tx
  rw [List.range_succ, List.filter_append, List.map_append]
  congr 1
  by_cases h : f c = true
  · simp [h]
  · simp [h]
theorem tx_len (f : Nat → Bool) (c : Nat) : (tx f c).length ≤ c := by
  unfold tx
  rw [List.length_map]
  exact Nat.le_trans (List.length_filter_le _ _) (by simp)

set_option maxRecDepth 100000 in
set_option maxHeartbeats 400000 in
theorem text_c (w : World) (f : Nat → Bool) (C : Array Value) (hC : C = bA f) :
    Calls Try.prog 88 #[.agg C] w fun e w' => e = .returned (.string ⟨(setText f).toArray⟩) ∧ Frm No w w' := by
  have HB := Lib.hid (Box.new w 116 C)
  have HI := Lib.hid (show (Try.prog.info? 116).map (·.size) = some C.size by rw [hC]; exact info_set _)
  have HG := Lib.hid (show ∀ c, c < 256 → C[c]? = some (.bool (f c)) by intro c hc; rw [hC]; exact bA_get f c hc)
  have hsz : C.size = 256 := by rw [hC]; exact bA_size f
  have HU := Lib.hid (show (Try.prog.info? 5).map (fun i => (i.zero, i.size, i.bytes)) = some (some (.int .u8 0), 1, 1) by kernel_rfl)
  clear hC
  go_enter Try.func88, Try.ntmps88
  go_wp2_with (refine wpList_load_row rfl 116 (.tmp 1) rfl w.heap.size rfl 116 C (0, 0) _ HB.out Try.underlying116 rfl HI.out ?_)
  go_loopw [3, 4, 5, 7] (fun bv _ _ cv wr => ∃ c : Nat, c ≤ 256 ∧ cv = .int .i64 c ∧ OwnB wr w.heap.size 5 bv (tx f c) ∧ Frm No w wr) (fun _ _ _ cv _ => (256 - intOf cv).toNat)
  case atStart => exact ⟨0, by omega, rfl, OwnB.nil _ _ _, (Frm.refl No w).alloc _⟩
  case round =>
    obtain ⟨c, hc, rfl, hown, hf⟩ := hrel
    have HF := Lib.hid hf
    have HO := Lib.hid hown
    have HST := Lib.hid (tx_step f c)
    have hl := tx_len f c
    have hwsz := hf.size
    clear hf hown
    by_cases hlt : c < 256
    · have hcell := fun W => run_index_one (P := Try.prog) 116 4 256 C c _ Try.underlying116 hlt (HG.out c hlt) Try.sizeOf4 Try.isAgg4 W
      by_cases hfc : f c = true
      · have HST' := Lib.hid (show tx f (c + 1) = tx f c ++ [UInt8.ofNat c] by rw [HST.out, if_pos hfc])
        have hcb : (c : Int) = ((UInt8.ofNat c).toNat : Int) := by simp; omega
        have HCB := Lib.hid hcb
        clear hcb HST
        go_wp2_with (at_builtin; go_must (refine wpList_app1 _ rfl (.tmp 12) (.tmp 15) 108 rfl w.heap.size 5 Try.underlying108 HU.out _ _ rfl HO.out _ rfl (UInt8.ofNat c) HCB.out (by omega) (by omega) ?_; intro v' w1 hown' hb1))
        go_roundw
        case rel => exact ⟨c + 1, by omega, by go_num, by rw [HST'.out]; exact hown', HF.out.then (S' := fun k => w.heap.size ≤ k) ⟨hb1.os, hb1.tape, hb1.output, hb1.size, fun k hk hn => hb1.block k (by omega)⟩ (fun k hk h => absurd hk (by omega))⟩
        case measure => simp [intOf]; omega
      · have hfc' : f c = false := by simpa using hfc
        have HST' := Lib.hid (show tx f (c + 1) = tx f c by rw [HST.out, if_neg hfc, List.append_nil])
        clear hfc HST
        go_wp2
        go_roundw
        case rel => exact ⟨c + 1, by omega, by go_num, by rw [HST'.out]; exact HO.out, HF.out⟩
        case measure => simp [intOf]; omega
    · obtain rfl : c = 256 := by omega
      have hstr := HO.out.str (P := Try.prog) 108 9 Try.underlying108 Try.underlying5 Try.underlying9
      go_wp2
      go_ret
      exact ⟨rfl, HF.out⟩
theorem text_all (w : World) (f : Nat → Bool) :
    Calls Try.prog 88 #[.agg (bA f)] w fun e w' => e = .returned (.string ⟨(setText f).toArray⟩) ∧ Frm No w w' := text_c w f _ rfl
end Go.Proofs.Ythebpkcifnndnaa.set
