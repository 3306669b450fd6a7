/- Contract of match's read. -/
import Derived.Test.YtbfekknhmjndaaaGreatReadRep
namespace Go.Proofs.YtbfekknhmjndaaaGreat.part
set_option linter.unusedVariables false set_option linter.unusedSimpArgs false
open Go.ChangeShapes Go.WideShapes Go.ChangeAt Go.RowKit Go.Proofs.YtbfekknhmjndaaaGreat.base Go.Proofs.YtbfekknhmjndaaaGreat.spec Go.Proofs.YtbfekknhmjndaaaGreat.nfa Go.Proofs.YtbfekknhmjndaaaGreat.set Go.Proofs.YtbfekknhmjndaaaGreat.parts Go.Proofs.YtbfekknhmjndaaaGreat.items

theorem str_ne {op : ByteArray} {l : List UInt8} (h : op ≠ ⟨l.toArray⟩) : (op.toList == l) = false := by
  rw [beq_eq_false_iff_ne]
  intro e
  apply h
  apply ByteArray.ext
  apply Array.toList_inj.1
  rw [Lib.toList_data] at e
  simpa using e

def leafRes (t : T) : Option (T × Nat) := if t.kids.len = 0 then some (⟨t.op, t.set, 0, 0, .nil⟩, 1) else none
theorem leaf_all (w : World) (t : T) (a : Option Addr) (cap : Nat) (hop : t.op = setW ∨ t.op = bolW ∨ t.op = eolW) (hz : t.set.size ≤ 9223372036854775807) :
    Calls Tryz.prog 65 #[.agg #[.string t.op, .string t.set, .slice a t.kids.len cap, .int .i64 t.lo, .int .i64 t.hi]] w (ReadPost w (leafRes t)) := by
  unfold leafRes
  by_cases hk : t.kids.len = 0
  · rw [if_pos hk]
    rcases hop with h | h
    · exact leaf_set w t a cap hk h _ rfl hz
    · exact leaf_edge w t a cap hk h
  · rw [if_neg hk]
    exact leaf_kids w t a cap hk

/-- What a part's call answers, in one form. -/
theorem ReadPost.uni {w w' : World} {r : Option (T × Nat)} {en : Ending} (h : ReadPost w r en w') : ∃ (o : ByteArray) (x a : Option Addr) (n c : Nat) (l u k : Int) (b : Bool), en = .returned (.tuple #[.agg #[.string o, .pointer x, .slice a n c, .int .i64 l, .int .i64 u], .int .i64 k, .bool b]) := by
  obtain ⟨_, h⟩ := h
  cases r with
  | none => exact ⟨_, _, _, _, _, _, _, _, _, h⟩
  | some pm =>
    obtain ⟨v, h1, x, a, c, rfl, _⟩ := h
    exact ⟨_, _, _, _, _, _, _, _, _, h1⟩
theorem ReadPost.up {w w1 w2 : World} {r : Option (T × Nat)} {en : Ending} {C D : Array Value} (h : ReadPost w1 r en w2) (hf : Frm No w w1) (hsz : w1.heap.size = w.heap.size + 1 + 1) (hb : Box w2 (w.heap.size + 1) 100 C) : ReadPost w r en (w2.setRow (w.heap.size + 1) D) := by
  obtain ⟨h1, h2⟩ := h
  refine ⟨frm_setRow (hf.trans h1) _ _ (fun hk => absurd hk (by omega)), ?_⟩
  cases r with
  | none => exact h2
  | some pm =>
    obtain ⟨v, h3, h4⟩ := h2
    exact ⟨v, h3, part_set h4 hb (fun k hk => by have h8 : w1.heap.size ≤ k := hk; omega)⟩

set_option maxRecDepth 20000 in
set_option maxHeartbeats 1000000 in
theorem read_set (w : World) (t : T) (a : Option Addr) (cap : Nat) (d : Nat) (hd : d ≤ 2000) (r : Option (T × Nat)) (hop : t.op = setW)
    (hc : ∀ w1 : World, Frm No w w1 → Calls Tryz.prog 65 #[.agg #[.string t.op, .string t.set, .slice a t.kids.len cap, .int .i64 t.lo, .int .i64 t.hi]] w1 (ReadPost w1 r)) :
    Calls Tryz.prog 50 #[.agg #[.string t.op, .string t.set, .slice a t.kids.len cap, .int .i64 t.lo, .int .i64 t.hi], .int .i64 (d : Int)] w (ReadPost w r) := by
  obtain ⟨b1, b2, bf⟩ := box2 w 47 100 #[.string t.op, .string t.set, .slice a t.kids.len cap, .int .i64 t.lo, .int .i64 t.hi] zc
  have HB2 := Lib.hid b2
  have HBF := Lib.hid bf
  have HC := Lib.hid (hc _ bf)
  have h_set : (t.op.toList == [115, 101, 116]) = true := by rw [hop]; decide +kernel
  clear hop
  clear b1 b2 bf hc
  go_enter Tryz.func50, Tryz.ntmps50
  go_wp2_with (first | (go_at_call 65; go_must (refine (HC.out).mono ?_; intro en w2 hpost; obtain ⟨o, x, pa, pn, pc, pl, pu, pk, pb, rfl⟩ := hpost.uni; have HPOST := Lib.hid hpost; have HB3 := Lib.hid (HB2.out.frm hpost.1 id); clear hpost)) | (refine wpList_store_row rfl 100 (.tmp 4) (.tmp 18) rfl (w.heap.size + 1) _ rfl rfl 100 zc HB3.out info_part5 rfl (by simp [Value.oneCell']) ?_))
  refine bodyPost_ret (results_part3 Tryz.results50 _ _ (w.heap.size + 1) 100 _ (0, 0) _ (.int .i64 pk) (.bool pb) rfl rfl rfl (setRow_eq HB3.out) Tryz.underlying100 rfl info_part5) rfl (HPOST.out.up HBF.out (by rw [World.size_alloc, World.size_alloc]) HB3.out)

set_option maxRecDepth 20000 in
set_option maxHeartbeats 1000000 in
theorem read_bol (w : World) (t : T) (a : Option Addr) (cap : Nat) (d : Nat) (hd : d ≤ 2000) (r : Option (T × Nat)) (hop : t.op = bolW)
    (hc : ∀ w1 : World, Frm No w w1 → Calls Tryz.prog 65 #[.agg #[.string t.op, .string t.set, .slice a t.kids.len cap, .int .i64 t.lo, .int .i64 t.hi]] w1 (ReadPost w1 r)) :
    Calls Tryz.prog 50 #[.agg #[.string t.op, .string t.set, .slice a t.kids.len cap, .int .i64 t.lo, .int .i64 t.hi], .int .i64 (d : Int)] w (ReadPost w r) := by
  obtain ⟨b1, b2, bf⟩ := box2 w 47 100 #[.string t.op, .string t.set, .slice a t.kids.len cap, .int .i64 t.lo, .int .i64 t.hi] zc
  have HB2 := Lib.hid b2
  have HBF := Lib.hid bf
  have HC := Lib.hid (hc _ bf)
  have h_set : (t.op.toList == [115, 101, 116]) = false := by rw [hop]; decide +kernel
  have h_bol : (t.op.toList == [98, 111, 108]) = true := by rw [hop]; decide +kernel
  clear hop
  clear b1 b2 bf hc
  go_enter Tryz.func50, Tryz.ntmps50
  go_wp2_with (first | (go_at_call 65; go_must (refine (HC.out).mono ?_; intro en w2 hpost; obtain ⟨o, x, pa, pn, pc, pl, pu, pk, pb, rfl⟩ := hpost.uni; have HPOST := Lib.hid hpost; have HB3 := Lib.hid (HB2.out.frm hpost.1 id); clear hpost)) | (refine wpList_store_row rfl 100 (.tmp 4) (.tmp 18) rfl (w.heap.size + 1) _ rfl rfl 100 zc HB3.out info_part5 rfl (by simp [Value.oneCell']) ?_))
  refine bodyPost_ret (results_part3 Tryz.results50 _ _ (w.heap.size + 1) 100 _ (0, 0) _ (.int .i64 pk) (.bool pb) rfl rfl rfl (setRow_eq HB3.out) Tryz.underlying100 rfl info_part5) rfl (HPOST.out.up HBF.out (by rw [World.size_alloc, World.size_alloc]) HB3.out)

set_option maxRecDepth 20000 in
set_option maxHeartbeats 1000000 in
theorem read_eol (w : World) (t : T) (a : Option Addr) (cap : Nat) (d : Nat) (hd : d ≤ 2000) (r : Option (T × Nat)) (hop : t.op = eolW)
    (hc : ∀ w1 : World, Frm No w w1 → Calls Tryz.prog 65 #[.agg #[.string t.op, .string t.set, .slice a t.kids.len cap, .int .i64 t.lo, .int .i64 t.hi]] w1 (ReadPost w1 r)) :
    Calls Tryz.prog 50 #[.agg #[.string t.op, .string t.set, .slice a t.kids.len cap, .int .i64 t.lo, .int .i64 t.hi], .int .i64 (d : Int)] w (ReadPost w r) := by
  obtain ⟨b1, b2, bf⟩ := box2 w 47 100 #[.string t.op, .string t.set, .slice a t.kids.len cap, .int .i64 t.lo, .int .i64 t.hi] zc
  have HB2 := Lib.hid b2
  have HBF := Lib.hid bf
  have HC := Lib.hid (hc _ bf)
  have h_set : (t.op.toList == [115, 101, 116]) = false := by rw [hop]; decide +kernel
  have h_bol : (t.op.toList == [98, 111, 108]) = false := by rw [hop]; decide +kernel
  have h_eol : (t.op.toList == [101, 111, 108]) = true := by rw [hop]; decide +kernel
  clear hop
  clear b1 b2 bf hc
  go_enter Tryz.func50, Tryz.ntmps50
  go_wp2_with (first | (go_at_call 65; go_must (refine (HC.out).mono ?_; intro en w2 hpost; obtain ⟨o, x, pa, pn, pc, pl, pu, pk, pb, rfl⟩ := hpost.uni; have HPOST := Lib.hid hpost; have HB3 := Lib.hid (HB2.out.frm hpost.1 id); clear hpost)) | (refine wpList_store_row rfl 100 (.tmp 4) (.tmp 18) rfl (w.heap.size + 1) _ rfl rfl 100 zc HB3.out info_part5 rfl (by simp [Value.oneCell']) ?_))
  refine bodyPost_ret (results_part3 Tryz.results50 _ _ (w.heap.size + 1) 100 _ (0, 0) _ (.int .i64 pk) (.bool pb) rfl rfl rfl (setRow_eq HB3.out) Tryz.underlying100 rfl info_part5) rfl (HPOST.out.up HBF.out (by rw [World.size_alloc, World.size_alloc]) HB3.out)

set_option maxRecDepth 20000 in
set_option maxHeartbeats 1000000 in
theorem read_cat (w : World) (t : T) (a : Option Addr) (cap : Nat) (d : Nat) (hd : d ≤ 2000) (r : Option (T × Nat)) (hop : t.op = catW)
    (hc : ∀ w1 : World, Frm No w w1 → Calls Tryz.prog 66 #[.agg #[.string t.op, .string t.set, .slice a t.kids.len cap, .int .i64 t.lo, .int .i64 t.hi], .int .i64 (d : Int), .int .i64 0] w1 (ReadPost w1 r)) :
    Calls Tryz.prog 50 #[.agg #[.string t.op, .string t.set, .slice a t.kids.len cap, .int .i64 t.lo, .int .i64 t.hi], .int .i64 (d : Int)] w (ReadPost w r) := by
  obtain ⟨b1, b2, bf⟩ := box2 w 47 100 #[.string t.op, .string t.set, .slice a t.kids.len cap, .int .i64 t.lo, .int .i64 t.hi] zc
  have HB2 := Lib.hid b2
  have HBF := Lib.hid bf
  have HC := Lib.hid (hc _ bf)
  have h_set : (t.op.toList == [115, 101, 116]) = false := by rw [hop]; decide +kernel
  have h_bol : (t.op.toList == [98, 111, 108]) = false := by rw [hop]; decide +kernel
  have h_eol : (t.op.toList == [101, 111, 108]) = false := by rw [hop]; decide +kernel
  have h_cat : (t.op.toList == [99, 97, 116]) = true := by rw [hop]; decide +kernel
  clear hop
  clear b1 b2 bf hc
  go_enter Tryz.func50, Tryz.ntmps50
  go_wp2_with (first | (go_at_call 66; go_must (refine (HC.out).mono ?_; intro en w2 hpost; obtain ⟨o, x, pa, pn, pc, pl, pu, pk, pb, rfl⟩ := hpost.uni; have HPOST := Lib.hid hpost; have HB3 := Lib.hid (HB2.out.frm hpost.1 id); clear hpost)) | (refine wpList_store_row rfl 100 (.tmp 4) (.tmp 26) rfl (w.heap.size + 1) _ rfl rfl 100 zc HB3.out info_part5 rfl (by simp [Value.oneCell']) ?_))
  refine bodyPost_ret (results_part3 Tryz.results50 _ _ (w.heap.size + 1) 100 _ (0, 0) _ (.int .i64 pk) (.bool pb) rfl rfl rfl (setRow_eq HB3.out) Tryz.underlying100 rfl info_part5) rfl (HPOST.out.up HBF.out (by rw [World.size_alloc, World.size_alloc]) HB3.out)

set_option maxRecDepth 20000 in
set_option maxHeartbeats 1000000 in
theorem read_alt (w : World) (t : T) (a : Option Addr) (cap : Nat) (d : Nat) (hd : d ≤ 2000) (r : Option (T × Nat)) (hop : t.op = altW)
    (hc : ∀ w1 : World, Frm No w w1 → Calls Tryz.prog 66 #[.agg #[.string t.op, .string t.set, .slice a t.kids.len cap, .int .i64 t.lo, .int .i64 t.hi], .int .i64 (d : Int), .int .i64 1] w1 (ReadPost w1 r)) :
    Calls Tryz.prog 50 #[.agg #[.string t.op, .string t.set, .slice a t.kids.len cap, .int .i64 t.lo, .int .i64 t.hi], .int .i64 (d : Int)] w (ReadPost w r) := by
  obtain ⟨b1, b2, bf⟩ := box2 w 47 100 #[.string t.op, .string t.set, .slice a t.kids.len cap, .int .i64 t.lo, .int .i64 t.hi] zc
  have HB2 := Lib.hid b2
  have HBF := Lib.hid bf
  have HC := Lib.hid (hc _ bf)
  have h_set : (t.op.toList == [115, 101, 116]) = false := by rw [hop]; decide +kernel
  have h_bol : (t.op.toList == [98, 111, 108]) = false := by rw [hop]; decide +kernel
  have h_eol : (t.op.toList == [101, 111, 108]) = false := by rw [hop]; decide +kernel
  have h_cat : (t.op.toList == [99, 97, 116]) = false := by rw [hop]; decide +kernel
  have h_alt : (t.op.toList == [97, 108, 116]) = true := by rw [hop]; decide +kernel
  clear hop
  clear b1 b2 bf hc
  go_enter Tryz.func50, Tryz.ntmps50
  go_wp2_with (first | (go_at_call 66; go_must (refine (HC.out).mono ?_; intro en w2 hpost; obtain ⟨o, x, pa, pn, pc, pl, pu, pk, pb, rfl⟩ := hpost.uni; have HPOST := Lib.hid hpost; have HB3 := Lib.hid (HB2.out.frm hpost.1 id); clear hpost)) | (refine wpList_store_row rfl 100 (.tmp 4) (.tmp 34) rfl (w.heap.size + 1) _ rfl rfl 100 zc HB3.out info_part5 rfl (by simp [Value.oneCell']) ?_))
  refine bodyPost_ret (results_part3 Tryz.results50 _ _ (w.heap.size + 1) 100 _ (0, 0) _ (.int .i64 pk) (.bool pb) rfl rfl rfl (setRow_eq HB3.out) Tryz.underlying100 rfl info_part5) rfl (HPOST.out.up HBF.out (by rw [World.size_alloc, World.size_alloc]) HB3.out)

set_option maxRecDepth 20000 in
set_option maxHeartbeats 1000000 in
theorem read_rep (w : World) (t : T) (a : Option Addr) (cap : Nat) (d : Nat) (hd : d ≤ 2000) (r : Option (T × Nat)) (hop : t.op = repW)
    (hc : ∀ w1 : World, Frm No w w1 → Calls Tryz.prog 67 #[.agg #[.string t.op, .string t.set, .slice a t.kids.len cap, .int .i64 t.lo, .int .i64 t.hi], .int .i64 (d : Int)] w1 (ReadPost w1 r)) :
    Calls Tryz.prog 50 #[.agg #[.string t.op, .string t.set, .slice a t.kids.len cap, .int .i64 t.lo, .int .i64 t.hi], .int .i64 (d : Int)] w (ReadPost w r) := by
  obtain ⟨b1, b2, bf⟩ := box2 w 47 100 #[.string t.op, .string t.set, .slice a t.kids.len cap, .int .i64 t.lo, .int .i64 t.hi] zc
  have HB2 := Lib.hid b2
  have HBF := Lib.hid bf
  have HC := Lib.hid (hc _ bf)
  have h_set : (t.op.toList == [115, 101, 116]) = false := by rw [hop]; decide +kernel
  have h_bol : (t.op.toList == [98, 111, 108]) = false := by rw [hop]; decide +kernel
  have h_eol : (t.op.toList == [101, 111, 108]) = false := by rw [hop]; decide +kernel
  have h_cat : (t.op.toList == [99, 97, 116]) = false := by rw [hop]; decide +kernel
  have h_alt : (t.op.toList == [97, 108, 116]) = false := by rw [hop]; decide +kernel
  have h_rep : (t.op.toList == [114, 101, 112]) = true := by rw [hop]; decide +kernel
  clear hop
  clear b1 b2 bf hc
  go_enter Tryz.func50, Tryz.ntmps50
  go_wp2_with (first | (go_at_call 67; go_must (refine (HC.out).mono ?_; intro en w2 hpost; obtain ⟨o, x, pa, pn, pc, pl, pu, pk, pb, rfl⟩ := hpost.uni; have HPOST := Lib.hid hpost; have HB3 := Lib.hid (HB2.out.frm hpost.1 id); clear hpost)) | (refine wpList_store_row rfl 100 (.tmp 4) (.tmp 42) rfl (w.heap.size + 1) _ rfl rfl 100 zc HB3.out info_part5 rfl (by simp [Value.oneCell']) ?_))
  refine bodyPost_ret (results_part3 Tryz.results50 _ _ (w.heap.size + 1) 100 _ (0, 0) _ (.int .i64 pk) (.bool pb) rfl rfl rfl (setRow_eq HB3.out) Tryz.underlying100 rfl info_part5) rfl (HPOST.out.up HBF.out (by rw [World.size_alloc, World.size_alloc]) HB3.out)

theorem read_deep (w : World) (t : T) (a : Option Addr) (cap : Nat) (d : Nat) (hd : 2000 < d) :
    Calls Tryz.prog 50 #[.agg #[.string t.op, .string t.set, .slice a t.kids.len cap, .int .i64 t.lo, .int .i64 t.hi], .int .i64 (d : Int)] w (ReadPost w none) := by
  have hd' : (2000 : Int) < (d : Int) := by omega
  go_enter Tryz.func50, Tryz.ntmps50
  go_wp2
  refine bodyPost_ret (v := .tuple #[.agg zc, .int .i64 0, .bool false]) (by simp [results, Tryz.results50, go_sem, zc]) rfl ⟨?_, rfl⟩
  repeat' first | exact Frm.refl _ _ | apply Frm.alloc | (refine Frm.setCell ?_ _ _ (fun hk => absurd hk (by simp)))
theorem read_other (w : World) (t : T) (a : Option Addr) (cap : Nat) (d : Nat) (hd : d ≤ 2000) (h1 : t.op ≠ setW) (h2 : t.op ≠ bolW) (h3 : t.op ≠ eolW) (h4 : t.op ≠ catW) (h5 : t.op ≠ altW) (h6 : t.op ≠ repW) :
    Calls Tryz.prog 50 #[.agg #[.string t.op, .string t.set, .slice a t.kids.len cap, .int .i64 t.lo, .int .i64 t.hi], .int .i64 (d : Int)] w (ReadPost w none) := by
  have e1 : (t.op.toList == [115, 101, 116]) = false := str_ne h1
  have e2 : (t.op.toList == [98, 111, 108]) = false := str_ne h2
  have e3 : (t.op.toList == [101, 111, 108]) = false := str_ne h3
  have e4 : (t.op.toList == [99, 97, 116]) = false := str_ne h4
  have e5 : (t.op.toList == [97, 108, 116]) = false := str_ne h5
  have e6 : (t.op.toList == [114, 101, 112]) = false := str_ne h6
  clear h1 h2 h3 h4 h5 h6
  go_enter Tryz.func50, Tryz.ntmps50
  go_wp2
  refine bodyPost_ret (v := .tuple #[.agg zc, .int .i64 0, .bool false]) (by simp [results, Tryz.results50, go_sem, zc]) rfl ⟨?_, rfl⟩
  repeat' first | exact Frm.refl _ _ | apply Frm.alloc | (refine Frm.setCell ?_ _ _ (fun hk => absurd hk (by simp)))

section
variable (w : World) (t : T) (a : Option Addr) (cap : Nat) (d : Nat)
theorem rep_all (hd : d ≤ 2000) (hk : TK w t.kids a) (h6 : t.op = repW) (h1 : ¬ (t.op = setW ∨ t.op = bolW ∨ t.op = eolW)) (h4 : t.op ≠ catW) (h5 : t.op ≠ altW) (hdd : ¬ 2000 < d) (N : Nat) (hN : fsz t.kids ≤ N) (hsz : SzF t.kids)
    (IH : ∀ (t' : T) (w' : World) (C : Array Value), nd t' ≤ N → SzT t' → TAV w' C t' → Calls Tryz.prog 50 #[.agg C, .int .i64 ((d : Int) + 1)] w' (ReadPost w' (rdT t' (d + 1)))) :
    Calls Tryz.prog 67 #[.agg #[.string t.op, .string t.set, .slice a t.kids.len cap, .int .i64 t.lo, .int .i64 t.hi], .int .i64 (d : Int)] w (ReadPost w (rdT t d)) := by
  have hr : rdT t d = if (rdF t.kids (d + 1)).length ≠ 1 ∨ bounds t.lo t.hi = false then none else match (rdF t.kids (d + 1)).headD none with
      | none => none
      | some (p, n) => if 2000 < repN t.lo t.hi n then none else if isNo p then some (p, repN t.lo t.hi n) else some (⟨repW, ⟨#[]⟩, t.lo, t.hi, Forest.nil.snoc p⟩, repN t.lo t.hi n) := by
    rw [rdT, rdNode, if_neg hdd, if_neg h1, if_neg h4, if_neg h5, if_pos h6]
    rfl
  rw [hr, rdF_len]
  by_cases hb : t.kids.len ≠ 1 ∨ bounds t.lo t.hi = false
  · rw [if_pos hb]
    exact rep_bad w t a cap d hb
  · rw [if_neg hb]
    simp only [not_or, Bool.not_eq_false, Classical.not_not] at hb
    obtain ⟨hb1, hb2⟩ := hb
    obtain ⟨tk, htk⟩ := nthF_some (f := t.kids) (j := 0) (by omega)
    have hhd : (rdF t.kids (d + 1)).headD none = rdT tk (d + 1) := by
      have := rdF_nth (d := d + 1) htk
      rw [List.headD_eq_head?_getD, List.head?_eq_getElem?, this]; rfl
    rw [hhd]
    have hnk := nthF_nd htk
    have IH' : ∀ (w' : World) (C : Array Value), TAV w' C tk → Calls Tryz.prog 50 #[.agg C, .int .i64 ((d : Int) + 1)] w' (ReadPost w' (rdT tk (d + 1))) := fun w' C h => IH tk w' C (by omega) (hsz.nth htk) h
    cases hrd : rdT tk (d + 1) with
    | none => exact rep_none w t a cap d hb1 hb2 hk hd tk htk IH' hrd
    | some pm =>
      obtain ⟨p, m⟩ := pm
      simp only
      by_cases hbg : 2000 < repN t.lo t.hi m
      · rw [if_pos hbg]; exact rep_big w t a cap d hb1 hb2 hk hd tk htk IH' p m hrd hbg
      · rw [if_neg hbg]
        cases hno : isNo p with
        | true => exact rep_no w t a cap d hb1 hb2 hk hd tk htk IH' p m hrd hbg hno
        | false => exact rep_yes w t a cap d hb1 hb2 hk hd tk htk IH' p m hrd hbg hno
theorem row_none (h0 : t.kids.len = 0) (hop : t.op = altW) :
    Calls Tryz.prog 66 #[.agg #[.string t.op, .string t.set, .slice a t.kids.len cap, .int .i64 t.lo, .int .i64 t.hi], .int .i64 (d : Int), .int .i64 1] w (ReadPost w none) := by
  have hl : (t.op.toList == [97, 108, 116]) = true := by rw [hop]; decide +kernel
  clear hop
  rw [h0]
  go_enter Tryz.func66, Tryz.ntmps66
  go_wp2
  refine bodyPost_ret (v := .tuple #[.agg zc, .int .i64 0, .bool false]) (by simp [results, Tryz.results66, go_sem, zc]) rfl ⟨?_, rfl⟩
  repeat' first | exact Frm.refl _ _ | apply Frm.alloc | (refine Frm.setCell ?_ _ _ (fun hk => absurd hk (by simp)))
end
theorem rdT_eq (t : T) (d : Nat) : rdT t d = rdNode t.op t.set t.lo t.hi (rdF t.kids (d + 1)) d := rfl
theorem read_all (N : Nat) : ∀ (t : T) (d : Nat) (w : World) (C : Array Value), nd t ≤ N → d ≤ 2001 → N ≤ 100000 → SzT t → TAV w C t → Calls Tryz.prog 50 #[.agg C, .int .i64 (d : Int)] w (ReadPost w (rdT t d)) := by
  induction N with
  | zero => intro t d w C h; unfold nd at h; omega
  | succ N ih =>
    intro t d w C hn hd hN hsz ⟨a, cap, hC, hk⟩
    subst hC
    have hlen := len_fsz t.kids
    have hfs : fsz t.kids ≤ N := by unfold nd at hn; omega
    by_cases hdd : 2000 < d
    · rw [rdT_eq, rdNode, if_pos hdd]
      exact read_deep w t a cap d hdd
    · have hd2 : d ≤ 2000 := by omega
      have IH : ∀ (t' : T) (w' : World) (C : Array Value), nd t' ≤ N → SzT t' → TAV w' C t' → Calls Tryz.prog 50 #[.agg C, .int .i64 ((d : Int) + 1)] w' (ReadPost w' (rdT t' (d + 1))) := fun t' w' C h1 h2 h3 => ih t' (d + 1) w' C h1 (by omega) (by omega) h2 h3
      by_cases h1 : t.op = setW ∨ t.op = bolW ∨ t.op = eolW
      · have hr : rdT t d = leafRes t := by
          rw [rdT_eq, rdNode, if_neg hdd, if_pos h1, rdF_len]; rfl
        rw [hr]
        have hc : ∀ w1 : World, Frm No w w1 → _ := fun w1 _ => leaf_all w1 t a cap h1 hsz.1
        rcases h1 with h | h | h
        · exact read_set w t a cap d hd2 _ h hc
        · exact read_bol w t a cap d hd2 _ h hc
        · exact read_eol w t a cap d hd2 _ h hc
      · by_cases h4 : t.op = catW
        · have hr : rdT t d = catRes (rowF (rdF t.kids (d + 1)) .nil 0 false) := by
            rw [rdT_eq, rdNode, if_neg hdd, if_neg h1, if_pos h4]; rfl
          rw [hr]
          exact read_cat w t a cap d hd2 _ h4 (fun w1 hf => row_cat w1 t a cap d hd2 (hk.move hf) h4 (by omega) N hfs hsz.2 IH _ rfl)
        · by_cases h5 : t.op = altW
          · by_cases h0 : t.kids.len = 0
            · have hr : rdT t d = none := by
                rw [rdT_eq, rdNode, if_neg hdd, if_neg h1, if_neg h4, if_pos h5, rdF_len, if_pos h0]
              rw [hr]
              exact read_alt w t a cap d hd2 _ h5 (fun w1 hf => row_none w1 t a cap d h0 h5)
            · have hr : rdT t d = altRes (rowF (rdF t.kids (d + 1)) .nil 1 false) := by
                rw [rdT_eq, rdNode, if_neg hdd, if_neg h1, if_neg h4, if_pos h5, rdF_len, if_neg h0]; rfl
              rw [hr]
              exact read_alt w t a cap d hd2 _ h5 (fun w1 hf => row_alt w1 t a cap d hd2 (hk.move hf) h5 (by omega) (by omega) N hfs hsz.2 IH _ rfl)
          · by_cases h6 : t.op = repW
            · exact read_rep w t a cap d hd2 _ h6 (fun w1 hf => rep_all w1 t a cap d hd2 (hk.move hf) h6 h1 h4 h5 hdd N hfs hsz.2 IH)
            · have hr : rdT t d = none := by
                rw [rdT_eq, rdNode, if_neg hdd, if_neg h1, if_neg h4, if_neg h5, if_neg h6]
              rw [hr]
              simp only [not_or] at h1
              exact read_other w t a cap d hd2 h1.1 h1.2.1 h1.2.2 h4 h5 h6
end Go.Proofs.YtbfekknhmjndaaaGreat.part
