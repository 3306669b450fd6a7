/- Trees' cells; awake (tedderlaw03). -/
import Derived.Test.YtmcbhphcilgfoaaQuote
namespace Go.Proofs.Ytmcbhphcilgfoaa.law03
set_option linter.unusedVariables false set_option linter.unusedSimpArgs false
open Go.ChangeShapes Go.WideShapes Go.ChangeAt Go.RowKit Go.Proofs.Ytmcbhphcilgfoaa.base Go.Proofs.Ytmcbhphcilgfoaa.read Go.Proofs.Ytmcbhphcilgfoaa.spec Go.Proofs.Ytmcbhphcilgfoaa.set Go.Proofs.Ytmcbhphcilgfoaa.nums Go.Proofs.Ytmcbhphcilgfoaa.parts Go.Proofs.Ytmcbhphcilgfoaa.items Go.Proofs.Ytmcbhphcilgfoaa.quote

/-- The j-th tree. -/
def nth : Forest → Nat → Option T
  | .nil, _ => none
  | .cons op set lo hi k r, 0 => some ⟨op, set, lo, hi, k⟩
  | .cons _ _ _ _ _ r, j + 1 => nth r j

theorem repc_nth {w : World} {F : Nat → Prop} {f : Forest} {C : List Value} {j : Nat} {t : T} (h : RepC w F f C) (hj : nth f j = some t) :
    ∃ k, C[5 * j]? = some (.string t.op) ∧ C[5 * j + 1]? = some (.string t.set) ∧ C[5 * j + 2]? = some k ∧ C[5 * j + 3]? = some (.int .i64 t.lo) ∧ C[5 * j + 4]? = some (.int .i64 t.hi) ∧ KV w F k t.kids := by
  induction f generalizing C j with
  | nil => cases hj
  | cons op set lo hi kids rest ih1 ih2 =>
    obtain ⟨k, C', rfl, hk, hr⟩ := h
    cases j with
    | zero =>
      cases hj
      exact ⟨k, rfl, rfl, rfl, rfl, rfl, hk⟩
    | succ j =>
      obtain ⟨k2, h0, h1, h2, h3, h4, h5⟩ := ih2 hr hj
      refine ⟨k2, ?_, ?_, ?_, ?_, ?_, h5⟩
      · rw [show 5 * (j + 1) = 5 * j + 1 + 1 + 1 + 1 + 1 by omega]; simpa only [List.getElem?_cons_succ] using h0
      · rw [show 5 * (j + 1) + 1 = 5 * j + 1 + 1 + 1 + 1 + 1 + 1 by omega]; simpa only [List.getElem?_cons_succ] using h1
      · rw [show 5 * (j + 1) + 2 = 5 * j + 2 + 1 + 1 + 1 + 1 + 1 by omega]; simpa only [List.getElem?_cons_succ] using h2
      · rw [show 5 * (j + 1) + 3 = 5 * j + 3 + 1 + 1 + 1 + 1 + 1 by omega]; simpa only [List.getElem?_cons_succ] using h3
      · rw [show 5 * (j + 1) + 4 = 5 * j + 4 + 1 + 1 + 1 + 1 + 1 by omega]; simpa only [List.getElem?_cons_succ] using h4
theorem nth_lt {f : Forest} {j : Nat} {t : T} (h : nth f j = some t) : j < f.len := by
  induction f generalizing j with
  | nil => cases h
  | cons op set lo hi kids rest ih1 ih2 =>
    cases j with
    | zero => simp only [Forest.len]; omega
    | succ j => have := ih2 h; simp only [Forest.len]; omega
/-- The block of some trees, and the cells of one of them. -/
theorem kv_nth {w : World} {F : Nat → Prop} {f : Forest} {a : Option Addr} {n cap : Nat} (h : KV w F (.slice a n cap) f) (h0 : 0 < f.len) :
    ∃ g, a = some ⟨g, 0, none⟩ ∧ F g ∧ g < w.heap.size ∧ n = f.len ∧ ∀ j t, nth f j = some t → ∃ a2 c2, w.cell? ⟨g, 5 * j, none⟩ = some (.string t.op) ∧ w.cell? ⟨g, 5 * j + 1, none⟩ = some (.string t.set) ∧ w.cell? ⟨g, 5 * j + 2, none⟩ = some (.slice a2 t.kids.len c2) ∧ w.cell? ⟨g, 5 * j + 3, none⟩ = some (.int .i64 t.lo) ∧ w.cell? ⟨g, 5 * j + 4, none⟩ = some (.int .i64 t.hi) ∧ KV w F (.slice a2 t.kids.len c2) t.kids := by
  rcases h with ⟨_, rfl⟩ | ⟨g, cap', cur, hv, hne, hF, hb, hr⟩
  · cases h0
  · cases hv
    refine ⟨g, rfl, hF, hb.lt, rfl, fun j t hj => ?_⟩
    obtain ⟨k, e0, e1, e2, e3, e4, hk⟩ := repc_nth hr hj
    have hlt := nth_lt hj
    obtain ⟨a2, c2, rfl⟩ := hk.forms
    have get : ∀ i v, i < 5 → (cur.toList.take (5 * f.len))[5 * j + i]? = some v → w.cell? ⟨g, 5 * j + i, none⟩ = some v := by
      intro i v hi e
      rw [List.getElem?_take, if_pos (by omega), Array.getElem?_toList] at e
      rw [hb.cell]
      exact e
    exact ⟨a2, c2, get 0 _ (by omega) e0, get 1 _ (by omega) e1, get 2 _ (by omega) e2, get 3 _ (by omega) e3, get 4 _ (by omega) e4, hk⟩

def awT : T := ⟨altW, ⟨#[]⟩, 0, 0, .cons setW ⟨#[97]⟩ 0 0 .nil (.cons repW ⟨#[]⟩ 0 (-1) (.cons setW ⟨#[98]⟩ 0 0 .nil .nil) .nil)⟩
theorem aw1 : parse [97, 124, 98, 42] = (awT, 0) := by rfl
theorem aw2 : parse [40] = (zT, 1) := by rfl

set_option maxHeartbeats 1000000 in
theorem awake_all (w : World) (hm : Mx w) : Calls Try.prog 6 #[] w fun e w' => e = .returned (.bool true) ∧ Frm No w w' := by
  have HM := Lib.hid hm
  clear hm
  go_enter Try.func6, Try.ntmps6
  go_wp2_with (first | (go_at_call_of 7 (Value.string ⟨#[97, 124, 98, 42]⟩); go_must (refine (parse_c w ⟨#[97, 124, 98, 42]⟩ HM.out (by decide) (awT, 0) aw1).mono ?_; rintro e w1 ⟨C1, rfl, ⟨a1, cap1, rfl, hk1⟩, hf1⟩; obtain ⟨g, rfl, _, hglt, _, hcells⟩ := kv_nth hk1 (by decide); obtain ⟨_, _, hc5, _⟩ := hcells 1 _ rfl; have HC5 := Lib.hid hc5; have HF1 := Lib.hid hf1; clear hk1 hf1 hcells hc5)) | (go_at_call_of 7 (Value.string ⟨#[40]⟩); go_must (refine (parse_c _ ⟨#[40]⟩ (HM.out.frm (HF1.out.alloc _) id) (by decide) (zT, 1) aw2).mono ?_; rintro e w3 ⟨C3, rfl, ⟨a3, cap3, rfl, hk3⟩, hf3⟩; have HB := Lib.hid (Box.frm (Box.new w1 _ _) hf3 id); have hltb := HB.out.lt; have e0 : w3.cell? ⟨w1.heap.size, 0, none⟩ = some (.string ⟨#[97, 108, 116]⟩) := HB.out.cell 0; have e2 : w3.cell? ⟨w1.heap.size, 2, none⟩ = some (.slice (some ⟨g, 0, none⟩) 2 cap1) := HB.out.cell 2; have hlg : g < w3.heap.size := (by omega); have e5 : w3.cell? ⟨g, 5, none⟩ = some (.string ⟨#[114, 101, 112]⟩) := (World.cell?_of_block ((Frm.then ((Frm.refl No w1).alloc _) hf3 (fun _ _ e => e)).block g hglt id)).trans HC5.out; have HF3 := Lib.hid (Frm.then (HF1.out.alloc _) hf3 (fun _ _ e => e)); clear hk3 hf3)))
  go_ret
  exact ⟨rfl, HF3.out.alloc _⟩
end Go.Proofs.Ytmcbhphcilgfoaa.law03
