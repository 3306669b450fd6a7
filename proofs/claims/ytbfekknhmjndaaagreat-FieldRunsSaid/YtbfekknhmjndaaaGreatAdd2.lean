/- Contracts of ere's repeated, row.add, row.join. Contract of ere's row.add. Contracts of ere's row.add where the row grows too big, and of row.join. -/
import Derived.Test.YtbfekknhmjndaaaGreatParts
import Derived.Deep.RegionLaw
import Derived.Deep.AppendLies
import Derived.Deep.DrawnRows
import Derived.Deep.RegionHeld3

namespace Go.Proofs.YtbfekknhmjndaaaGreat.parts
set_option linter.unusedVariables false set_option linter.unusedSimpArgs false
open Go.ChangeShapes Go.WideShapes Go.ChangeAt Go.RowKit Go.Proofs.YtbfekknhmjndaaaGreat.base Go.Proofs.YtbfekknhmjndaaaGreat.read Go.Proofs.YtbfekknhmjndaaaGreat.spec Go.Proofs.YtbfekknhmjndaaaGreat.set

theorem sized_i (w : World) (F : Nat → Prop) (t : T) (a : Option Addr) (c n : Nat) (m : Int) (hm : m = (n : Nat)) (hk : KV w F (.slice a t.kids.len c) t.kids) :
    Calls Tryz.prog 82 #[.agg #[.string t.op, .string t.set, .slice a t.kids.len c, .int .i64 t.lo, .int .i64 t.hi], .int .i64 m] w fun e w' => ∃ v, e = .returned v ∧ PV w' F v (sizedP t n) ∧ Frm No w w' := by
  subst hm
  exact sized_all w F t a c n hk

/-- Blocks of F, and new ones. -/
def Or2 (F : Nat → Prop) (B : Nat) : Nat → Prop := fun k => F k ∨ B ≤ k

set_option maxHeartbeats 400000 in
theorem repeated_all (w : World) (F : Nat → Prop) (v : Value) (p : Part) (lo : Nat) (hi : Int) (hp : PV w F v p) (hlo : lo ≤ 255) (h1 : -1 ≤ hi) (h2 : hi ≤ 255) :
    Calls Tryz.prog 108 #[v, .int .i64 lo, .int .i64 hi] w fun e w' => ∃ v', e = .returned v' ∧ PV w' (Or2 F w.heap.size) v' (repP p lo hi) ∧ Frm No w w' := by
  have HPV := Lib.hid hp
  obtain ⟨hn, a, cap, rfl, hk⟩ := hp
  have HK := Lib.hid hk
  have HB1 := Lib.hid ((Box.new w 94 #[.string p.t.op, .string p.t.set, .slice a p.t.kids.len cap, .int .i64 p.t.lo, .int .i64 p.t.hi, .int .i64 p.n]).alloc (.cells zp 94))
  have HB2 := Lib.hid (Box.new (w.alloc (.cells #[.string p.t.op, .string p.t.set, .slice a p.t.kids.len cap, .int .i64 p.t.lo, .int .i64 p.t.hi, .int .i64 p.n] 94)) 94 zp)
  rw [World.size_alloc] at HB2
  have HF0 := Lib.hid (frm2 w (.cells #[.string p.t.op, .string p.t.set, .slice a p.t.kids.len cap, .int .i64 p.t.lo, .int .i64 p.t.hi, .int .i64 p.n] 94) (.cells zp 94))
  clear hk
  by_cases hbig : 2000 < p.n
  · have hb : decide (2000 < ((p.n : Nat) : Int)) = true := by simp; omega
    go_enter Tryz.func108, Tryz.ntmps108
    go_wp2_with (first | (go_at_call 49; go_must (refine (big_all _ _ _ _ _ _ _ _ _).mono ?_; rintro e w1 ⟨rfl, hf⟩; have HX1 := Lib.hid (HB1.out.frm hf id); have HX2 := Lib.hid (HB2.out.frm hf id); have HF := Lib.hid hf; clear hf)) | (refine wpList_load_row rfl 94 (.tmp 3) rfl w.heap.size rfl 94 _ (0, 0) _ HB1.out Tryz.underlying94 rfl info_part ?_) | (refine wpList_load_row rfl 94 (.tmp 3) rfl w.heap.size rfl 94 _ (0, 0) _ HX1.out Tryz.underlying94 rfl info_part ?_) | (refine wpList_store_row rfl 94 (.tmp 6) (.tmp 11) rfl (w.heap.size + 1) _ rfl rfl 94 zp HX2.out info_part rfl (by simp [Value.oneCell']) ?_))
    refine bodyPost_ret (results_cell_row Tryz.results108 _ _ (w.heap.size + 1) 94 _ (0, 0) _ rfl (setRow_eq HX2.out) Tryz.underlying94 rfl info_part) rfl ⟨_, rfl, ?_, frm_setRow (HF0.out.trans HF.out) _ _ (fun hk => by omega)⟩
    rw [repP, if_pos hbig]
    exact (HPV.out.move (frm_setRow (HF0.out.trans HF.out) _ _ (fun hk => by omega))).mono (fun g h _ => Or.inl h)
  · have hb : decide (2000 < ((p.n : Nat) : Int)) = false := by simp; omega
    by_cases hm : hi = -1
    · subst hm
      have hmax : max (1 : Int) (-1) = 1 := by decide
      have HM := Lib.hid (show (p.n : Int) * (lo + 1) + 1 = ((p.n * timesOf lo (-1) + 1 : Nat) : Int) by rw [show timesOf lo (-1) = lo + 1 by simp [timesOf]]; push_cast; rfl)
      have hpr : (p.n : Int) * (lo + 1) ≤ 2000 * 256 := Int.mul_le_mul (by omega) (by omega) (by omega) (by omega)
      have hpr0 : 0 ≤ (p.n : Int) * (lo + 1) := Int.mul_nonneg (by omega) (by omega)
      go_enter Tryz.func108, Tryz.ntmps108
      go_wp2_with (first | (go_at_call 49; go_must (refine (big_all _ _ _ _ _ _ _ _ _).mono ?_; rintro e w1 ⟨rfl, hf⟩; have HX1 := Lib.hid (HB1.out.frm hf id); have HX2 := Lib.hid (HB2.out.frm hf id); have HF := Lib.hid (HF0.out.trans hf); clear hf; have m0 := HX1.out.cell 0; have m1 := HX1.out.cell 1; have m2 := HX1.out.cell 2; have m3 := HX1.out.cell 3; have m4 := HX1.out.cell 4; have m5 := HX1.out.cell 5; have hsz := HF.out.size; have hlt1 := HX1.out.lt; have hlt2 := HX2.out.lt)) | (refine wpList_load_row rfl 94 (.tmp 3) rfl w.heap.size rfl 94 _ (0, 0) _ HB1.out Tryz.underlying94 rfl info_part ?_) | (go_at_call 82; go_must (refine (sized_i _ (Or2 F w.heap.size) ⟨repW, ⟨#[]⟩, lo, (-1), Forest.nil.snoc p.t⟩ (some ⟨w1.heap.size, 0, none⟩) 1 (p.n * timesOf lo (-1) + 1) _ HM.out (KV.one p.t ((HK.out.move (HF.out.trans (frm2 w1 _ _))).mono (fun g hg _ => Or.inl hg)) w1.heap.size (Or.inr hsz) _ ((Box.new w1 _ _).alloc _) rfl 1)).mono ?_; rintro e w2 ⟨v2, rfl, hp2, hf2⟩; have HF2 := Lib.hid ((HF.out.trans (frm2 w1 _ _)).trans hf2); have HX3 := Lib.hid (((HX2.out.frm (frm2 w1 _ _) id).frm hf2 id) : Box w2 (w.heap.size + 1) 94 zp); have HP2 := Lib.hid hp2; obtain ⟨hn2, a2, cap2, rfl, hk2⟩ := hp2; clear hf2 hk2)) | (refine wpList_store_row rfl 94 (.tmp 6) (.tmp 30) rfl (w.heap.size + 1) _ rfl rfl 94 zp HX3.out info_part rfl (by simp [Value.oneCell']) ?_))
      have HE := Lib.hid (show repP p lo (-1) = sizedP ⟨repW, ⟨#[]⟩, lo, (-1), Forest.nil.snoc p.t⟩ (p.n * timesOf lo (-1) + 1) by rw [repP, if_neg hbig])
      refine bodyPost_ret (results_cell_row Tryz.results108 _ _ (w.heap.size + 1) 94 _ (0, 0) _ rfl (setRow_eq HX3.out) Tryz.underlying94 rfl info_part) rfl ⟨_, rfl, ?_, frm_setRow HF2.out _ _ (fun hk => by omega)⟩
      rw [HE.out]
      exact HP2.out.setRow HX3.out (by decide) _
    · have hne : (hi == -1) = false := by simpa using hm
      by_cases h1' : hi ≤ 1
      · have HM := Lib.hid (show (p.n : Int) + 1 = ((p.n * timesOf lo hi + 1 : Nat) : Int) by rw [show timesOf lo hi = 1 by rw [timesOf, if_neg hm]; omega]; push_cast; omega)
        go_enter Tryz.func108, Tryz.ntmps108
        go_wp2_with (first | (go_at_call 49; go_must (refine (big_all _ _ _ _ _ _ _ _ _).mono ?_; rintro e w1 ⟨rfl, hf⟩; have HX1 := Lib.hid (HB1.out.frm hf id); have HX2 := Lib.hid (HB2.out.frm hf id); have HF := Lib.hid (HF0.out.trans hf); clear hf; have m0 := HX1.out.cell 0; have m1 := HX1.out.cell 1; have m2 := HX1.out.cell 2; have m3 := HX1.out.cell 3; have m4 := HX1.out.cell 4; have m5 := HX1.out.cell 5; have hsz := HF.out.size; have hlt1 := HX1.out.lt; have hlt2 := HX2.out.lt)) | (refine wpList_load_row rfl 94 (.tmp 3) rfl w.heap.size rfl 94 _ (0, 0) _ HB1.out Tryz.underlying94 rfl info_part ?_) | (go_at_call 82; go_must (refine (sized_i _ (Or2 F w.heap.size) ⟨repW, ⟨#[]⟩, lo, hi, Forest.nil.snoc p.t⟩ (some ⟨w1.heap.size, 0, none⟩) 1 (p.n * timesOf lo hi + 1) _ HM.out (KV.one p.t ((HK.out.move (HF.out.trans (frm2 w1 _ _))).mono (fun g hg _ => Or.inl hg)) w1.heap.size (Or.inr hsz) _ ((Box.new w1 _ _).alloc _) rfl 1)).mono ?_; rintro e w2 ⟨v2, rfl, hp2, hf2⟩; have HF2 := Lib.hid ((HF.out.trans (frm2 w1 _ _)).trans hf2); have HX3 := Lib.hid (((HX2.out.frm (frm2 w1 _ _) id).frm hf2 id) : Box w2 (w.heap.size + 1) 94 zp); have HP2 := Lib.hid hp2; obtain ⟨hn2, a2, cap2, rfl, hk2⟩ := hp2; clear hf2 hk2)) | (refine wpList_store_row rfl 94 (.tmp 6) (.tmp 30) rfl (w.heap.size + 1) _ rfl rfl 94 zp HX3.out info_part rfl (by simp [Value.oneCell']) ?_))
        have HE := Lib.hid (show repP p lo hi = sizedP ⟨repW, ⟨#[]⟩, lo, hi, Forest.nil.snoc p.t⟩ (p.n * timesOf lo hi + 1) by rw [repP, if_neg hbig])
        refine bodyPost_ret (results_cell_row Tryz.results108 _ _ (w.heap.size + 1) 94 _ (0, 0) _ rfl (setRow_eq HX3.out) Tryz.underlying94 rfl info_part) rfl ⟨_, rfl, ?_, frm_setRow HF2.out _ _ (fun hk => by omega)⟩
        rw [HE.out]
        exact HP2.out.setRow HX3.out (by decide) _
      · have HM := Lib.hid (show (p.n : Int) * hi + 1 = ((p.n * timesOf lo hi + 1 : Nat) : Int) by
          have e : ((timesOf lo hi : Nat) : Int) = hi := by rw [timesOf, if_neg hm]; omega
          push_cast
          rw [e])
        have hpr : (p.n : Int) * hi ≤ 2000 * 256 := Int.mul_le_mul (by omega) (by omega) (by omega) (by omega)
        have hpr0 : 0 ≤ (p.n : Int) * hi := Int.mul_nonneg (by omega) (by omega)
        go_enter Tryz.func108, Tryz.ntmps108
        go_wp2_with (first | (go_at_call 49; go_must (refine (big_all _ _ _ _ _ _ _ _ _).mono ?_; rintro e w1 ⟨rfl, hf⟩; have HX1 := Lib.hid (HB1.out.frm hf id); have HX2 := Lib.hid (HB2.out.frm hf id); have HF := Lib.hid (HF0.out.trans hf); clear hf; have m0 := HX1.out.cell 0; have m1 := HX1.out.cell 1; have m2 := HX1.out.cell 2; have m3 := HX1.out.cell 3; have m4 := HX1.out.cell 4; have m5 := HX1.out.cell 5; have hsz := HF.out.size; have hlt1 := HX1.out.lt; have hlt2 := HX2.out.lt)) | (refine wpList_load_row rfl 94 (.tmp 3) rfl w.heap.size rfl 94 _ (0, 0) _ HB1.out Tryz.underlying94 rfl info_part ?_) | (go_at_call 82; go_must (refine (sized_i _ (Or2 F w.heap.size) ⟨repW, ⟨#[]⟩, lo, hi, Forest.nil.snoc p.t⟩ (some ⟨w1.heap.size, 0, none⟩) 1 (p.n * timesOf lo hi + 1) _ HM.out (KV.one p.t ((HK.out.move (HF.out.trans (frm2 w1 _ _))).mono (fun g hg _ => Or.inl hg)) w1.heap.size (Or.inr hsz) _ ((Box.new w1 _ _).alloc _) rfl 1)).mono ?_; rintro e w2 ⟨v2, rfl, hp2, hf2⟩; have HF2 := Lib.hid ((HF.out.trans (frm2 w1 _ _)).trans hf2); have HX3 := Lib.hid (((HX2.out.frm (frm2 w1 _ _) id).frm hf2 id) : Box w2 (w.heap.size + 1) 94 zp); have HP2 := Lib.hid hp2; obtain ⟨hn2, a2, cap2, rfl, hk2⟩ := hp2; clear hf2 hk2)) | (refine wpList_store_row rfl 94 (.tmp 6) (.tmp 30) rfl (w.heap.size + 1) _ rfl rfl 94 zp HX3.out info_part rfl (by simp [Value.oneCell']) ?_))
        have HE := Lib.hid (show repP p lo hi = sizedP ⟨repW, ⟨#[]⟩, lo, hi, Forest.nil.snoc p.t⟩ (p.n * timesOf lo hi + 1) by rw [repP, if_neg hbig])
        refine bodyPost_ret (results_cell_row Tryz.results108 _ _ (w.heap.size + 1) 94 _ (0, 0) _ rfl (setRow_eq HX3.out) Tryz.underlying94 rfl info_part) rfl ⟨_, rfl, ?_, frm_setRow HF2.out _ _ (fun hk => by omega)⟩
        rw [HE.out]
        exact HP2.out.setRow HX3.out (by decide) _
end Go.Proofs.YtbfekknhmjndaaaGreat.parts

namespace Go.Proofs.YtbfekknhmjndaaaGreat.parts
set_option linter.unusedVariables false set_option linter.unusedSimpArgs false
open Go.ChangeShapes Go.WideShapes Go.ChangeAt Go.RowKit Go.Proofs.YtbfekknhmjndaaaGreat.base Go.Proofs.YtbfekknhmjndaaaGreat.read Go.Proofs.YtbfekknhmjndaaaGreat.spec Go.Proofs.YtbfekknhmjndaaaGreat.set
attribute [local go_sem ↓] Go.wp_at_zero Go.wp_at_succ

/-- A row in the variable L, its kids in a slice of the call's own (a block from B on, below U). -/
def RowV (w : World) (B U L : Nat) (r : Row) : Prop :=
  r.n ≤ 2001 ∧ ∃ a cap C, Box w L 119 #[.slice a r.kids.len cap, .int .i64 r.n] ∧ w.ownsRow B 47 5 (.slice a r.kids.len cap) r.kids.len C ∧
    RepC w (fun k => B ≤ k ∧ (Value.slice a r.kids.len cap).ownBlock ≠ some k) r.kids C ∧ (∀ g, (Value.slice a r.kids.len cap).ownBlock = some g → g < U) ∧ (r.kids.len = 0 → a = none ∧ cap = 0)
/-- What a row's add may write: its variable, and blocks of trees from B on. -/
def RowS (w : World) (B L : Nat) : Nat → Prop := fun k => k = L ∨ (B ≤ k ∧ ∃ C, Box w k 47 C)

/-- The block of a slice of the call's own. -/
theorem own_box {w : World} {B n : Nat} {v : Value} {C : List Value} (h : w.ownsRow B 47 5 v n C) {g : Nat} (hg : v.ownBlock = some g) : ∃ cur cap, Box w g 47 cur ∧ B ≤ g ∧ v = .slice (some ⟨g, 0, none⟩) n cap ∧ cur.toList.take (n * 5) = C := by
  rcases h.2 with ⟨rfl, _⟩ | ⟨g', cap, cur, rfl, hB, hh, _, _, _, ht⟩
  · cases hg
  · simp only [Value.ownBlock, Option.some.injEq] at hg
    subst hg
    exact ⟨cur, cap, hh, hB, rfl, ht⟩
theorem own_ne {w : World} {B n : Nat} {v : Value} {C : List Value} (h : w.ownsRow B 47 5 v n C) {b : Nat} {T : TypeId} {D : Array Value} (hb : Box w b T D) (hT : T ≠ 47) : v.ownBlock ≠ some b := by
  intro e
  obtain ⟨cur, cap, h1, _⟩ := own_box h e
  exact hT (box_type hb h1)
theorem own_frm {S : Nat → Prop} {w w' : World} {B n : Nat} {v : Value} {C : List Value} (h : w.ownsRow B 47 5 v n C) (hf : Frm S w w') (hs : ∀ g cur, Box w g 47 cur → v.ownBlock = some g → ¬ S g) : w'.ownsRow B 47 5 v n C := by
  refine ⟨h.1, h.2.elim Or.inl (fun ⟨g, cap, cur, hv, hg, hh, r⟩ => Or.inr ⟨g, cap, cur, hv, hg, ?_, r⟩)⟩
  have hb : Box w g 47 cur := hh
  exact hb.frm hf (hs g cur hb (by rw [hv]; rfl))

theorem info_ere : (Tryz.prog.info? 47).map (fun i => (i.zero, i.size, i.bytes)) = some (some (.agg #[.string ⟨#[]⟩, .string ⟨#[]⟩, .slice none 0 0, .int .i64 0, .int .i64 0]), 5, 72) := by kernel_rfl

theorem RepC.snoc {w : World} {F : Nat → Prop} {f : Forest} {C : List Value} (h : RepC w F f C) (t : T) (k : Value) (hk : KV w F k t.kids) : RepC w F (f.snoc t) (C ++ [.string t.op, .string t.set, k, .int .i64 t.lo, .int .i64 t.hi]) := by
  induction f generalizing C with
  | nil =>
    rw [show C = [] from h]
    exact ⟨k, [], rfl, hk, rfl⟩
  | cons op set lo hi kids rest ih1 ih2 =>
    obtain ⟨k', C', rfl, h1, h2⟩ := h
    exact ⟨k', C' ++ _, rfl, h1, ih2 h2⟩

/-- Five cells that are stored. -/
def set5 (w : World) (g o : Nat) (a0 a1 a2 a3 a4 : Value) : World := ((((w.setCell ⟨g, o, none⟩ a0).setCell ⟨g, o + 1, none⟩ a1).setCell ⟨g, o + 2, none⟩ a2).setCell ⟨g, o + 3, none⟩ a3).setCell ⟨g, o + 4, none⟩ a4
theorem frm_set5 (w : World) (g o : Nat) (a0 a1 a2 a3 a4 : Value) : Frm (At g) w (set5 w g o a0 a1 a2 a3 a4) :=
  (((((Frm.refl (At g) w).setCell ⟨g, o, none⟩ _ (fun _ => rfl)).setCell ⟨g, o + 1, none⟩ _ (fun _ => rfl)).setCell ⟨g, o + 2, none⟩ _ (fun _ => rfl)).setCell ⟨g, o + 3, none⟩ _ (fun _ => rfl)).setCell ⟨g, o + 4, none⟩ _ (fun _ => rfl)
theorem set_five (C : List Value) (n : Nat) (hC : C.length = n) (z0 z1 z2 z3 z4 a0 a1 a2 a3 a4 : Value) : (((((C ++ [z0, z1, z2, z3, z4]).set n a0).set (n + 1) a1).set (n + 2) a2).set (n + 3) a3).set (n + 4) a4 = C ++ [a0, a1, a2, a3, a4] := by
  subst hC
  rw [List.set_append_right _ _ (by omega), List.set_append_right _ _ (by omega), List.set_append_right _ _ (by omega), List.set_append_right _ _ (by omega), List.set_append_right _ _ (by omega)]
  simp [show C.length + 1 - C.length = 1 by omega, show C.length + 2 - C.length = 2 by omega, show C.length + 3 - C.length = 3 by omega, show C.length + 4 - C.length = 4 by omega]
theorem own_set5 {w : World} {B g n cap : Nat} {C : List Value} {z0 z1 z2 z3 z4 : Value} (a0 a1 a2 a3 a4 : Value) (m : Nat) (h : w.ownsRow B 47 5 (.slice (some ⟨g, 0, none⟩) n cap) n (C ++ [z0, z1, z2, z3, z4])) (hC : C.length = m) :
    (set5 w g m a0 a1 a2 a3 a4).ownsRow B 47 5 (.slice (some ⟨g, 0, none⟩) n cap) n (C ++ [a0, a1, a2, a3, a4]) := by
  rw [← set_five C m hC z0 z1 z2 z3 z4]
  exact (((((h.stored m a0).1.stored (m + 1) a1).1.stored (m + 2) a2).1.stored (m + 3) a3).1.stored (m + 4) a4).1

/-- What add leaves, told of whatever world its stores come to. -/
theorem add_fin {w W0 w1 W' : World} {B U L g gcap : Nat} {r : Row} {p : Part} {F : Nat → Prop} {ra : Option Addr} {rcap : Nat} {C : List Value} {a : Option Addr} {cap : Nat}
    (hbox : Box w L 119 #[.slice ra r.kids.len rcap, .int .i64 r.n]) (hown : w.ownsRow B 47 5 (.slice ra r.kids.len rcap) r.kids.len C)
    (hrep : RepC w (fun k => B ≤ k ∧ (Value.slice ra r.kids.len rcap).ownBlock ≠ some k) r.kids C) (hU : ∀ g, (Value.slice ra r.kids.len rcap).ownBlock = some g → g < U)
    (hk : KV w F (.slice a p.t.kids.len cap) p.t.kids) (hF : ∀ k, F k → U ≤ k) (hBU : B ≤ U) (hB : B ≤ w.heap.size) (hs : r.n + p.n < 2001)
    (hf0 : Frm (At L) w W0) (hgrow : Frm (fun k => (Value.slice ra r.kids.len rcap).ownBlock = some k) W0 w1) (hat : (Value.slice ra r.kids.len rcap).ownBlock = some g ∨ (g = w.heap.size + 2)) (hlt : g < w1.heap.size)
    (hf1 : Frm (At2 L g) w1 W') (hbox' : Box W' L 119 #[.slice (some ⟨g, 0, none⟩) (r.kids.len + 1) gcap, .int .i64 ((r.n + p.n : Nat) : Int)])
    (hown' : W'.ownsRow B 47 5 (.slice (some ⟨g, 0, none⟩) (r.kids.len + 1) gcap) (r.kids.len + 1) (C ++ [.string p.t.op, .string p.t.set, .slice a p.t.kids.len cap, .int .i64 p.t.lo, .int .i64 p.t.hi])) :
    RowV W' B W'.heap.size L (r.add p) ∧ Frm (RowS w B L) w W' := by
  have hgB : ∀ k, k < w.heap.size → (Value.slice ra r.kids.len rcap).ownBlock = some k → B ≤ k ∧ ∃ C, Box w k 47 C := by
    intro k hk h
    obtain ⟨cur, _, h1, h2, _⟩ := own_box hown h
    exact ⟨h2, cur, h1⟩
  have hfr : Frm (fun k => k = L ∨ (Value.slice ra r.kids.len rcap).ownBlock = some k) w W' := by
    refine ((hf0.mono (S' := fun k => k = L ∨ (Value.slice ra r.kids.len rcap).ownBlock = some k) (fun k _ e => Or.inl e)).then hgrow (fun k _ e => Or.inr e)).then hf1 (fun k hk e => ?_)
    rcases e with e | e
    · exact Or.inl e
    · subst e
      rcases hat with h | h
      · exact Or.inr h
      · omega
  have hsz := hf0.size
  have hstay : ∀ k cur, (B ≤ k ∧ (Value.slice ra r.kids.len rcap).ownBlock ≠ some k) → Box w k 47 cur → (B ≤ k ∧ (Value.slice (some ⟨g, 0, none⟩) (r.kids.len + 1) gcap).ownBlock ≠ some k) ∧ Box W' k 47 cur := by
    intro k cur ⟨h1, h2⟩ h3
    refine ⟨⟨h1, ?_⟩, h3.frm hfr ?_⟩
    · intro e
      simp only [Value.ownBlock, Option.some.injEq] at e
      subst e
      rcases hat with h | h
      · exact h2 h
      · have := h3.lt
        omega
    · rintro (e | e)
      · subst e
        have := box_type h3 hbox
        revert this
        decide
      · exact h2 e
  have hadd : r.add p = ⟨r.kids.snoc p.t, r.n + p.n⟩ := by rw [Row.add, if_pos hs]
  refine ⟨⟨?_, some ⟨g, 0, none⟩, gcap, C ++ [.string p.t.op, .string p.t.set, .slice a p.t.kids.len cap, .int .i64 p.t.lo, .int .i64 p.t.hi], ?_, ?_, ?_, ?_, ?_⟩, hfr.mono (fun k hk e => ?_)⟩
  · rw [hadd]; show r.n + p.n ≤ 2001; omega
  · rw [hadd]; simp only [Forest.len_snoc]; exact hbox'
  · rw [hadd]; simp only [Forest.len_snoc]; exact hown'
  · rw [hadd]
    simp only [Forest.len_snoc]
    refine RepC.snoc (hrep.go hstay) p.t _ (hk.go (fun k cur h1 h2 => ?_))
    refine hstay k cur ⟨Nat.le_trans hBU (hF k h1), fun e => ?_⟩ h2
    have := hU k e
    have := hF k h1
    omega
  · rw [hadd]
    intro k e
    simp only [Value.ownBlock, Option.some.injEq] at e
    have := hf1.size
    omega
  · rw [hadd]
    intro h
    simp only [Forest.len_snoc] at h
    omega
  · rcases e with e | e
    · exact Or.inl e
    · exact Or.inr (hgB k hk e)

set_option maxHeartbeats 4000000 in
theorem add_small (w : World) (B U L : Nat) (r : Row) (F : Nat → Prop) (v : Value) (p : Part) (hr : RowV w B U L r) (hp : PV w F v p) (hF : ∀ k, F k → U ≤ k) (hBU : B ≤ U) (hB : B ≤ w.heap.size) (hlen : r.kids.len ≤ 200000) (hs : r.n + p.n < 2001) :
    Calls Tryz.prog 62 #[.pointer (some ⟨L, 0, none⟩), v] w fun e w' => e = .returned (.tuple #[]) ∧ RowV w' B w'.heap.size L (r.add p) ∧ Frm (RowS w B L) w w' := by
  obtain ⟨hrn, ra, rcap, C, hbox, hown, hrep, hU, _⟩ := hr
  obtain ⟨hn, a, cap, rfl, hk⟩ := hp
  have hClen := hrep.len
  have HK := Lib.hid hk
  have HREP := Lib.hid hrep
  have HOWN := Lib.hid hown
  have HBX := Lib.hid hbox
  have hL := hbox.lt
  have l0 := hbox.cell 0
  have l1 := hbox.cell 1
  have lf := hbox.f 0
  have lf1 := hbox.f 1
  have hmin : min ((r.n : Int) + (p.n : Int)) 2001 = (r.n : Int) + p.n := by omega
  have hne : ((r.n : Int) + (p.n : Int) == 2001) = false := by simp; omega
  obtain ⟨i0, hi, hz0, hz1, hz2⟩ := info_parts info_ere
  have hx0 : (0 : Int) ≤ (r.kids.len : Int) := by omega
  have hx1 : (r.kids.len : Int) < (r.kids.len : Int) + 1 := by omega
  have hx2 : (r.kids.len : Int) < ((r.kids.len + 1 : Nat) : Int) := by omega
  have HU := Lib.hid hU
  have HFU := Lib.hid hF
  clear hk hrep hown hbox hU hF
  go_enter Tryz.func62, Tryz.ntmps62
  go_wp2
  go_region
  go_wp2
  generalize hW : ((w.setCell { block := L, off := 1 } (Value.int IntKind.i64 ((r.n : Int) + (p.n : Int)))).alloc (Obj.cells #[Value.string p.t.op, Value.string p.t.set, Value.slice a p.t.kids.len cap, Value.int IntKind.i64 p.t.lo, Value.int IntKind.i64 p.t.hi, Value.int IntKind.i64 (p.n : Int)] 94)).drew = W0
  have HW := Lib.hid hW
  have hsz : W0.heap.size = w.heap.size + 1 := by rw [← hW]; simp
  have HXL := Lib.hid (show Box W0 L 119 #[.slice ra r.kids.len rcap, .int .i64 ((r.n : Int) + p.n)] by rw [← hW]; exact ((HBX.out.set 1 _).alloc _))
  have HXP := Lib.hid (show Box W0 w.heap.size 94 #[.string p.t.op, .string p.t.set, .slice a p.t.kids.len cap, .int .i64 p.t.lo, .int .i64 p.t.hi, .int .i64 (p.n : Int)] by
    rw [← hW]
    have := Box.new (w.setCell { block := L, off := 1 } (Value.int IntKind.i64 ((r.n : Int) + (p.n : Int)))) 94 #[.string p.t.op, .string p.t.set, .slice a p.t.kids.len cap, .int .i64 p.t.lo, .int .i64 p.t.hi, .int .i64 (p.n : Int)]
    rw [show (w.setCell { block := L, off := 1 } (Value.int IntKind.i64 ((r.n : Int) + (p.n : Int)))).heap.size = w.heap.size by simp] at this
    exact this)
  have HF0 := Lib.hid (show Frm (At L) w W0 by
    rw [← hW]
    exact (((Frm.refl (At L) w).setCell ⟨L, 1, none⟩ _ (fun _ => rfl)).alloc _).drew)
  have HXO := Lib.hid (show W0.ownsRow B 47 5 (.slice ra r.kids.len rcap) r.kids.len C by
    exact own_frm HOWN.out HF0.out (fun g cur _ e e2 => own_ne HOWN.out HBX.out (by decide) (by cases e2; exact e)))
  have neL := own_ne HXO.out HXL.out (by decide)
  have neP := own_ne HXO.out HXP.out (by decide)
  have k0 : W0.cell? ⟨L, 0, none⟩ = some (.slice ra r.kids.len rcap) := HXL.out.cell 0
  have q0 : W0.cell? ⟨w.heap.size, 0, none⟩ = some (.string p.t.op) := HXP.out.cell 0
  have q1 : W0.cell? ⟨w.heap.size, 1, none⟩ = some (.string p.t.set) := HXP.out.cell 1
  have q2 : W0.cell? ⟨w.heap.size, 2, none⟩ = some (.slice a p.t.kids.len cap) := HXP.out.cell 2
  have q3 : W0.cell? ⟨w.heap.size, 3, none⟩ = some (.int .i64 p.t.lo) := HXP.out.cell 3
  have q4 : W0.cell? ⟨w.heap.size, 4, none⟩ = some (.int .i64 p.t.hi) := HXP.out.cell 4
  have kf := HXL.out.f 0
  have HGL := Lib.hid (show ∀ g, ((Value.slice ra r.kids.len rcap).ownBlock = some g ∨ g = w.heap.size + 2) → g ≠ L ∧ g ≠ w.heap.size by
    intro g h
    rcases h with h | h
    · exact ⟨fun e => neL (by rw [← e]; exact h), fun e => neP (by rw [← e]; exact h)⟩
    · omega)
  have hLP : w.heap.size ≠ L := by omega
  clear hW l0 l1 lf lf1 hmin hne
  go_region_law ((refine step_append_lies _ (by rfl) _ _ _ (by rfl) B 47 i0 _ 5 72 Tryz.underlying45 hi hz0 hz1 hz2 (by rfl) (by omega) (.slice ra r.kids.len rcap) r.kids.len C (by rfl) (by exact (HXO.out.alloc _).drew) ⟨w.heap.size + 1, 0, none⟩ 1 1 [.string ⟨#[]⟩, .string ⟨#[]⟩, .slice none 0 0, .int .i64 0, .int .i64 0] (by rfl) (by rfl) (World.news_of_block (cs := #[.string ⟨#[]⟩, .string ⟨#[]⟩, .slice none 0 0, .int .i64 0, .int .i64 0]) (t := 47) (fr := (0, 0)) (by rw [← hsz]; exact heap_alloc_new W0 _)) (by simp [Value.oneCell']) (by omega) (by unfold maxLen; omega) (by omega) (by simp; omega) (w.heap.size + 2) (by simp; omega) ?_; intro g gcap w1 hown1 hgrow hat hlt; have e0 : w1.cell? ⟨L, 0, none⟩ = some (.slice ra r.kids.len rcap) := (hgrow.cell_far _ (by simp; omega) (Ne.symm neL)).trans (by exact (HXL.out.alloc _).cell 0); have ef : w1.frozen? ⟨L, 0, none⟩ = false := (hgrow.frozen_far _ (by simp; omega) (Ne.symm neL)).trans (by exact (HXL.out.alloc _).f 0); have z0 : w1.cell? ⟨g, r.kids.len * 5, none⟩ = some (.string ⟨#[]⟩) := (hown1.cellAt (r.kids.len * 5) (by omega)).trans (by rw [List.getElem?_append_right (by omega)]; rw [show r.kids.len * 5 - C.length = 0 by omega]; rfl); have zf0 : w1.frozen? ⟨g, r.kids.len * 5, none⟩ = false := hown1.frozenAt (r.kids.len * 5); have z1 : w1.cell? ⟨g, r.kids.len * 5 + 1, none⟩ = some (.string ⟨#[]⟩) := (hown1.cellAt (r.kids.len * 5 + 1) (by omega)).trans (by rw [List.getElem?_append_right (by omega)]; rw [show r.kids.len * 5 + 1 - C.length = 1 by omega]; rfl); have zf1 : w1.frozen? ⟨g, r.kids.len * 5 + 1, none⟩ = false := hown1.frozenAt (r.kids.len * 5 + 1); have z2 : w1.cell? ⟨g, r.kids.len * 5 + 2, none⟩ = some (.slice none 0 0) := (hown1.cellAt (r.kids.len * 5 + 2) (by omega)).trans (by rw [List.getElem?_append_right (by omega)]; rw [show r.kids.len * 5 + 2 - C.length = 2 by omega]; rfl); have zf2 : w1.frozen? ⟨g, r.kids.len * 5 + 2, none⟩ = false := hown1.frozenAt (r.kids.len * 5 + 2); have z3 : w1.cell? ⟨g, r.kids.len * 5 + 3, none⟩ = some (.int .i64 0) := (hown1.cellAt (r.kids.len * 5 + 3) (by omega)).trans (by rw [List.getElem?_append_right (by omega)]; rw [show r.kids.len * 5 + 3 - C.length = 3 by omega]; rfl); have zf3 : w1.frozen? ⟨g, r.kids.len * 5 + 3, none⟩ = false := hown1.frozenAt (r.kids.len * 5 + 3); have z4 : w1.cell? ⟨g, r.kids.len * 5 + 4, none⟩ = some (.int .i64 0) := (hown1.cellAt (r.kids.len * 5 + 4) (by omega)).trans (by rw [List.getElem?_append_right (by omega)]; rw [show r.kids.len * 5 + 4 - C.length = 4 by omega]; rfl); have zf4 : w1.frozen? ⟨g, r.kids.len * 5 + 4, none⟩ = false := hown1.frozenAt (r.kids.len * 5 + 4); have hgL : g ≠ L := (HGL.out g hat).1; have hgP : g ≠ w.heap.size := (HGL.out g hat).2; have hgL' : L ≠ g := Ne.symm hgL; have hgP' : w.heap.size ≠ g := Ne.symm hgP))
  all_goals
    have HG1 := Lib.hid (show Frm (fun k => (Value.slice ra r.kids.len rcap).ownBlock = some k) W0 w1 from Frm.then (S' := fun k => (Value.slice ra r.kids.len rcap).ownBlock = some k) ((Frm.refl _ W0).alloc _) ⟨hgrow.os, hgrow.tape, hgrow.output, hgrow.size, fun k hk hn => hgrow.block k hk (fun e => hn e.symm)⟩ (fun _ _ e => e))
    have HB1 := Lib.hid (show Box w1 L 119 #[.slice ra r.kids.len rcap, .int .i64 ((r.n + p.n : Nat) : Int)] by
      rw [show ((r.n + p.n : Nat) : Int) = (r.n : Int) + p.n by push_cast; rfl]
      exact HXL.out.frm HG1.out neL)
    have hm : C.length = r.kids.len * 5 := by omega
    refine bodyPost_end (v := .tuple #[]) (by simp [results, Tryz.results62, go_sem]) rfl ⟨rfl, ?_⟩
    first
      | (with_reducible show RowV (World.setCell _ ⟨L, 0, none⟩ _) _ _ _ _ ∧ _); exact add_fin HBX.out HOWN.out HREP.out HU.out HK.out HFU.out hBU hB hs HF0.out HG1.out hat hlt (((frm_set5 w1 g (r.kids.len * 5) _ _ _ _ _).mono (fun _ _ e => Or.inr e)).setCell ⟨L, 0, none⟩ _ (fun _ => Or.inl rfl)) ((HB1.out.frm (frm_set5 w1 g (r.kids.len * 5) _ _ _ _ _) (fun e => hgL e.symm)).set 0 _) (own_frm (own_set5 _ _ _ _ _ (r.kids.len * 5) hown1 hm) (Frm.setCell (S := At L) (Frm.refl _ _) ⟨L, 0, none⟩ _ (fun _ => rfl)) (fun k cur _ e e2 => by simp only [Value.ownBlock, Option.some.injEq] at e; exact hgL (e.trans e2)))
      | exact add_fin HBX.out HOWN.out HREP.out HU.out HK.out HFU.out hBU hB hs HF0.out HG1.out hat hlt (((Frm.refl (At2 L g) w1).setCell ⟨L, 0, none⟩ _ (fun _ => Or.inl rfl)).trans ((frm_set5 _ g (r.kids.len * 5) _ _ _ _ _).mono (fun _ _ e => Or.inr e))) ((HB1.out.set 0 _).frm (frm_set5 _ g (r.kids.len * 5) _ _ _ _ _) (fun e => hgL e.symm)) (own_set5 _ _ _ _ _ (r.kids.len * 5) (own_frm hown1 (Frm.setCell (S := At L) (Frm.refl _ _) ⟨L, 0, none⟩ _ (fun _ => rfl)) (fun k cur _ e e2 => by simp only [Value.ownBlock, Option.some.injEq] at e; exact hgL (e.trans e2))) hm)
end Go.Proofs.YtbfekknhmjndaaaGreat.parts

namespace Go.Proofs.YtbfekknhmjndaaaGreat.parts
set_option linter.unusedVariables false set_option linter.unusedSimpArgs false
open Go.ChangeShapes Go.WideShapes Go.ChangeAt Go.RowKit Go.Proofs.YtbfekknhmjndaaaGreat.base Go.Proofs.YtbfekknhmjndaaaGreat.read Go.Proofs.YtbfekknhmjndaaaGreat.spec Go.Proofs.YtbfekknhmjndaaaGreat.set

theorem big_fin {w : World} {B L : Nat} {C : Array Value} {a : Option Addr} {n c : Nat} {m : Int} (hbox : Box w L 119 #[.slice a n c, .int .i64 m]) (o : Obj) (X : Int) (hX : X = 2001) :
    RowV (((w.setCell ⟨L, 1, none⟩ (.int .i64 X)).setCell ⟨L, 0, none⟩ (.slice none 0 0)).alloc o).drew B (((w.setCell ⟨L, 1, none⟩ (.int .i64 X)).setCell ⟨L, 0, none⟩ (.slice none 0 0)).alloc o).drew.heap.size L ⟨.nil, 2001⟩ ∧
    Frm (RowS w B L) w (((w.setCell ⟨L, 1, none⟩ (.int .i64 X)).setCell ⟨L, 0, none⟩ (.slice none 0 0)).alloc o).drew := by
  subst hX
  refine ⟨⟨Nat.le_refl _, none, 0, [], ((hbox.set 1 _).set 0 _).alloc o, World.ownsRow_nil _ _ _ _, rfl, ⟨fun g e => (by cases e), fun _ => ⟨rfl, rfl⟩⟩⟩, ?_⟩
  exact (((Frm.refl (RowS w B L) w).setCell ⟨L, 1, none⟩ _ (fun _ => Or.inl rfl)).setCell ⟨L, 0, none⟩ _ (fun _ => Or.inl rfl)).alloc _ |>.drew

set_option maxHeartbeats 1000000 in
theorem add_big (w : World) (B U L : Nat) (r : Row) (F : Nat → Prop) (v : Value) (p : Part) (hr : RowV w B U L r) (hp : PV w F v p) (hB : B ≤ w.heap.size) (hs : ¬ r.n + p.n < 2001) :
    Calls Tryz.prog 62 #[.pointer (some ⟨L, 0, none⟩), v] w fun e w' => e = .returned (.tuple #[]) ∧ RowV w' B w'.heap.size L (r.add p) ∧ Frm (RowS w B L) w w' := by
  obtain ⟨hrn, ra, rcap, C, hbox, hown, hrep, hU, _⟩ := hr
  obtain ⟨hn, a, cap, rfl, hk⟩ := hp
  have HBX := Lib.hid hbox
  have hL := hbox.lt
  have l0 := hbox.cell 0
  have l1 := hbox.cell 1
  have lf := hbox.f 0
  have lf1 := hbox.f 1
  have hmin : min ((r.n : Int) + (p.n : Int)) 2001 = 2001 := by omega
  have hadd : r.add p = ⟨.nil, 2001⟩ := by rw [Row.add, if_neg hs]
  have HADD := Lib.hid hadd
  have hge : 2001 ≤ (r.n : Int) + (p.n : Int) := by omega
  clear hk hrep hown hbox hU hadd hs hmin
  go_enter Tryz.func62, Tryz.ntmps62
  go_wp2
  go_region
  go_wp2
  all_goals
    refine bodyPost_ret (v := .tuple #[]) (by simp [results, Tryz.results62, go_sem]) rfl ⟨rfl, ?_⟩
    rw [HADD.out]
    exact big_fin (C := #[]) HBX.out _ _ (by first | rfl | omega)

theorem RowV.kv {w : World} {B U L : Nat} {r : Row} (h : RowV w B U L r) : ∃ a cap, Box w L 119 #[.slice a r.kids.len cap, .int .i64 r.n] ∧ KV w (fun k => B ≤ k) (.slice a r.kids.len cap) r.kids := by
  obtain ⟨hrn, a, cap, C, hbox, hown, hrep, hU, hz0⟩ := h
  refine ⟨a, cap, hbox, ?_⟩
  rcases hown.2 with ⟨h1, h0⟩ | ⟨g, cap', cur, h1, h2, h3, h4, h5, h6, h7⟩
  · have hz : r.kids = .nil := by
      cases hk : r.kids with
      | nil => rfl
      | cons op set lo hi kids rest => rw [hk] at h0; cases h0
    rw [hz] at h1 ⊢
    exact Or.inl ⟨h1, rfl⟩
  · by_cases hz : r.kids = .nil
    · rw [hz] at hz0
      obtain ⟨rfl, rfl⟩ := hz0 rfl
      cases h1
    · have hrep' : RepC w (fun k => B ≤ k) r.kids C := hrep.go (fun g cur h hb => ⟨h.1, hb⟩)
      refine Or.inr ⟨g, cap', cur, h1, hz, h2, h3, ?_⟩
      rw [Nat.mul_comm, h7]
      exact hrep'

theorem add_all (w : World) (B U L : Nat) (r : Row) (F : Nat → Prop) (v : Value) (p : Part) (hr : RowV w B U L r) (hp : PV w F v p) (hF : ∀ k, F k → U ≤ k) (hBU : B ≤ U) (hB : B ≤ w.heap.size) (hlen : r.kids.len ≤ 200000) :
    Calls Tryz.prog 62 #[.pointer (some ⟨L, 0, none⟩), v] w fun e w' => e = .returned (.tuple #[]) ∧ RowV w' B w'.heap.size L (r.add p) ∧ Frm (RowS w B L) w w' := by
  by_cases hs : r.n + p.n < 2001
  · exact add_small w B U L r F v p hr hp hF hBU hB hlen hs
  · exact add_big w B U L r F v p hr hp hB hs

theorem RowV.one {w : World} {B U L : Nat} {r : Row} (h : RowV w B U L r) (h1 : r.kids.len = 1) : ∃ g cap a c, Box w L 119 #[.slice (some ⟨g, 0, none⟩) 1 cap, .int .i64 r.n] ∧ KV w (fun k => B ≤ k) (.slice a r.kids.head.kids.len c) r.kids.head.kids ∧ r.n ≤ 2001 ∧ g < w.heap.size ∧ g ≠ L ∧
    w.cell? ⟨g, 0, none⟩ = some (.string r.kids.head.op) ∧ w.cell? ⟨g, 1, none⟩ = some (.string r.kids.head.set) ∧ w.cell? ⟨g, 2, none⟩ = some (.slice a r.kids.head.kids.len c) ∧ w.cell? ⟨g, 3, none⟩ = some (.int .i64 r.kids.head.lo) ∧ w.cell? ⟨g, 4, none⟩ = some (.int .i64 r.kids.head.hi) := by
  obtain ⟨hrn, a, cap, C, hbox, hown, hrep, hU, hz0⟩ := h
  obtain ⟨g, cap', hv, hBg, hlt⟩ := hown.form (by omega)
  cases hv
  cases hk : r.kids with
  | nil => rw [hk] at h1; cases h1
  | cons op set lo hi kids rest =>
    rw [hk] at hrep hown hbox
    obtain ⟨k, C', rfl, hkk, h2⟩ := hrep
    have hkv : KV w (fun k => B ≤ k) k kids := (show KV w (fun k' => B ≤ k' ∧ _) k kids from hkk).mono (fun g h _ => h.1)
    obtain ⟨ka, kc, rfl⟩ := hkv.forms
    have hl : (Forest.cons op set lo hi kids rest).len = 1 := by rw [← hk]; exact h1
    rw [hl] at hown hbox
    refine ⟨g, cap, ka, kc, hbox, hkv, hrn, hlt, ?_, (hown.cellAt 0 (by omega)).trans rfl, (hown.cellAt 1 (by omega)).trans rfl, (hown.cellAt 2 (by omega)).trans rfl, (hown.cellAt 3 (by omega)).trans rfl, (hown.cellAt 4 (by omega)).trans rfl⟩
    intro e
    exact own_ne hown hbox (by decide) (by rw [e]; rfl)

set_option maxHeartbeats 1000000 in
theorem join_one (w : World) (B U L : Nat) (r : Row) (op : ByteArray) (own : Nat) (hr : RowV w B U L r) (h1 : r.kids.len = 1) :
    Calls Tryz.prog 64 #[.pointer (some ⟨L, 0, none⟩), .string op, .int .i64 own] w fun e w' => ∃ v, e = .returned v ∧ PV w' (fun k => B ≤ k) v (r.join op own) ∧ Frm No w w' := by
  obtain ⟨g, cap, a, c, hbox, hkv, hn, hlt, hgL, c0, c1, c2, c3, c4⟩ := hr.one h1
  have HJ := Lib.hid (show r.join op own = ⟨r.kids.head, r.n⟩ by rw [Row.join, if_pos h1])
  have HKV := Lib.hid hkv
  have HBX := Lib.hid hbox
  have hL := hbox.lt
  have l0 : w.cell? ⟨L, 0, none⟩ = some (.slice (some ⟨g, 0, none⟩) 1 cap) := hbox.cell 0
  have l1 : w.cell? ⟨L, 1, none⟩ = some (.int .i64 r.n) := hbox.cell 1
  clear hkv hbox hr
  generalize r.kids.head = T at *
  go_enter Tryz.func64, Tryz.ntmps64
  go_wp2
  go_region_held3 (fun w' => w'.cell? ⟨L, 0, none⟩ = some (.slice (some ⟨g, 0, none⟩) 1 cap) ∧ w'.cell? ⟨L, 1, none⟩ = some (.int .i64 r.n) ∧ w'.cell? ⟨g, 0, none⟩ = some (.string T.op) ∧ w'.cell? ⟨g, 1, none⟩ = some (.string T.set) ∧ w'.cell? ⟨g, 2, none⟩ = some (.slice a T.kids.len c) ∧ w'.cell? ⟨g, 3, none⟩ = some (.int .i64 T.lo) ∧ w'.cell? ⟨g, 4, none⟩ = some (.int .i64 T.hi)) (go_keep) (fail)
  go_wp2
  refine bodyPost_ret (v := .agg #[.string T.op, .string T.set, .slice a T.kids.len c, .int .i64 T.lo, .int .i64 T.hi, .int .i64 r.n]) (by simp [results, Tryz.results64, go_sem]) rfl ⟨_, rfl, ?_, (frm1 _ _).drew⟩
  rw [HJ.out]
  exact ⟨hn, a, c, rfl, HKV.out.move (frm1 _ _).drew⟩

theorem cell_ne (w : World) (g b j o : Nat) (a : Value) (hne : b ≠ g) : (w.setCell ⟨g, o, none⟩ a).cell? ⟨b, j, none⟩ = w.cell? ⟨b, j, none⟩ := World.cell?_of_block (Below.heap_setCell _ _ _ _ hne)
theorem PV.other {F S : Nat → Prop} {w w' : World} {v : Value} {p : Part} (h : PV w F v p) (hf : Frm S w w') (hs : ∀ g, S g → g < w.heap.size → ∃ T C, Box w g T C ∧ T ≠ 47) : PV w' F v p := by
  obtain ⟨h1, a, cap, h2, h3⟩ := h
  exact ⟨h1, a, cap, h2, h3.other hf hs⟩
theorem frm_set6 (w : World) (g : Nat) (a0 a1 a2 a3 a4 a5 : Value) : Frm (At g) w ((((((w.setCell ⟨g, 0, none⟩ a0).setCell ⟨g, 1, none⟩ a1).setCell ⟨g, 2, none⟩ a2).setCell ⟨g, 3, none⟩ a3).setCell ⟨g, 4, none⟩ a4).setCell ⟨g, 5, none⟩ a5) :=
  ((((((Frm.refl (At g) w).setCell ⟨g, 0, none⟩ _ (fun _ => rfl)).setCell ⟨g, 1, none⟩ _ (fun _ => rfl)).setCell ⟨g, 2, none⟩ _ (fun _ => rfl)).setCell ⟨g, 3, none⟩ _ (fun _ => rfl)).setCell ⟨g, 4, none⟩ _ (fun _ => rfl)).setCell ⟨g, 5, none⟩ _ (fun _ => rfl)

theorem cell_set6 (w : World) (g b j : Nat) (hne : b ≠ g) (a0 a1 a2 a3 a4 a5 : Value) : ((((((w.setCell ⟨g, 0, none⟩ a0).setCell ⟨g, 1, none⟩ a1).setCell ⟨g, 2, none⟩ a2).setCell ⟨g, 3, none⟩ a3).setCell ⟨g, 4, none⟩ a4).setCell ⟨g, 5, none⟩ a5).cell? ⟨b, j, none⟩ = w.cell? ⟨b, j, none⟩ := by
  rw [cell_ne _ _ _ _ _ _ hne, cell_ne _ _ _ _ _ _ hne, cell_ne _ _ _ _ _ _ hne, cell_ne _ _ _ _ _ _ hne, cell_ne _ _ _ _ _ _ hne, cell_ne _ _ _ _ _ _ hne]

set_option maxHeartbeats 400000 in
theorem join_many (w : World) (B U L : Nat) (r : Row) (op : ByteArray) (own : Nat) (hr : RowV w B U L r) (h1 : r.kids.len ≠ 1) (hown : own ≤ 1) :
    Calls Tryz.prog 64 #[.pointer (some ⟨L, 0, none⟩), .string op, .int .i64 own] w fun e w' => ∃ v, e = .returned v ∧ PV w' (fun k => B ≤ k) v (r.join op own) ∧ Frm No w w' := by
  obtain ⟨a, cap, hbox, hkv⟩ := hr.kv
  have hn := hr.1
  have HJ := Lib.hid (show r.join op own = sizedP ⟨op, ⟨#[]⟩, 0, 0, r.kids⟩ (r.n + own) by rw [Row.join, if_neg h1])
  have HKV := Lib.hid (hkv.move (frm1 w (.cells zp 94)))
  have HBX := Lib.hid (hbox.alloc (.cells zp 94))
  have HB2 := Lib.hid (Box.new w 94 zp)
  have HM := Lib.hid (show IntKind.i64.wrap ((r.n : Int) + own) = ((r.n + own : Nat) : Int) by
    rw [IntKind.wrap_i64]
    have : wrap64 ((r.n : Int) + own) = (r.n : Int) + own := IntWalk.wrap64_in _ ⟨by omega, by omega⟩
    unfold wrap64 at this
    push_cast
    omega)
  have hL := hbox.lt
  have l0 : w.cell? ⟨L, 0, none⟩ = some (.slice a r.kids.len cap) := hbox.cell 0
  have l1 : w.cell? ⟨L, 1, none⟩ = some (.int .i64 r.n) := hbox.cell 1
  have hne : ((r.kids.len : Int) == 1) = false := by simp; omega
  clear hkv hbox hr
  have hLn : L ≠ w.heap.size := by omega
  generalize r.kids = f at *
  go_enter Tryz.func64, Tryz.ntmps64
  go_wp2
  go_region_held3 (fun w' => w'.cell? ⟨L, 0, none⟩ = some (.slice a f.len cap) ∧ w'.cell? ⟨L, 1, none⟩ = some (.int .i64 r.n)) (first | with_reducible exact ⟨e0, e1⟩ | with_reducible exact ⟨l0, l1⟩ | with_reducible exact ⟨(cell_set6 w2 w.heap.size L 0 hLn _ _ _ _ _ _).trans e0, (cell_set6 w2 w.heap.size L 1 hLn _ _ _ _ _ _).trans e1⟩ | go_keep) (first | (go_at_call 82; refine (sized_i _ (fun k => B ≤ k) ⟨op, ⟨#[]⟩, 0, 0, f⟩ a cap (r.n + own) _ (by exact HM.out) (by exact HKV.out.move ((Frm.refl No _).drew))).mono ?_; rintro e w2 ⟨v2, rfl, hp2, hf2⟩; have HX := Lib.hid (show Box w2 w.heap.size 94 zp from Box.frm (S := No) (by exact HB2.out) hf2 id); have HY := Lib.hid (show Box w2 L 119 #[.slice a f.len cap, .int .i64 r.n] from Box.frm (S := No) (by exact HBX.out) hf2 id); have HF2 := Lib.hid (show Frm No w w2 from Frm.trans ((frm1 w _).drew) hf2); have e0 : w2.cell? ⟨L, 0, none⟩ = some (.slice a f.len cap) := HY.out.cell 0; have e1 : w2.cell? ⟨L, 1, none⟩ = some (.int .i64 r.n) := HY.out.cell 1; have m0 : w2.cell? ⟨w.heap.size, 0, none⟩ = some (.string ⟨#[]⟩) := HX.out.cell 0; have m1 : w2.cell? ⟨w.heap.size, 1, none⟩ = some (.string ⟨#[]⟩) := HX.out.cell 1; have m2 : w2.cell? ⟨w.heap.size, 2, none⟩ = some (.slice none 0 0) := HX.out.cell 2; have m3 : w2.cell? ⟨w.heap.size, 3, none⟩ = some (.int .i64 0) := HX.out.cell 3; have m4 : w2.cell? ⟨w.heap.size, 4, none⟩ = some (.int .i64 0) := HX.out.cell 4; have m5 : w2.cell? ⟨w.heap.size, 5, none⟩ = some (.int .i64 0) := HX.out.cell 5; have mf0 := HX.out.f 0; have mf1 := HX.out.f 1; have mf2 := HX.out.f 2; have mf3 := HX.out.f 3; have mf4 := HX.out.f 4; have mf5 := HX.out.f 5; have HP2 := Lib.hid hp2; obtain ⟨hn2, a2, cap2, rfl, hk2⟩ := hp2))
  go_wp2
  have HE := Lib.hid HJ.out.symm
  generalize sizedP ⟨op, ⟨#[]⟩, 0, 0, f⟩ (r.n + own) = X at *
  refine bodyPost_ret (v := .agg #[.string X.t.op, .string X.t.set, .slice a2 X.t.kids.len cap2, .int .i64 X.t.lo, .int .i64 X.t.hi, .int .i64 X.n]) (results_cell_row Tryz.results64 _ _ w.heap.size 94 _ (0, 0) _ rfl ((((((HX.out.set 0 _).set 1 _).set 2 _).set 3 _).set 4 _).set 5 _) Tryz.underlying94 rfl info_part) rfl ⟨_, rfl, ?_, ?_⟩
  · rw [← HE.out]
    exact PV.other HP2.out (frm_set6 w2 w.heap.size _ _ _ _ _ _) (fun g e _ => by cases e; exact ⟨_, _, HX.out, by decide⟩)
  · exact HF2.out.then (frm_set6 w2 w.heap.size _ _ _ _ _ _) (fun k hk e => by cases e; exact absurd hk (Nat.lt_irrefl _))

theorem join_all (w : World) (B U L : Nat) (r : Row) (op : ByteArray) (own : Nat) (hr : RowV w B U L r) (hown : own ≤ 1) (m : Int) (hm : m = (own : Nat)) :
    Calls Tryz.prog 64 #[.pointer (some ⟨L, 0, none⟩), .string op, .int .i64 m] w fun e w' => ∃ v, e = .returned v ∧ PV w' (fun k => B ≤ k) v (r.join op own) ∧ Frm No w w' := by
  subst hm
  by_cases h1 : r.kids.len = 1
  · exact join_one w B U L r op own hr h1
  · exact join_many w B U L r op own hr h1 hown
end Go.Proofs.YtbfekknhmjndaaaGreat.parts
