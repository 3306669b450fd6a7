/- Contracts of ere's row.add where the row grows too big, and of row.join. -/
import Derived.Test.YtfgdhafpiikpjaaAdd
import Derived.Deep.RegionHeld3
namespace Go.Proofs.Ytfgdhafpiikpjaa.parts
set_option linter.unusedVariables false set_option linter.unusedSimpArgs false
open Go.ChangeShapes Go.WideShapes Go.ChangeAt Go.RowKit Go.Proofs.Ytfgdhafpiikpjaa.base Go.Proofs.Ytfgdhafpiikpjaa.read Go.Proofs.Ytfgdhafpiikpjaa.spec Go.Proofs.Ytfgdhafpiikpjaa.set

theorem big_fin {w : World} {B L : Nat} {C : Array Value} {a : Option Addr} {n c : Nat} {m : Int} (hbox : Box w L 102 #[.slice a n c, .int .i64 m]) (o : Obj) (X : Int) (hX : X = 2001) :
    RowV (((w.setCell ⟨L, 1, none⟩ (.int .i64 X)).setCell ⟨L, 0, none⟩ (.slice none 0 0)).alloc o).drew B (((w.setCell ⟨L, 1, none⟩ (.int .i64 X)).setCell ⟨L, 0, none⟩ (.slice none 0 0)).alloc o).drew.heap.size L ⟨.nil, 2001⟩ ∧
    Frm (RowS w B L) w (((w.setCell ⟨L, 1, none⟩ (.int .i64 X)).setCell ⟨L, 0, none⟩ (.slice none 0 0)).alloc o).drew := by
  subst hX
  refine ⟨⟨Nat.le_refl _, none, 0, [], ((hbox.set 1 _).set 0 _).alloc o, World.ownsRow_nil _ _ _ _, rfl, ⟨fun g e => (by cases e), fun _ => ⟨rfl, rfl⟩⟩⟩, ?_⟩
  exact (((Frm.refl (RowS w B L) w).setCell ⟨L, 1, none⟩ _ (fun _ => Or.inl rfl)).setCell ⟨L, 0, none⟩ _ (fun _ => Or.inl rfl)).alloc _ |>.drew

set_option maxHeartbeats 1000000 in
theorem add_big (w : World) (B U L : Nat) (r : Row) (F : Nat → Prop) (v : Value) (p : Part) (hr : RowV w B U L r) (hp : PV w F v p) (hB : B ≤ w.heap.size) (hs : ¬ r.n + p.n < 2001) :
    Calls Try.prog 59 #[.pointer (some ⟨L, 0, none⟩), v] w fun e w' => e = .returned (.tuple #[]) ∧ RowV w' B w'.heap.size L (r.add p) ∧ Frm (RowS w B L) w w' := by
  obtain ⟨hrn, ra, rcap, C, hbox, hown, hrep, hU, _⟩ := hr
  obtain ⟨hn, a, cap, rfl, hk⟩ := hp
  have HBX := Lib.hid hbox
  have hL := hbox.lt
  have l0 := hbox.cell 0
  have l1 := hbox.cell 1
  have lf := hbox.f 0
  have lf1 := hbox.f 1
  have hmin : min ((r.n : Int) + (p.n : Int)) 2001 = 2001 := by omega
  have hadd : r.add p = ⟨.nil, 2001⟩ := by rw [Row.add, if_neg hs]
  have HADD := Lib.hid hadd
  have hge : 2001 ≤ (r.n : Int) + (p.n : Int) := by omega
  clear hk hrep hown hbox hU hadd hs hmin
  go_enter Try.func59, Try.ntmps59
  go_wp2
  go_region
  go_wp2
  all_goals
    refine bodyPost_ret (v := .tuple #[]) (by simp [results, Try.results59, go_sem]) rfl ⟨rfl, ?_⟩
    rw [HADD.out]
    exact big_fin (C := #[]) HBX.out _ _ (by first | rfl | omega)

theorem RowV.kv {w : World} {B U L : Nat} {r : Row} (h : RowV w B U L r) : ∃ a cap, Box w L 102 #[.slice a r.kids.len cap, .int .i64 r.n] ∧ KV w (fun k => B ≤ k) (.slice a r.kids.len cap) r.kids := by
  obtain ⟨hrn, a, cap, C, hbox, hown, hrep, hU, hz0⟩ := h
  refine ⟨a, cap, hbox, ?_⟩
  rcases hown.2 with ⟨h1, h0⟩ | ⟨g, cap', cur, h1, h2, h3, h4, h5, h6, h7⟩
  · have hz : r.kids = .nil := by
      cases hk : r.kids with
      | nil => rfl
      | cons op set lo hi kids rest => rw [hk] at h0; cases h0
    rw [hz] at h1 ⊢
    exact Or.inl ⟨h1, rfl⟩
  · by_cases hz : r.kids = .nil
    · rw [hz] at hz0
      obtain ⟨rfl, rfl⟩ := hz0 rfl
      cases h1
    · have hrep' : RepC w (fun k => B ≤ k) r.kids C := hrep.go (fun g cur h hb => ⟨h.1, hb⟩)
      refine Or.inr ⟨g, cap', cur, h1, hz, h2, h3, ?_⟩
      rw [Nat.mul_comm, h7]
      exact hrep'

theorem add_all (w : World) (B U L : Nat) (r : Row) (F : Nat → Prop) (v : Value) (p : Part) (hr : RowV w B U L r) (hp : PV w F v p) (hF : ∀ k, F k → U ≤ k) (hBU : B ≤ U) (hB : B ≤ w.heap.size) (hlen : r.kids.len ≤ 200000) :
    Calls Try.prog 59 #[.pointer (some ⟨L, 0, none⟩), v] w fun e w' => e = .returned (.tuple #[]) ∧ RowV w' B w'.heap.size L (r.add p) ∧ Frm (RowS w B L) w w' := by
  by_cases hs : r.n + p.n < 2001
  · exact add_small w B U L r F v p hr hp hF hBU hB hlen hs
  · exact add_big w B U L r F v p hr hp hB hs

theorem RowV.one {w : World} {B U L : Nat} {r : Row} (h : RowV w B U L r) (h1 : r.kids.len = 1) : ∃ g cap a c, Box w L 102 #[.slice (some ⟨g, 0, none⟩) 1 cap, .int .i64 r.n] ∧ KV w (fun k => B ≤ k) (.slice a r.kids.head.kids.len c) r.kids.head.kids ∧ r.n ≤ 2001 ∧ g < w.heap.size ∧ g ≠ L ∧
    w.cell? ⟨g, 0, none⟩ = some (.string r.kids.head.op) ∧ w.cell? ⟨g, 1, none⟩ = some (.string r.kids.head.set) ∧ w.cell? ⟨g, 2, none⟩ = some (.slice a r.kids.head.kids.len c) ∧ w.cell? ⟨g, 3, none⟩ = some (.int .i64 r.kids.head.lo) ∧ w.cell? ⟨g, 4, none⟩ = some (.int .i64 r.kids.head.hi) := by
  obtain ⟨hrn, a, cap, C, hbox, hown, hrep, hU, hz0⟩ := h
  obtain ⟨g, cap', hv, hBg, hlt⟩ := hown.form (by omega)
  cases hv
  cases hk : r.kids with
  | nil => rw [hk] at h1; cases h1
  | cons op set lo hi kids rest =>
    rw [hk] at hrep hown hbox
    obtain ⟨k, C', rfl, hkk, h2⟩ := hrep
    have hkv : KV w (fun k => B ≤ k) k kids := (show KV w (fun k' => B ≤ k' ∧ _) k kids from hkk).mono (fun g h _ => h.1)
    obtain ⟨ka, kc, rfl⟩ := hkv.forms
    have hl : (Forest.cons op set lo hi kids rest).len = 1 := by rw [← hk]; exact h1
    rw [hl] at hown hbox
    refine ⟨g, cap, ka, kc, hbox, hkv, hrn, hlt, ?_, (hown.cellAt 0 (by omega)).trans rfl, (hown.cellAt 1 (by omega)).trans rfl, (hown.cellAt 2 (by omega)).trans rfl, (hown.cellAt 3 (by omega)).trans rfl, (hown.cellAt 4 (by omega)).trans rfl⟩
    intro e
    exact own_ne hown hbox (by decide) (by rw [e]; rfl)

set_option maxHeartbeats 1000000 in
theorem join_one (w : World) (B U L : Nat) (r : Row) (op : ByteArray) (own : Nat) (hr : RowV w B U L r) (h1 : r.kids.len = 1) :
    Calls Try.prog 61 #[.pointer (some ⟨L, 0, none⟩), .string op, .int .i64 own] w fun e w' => ∃ v, e = .returned v ∧ PV w' (fun k => B ≤ k) v (r.join op own) ∧ Frm No w w' := by
  obtain ⟨g, cap, a, c, hbox, hkv, hn, hlt, hgL, c0, c1, c2, c3, c4⟩ := hr.one h1
  have HJ := Lib.hid (show r.join op own = ⟨r.kids.head, r.n⟩ by rw [Row.join, if_pos h1])
  have HKV := Lib.hid hkv
  have HBX := Lib.hid hbox
  have hL := hbox.lt
  have l0 : w.cell? ⟨L, 0, none⟩ = some (.slice (some ⟨g, 0, none⟩) 1 cap) := hbox.cell 0
  have l1 : w.cell? ⟨L, 1, none⟩ = some (.int .i64 r.n) := hbox.cell 1
  clear hkv hbox hr
  generalize r.kids.head = T at *
  go_enter Try.func61, Try.ntmps61
  go_wp2
  go_region_held3 (fun w' => w'.cell? ⟨L, 0, none⟩ = some (.slice (some ⟨g, 0, none⟩) 1 cap) ∧ w'.cell? ⟨L, 1, none⟩ = some (.int .i64 r.n) ∧ w'.cell? ⟨g, 0, none⟩ = some (.string T.op) ∧ w'.cell? ⟨g, 1, none⟩ = some (.string T.set) ∧ w'.cell? ⟨g, 2, none⟩ = some (.slice a T.kids.len c) ∧ w'.cell? ⟨g, 3, none⟩ = some (.int .i64 T.lo) ∧ w'.cell? ⟨g, 4, none⟩ = some (.int .i64 T.hi)) (go_keep) (fail)
  go_wp2
  refine bodyPost_ret (v := .agg #[.string T.op, .string T.set, .slice a T.kids.len c, .int .i64 T.lo, .int .i64 T.hi, .int .i64 r.n]) (by simp [results, Try.results61, go_sem]) rfl ⟨_, rfl, ?_, (frm1 _ _).drew⟩
  rw [HJ.out]
  exact ⟨hn, a, c, rfl, HKV.out.move (frm1 _ _).drew⟩

theorem cell_ne (w : World) (g b j o : Nat) (a : Value) (hne : b ≠ g) : (w.setCell ⟨g, o, none⟩ a).cell? ⟨b, j, none⟩ = w.cell? ⟨b, j, none⟩ := World.cell?_of_block (Below.heap_setCell _ _ _ _ hne)
theorem PV.other {F S : Nat → Prop} {w w' : World} {v : Value} {p : Part} (h : PV w F v p) (hf : Frm S w w') (hs : ∀ g, S g → g < w.heap.size → ∃ T C, Box w g T C ∧ T ≠ 24) : PV w' F v p := by
  obtain ⟨h1, a, cap, h2, h3⟩ := h
  exact ⟨h1, a, cap, h2, h3.other hf hs⟩
theorem frm_set6 (w : World) (g : Nat) (a0 a1 a2 a3 a4 a5 : Value) : Frm (At g) w ((((((w.setCell ⟨g, 0, none⟩ a0).setCell ⟨g, 1, none⟩ a1).setCell ⟨g, 2, none⟩ a2).setCell ⟨g, 3, none⟩ a3).setCell ⟨g, 4, none⟩ a4).setCell ⟨g, 5, none⟩ a5) :=
  ((((((Frm.refl (At g) w).setCell ⟨g, 0, none⟩ _ (fun _ => rfl)).setCell ⟨g, 1, none⟩ _ (fun _ => rfl)).setCell ⟨g, 2, none⟩ _ (fun _ => rfl)).setCell ⟨g, 3, none⟩ _ (fun _ => rfl)).setCell ⟨g, 4, none⟩ _ (fun _ => rfl)).setCell ⟨g, 5, none⟩ _ (fun _ => rfl)

theorem cell_set6 (w : World) (g b j : Nat) (hne : b ≠ g) (a0 a1 a2 a3 a4 a5 : Value) : ((((((w.setCell ⟨g, 0, none⟩ a0).setCell ⟨g, 1, none⟩ a1).setCell ⟨g, 2, none⟩ a2).setCell ⟨g, 3, none⟩ a3).setCell ⟨g, 4, none⟩ a4).setCell ⟨g, 5, none⟩ a5).cell? ⟨b, j, none⟩ = w.cell? ⟨b, j, none⟩ := by
  rw [cell_ne _ _ _ _ _ _ hne, cell_ne _ _ _ _ _ _ hne, cell_ne _ _ _ _ _ _ hne, cell_ne _ _ _ _ _ _ hne, cell_ne _ _ _ _ _ _ hne, cell_ne _ _ _ _ _ _ hne]

set_option maxHeartbeats 400000 in
theorem join_many (w : World) (B U L : Nat) (r : Row) (op : ByteArray) (own : Nat) (hr : RowV w B U L r) (h1 : r.kids.len ≠ 1) (hown : own ≤ 1) :
    Calls Try.prog 61 #[.pointer (some ⟨L, 0, none⟩), .string op, .int .i64 own] w fun e w' => ∃ v, e = .returned v ∧ PV w' (fun k => B ≤ k) v (r.join op own) ∧ Frm No w w' := by
  obtain ⟨a, cap, hbox, hkv⟩ := hr.kv
  have hn := hr.1
  have HJ := Lib.hid (show r.join op own = sizedP ⟨op, ⟨#[]⟩, 0, 0, r.kids⟩ (r.n + own) by rw [Row.join, if_neg h1])
  have HKV := Lib.hid (hkv.move (frm1 w (.cells zp 88)))
  have HBX := Lib.hid (hbox.alloc (.cells zp 88))
  have HB2 := Lib.hid (Box.new w 88 zp)
  have HM := Lib.hid (show IntKind.i64.wrap ((r.n : Int) + own) = ((r.n + own : Nat) : Int) by
    rw [IntKind.wrap_i64]
    have : wrap64 ((r.n : Int) + own) = (r.n : Int) + own := IntWalk.wrap64_in _ ⟨by omega, by omega⟩
    unfold wrap64 at this
    push_cast
    omega)
  have hL := hbox.lt
  have l0 : w.cell? ⟨L, 0, none⟩ = some (.slice a r.kids.len cap) := hbox.cell 0
  have l1 : w.cell? ⟨L, 1, none⟩ = some (.int .i64 r.n) := hbox.cell 1
  have hne : ((r.kids.len : Int) == 1) = false := by simp; omega
  clear hkv hbox hr
  have hLn : L ≠ w.heap.size := by omega
  generalize r.kids = f at *
  go_enter Try.func61, Try.ntmps61
  go_wp2
  go_region_held3 (fun w' => w'.cell? ⟨L, 0, none⟩ = some (.slice a f.len cap) ∧ w'.cell? ⟨L, 1, none⟩ = some (.int .i64 r.n)) (first | with_reducible exact ⟨e0, e1⟩ | with_reducible exact ⟨l0, l1⟩ | with_reducible exact ⟨(cell_set6 w2 w.heap.size L 0 hLn _ _ _ _ _ _).trans e0, (cell_set6 w2 w.heap.size L 1 hLn _ _ _ _ _ _).trans e1⟩ | go_keep) (first | (go_at_call 69; refine (sized_i _ (fun k => B ≤ k) ⟨op, ⟨#[]⟩, 0, 0, f⟩ a cap (r.n + own) _ (by exact HM.out) (by exact HKV.out.move ((Frm.refl No _).drew))).mono ?_; rintro e w2 ⟨v2, rfl, hp2, hf2⟩; have HX := Lib.hid (show Box w2 w.heap.size 88 zp from Box.frm (S := No) (by exact HB2.out) hf2 id); have HY := Lib.hid (show Box w2 L 102 #[.slice a f.len cap, .int .i64 r.n] from Box.frm (S := No) (by exact HBX.out) hf2 id); have HF2 := Lib.hid (show Frm No w w2 from Frm.trans ((frm1 w _).drew) hf2); have e0 : w2.cell? ⟨L, 0, none⟩ = some (.slice a f.len cap) := HY.out.cell 0; have e1 : w2.cell? ⟨L, 1, none⟩ = some (.int .i64 r.n) := HY.out.cell 1; have m0 : w2.cell? ⟨w.heap.size, 0, none⟩ = some (.string ⟨#[]⟩) := HX.out.cell 0; have m1 : w2.cell? ⟨w.heap.size, 1, none⟩ = some (.string ⟨#[]⟩) := HX.out.cell 1; have m2 : w2.cell? ⟨w.heap.size, 2, none⟩ = some (.slice none 0 0) := HX.out.cell 2; have m3 : w2.cell? ⟨w.heap.size, 3, none⟩ = some (.int .i64 0) := HX.out.cell 3; have m4 : w2.cell? ⟨w.heap.size, 4, none⟩ = some (.int .i64 0) := HX.out.cell 4; have m5 : w2.cell? ⟨w.heap.size, 5, none⟩ = some (.int .i64 0) := HX.out.cell 5; have mf0 := HX.out.f 0; have mf1 := HX.out.f 1; have mf2 := HX.out.f 2; have mf3 := HX.out.f 3; have mf4 := HX.out.f 4; have mf5 := HX.out.f 5; have HP2 := Lib.hid hp2; obtain ⟨hn2, a2, cap2, rfl, hk2⟩ := hp2))
  go_wp2
  have HE := Lib.hid HJ.out.symm
  generalize sizedP ⟨op, ⟨#[]⟩, 0, 0, f⟩ (r.n + own) = X at *
  refine bodyPost_ret (v := .agg #[.string X.t.op, .string X.t.set, .slice a2 X.t.kids.len cap2, .int .i64 X.t.lo, .int .i64 X.t.hi, .int .i64 X.n]) (results_cell_row Try.results61 _ _ w.heap.size 88 _ (0, 0) _ rfl ((((((HX.out.set 0 _).set 1 _).set 2 _).set 3 _).set 4 _).set 5 _) Try.underlying88 rfl info_part) rfl ⟨_, rfl, ?_, ?_⟩
  · rw [← HE.out]
    exact PV.other HP2.out (frm_set6 w2 w.heap.size _ _ _ _ _ _) (fun g e _ => by cases e; exact ⟨_, _, HX.out, by decide⟩)
  · exact HF2.out.then (frm_set6 w2 w.heap.size _ _ _ _ _ _) (fun k hk e => by cases e; exact absurd hk (Nat.lt_irrefl _))

theorem join_all (w : World) (B U L : Nat) (r : Row) (op : ByteArray) (own : Nat) (hr : RowV w B U L r) (hown : own ≤ 1) (m : Int) (hm : m = (own : Nat)) :
    Calls Try.prog 61 #[.pointer (some ⟨L, 0, none⟩), .string op, .int .i64 m] w fun e w' => ∃ v, e = .returned v ∧ PV w' (fun k => B ≤ k) v (r.join op own) ∧ Frm No w w' := by
  subst hm
  by_cases h1 : r.kids.len = 1
  · exact join_one w B U L r op own hr h1
  · exact join_many w B U L r op own hr h1 hown
end Go.Proofs.Ytfgdhafpiikpjaa.parts
