/- Contracts of the document's digits with a point (package tedderref02): double, digits. -/
import Derived.Test.YtnddldnabldnoaaGreatDoorDeci
import Derived.Laws.AppendOwnNone
import Derived.Laws.MakeOwn
import Derived.Laws.OwnMore
namespace Go.Proofs.YtnddldnabldnoaaGreatDoor.deci
set_option linter.unusedVariables false set_option linter.unusedSimpArgs false
open Go.ChangeShapes Go.WideShapes Go.ChangeAt Go.RowKit Go.Proofs.YtnddldnabldnoaaGreatDoor.Deci

/-- 'append(b, s...)' of ints that lie anywhere, none too. -/
theorem wpList_appII {P : Program} (w : World) {ops : Array Oper} {rest : List Oper} {o : Oper} {a : Act} {Q : Exit → Act → World → Prop} (hgd : o.guard = none) (s x : Operand) (t : TypeId)
    (ho : o.op = .call { callee := .builtin .append, args := #[s, x], argTypes := #[t, t] })
    (B : Nat) (e : TypeId) (ht : P.underlying t = some (.slice e)) (hinf : (P.info? e).map (fun i => (i.zero, i.size, i.bytes)) = some (some (.int .i64 0), 1, 8))
    (v : Value) (l : List Nat) (hs : a.eval s = v) (hown : OwnI w B e v l) (B2 : Nat) (y : Value) (news : List Nat) (hx : a.eval x = y) (hrd : RdI w B2 y news)
    (hl : l.length + news.length ≤ 17592186044416) (hB : B ≤ w.heap.size)
    (h : ∀ v' w', OwnI w' B e v' (l ++ news) → Below B w w' → wpList P ops Q rest (a.put o.dst v') w') :
    wpList P ops Q (o :: rest) a w := by
  obtain ⟨i0, hi, hz0, hz1, hz2⟩ := info_parts hinf
  rcases hrd with ⟨rfl, rfl⟩ | ⟨g, off, cap, rfl, hcap, hB2, hc⟩
  · refine wpList_append_own_none hgd s x t ho B e i0 1 ht hi v _ _ hs hown hx ?_
    exact h v w (by simpa using hown) (Below.refl _ _)
  · refine wpList_append_own _ hgd s x t ho B e i0 (.int .i64 0) 1 8 ht hi hz0 hz1 hz2 rfl (by decide) v _ _ hs hown ⟨g, off, none⟩ news.length cap (news.map iV) hx (by simp) ?_ (fun u hu => by obtain ⟨b, _, rfl⟩ := List.mem_map.1 hu; rfl) (by unfold maxLen; omega) (by omega) (by omega) ?_
    · intro j u hj
      rw [List.getElem?_map] at hj
      rw [Addr.add_lit]
      by_cases hlt : j < news.length
      · rw [List.getElem?_eq_getElem hlt] at hj
        rw [hc j hlt]
        exact hj
      · rw [List.getElem?_eq_none (by omega)] at hj
        simp at hj
    · intro v' w' hown' hg _
      refine h v' w' ?_ ?_
      · have e2 : l.length + news.length = (l ++ news).length := by simp
        have e3 : l.map iV ++ news.map iV = (l ++ news).map iV := by simp
        unfold OwnI
        rw [← e2, ← e3]
        exact hown'
      · exact (Below.refl _ _).grown hg hB (fun q hq => ((World.ownsRow.lt hown) q hq).1)

/-- One int in a new block is the call's own. -/
theorem OwnI.one (w : World) (B : Nat) (e : TypeId) (b : Nat) (hB : B ≤ w.heap.size) : OwnI (w.alloc (.cells #[iV b] e)) B e (.slice (some ⟨w.heap.size, 0, none⟩) 1 1) [b] :=
  ⟨rfl, Or.inr ⟨w.heap.size, 1, #[iV b], rfl, hB, heap_alloc_new w _, Nat.le_refl _, by unfold maxLen; omega, rfl, rfl⟩⟩

/-- A world with a new block of one int. -/
theorem RdI.alloc {w : World} {B : Nat} {v : Value} {l : List Nat} (h : RdI w B v l) (o : Obj) : RdI (w.alloc o) B v l :=
  h.below ((Below.refl w.heap.size w).alloc (Nat.le_refl _) o)

theorem Box2.alloc {w : World} {b : Nat} {T : TypeId} {x y : Value} (h : Box2 w b T x y) (o : Obj) : Box2 (w.alloc o) b T x y := h.old o

set_option maxRecDepth 100000 in
set_option maxHeartbeats 400000 in
theorem digits_all (n : Nat) (w : World) (hn : n < 18446744073709551616) :
    Calls Tryz.prog 86 #[.int .u64 n] w fun e w' => ∃ v', e = .returned (.agg #[v', .int .i64 (pt (trimD (digs n)) (digs n).length)]) ∧ RdI w' w.heap.size v' (trimD (digs n)) ∧ Below w.heap.size w w' := by
  have HI := Lib.hid (show (Tryz.prog.info? 3).map (fun i => (i.zero, i.size, i.bytes)) = some (some (.int .i64 0), 1, 8) by kernel_rfl)
  have hlen := digs_len 20 n (by omega)
  go_enter Tryz.func86, Tryz.ntmps86
  go_wp2
  go_loopw [0, 3] (fun nv dv wr => ∃ (m : Nat) (d : List Nat), m ≤ n ∧ nv = .int .u64 m ∧ OwnI wr (w.heap.size + 1) 3 dv d ∧ digs m ++ d = digs n ∧ Box2 wr w.heap.size 79 (.slice none 0 0) (.int .i64 0) ∧ w.heap.size + 1 ≤ wr.heap.size ∧ Below w.heap.size w wr) (fun nv _ _ => (intOf nv).toNat)
  case atStart => exact ⟨n, [], Nat.le_refl _, rfl, OwnI.nil _ _ _, by simp, Box2.new _ _ _ _, by simp, (Below.refl _ _).alloc (Nat.le_refl _) _⟩
  case round =>
    obtain ⟨m, d, hm, rfl, hown, heq, hb0, hsz, hbel⟩ := hrel
    have hdl : (digs m).length + d.length = (digs n).length := by rw [← heq]; simp
    have HB0 := Lib.hid hb0
    have HEQ := Lib.hid heq
    have HN := Lib.hid hn
    have hm64 : (m : Int) < 18446744073709551616 := by omega
    clear hb0 heq hn
    by_cases h0 : 0 < m
    · have hrd := hown.rd
      go_wp2_with (at_builtin; go_must (refine wpList_appII _ rfl (.tmp 9) (.tmp 10) 77 rfl (w.heap.size + 1) 3 Tryz.underlying77 HI.out _ _ rfl (OwnI.one wr (w.heap.size + 1) 3 (m % 10) (by omega)) (w.heap.size + 1) _ d rfl (hrd.alloc _) (by simp; omega) (by simp; omega) ?_; intro v' w1 hown' hb1))
      go_roundw
      case rel => exact ⟨m / 10, [m % 10] ++ d, by omega, by go_num, hown', by rw [← HEQ.out, digs_pos h0, List.append_assoc], (HB0.out.alloc _).below hb1 (by omega), by have := hb1.size; simp only [World.size_alloc] at this; omega, (hbel.alloc (by omega) _).trans (hb1.mono (by omega))⟩
      case measure => simp [intOf]; omega
    · obtain rfl : m = 0 := by omega
      have HD := Lib.hid (show digs n = d by rw [← HEQ.out, digs_zero]; rfl)
      rw [digs_zero, List.length_nil, Nat.zero_add] at hdl
      have hrd := hown.rd
      obtain ⟨a3, c3, rfl⟩ := hown.rd.forms
      have hdl2 : d.length ≤ 20 := by omega
      clear hdl hlen
      go_wp2_with (go_at_call 60; go_must (refine (trim_all (d.length : Nat) (w.heap.size + 1) (.slice a3 d.length c3) d _ hrd (by omega)).mono ?_; rintro e w2 ⟨v2, rfl, hr2, hb2⟩; obtain ⟨a2, c2, rfl⟩ := hr2.forms; have hz2 := hb2.size; have M1 := Lib.hid ((HB0.out.below hb2 (by omega)) : Box2 w2 w.heap.size _ _ _); have m0 := M1.out.c0; have m1 := M1.out.c1; have mf0 := M1.out.f 0; have mf1 := M1.out.f 1))
      refine bodyPost_ret (v := .agg #[.slice a2 (trimD d).length c2, .int .i64 (pt (trimD d) (d.length : Nat))]) (by simp [results, Tryz.results86, go_sem, m0, m1]) rfl ⟨.slice a2 (trimD d).length c2, by rw [HD.out], ?_, ?_⟩
      · rw [HD.out]
        exact (((hr2.set _ 0 _ (by omega)).set _ 1 _ (by omega))).mono (by omega)
      · exact (((hbel.trans (hb2.mono (by omega))).setCell (by simp) _).setCell (by simp) _)

/-- A row of a block of the call's own: k zeros, and behind them the numbers l. -/
def RowZ (w : World) (g : Nat) (e : TypeId) (k : Nat) (l : List Nat) : Prop := w.heap[g]? = some (.cells ((List.replicate k 0 ++ l).map iV).toArray e (0, 0))

theorem RowZ.cell {w : World} {g : Nat} {e : TypeId} {k : Nat} {l : List Nat} (h : RowZ w g e k l) (j : Nat) (hj : j < k) : w.cell? ⟨g, j, none⟩ = some (.int .i64 0) := by
  simp only [World.cell?, show w.heap[g]? = _ from h]
  rw [List.getElem?_toArray, List.getElem?_map, List.getElem?_append_left (by simpa using hj), List.getElem?_replicate, if_pos hj]
  rfl
theorem RowZ.free {w : World} {g : Nat} {e : TypeId} {k : Nat} {l : List Nat} (h : RowZ w g e k l) (j : Nat) : w.frozen? ⟨g, j, none⟩ = false := by simp [World.frozen?, show w.heap[g]? = _ from h]
theorem RowZ.set {w : World} {g : Nat} {e : TypeId} {k : Nat} {l : List Nat} (h : RowZ w g e (k + 1) l) (x : Nat) : RowZ (w.setCell ⟨g, k, none⟩ (iV x)) g e k (x :: l) := by
  unfold RowZ at *
  rw [heap_setCell_same w g k _ e (iV x) h]
  congr 2
  apply Array.toList_inj.1
  rw [Array.toList_setIfInBounds, List.toList_toArray, ← List.map_set, List.replicate_succ', List.append_assoc, List.set_append_right _ _ (by simp)]
  simp
theorem RowZ.below {w w' : World} {g B : Nat} {e : TypeId} {k : Nat} {l : List Nat} (h : RowZ w g e k l) (hb : Below B w w') (hlt : g < B) : RowZ w' g e k l := by
  unfold RowZ
  rw [hb.block g hlt]
  exact h
theorem RowZ.made (w : World) (e : TypeId) (n : Nat) : RowZ (w.alloc (.cells (madeCells #[.int .i64 0] n) e)) w.heap.size e n [] := by
  unfold RowZ
  rw [heap_alloc_new]
  congr 2
  apply Array.toList_inj.1
  rw [toList_madeCells_one]
  simp [iV]
theorem RowZ.own {w : World} {g B : Nat} {e : TypeId} {l : List Nat} (h : RowZ w g e 0 l) (hB : B ≤ g) (n : Nat) (hn : n = l.length) (hm : n ≤ 100000) : OwnI w B e (.slice (some ⟨g, 0, none⟩) n n) l := by
  subst hn
  refine ⟨by simp, Or.inr ⟨g, l.length, _, rfl, hB, h, Nat.le_refl _, by unfold maxLen; omega, by simp, by simp [List.take_of_length_le]⟩⟩

theorem drop_pred (l : List Nat) (k : Nat) (h : k < l.length) : l.drop k = l[k] :: l.drop (k + 1) := List.drop_eq_getElem_cons h

set_option maxRecDepth 100000 in
set_option maxHeartbeats 400000 in
theorem double_all (p : Int) (v : Value) (l : List Nat) (w : World) (hr : RdI w 0 v l) (hl : l.length ≤ 90000) (hd : Digs l) (hp0 : -1000000 ≤ p) (hp1 : p ≤ 1000000) :
    Calls Tryz.prog 63 #[.agg #[v, .int .i64 p]] w fun e w' => ∃ v', e = .returned (.agg #[v', .int .i64 (pt (trimD (dblL l)) (dblP l p))]) ∧ RdI w' w.heap.size v' (trimD (dblL l)) ∧ Below w.heap.size w w' := by
  have HI := Lib.hid (show (Tryz.prog.info? 3).map (fun i => (i.zero, i.size, i.bytes)) = some (some (.int .i64 0), 1, 8) by kernel_rfl)
  obtain ⟨i0, hi, hz0, hz1, hz2⟩ := info_parts HI.out
  have hmk : ∀ W, (Instr.makeSlice 77 (.int .i64 (l.length : Nat)) (.int .i64 (l.length : Nat))).run Tryz.prog W = .ok (.slice (some ⟨W.heap.size, 0, none⟩) l.length l.length) (W.alloc (.cells (madeCells #[.int .i64 0] l.length) 3)) := fun W => by
    have := run_make W 77 3 i0 (.int .i64 0) Tryz.underlying77 hi hz0 .i64 .i64 (l.length : Nat) (l.length : Nat) (by omega) (by omega) (by rw [hz2]; omega) (by omega)
    rw [this, hz1]
    simp [Value.cells]
  clear hi hz0 hz1 hz2 i0
  have HR := Lib.hid hr
  obtain ⟨a, cap, rfl⟩ := hr.forms
  clear hr
  go_enter Tryz.func63, Tryz.ntmps63
  go_wp2
  go_loopw [4, 5] (fun cv iv wr => ∃ k : Nat, k ≤ l.length ∧ iv = .int .i64 ((k : Int) - 1) ∧ cv = .int .i64 ((dbl (l.drop k)).2 : Nat) ∧ RowZ wr (w.heap.size + 1 + 1) 3 k (dbl (l.drop k)).1 ∧ Box2 wr w.heap.size 79 (.slice a l.length cap) (.int .i64 p) ∧ Box2 wr (w.heap.size + 1) 79 (.slice none 0 0) (.int .i64 0) ∧ w.heap.size + 3 ≤ wr.heap.size ∧ Below w.heap.size w wr) (fun _ iv _ => (intOf iv + 1).toNat)
  case atStart =>
    refine ⟨l.length, Nat.le_refl _, rfl, by rw [List.drop_length]; rfl, ?_, ((Box2.new _ _ _ _).old _).old _, ?_, by simp, ((((Below.refl _ _).alloc (Nat.le_refl _) _).alloc (by simp) _).alloc (by simp; omega) _)⟩
    · rw [List.drop_length]
      have := RowZ.made ((w.alloc (.cells #[.slice a l.length cap, .int .i64 p] 79)).alloc (.cells #[.slice none 0 0, .int .i64 0] 79)) 3 l.length
      rw [World.size_alloc, World.size_alloc] at this
      exact this
    · have := (Box2.new (w.alloc (.cells #[.slice a l.length cap, .int .i64 p] 79)) 79 (.slice none 0 0) (.int .i64 0)).old (.cells (madeCells #[.int .i64 0] l.length) 3)
      rw [World.size_alloc] at this
      exact this
  case round =>
    obtain ⟨k, hk, rfl, rfl, hrow, hb0, hb1, hsz, hbel⟩ := hrel
    have c00 := hb0.c0
    have hcar := dbl_carry (l.drop k) (fun x hx => hd x (List.mem_of_mem_drop hx))
    have HB0 := Lib.hid hb0
    have HB1 := Lib.hid hb1
    clear hb0 hb1 hmk
    by_cases hk0 : 0 < k
    · obtain ⟨j, rfl⟩ : ∃ j, k = j + 1 := ⟨k - 1, by omega⟩
      obtain ⟨g, off, cap', he, hcap, hB0, hc⟩ := HR.out.addr (by omega)
      injection he with e1 e2 e3
      subst e1 e3
      have hg : g < w.heap.size := World.block_lt_of_cell? w _ (hc j hk)
      have hcell : wr.cell? ⟨g, off + j, none⟩ = some (.int .i64 (l[j] : Nat)) := by
        rw [hbel.cell (by exact hg)]; exact hc j hk
      have hd9 := hd l[j] (by simp)
      have hj := hrow.cell j (by omega)
      have hjf := hrow.free j
      have HROW := Lib.hid hrow
      have HS := Lib.hid (show dbl (l.drop j) = ((2 * l[j] + (dbl (l.drop (j + 1))).2) % 10 :: (dbl (l.drop (j + 1))).1, (2 * l[j] + (dbl (l.drop (j + 1))).2) / 10) by rw [drop_pred l j hk]; rfl)
      clear hc hrow
      generalize hde : l[j] = d at *
      clear hde
      generalize hre : (dbl (l.drop (j + 1))).2 = r at *
      clear hre
      go_wp2
      go_roundw
      case rel =>
        refine ⟨j, by omega, by go_num, by rw [HS.out]; go_num, ?_, HB0.out.set_ne _ (by omega), HB1.out.set_ne _ (by omega), by simp; omega, hbel.setCell (by simp; omega) _⟩
        rw [HS.out]
        have := HROW.out.set ((2 * d + r) % 10)
        exact this
      case measure => simp [intOf]
    · obtain rfl : k = 0 := by omega
      rw [List.drop_zero] at hcar hrow ⊢
      have hln : (dbl l).1.length = l.length := dbl_len l
      have HOWN := Lib.hid (hrow.own (B := w.heap.size + 2) (by omega) l.length hln.symm (by omega))
      have HLN := Lib.hid hln
      clear hrow hln
      have f0 := HB0.out.f 0
      have f1 := HB0.out.f 1
      have c01 := HB0.out.c1
      by_cases hc1 : 0 < (dbl l).2
      · rw [show (dbl l).2 = 1 by omega]
        have HH := Lib.hid (show dblL l = 1 :: (dbl l).1 ∧ dblP l p = p + 1 by unfold dblL dblP; rw [if_pos hc1, if_pos hc1, show (dbl l).2 = 1 by omega]; exact ⟨rfl, rfl⟩)
        clear hc1
        go_wp2_with (first | (at_builtin; go_must (refine wpList_appII _ rfl (.tmp 37) (.tmp 38) 77 rfl (w.heap.size + 2) 3 Tryz.underlying77 HI.out _ _ rfl (OwnI.one wr (w.heap.size + 2) 3 1 (by omega)) (w.heap.size + 2) _ (dbl l).1 rfl (HOWN.out.rd.alloc _) (by rw [HLN.out]; simp; omega) (by simp; omega) ?_; intro v' w1 hown' hb1; have hrd' := hown'.rd; rw [List.singleton_append] at hrd'; obtain ⟨a3, c3, hv3⟩ := hrd'.forms; rw [List.length_cons, HLN.out] at hv3; subst hv3; have hz1 := hb1.size; simp only [World.size_alloc] at hz1; have hbel1 := (hbel.alloc (by omega) _).trans (hb1.mono (by omega)); have K0 := Lib.hid ((HB0.out.alloc _).below hb1 (by omega)); have K1 := Lib.hid ((HB1.out.alloc _).below hb1 (by omega)); have g00 := K0.out.c0; have g01 := K0.out.c1; have gf0 := K0.out.f 0; have gf1 := K0.out.f 1)) | (go_at_call 60; go_must (refine (trim_all (p + 1) (w.heap.size + 2) (.slice a3 (l.length + 1) c3) (1 :: (dbl l).1) _ (by exact ((hrd').set w.heap.size 1 (.int .i64 (p + 1)) (by omega)).set w.heap.size 0 (.slice a3 (l.length + 1) c3) (by omega)) (by rw [List.length_cons, HLN.out]; omega)).mono ?_; rintro e w2 ⟨v2, rfl, hr2, hb2⟩; obtain ⟨a2, c2, rfl⟩ := hr2.forms; have hz2 := hb2.size; simp only [size_setCell2] at hz2; have M1 := Lib.hid ((((K1.out.set_ne (.int .i64 (p + 1)) (by omega)).set_ne (.slice a3 (l.length + 1) c3) (by omega)).below hb2 (by simp only [size_setCell2]; omega)) : Box2 w2 (w.heap.size + 1) _ _ _); have m0 := M1.out.c0; have m1 := M1.out.c1; have mf0 := M1.out.f 0; have mf1 := M1.out.f 1)))
        refine bodyPost_ret (v := .agg #[.slice a2 (trimD (1 :: (dbl l).1)).length c2, .int .i64 (pt (trimD (1 :: (dbl l).1)) (p + 1))]) (by simp [results, Tryz.results63, go_sem, m0, m1]) rfl ⟨.slice a2 (trimD (1 :: (dbl l).1)).length c2, by rw [HH.out.1, HH.out.2], ?_, ?_⟩
        · rw [HH.out.1]
          exact (((hr2.set _ 0 _ (by omega)).set _ 1 _ (by omega))).mono (by omega)
        · exact ((((hbel1.setCell (by simp) _).setCell (by simp) _).trans (hb2.mono (by simp only [size_setCell2]; omega))).setCell (by simp) _ |>.setCell (by simp) _)
      · rw [show (dbl l).2 = 0 by omega]
        have HH := Lib.hid (show dblL l = (dbl l).1 ∧ dblP l p = p by unfold dblL dblP; rw [if_neg hc1, if_neg hc1]; exact ⟨rfl, rfl⟩)
        clear hc1
        have hbel1 := hbel
        have hrd := HOWN.out.rd
        go_wp2_with ((go_at_call 60; go_must (refine (trim_all (p) (w.heap.size + 2) (.slice (some ⟨w.heap.size + 1 + 1, 0, none⟩) l.length l.length) ((dbl l).1) _ (by exact (hrd).set w.heap.size 0 (.slice (some ⟨w.heap.size + 1 + 1, 0, none⟩) l.length l.length) (by omega)) (by rw [HLN.out]; omega)).mono ?_; rintro e w2 ⟨v2, rfl, hr2, hb2⟩; obtain ⟨a2, c2, rfl⟩ := hr2.forms; have hz2 := hb2.size; simp only [size_setCell2] at hz2; have M1 := Lib.hid (((HB1.out.set_ne (.slice (some ⟨w.heap.size + 1 + 1, 0, none⟩) l.length l.length) (by omega)).below hb2 (by simp only [size_setCell2]; omega)) : Box2 w2 (w.heap.size + 1) _ _ _); have m0 := M1.out.c0; have m1 := M1.out.c1; have mf0 := M1.out.f 0; have mf1 := M1.out.f 1)))
        refine bodyPost_ret (v := .agg #[.slice a2 (trimD ((dbl l).1)).length c2, .int .i64 (pt (trimD ((dbl l).1)) (p))]) (by simp [results, Tryz.results63, go_sem, m0, m1]) rfl ⟨.slice a2 (trimD ((dbl l).1)).length c2, by rw [HH.out.1, HH.out.2], ?_, ?_⟩
        · rw [HH.out.1]
          exact (((hr2.set _ 0 _ (by omega)).set _ 1 _ (by omega))).mono (by omega)
        · exact (((hbel1.setCell (by simp) _).trans (hb2.mono (by simp only [size_setCell2]; omega))).setCell (by simp) _ |>.setCell (by simp) _)
end Go.Proofs.YtnddldnabldnoaaGreatDoor.deci
