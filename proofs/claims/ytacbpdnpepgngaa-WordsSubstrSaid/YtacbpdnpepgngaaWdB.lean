/- Contract of words.Sub. -/
import Derived.Test.YtacbpdnpepgngaaWdC
import Derived.Stop.RegionWithIn
namespace Go.Proofs.Ytacbpdnpepgngaa.wrd
set_option linter.unusedVariables false set_option linter.unusedSimpArgs false
open Go.ChangeShapes Go.WideShapes Go.ChangeAt Go.RowKit Go.Shelf Go.Proofs.Ytacbpdnpepgngaa.base Go.Proofs.Ytacbpdnpepgngaa.nfa Go.Proofs.Ytacbpdnpepgngaa.part Go.Proofs.Ytacbpdnpepgngaa.rng
attribute [local go_sem] Oper.semAt_some

/-- Does no operation put a call off? -/
def noDefer (ops : Array Oper) : Bool := ops.toList.all fun o => match o.op with
  | .defer _ => false
  | _ => true
theorem noDefer_at {ops : Array Oper} (h : noDefer ops = true) {i : Nat} {o : Oper} (hi : ops[i]? = some o) : ∀ c, o.op ≠ .defer c := by
  intro c e
  unfold noDefer at h
  rw [List.all_eq_true] at h
  have hm : o ∈ ops.toList := by
    obtain ⟨h1, rfl⟩ := Array.getElem?_eq_some_iff.1 hi
    exact Array.mem_toList_iff.2 (Array.getElem_mem h1)
  have := h o hm
  rw [e] at this
  cases this
/-- In a round a region that puts no call off is walked as elsewhere. -/
theorem any_round {P : Program} {ops : Array Oper} {Q : Exit → Act → World → Prop} {md : Region.Mode} {n l : Nat} (hnd : noDefer ops = true) : ∀ (fuel : Nat) (listed : Array Bool) (a : Act) (w : World),
    wpAnyIn Fence.wide n P md ops Q fuel listed a w → wpAnyIn (Fence.wide.inRound l) n P md ops Q fuel listed a w
  | 0, _, _, _, h => h
  | fuel + 1, listed, a, w, h => ⟨h.1, fun i hi => by
      have h2 := h.2 i hi
      unfold wpOpIn at h2 ⊢
      cases ho : ops[i]? with
      | none => rw [ho] at h2; exact any_round hnd fuel _ _ _ h2
      | some o =>
        rw [ho] at h2
        dsimp only at h2 ⊢
        by_cases hw : Region.wanted o (yielded ops a.tmps) = true
        · rw [if_pos hw] at h2 ⊢
          have h3 := Oper.wpIn_mono (K' := wpAnyIn (Fence.wide.inRound l) n P md ops Q fuel (listed.setIfInBounds i true)) (fun a w hk => any_round hnd fuel _ a w hk) h2
          refine ⟨h3.1, ?_⟩
          have h4 := h3.2
          rw [Oper.semAt_eq _ _ _ (noDefer_at hnd ho)] at h4 ⊢
          exact h4
        · rw [if_neg hw] at h2 ⊢
          exact ⟨h2.1, any_round hnd fuel _ _ _ h2.2⟩⟩

theorem results_sub (tmps : Array Value) (w : World) (k0 k1 k2 : Nat) (v0 v1 v2 : Value) (h0 : tmps.getD 10 undef = .pointer (some ⟨k0, 0, none⟩)) (h1 : tmps.getD 11 undef = .pointer (some ⟨k1, 0, none⟩)) (h2 : tmps.getD 12 undef = .pointer (some ⟨k2, 0, none⟩))
    (c0 : Box w k0 9 #[v0]) (c1 : Box w k1 3 #[v1]) (c2 : Box w k2 4 #[v2]) :
    (results Try.f13 tmps).run Try.prog w = .ok (.tuple #[v0, v1, v2]) w := by
  have hr : Try.f13.results = #[.cell 10 9, .cell 11 3, .cell 12 4] := rfl
  have h0' : tmps[10]?.getD undef = .pointer (some ⟨k0, 0, none⟩) := by simpa using h0
  have h1' : tmps[11]?.getD undef = .pointer (some ⟨k1, 0, none⟩) := by simpa using h1
  have h2' : tmps[12]?.getD undef = .pointer (some ⟨k2, 0, none⟩) := by simpa using h2
  have l0 : (loadVar 9 ⟨k0, 0, none⟩).run Try.prog w = .ok v0 w := by
    simp [loadVar, go_sem, Try.isAgg9, show w.cell? ⟨k0, 0, none⟩ = some v0 from c0.cell 0]
  have l1 : (loadVar 3 ⟨k1, 0, none⟩).run Try.prog w = .ok v1 w := by
    simp [loadVar, go_sem, Try.isAgg3, show w.cell? ⟨k1, 0, none⟩ = some v1 from c1.cell 0]
  have l2 : (loadVar 4 ⟨k2, 0, none⟩).run Try.prog w = .ok v2 w := by
    simp [loadVar, go_sem, Try.isAgg4, show w.cell? ⟨k2, 0, none⟩ = some v2 from c2.cell 0]
  simp [results, hr, h0', h1', h2', asAddr, Sem.run_bind, Result.andThen, l0, l1, l2]

set_option maxRecDepth 100000 in
set_option maxHeartbeats 8000000 in
theorem sub_all (w : World) (pa : Option Addr) (R : Option Rel) (repl s : ByteArray) (all : Bool) (most : Int) (hm : MP w (.pointer pa) R) (hr : repl.size ≤ 1000) (hs : s.size ≤ 1000) (hm1 : -9223372036854775808 ≤ most) (hm2 : most ≤ 9223372036854775807) (H : List (Nat × Nat)) (hH : hts (fdR R s.data.toList) s.size 0 0 = H) :
    Calls Try.prog 13 #[.pointer pa, .string repl, .string s, .bool all, .int .i64 most] w fun e w' => e = .returned (SubAns most (whl (fun m => byF m repl.data.toList) s.data.toList (Lst all H)) (Lst all H).length) ∧ Frm No w w' := by
  have hrl : repl.data.toList.length = repl.size := by simp
  have hsl : s.data.toList.length = s.size := by simp
  have HT := Lib.hid (fun W => template_all repl W (by omega))
  obtain ⟨W0, hW0⟩ : ∃ W0, ((((w.alloc (.cells #[.string s] 9)).alloc (.cells #[.bool all] 4)).alloc (.cells #[.string ⟨#[]⟩] 9)).alloc (.cells #[.int .i64 0] 3)).alloc (.cells #[.bool false] 4) = W0 := ⟨_, rfl⟩
  have hf0 : Frm No w W0 := by rw [← hW0]; exact (((((Frm.refl No w).alloc _).alloc _).alloc _).alloc _).alloc _
  have hz0 : W0.heap.size = w.heap.size + 5 := by rw [← hW0]; simp
  have b0 : Box W0 w.heap.size 9 #[.string s] := by rw [← hW0]; exact ((((Box.new _ _ _).alloc _).alloc _).alloc _).alloc _
  have b1 : Box W0 (w.heap.size + 1) 4 #[.bool all] := by
    have := Box.new (w.alloc (.cells #[.string s] 9)) 4 #[.bool all]
    rw [World.size_alloc] at this
    rw [← hW0]; exact ((this.alloc _).alloc _).alloc _
  have b2 : Box W0 (w.heap.size + 1 + 1) 9 #[.string ⟨#[]⟩] := by
    have := Box.new ((w.alloc (.cells #[.string s] 9)).alloc (.cells #[.bool all] 4)) 9 #[.string ⟨#[]⟩]
    rw [World.size_alloc, World.size_alloc] at this
    rw [← hW0]; exact (this.alloc _).alloc _
  have b3 : Box W0 (w.heap.size + 1 + 1 + 1) 3 #[.int .i64 0] := by
    have := Box.new (((w.alloc (.cells #[.string s] 9)).alloc (.cells #[.bool all] 4)).alloc (.cells #[.string ⟨#[]⟩] 9)) 3 #[.int .i64 0]
    rw [World.size_alloc, World.size_alloc, World.size_alloc] at this
    rw [← hW0]; exact this.alloc _
  have b4 : Box W0 (w.heap.size + 1 + 1 + 1 + 1) 4 #[.bool false] := by
    have := Box.new ((((w.alloc (.cells #[.string s] 9)).alloc (.cells #[.bool all] 4)).alloc (.cells #[.string ⟨#[]⟩] 9)).alloc (.cells #[.int .i64 0] 3)) 4 #[.bool false]
    rw [World.size_alloc, World.size_alloc, World.size_alloc, World.size_alloc] at this
    rw [← hW0]; exact this
  refine (callsIn_wide (n := 6)).1 ?_
  refine callsIn_of_wp_marks Try.func13 rfl trivial ?_ rfl
  simp only [Try.ntmps13, List.size_toArray, List.length_cons, List.length_nil, Nat.reduceAdd, Nat.reduceSub, Array.replicate_succ, Array.replicate_zero, List.push_toArray, List.append_toArray, List.nil_append, List.cons_append]
  gi_wp2_with (refine ⟨trivial, ?_⟩; gi_at_call 26; refine (callsIn_wide.2 (HT.out _)).mono ?_)
  rintro e w1 ⟨v, rfl, ⟨a, c, rfl, hown⟩, hb1⟩
  obtain ⟨g, rfl, hgT, cur, hgb, hgc⟩ : ∃ g, a = some ⟨g, 0, none⟩ ∧ g < w1.heap.size ∧ ∃ cur, Box w1 g 9 cur ∧ ∀ (j : Nat) x, (parts repl.data.toList [])[j]? = some x → cur[j]? = some (sV x) := by
    rcases hown.2 with ⟨_, h0⟩ | ⟨g, cap, cur, hv, _, hh, _⟩
    · exact absurd (List.eq_nil_of_length_eq_zero h0) (parts_ne _ _)
    · injection hv with e1 e2 e3
      subst e1
      refine ⟨g, rfl, (Array.getElem?_eq_some_iff.1 hh).1, cur, hh, fun j x hx => ?_⟩
      have := World.ownsRow.cells hown (g := g) rfl j (sV x) (by rw [List.getElem?_map, hx]; rfl)
      rw [Addr.add_lit, Nat.zero_add, Box.cell (show Box w1 g 9 cur from hh)] at this
      exact this
  have hf1 : Frm No W0 w1 := frm_of hb1 (Nat.le_refl _)
  have hz1 : w.heap.size + 5 ≤ w1.heap.size := by have := hb1.size; omega
  obtain ⟨W2, hW2⟩ : ∃ W2, (((w1.alloc (.cells #[.slice (some ⟨g, 0, none⟩) (parts repl.data.toList []).length c, .string ⟨(byF [] repl.data.toList).toArray⟩] 58)).alloc (.cells #[.pointer none, .slice none 0 0, .int .i64 most] 65)).alloc (.cells #[.int .i64 0] 3)).alloc (.cells #[.int .i64 0] 3) = W2 := ⟨_, rfl⟩
  have hf2 : Frm No w1 W2 := by rw [← hW2]; exact ((((Frm.refl No w1).alloc _).alloc _).alloc _).alloc _
  have hz2 : W2.heap.size = w1.heap.size + 4 := by rw [← hW2]; simp
  have c0 : W2.cell? ⟨w.heap.size, 0, none⟩ = some (.string s) := ((b0.frm hf1 id).frm hf2 id).cell 0
  have hsz : w.heap.size < w1.heap.size := by omega
  have d0 : Box W2 w1.heap.size 58 #[.slice (some ⟨g, 0, none⟩) (parts repl.data.toList []).length c, .string ⟨(byF [] repl.data.toList).toArray⟩] := by
    rw [← hW2]; exact (((Box.new _ _ _).alloc _).alloc _).alloc _
  have d1 : WR (w1.heap.size + 1) (w1.heap.size + 1) [] most W2 := by
    have := WR.new (w1.alloc (.cells #[.slice (some ⟨g, 0, none⟩) (parts repl.data.toList []).length c, .string ⟨(byF [] repl.data.toList).toArray⟩] 58)) most
    rw [World.size_alloc] at this
    rw [← hW2]; exact this.frm (((Frm.refl No _).alloc _).alloc _)
  have d2 : Box W2 (w1.heap.size + 1 + 1) 3 #[.int .i64 0] := by
    have := Box.new ((w1.alloc (.cells #[.slice (some ⟨g, 0, none⟩) (parts repl.data.toList []).length c, .string ⟨(byF [] repl.data.toList).toArray⟩] 58)).alloc (.cells #[.pointer none, .slice none 0 0, .int .i64 most] 65)) 3 #[.int .i64 0]
    rw [World.size_alloc, World.size_alloc] at this
    rw [← hW2]; exact this.alloc _
  have d3 : Box W2 (w1.heap.size + 1 + 1 + 1) 3 #[.int .i64 0] := by
    have := Box.new (((w1.alloc (.cells #[.slice (some ⟨g, 0, none⟩) (parts repl.data.toList []).length c, .string ⟨(byF [] repl.data.toList).toArray⟩] 58)).alloc (.cells #[.pointer none, .slice none 0 0, .int .i64 most] 65)).alloc (.cells #[.int .i64 0] 3)) 3 #[.int .i64 0]
    rw [World.size_alloc, World.size_alloc, World.size_alloc] at this
    rw [← hW2]; exact this
  obtain ⟨W3, hW3⟩ : ∃ W3, (W2.alloc (.cells #[.pointer pa] 38)).alloc (.cells #[.string s] 9) = W3 := ⟨_, rfl⟩
  have hf3 : Frm No W2 W3 := by rw [← hW3]; exact ((Frm.refl No W2).alloc _).alloc _
  have e0 : Box W3 (w1.heap.size + 4) 38 #[.pointer pa] := by rw [← hW3, ← hz2]; exact (Box.new _ _ _).alloc _
  have e1 : Box W3 (w1.heap.size + 5) 9 #[.string s] := by
    have := Box.new (W2.alloc (.cells #[.pointer pa] 38)) 9 #[.string s]
    rw [World.size_alloc, hz2] at this
    rw [← hW3]; exact this
  have hfw : Frm No w1 W3 := hf2.trans hf3
  have hSX : SX w w1.heap.size pa s all repl.data.toList g c W3 := ⟨((hf0.trans hf1).trans hf2).trans hf3, (b0.frm hf1 id).frm hfw id, (b1.frm hf1 id).frm hfw id, (b2.frm hf1 id).frm hfw id, (b3.frm hf1 id).frm hfw id, (b4.frm hf1 id).frm hfw id, d0.frm hf3 id, hgT, ⟨cur, hgb.frm hfw id, hgc⟩, e0, e1, hz1⟩
  have hSB : SB w w1.heap.size pa s all repl.data.toList g c most [] W3 := ⟨hSX, d1.frm hf3, d2.frm hf3 id, d3.frm hf3 id, .inl rfl⟩
  have HSB := Lib.hid hSB
  have HW2 := Lib.hid hW2
  have HW3 := Lib.hid hW3
  rw [← hW2] at c0
  have hz3 : w.heap.size ≤ W3.heap.size := hSX.base.size
  clear hW2 hW3 hSB hSX hfw e0 e1 hf3 d0 d1 d2 d3 hgb hgc hown b0 b1 b2 b3 b4 hf0 hf1 hf2 hb1
  gi_wp2_with (refine ⟨trivial, ?_⟩; gi_at_call 27; refine (callsIn_wide.2 (matches_all _ _ s pa rfl)).mono ?_; rintro e w3 ⟨rfl, hw3⟩; rw [HW2.out, HW3.out] at hw3; subst w3)
  rename_i K1 hK1
  have tail : ∀ (D : Nat) (W : World), W3.heap.size ≤ D → SB w w1.heap.size pa s all repl.data.toList g c most (Lst all H) W → dn 0 (Lst all H) ≤ s.size → (txt (fun m => byF m repl.data.toList) s.data.toList 0 (Lst all H)).length ≤ 2000000000 → W.heap[D]? = some (.deferred (some [])) →
      K1 { tmps := #[Value.pointer pa, Value.string repl, Value.string s, Value.bool all, Value.int IntKind.i64 most, undef, undef, Value.pointer (some ⟨w.heap.size, 0, none⟩), Value.pointer (some ⟨w.heap.size + 1, 0, none⟩), undef, Value.pointer (some ⟨w.heap.size + 1 + 1, 0, none⟩), Value.pointer (some ⟨w.heap.size + 1 + 1 + 1, 0, none⟩), Value.pointer (some ⟨w.heap.size + 1 + 1 + 1 + 1, 0, none⟩), Value.pointer (some ⟨w1.heap.size, 0, none⟩), Value.pointer (some ⟨w1.heap.size + 1, 0, none⟩), Value.pointer (some ⟨w1.heap.size + 1 + 1, 0, none⟩), Value.pointer (some ⟨w1.heap.size + 1 + 1 + 1, 0, none⟩), undef, undef, Value.string repl, Value.agg #[Value.slice (some ⟨g, 0, none⟩) (parts repl.data.toList []).length c, Value.string ⟨(byF [] repl.data.toList).toArray⟩], Value.int IntKind.i64 most, Value.agg #[Value.pointer none, Value.slice none 0 0, Value.int IntKind.i64 most], Value.pointer pa, Value.string s, Value.func (Fn.func 44) #[] #[Value.pointer (some ⟨w1.heap.size + 1 + 1 + 1 + 1, 0, none⟩), Value.pointer (some ⟨w1.heap.size + 1 + 1 + 1 + 1 + 1, 0, none⟩)], undef, undef, undef, undef, undef, undef, undef, undef, undef, undef, undef, undef, undef, undef, undef, undef, undef, undef, undef, undef, undef, undef, undef, undef, undef, undef, undef, undef, undef, undef], defers := [{ target := .collected D, args := #[] }] } W := by
    intro D W hD hsb hdn htl hK
    refine hK1 _ _ ?_
    have hwr := hsb.wr
    have hfit := hsb.fit
    obtain ⟨l0, hl0⟩ : ∃ l0, txt (fun m => byF m repl.data.toList) s.data.toList 0 (Lst all H) = l0 := ⟨_, rfl⟩
    rw [hl0] at hwr hfit htl
    have hlow : -9223372036854775808 ≤ most - (l0.length : Int) := by
      rcases hfit with h | h
      · rw [h] at hl0
        have : l0 = [] := hl0.symm
        subst this
        simp
        omega
      · omega
    have hsz : w1.heap.size + 1 ≤ W.heap.size := Nat.le_of_lt hwr.lt
    have hdl : (s.data.toList.drop (dn 0 (Lst all H))).length = s.size - dn 0 (Lst all H) := by rw [List.length_drop, hsl]
    have hwh : whl (fun m => byF m repl.data.toList) s.data.toList (Lst all H) = l0 ++ s.data.toList.drop (dn 0 (Lst all H)) := by unfold whl; rw [hl0]
    have hwl : (whl (fun m => byF m repl.data.toList) s.data.toList (Lst all H)).length = l0.length + (s.size - dn 0 (Lst all H)) := by rw [hwh, List.length_append, hdl]
    have hmx : (s.extract (dn 0 (Lst all H)) s.size).data.toList = s.data.toList.drop (dn 0 (Lst all H)) := sx_ext s _
    have c7 : W.cell? ⟨w.heap.size, 0, none⟩ = some (.string s) := hsb.x.bS.cell 0
    have c16 : W.cell? ⟨w1.heap.size + 1 + 1 + 1, 0, none⟩ = some (.int .i64 (dn 0 (Lst all H) : Int)) := hsb.bD.cell 0
    have g1 : (0 : Int) ≤ (dn 0 (Lst all H) : Int) := by omega
    have g2 : (dn 0 (Lst all H) : Int) ≤ (s.size : Int) := by omega
    by_cases hA : ((s.data.toList.drop (dn 0 (Lst all H))).length : Int) ≤ most - (l0.length : Int)
    · have HW := Lib.hid (write_yes W _ _ l0 most hwr (s.extract (dn 0 (Lst all H)) s.size) _ hmx hsz (by omega) hlow hm2 hA)
      have HAN := Lib.hid (show SubAns most (whl (fun m => byF m repl.data.toList) s.data.toList (Lst all H)) (Lst all H).length = .tuple #[.string ⟨(l0 ++ s.data.toList.drop (dn 0 (Lst all H))).toArray⟩, .int .i64 ((Lst all H).length : Int), .bool true] by
        unfold SubAns
        rw [if_pos (by omega), hwh])
      have HSB1 := Lib.hid hsb
      have HZ := Lib.hid hsz
      have HKD := Lib.hid hK
      clear hK hA hmx hwl hwh hdl hsz hlow hl0 hfit hwr hsb htl hdn
      gi_wp2_with (refine ⟨trivial, ?_⟩; gi_at_call 28; refine (callsIn_wide.2 HW.out).mono ?_)
      rintro en w4 ⟨rfl, hw4, hk4⟩
      have hz4 : w1.heap.size + 1 ≤ w4.heap.size := Nat.le_trans HZ.out hk4.bel.size
      have HS := Lib.hid (string_all w4.drew _ _ _ _ (hw4.frm (Frm.refl No w4).drew) hz4)
      have HK4 := Lib.hid hk4
      have b15 := hk4.box HSB1.out.bC (by decide) (by omega)
      have c15 := b15.cell 0
      have c15d : w4.drew.cell? ⟨w1.heap.size + 1 + 1, 0, none⟩ = some (.int .i64 ((Lst all H).length : Int)) := b15.cell 0
      clear hw4 hk4 b15
      gi_wp2
      refine wpIn_mono (Q := NoPanic _) ?_ NoPanic.imp
      gi_region_with (refine ⟨trivial, ?_⟩; gi_at_call 30; refine (callsIn_wide.2 HS.out).mono ?_; rintro en w5 ⟨rfl, hk5⟩; have HK5 := Lib.hid ((HK4.out.trans (Kb.of (Frm.refl No w4).drew hz4)).trans hk5); have hx5 := HSB1.out.x.kb HK5.out; have r0 := hx5.r0.cell 0; have r0f := hx5.r0.f 0; have r1 := hx5.r1.cell 0; have r1f := hx5.r1.f 0; have r2 := hx5.r2.cell 0; have r2f := hx5.r2.f 0; have c15e := (HK5.out.box HSB1.out.bC (by decide) (by omega)).cell 0; clear hx5 hk5)
      all_goals (
        refine NoPanic.normal ?_
        have hx5 := HSB1.out.x.kb HK5.out
        have f1 := at_set w5 (w.heap.size + 1 + 1) 0 (.string ⟨(l0 ++ s.data.toList.drop (dn 0 (Lst all H))).toArray⟩)
        have f2 := at_set (w5.setCell ⟨w.heap.size + 1 + 1, 0, none⟩ (.string ⟨(l0 ++ s.data.toList.drop (dn 0 (Lst all H))).toArray⟩)) (w.heap.size + 1 + 1 + 1) 0 (.int .i64 ((Lst all H).length : Int))
        have f3 := at_set ((w5.setCell ⟨w.heap.size + 1 + 1, 0, none⟩ (.string ⟨(l0 ++ s.data.toList.drop (dn 0 (Lst all H))).toArray⟩)).setCell ⟨w.heap.size + 1 + 1 + 1, 0, none⟩ (.int .i64 ((Lst all H).length : Int))) (w.heap.size + 1 + 1 + 1 + 1) 0 (.bool true)
        have b1 := hx5.r1.frm f1 (fun e => by have e2 : w.heap.size + 1 + 1 + 1 = w.heap.size + 1 + 1 := e; omega)
        have b2 := (hx5.r2.frm f1 (fun e => by have e2 : w.heap.size + 1 + 1 + 1 + 1 = w.heap.size + 1 + 1 := e; omega)).frm f2 (fun e => by have e2 : w.heap.size + 1 + 1 + 1 + 1 = w.heap.size + 1 + 1 + 1 := e; omega)
        have hkeep := (((HK5.out.keep (B' := W3.heap.size) HSB1.out.wr).trans (keep_at hx5.r0 f1)).trans (keep_at b1 f2)).trans (keep_at b2 f3)
        have e0 := ((hx5.r0.set 0 (.string ⟨(l0 ++ s.data.toList.drop (dn 0 (Lst all H))).toArray⟩)).frm f2 (fun e => by have e2 : w.heap.size + 1 + 1 = w.heap.size + 1 + 1 + 1 := e; omega)).frm f3 (fun e => by have e2 : w.heap.size + 1 + 1 = w.heap.size + 1 + 1 + 1 + 1 := e; omega)
        have e1 := (b1.set 0 (.int .i64 ((Lst all H).length : Int))).frm f3 (fun e => by have e2 : w.heap.size + 1 + 1 + 1 = w.heap.size + 1 + 1 + 1 + 1 := e; omega)
        have e2 := b2.set 0 (.bool true)
        have hbase := ((hx5.base.then f1 (fun k hk e => by have e2 : k = w.heap.size + 1 + 1 := e; omega)).then f2 (fun k hk e => by have e2 : k = w.heap.size + 1 + 1 + 1 := e; omega)).then f3 (fun k hk e => by have e2 : k = w.heap.size + 1 + 1 + 1 + 1 := e; omega)
        have hKD := hkeep D _ hD HKD.out rfl
        have hput := ncs_put (B := w.heap.size) (o' := .deferred none) (Nat.le_trans hz3 hD) hKD rfl
        have HE0 := Lib.hid (e0.frm hput (ncs_box _ _ _ e0))
        have HE1 := Lib.hid (e1.frm hput (ncs_box _ _ _ e1))
        have HE2 := Lib.hid (e2.frm hput (ncs_box _ _ _ e2))
        have HFB := Lib.hid (hbase.then hput (fun k hk e => by have := e.1; omega))
        have HKDD := Lib.hid hKD
        clear hput hKD hbase e0 e1 e2 hkeep b1 b2 f1 f2 f3 hx5
        gi_wp2
        refine ⟨by simp, .inl ⟨_, _, rfl, run_takeDeferred HKDD.out, ?_⟩⟩
        exact ⟨_, results_sub _ _ _ _ _ _ _ _ rfl rfl rfl HE0.out HE1.out HE2.out, by rw [HAN.out], HFB.out⟩)
    · have HW := Lib.hid (write_no W _ _ l0 most hwr (s.extract (dn 0 (Lst all H)) s.size) hlow hm2 (by
        have : (s.extract (dn 0 (Lst all H)) s.size).size = (s.data.toList.drop (dn 0 (Lst all H))).length := by
          show (s.extract (dn 0 (Lst all H)) s.size).data.size = _
          rw [← Array.length_toList, hmx]
        omega))
      have hov : most < ((whl (fun m => byF m repl.data.toList) s.data.toList (Lst all H)).length : Int) := by omega
      have HAN := Lib.hid (show SubAns most (whl (fun m => byF m repl.data.toList) s.data.toList (Lst all H)) (Lst all H).length = .tuple #[.string ⟨#[]⟩, .int .i64 0, .bool false] by
        unfold SubAns
        rw [if_neg (by omega)])
      have HSB1 := Lib.hid hsb
      have HOV := Lib.hid hov
      have HZ := Lib.hid hsz
      have HKD := Lib.hid hK
      clear hK hov hA hmx hwl hwh hdl hsz hlow hl0 hfit hwr hsb htl hdn
      gi_wp2_with (refine ⟨trivial, ?_⟩; gi_at_call 28; refine (callsIn_wide.2 HW.out).mono ?_)
      rintro en w4 ⟨rfl, hf4⟩
      have hk4 := Kb.of (B := w1.heap.size + 1) (b := w1.heap.size + 1) hf4 HZ.out
      have hx4 := HSB1.out.x.kb hk4
      have HR4 := Lib.hid (HSB1.out.refuse hk4 HOV.out W3.heap.size)
      have r0 := hx4.r0.cell 0
      have r0f := hx4.r0.f 0
      have r1 := hx4.r1.cell 0
      have r1f := hx4.r1.f 0
      have r2 := hx4.r2.cell 0
      have r2f := hx4.r2.f 0
      clear hx4 hk4 hf4
      gi_wp2
      have hKD := HR4.out.2 D _ hD HKD.out rfl
      have hO := HR4.out.1.ncs (ncs_put (B := w.heap.size) (o' := .deferred none) (Nat.le_trans hz3 hD) hKD rfl) (Nat.le_refl _)
      refine ⟨by simp, .inl ⟨_, _, rfl, run_takeDeferred hKD, ?_⟩⟩
      exact ⟨_, results_sub _ _ _ _ _ _ _ _ rfl rfl rfl hO.2.1 hO.2.2.1 hO.2.2.2.1, by rw [HAN.out], hO.1⟩
  have hrise := hits_rise (fdR_fits R s.data.toList) (s.size + 2 - 0) 0 0 0 (Nat.le_refl _)
  rw [show hits (fdR R s.data.toList) (s.size + 2 - 0) 0 0 = H from hH, hsl] at hrise
  have hHlen : H.length ≤ s.size + 2 := by rw [← hH]; exact hits_len _ _ _
  have hbl : ∀ m : List UInt8, m.length ≤ s.data.toList.length → (byF m repl.data.toList).length ≤ 1001000 := fun m hm => by
    have h1 := byF_len m repl.data.toList
    have h2 : repl.data.toList.length * (m.length + 1) ≤ 1000 * 1001 := Nat.mul_le_mul (by omega) (by omega)
    omega
  refine range_path (n := 6) (by omega) (gf := 44) (lb := #[.pointer (some ⟨w1.heap.size + 1 + 1 + 1 + 1, 0, none⟩), .pointer (some ⟨w1.heap.size + 1 + 1 + 1 + 1 + 1, 0, none⟩)]) rfl (enters_of Try.func44 (by kernel_rfl) rfl)
    (fun x : Nat × Nat => #[.int .i64 (x.1 : Int), .int .i64 (x.2 : Int)]) (fun _ => rfl) (fun pre x => ∃ r, pre ++ x :: r = H) (fun xs => xs = H) (fun pre => ∃ l x r, pre = l ++ [x] ∧ l ++ x :: r = H)
    (fun pre W => SB w w1.heap.size pa s all repl.data.toList g c most pre W ∧ (all = true ∨ pre = [])) (SIx w w1.heap.size pa s all repl.data.toList g c most (whl (fun m => byF m repl.data.toList) s.data.toList (Lst all H)))
    (fun pre A C h hf => ⟨h.1.ncs hf hz3, h.2⟩)
    (fun cd pre A C h hf => h.elim (fun h => .inl ⟨h.1, h.2.ncs hf hz3⟩) (fun h => .inr ⟨h.1, h.2.1.ncs hf hz3, h.2.2⟩))
    ⟨HSB.out, .inr rfl⟩ (matches_gives W3 s R pa _ _ (6 - 1) (by omega) (by omega) _ (fun pre A h => ⟨h.1.x.bm.cell 0, h.1.x.bs.cell 0, hm.move h.1.x.base⟩) H hH)
    (fun x => { tmps := #[Value.pointer pa, Value.string repl, Value.string s, Value.bool all, Value.int IntKind.i64 most, undef, undef, Value.pointer (some ⟨w.heap.size, 0, none⟩), Value.pointer (some ⟨w.heap.size + 1, 0, none⟩), undef, Value.pointer (some ⟨w.heap.size + 1 + 1, 0, none⟩), Value.pointer (some ⟨w.heap.size + 1 + 1 + 1, 0, none⟩), Value.pointer (some ⟨w.heap.size + 1 + 1 + 1 + 1, 0, none⟩), Value.pointer (some ⟨w1.heap.size, 0, none⟩), Value.pointer (some ⟨w1.heap.size + 1, 0, none⟩), Value.pointer (some ⟨w1.heap.size + 1 + 1, 0, none⟩), Value.pointer (some ⟨w1.heap.size + 1 + 1 + 1, 0, none⟩), Value.int .i64 (x.1 : Int), Value.int .i64 (x.2 : Int), Value.string repl, Value.agg #[Value.slice (some ⟨g, 0, none⟩) (parts repl.data.toList []).length c, Value.string ⟨(byF [] repl.data.toList).toArray⟩], Value.int IntKind.i64 most, Value.agg #[Value.pointer none, Value.slice none 0 0, Value.int IntKind.i64 most], Value.pointer pa, Value.string s, Value.func (Fn.func 44) #[] #[Value.pointer (some ⟨w1.heap.size + 1 + 1 + 1 + 1, 0, none⟩), Value.pointer (some ⟨w1.heap.size + 1 + 1 + 1 + 1 + 1, 0, none⟩)], Value.int .i64 (x.1 : Int), Value.int .i64 (x.2 : Int), undef, undef, undef, undef, undef, undef, undef, undef, undef, undef, undef, undef, undef, undef, undef, undef, undef, undef, undef, undef, undef, undef, undef, undef, undef, undef, undef, undef], defers := [] }) ?assign ?body ?done ?stop
  case assign =>
    intro l x W K hK
    gi_wp2
    exact hK
  case body =>
    rintro l pre ⟨i, e⟩ W hl ⟨hsb, hall⟩ ⟨r, hpre⟩
    rw [← hpre] at hrise
    obtain ⟨q1, q2, q3, q4, _⟩ : Rise s.size 0 pre ∧ dn 0 pre ≤ i ∧ i ≤ e ∧ e ≤ s.size ∧ True := by
      obtain ⟨k1, k2, k3, k4, _⟩ := rise_app hrise
      exact ⟨k1, k2, k3, k4, trivial⟩
    have q5 : pre.length ≤ 1002 := by
      have := congrArg List.length hpre
      rw [List.length_append, List.length_cons] at this
      omega
    obtain ⟨r', hr'⟩ := lst_pre hpre hall
    have htl := txt_len (by_ := fun m => byF m repl.data.toList) (s := s.data.toList) (m := 1001000) hbl pre 0 (by rw [hsl]; exact q1)
    have hdn := rise_dn q1 (Nat.zero_le _)
    have hml : (mid s.data.toList (dn 0 pre) i).length = i - dn 0 pre := mid_len (by omega)
    have hme : (mid s.data.toList i e).length = e - i := mid_len (by omega)
    have hby := hbl (mid s.data.toList i e) (by omega)
    obtain ⟨l0, hl0⟩ : ∃ l0, txt (fun m => byF m repl.data.toList) s.data.toList 0 pre = l0 := ⟨_, rfl⟩
    have hwr := hsb.wr
    have hfit := hsb.fit
    have hsz : w1.heap.size + 1 ≤ W.heap.size := Nat.le_of_lt hwr.lt
    have hT5 := hsb.x.hT
    have hgT5 := hsb.x.hg
    rw [hl0] at htl hwr hfit
    have hlow : -9223372036854775808 ≤ most - (l0.length : Int) := by
      rcases hfit with h | h
      · subst h
        have : l0 = [] := hl0.symm
        subst this
        simp
        omega
      · omega
    have hP : ∀ (W' : World), Frm No W W' ∨ Kb (w1.heap.size + 1) (w1.heap.size + 1) W W' → ∀ (j : Nat) x, (parts repl.data.toList [])[j]? = some x → W'.cell? ⟨g, j, none⟩ = some (sV x) := fun W' hk j x hx => by
      obtain ⟨cu, k1, k2⟩ := hsb.x.bG
      rcases hk with hk | hk
      · rw [(k1.frm hk id).cell]; exact k2 j x hx
      · rw [(hk.box k1 (by decide) (by omega)).cell]; exact k2 j x hx
    have hover : ∀ n : Nat, (l0 ++ mid s.data.toList (dn 0 pre) i).length + n ≤ (whl (fun m => byF m repl.data.toList) s.data.toList (Lst all H)).length → most < (((l0 ++ mid s.data.toList (dn 0 pre) i).length + n : Nat) : Int) → most < ((whl (fun m => byF m repl.data.toList) s.data.toList (Lst all H)).length : Int) := fun n h1 h2 => by omega
    have hw1 : (l0 ++ mid s.data.toList (dn 0 pre) i).length ≤ (whl (fun m => byF m repl.data.toList) s.data.toList (Lst all H)).length := by
      rw [hr', ← hl0]
      exact whl_mid _ _ _ _ _ _
    have hw2 : (l0 ++ mid s.data.toList (dn 0 pre) i).length + (byF (mid s.data.toList i e) repl.data.toList).length ≤ (whl (fun m => byF m repl.data.toList) s.data.toList (Lst all H)).length := by
      rw [hr', ← hl0, show pre ++ (i, e) :: r' = (pre ++ [(i, e)]) ++ r' by simp]
      have := whl_pre (fun m => byF m repl.data.toList) s.data.toList (pre ++ [(i, e)]) r'
      rw [txt_snoc, ← List.append_assoc, List.length_append] at this
      exact this
    have c7 : W.cell? ⟨w.heap.size, 0, none⟩ = some (.string s) := hsb.x.bS.cell 0
    have c8 : W.cell? ⟨w.heap.size + 1, 0, none⟩ = some (.bool all) := hsb.x.bA.cell 0
    have c13 : W.cell? ⟨w1.heap.size, 0, none⟩ = some (.slice (some ⟨g, 0, none⟩) (parts repl.data.toList []).length c) := hsb.x.bT.cell 0
    have c13b : W.cell? ⟨w1.heap.size, 1, none⟩ = some (.string ⟨(byF [] repl.data.toList).toArray⟩) := hsb.x.bT.cell 1
    have c15 : W.cell? ⟨w1.heap.size + 1 + 1, 0, none⟩ = some (.int .i64 (pre.length : Int)) := hsb.bC.cell 0
    have c16 : W.cell? ⟨w1.heap.size + 1 + 1 + 1, 0, none⟩ = some (.int .i64 (dn 0 pre : Int)) := hsb.bD.cell 0
    have g1 : (0 : Int) ≤ (dn 0 pre : Int) := by omega
    have g2 : (dn 0 pre : Int) ≤ (i : Int) := by omega
    have g3 : (i : Int) ≤ (s.size : Int) := by omega
    have g4 : (0 : Int) ≤ (i : Int) := by omega
    have g5 : (i : Int) ≤ (e : Int) := by omega
    have g6 : (e : Int) ≤ (s.size : Int) := by omega
    by_cases hA : ((mid s.data.toList (dn 0 pre) i).length : Int) ≤ most - (l0.length : Int)
    · have hmx : (s.extract (dn 0 pre) i).data.toList = mid s.data.toList (dn 0 pre) i := ext_mid _ _ _
      have hll : (l0 ++ mid s.data.toList (dn 0 pre) i).length = l0.length + (mid s.data.toList (dn 0 pre) i).length := List.length_append
      have hpl : pre.length * 1001000 ≤ 1002 * 1001000 := Nat.mul_le_mul_right _ q5
      have HW := Lib.hid (fun (W' : World) (hf : Frm No W W') => write_yes W' _ _ l0 most (hwr.frm hf) (s.extract (dn 0 pre) i) _ hmx (Nat.le_trans hsz hf.size) (by omega) hlow hm2 hA)
      have HF := Lib.hid (fun (W' : World) (hk : Kb (w1.heap.size + 1) (w1.heap.size + 1) W W') (hw : WR (w1.heap.size + 1) (w1.heap.size + 1) (l0 ++ mid s.data.toList (dn 0 pre) i) most W') => fill_all W' _ _ g c _ most hw repl.data.toList _ rfl ⟨(byF [] repl.data.toList).toArray⟩ (by simp) (by omega) (hP W' (.inr hk)) (Nat.le_trans hsz hk.bel.size) (by omega) hm2 (s.extract i e) _ (ext_mid _ _ _) (by omega) (by omega))
      have HOV := Lib.hid (fun (h : most < ((l0 ++ mid s.data.toList (dn 0 pre) i).length : Int) + ((byF (mid s.data.toList i e) repl.data.toList).length : Int)) => hover _ hw2 (by omega))
      have HSB1 := Lib.hid hsb
      have HL0 := Lib.hid hl0
      have HZ := Lib.hid hsz
      have HALL := Lib.hid hall
      have HPRE := Lib.hid hpre
      have g7 : (0 : Int) ≤ (pre.length : Int) := by omega
      have g8 : (pre.length : Int) ≤ 1002 := by omega
      clear hA hmx hll hpl hw1 hw2 hover hP hlow hfit hwr hsb hby hme hml hdn htl hl0 hbl hr' q1 q2 q3 q4 q5 hpre hall hT5 hgT5 hsz hrise
      gi_wp2
      refine wpIn_region_any (by kernel_rfl) (any_round (by kernel_rfl) _ _ _ _ ?_)
      change wpAnyIn _ _ _ _ _ _ _ _ _ (World.drew _)
      refine wpAnyIn_take (i := 2) (v := .int .i64 (i : Int)) rfl rfl (by kernel_rfl) (by kernel_rfl) (by kernel_rfl) (fun _ _ _ h => h) ⟨Or.inl ⟨by rfl, fun w => by go_simp⟩, fun _ => rfl⟩ ?_
      refine wpAnyIn_ready (rs := [0, 1]) (by kernel_rfl) (by simp) ?_
      refine AllReadyIn.cons rfl (fun K hK => ?la) (AllReadyIn.cons rfl (fun K hK => ?lb) AllReadyIn.nil)
      case' la => (go_simp; refine hK _ _ ?_; clear hK K; refine wpAnyIn_ready (rs := [1]) (by kernel_rfl) (by simp) ?_)
      case' lb => (go_simp; refine hK _ _ ?_; clear hK K; refine wpAnyIn_ready (rs := [0]) (by kernel_rfl) (by simp) ?_)
      all_goals (refine AllReadyIn.cons rfl (fun K hK => ?_) AllReadyIn.nil; go_simp; refine hK _ _ ?_; clear hK K)
      all_goals (refine wpAnyIn_ready (rs := [3]) (by kernel_rfl) (by simp) ?_; refine AllReadyIn.cons rfl (fun K hK => ?_) AllReadyIn.nil; go_simp; refine hK _ _ ?_; clear hK K)
      all_goals (refine wpAnyIn_ready (rs := [4]) (by kernel_rfl) (by simp) ?_; refine AllReadyIn.cons rfl (fun K hK => ?_) AllReadyIn.nil; go_simp)
      all_goals (
        refine ⟨trivial, ?_⟩
        refine (callsIn_wide.2 (HW.out _ (by exact (Frm.refl No W).drew))).mono ?_
        rintro en w4 ⟨rfl, hw4, hk4⟩
        have hk4 := (Kb.of (B := w1.heap.size + 1) (b := w1.heap.size + 1) ((Frm.refl No W).drew) HZ.out).trans hk4
        have hx4 := HSB1.out.x.kb hk4
        have c7' := hx4.bS.cell 0
        have c13' := hx4.bT.cell 0
        have c13b' := hx4.bT.cell 1
        have HK4 := Lib.hid hk4
        have HW4 := Lib.hid hw4
        clear hx4 hk4 hw4
        refine hK _ _ ?_
        clear hK K)
      all_goals (refine wpAnyIn_ready (rs := [5]) (by kernel_rfl) (by simp) ?_; refine AllReadyIn.cons rfl (fun K hK => ?_) AllReadyIn.nil; go_simp; refine hK _ _ ?_; clear hK K)
      all_goals (refine wpAnyIn_ready (rs := [6]) (by kernel_rfl) (by simp) ?_; refine AllReadyIn.cons rfl (fun K hK => ?_) AllReadyIn.nil; go_simp; refine hK _ _ ?_; clear hK K)
      all_goals (refine wpAnyIn_take (i := 9) (v := .int .i64 (i : Int)) rfl rfl (by kernel_rfl) (by kernel_rfl) (by kernel_rfl) (fun _ _ _ h => h) ⟨Or.inl ⟨by rfl, fun w => by go_simp⟩, fun _ => rfl⟩ ?_)
      all_goals (refine wpAnyIn_take (i := 10) (v := .int .i64 (e : Int)) rfl rfl (by kernel_rfl) (by kernel_rfl) (by kernel_rfl) (fun _ _ _ h => h) ⟨Or.inl ⟨by rfl, fun w => by go_simp⟩, fun _ => rfl⟩ ?_)
      all_goals (
        refine wpAnyIn_ready (rs := [7, 8]) (by kernel_rfl) (by simp) ?_
        refine AllReadyIn.cons rfl (fun K hK => ?_) (AllReadyIn.cons rfl (fun K hK => ?_) AllReadyIn.nil)
        rotate_left
        (go_simp; refine hK _ _ ?_; clear hK K; refine wpAnyIn_take (i := 11) (v := .string (s.extract i e)) rfl rfl (by kernel_rfl) (by kernel_rfl) (by kernel_rfl) (fun _ _ _ h => h) ⟨Or.inl ⟨by rfl, fun w => by go_simp⟩, fun _ => rfl⟩ ?_; refine wpAnyIn_ready (rs := [7]) (by kernel_rfl) (by simp) ?_; refine AllReadyIn.cons rfl (fun K hK => ?_) AllReadyIn.nil; go_simp; refine hK _ _ ?_; clear hK K)
        rotate_left
        (go_simp; refine hK _ _ ?_; clear hK K; refine wpAnyIn_ready (rs := [8]) (by kernel_rfl) (by simp) ?_; refine AllReadyIn.cons rfl (fun K hK => ?_) AllReadyIn.nil; go_simp; refine hK _ _ ?_; clear hK K; refine wpAnyIn_ready (rs := [11]) (by kernel_rfl) (by simp) ?_; refine AllReadyIn.cons rfl (fun K hK => ?_) AllReadyIn.nil; go_simp; refine hK _ _ ?_; clear hK K))
      all_goals (refine wpAnyIn_ready (rs := [12]) (by kernel_rfl) (by simp) ?_; refine AllReadyIn.cons rfl (fun K hK => ?_) AllReadyIn.nil; go_simp)
      all_goals (
        refine ⟨trivial, ?_⟩
        refine (callsIn_wide.2 (HF.out _ HK4.out HW4.out)).mono ?_
        rintro en w5 ⟨ok, rfl, hk5, h51, h52⟩
        have HK5 := Lib.hid (HK4.out.trans hk5)
        have H51 := Lib.hid h51
        have H52 := Lib.hid h52
        clear hk5 h51 h52
        refine hK _ _ ?_
        clear hK K)
      all_goals (refine wpAnyIn_ready (rs := [13]) (by kernel_rfl) (by simp) ?_; refine AllReadyIn.cons rfl (fun K hK => ?_) AllReadyIn.nil; go_simp; refine hK _ _ ?_; clear hK K)
      all_goals (refine wpAnyIn_ready (rs := [14]) (by kernel_rfl) (by simp) ?_; refine AllReadyIn.cons rfl (fun K hK => ?_) AllReadyIn.nil; go_simp; refine hK _ _ ?_; clear hK K)
      all_goals (refine wpAnyIn_done (by kernel_rfl) ?_ _)
      all_goals (
        cases ok with
        | false =>
          have hx5 := HSB1.out.x.kb HK5.out
          have HR5 := Lib.hid (HSB1.out.refuse HK5.out (HOV.out (H52.out rfl)) W3.heap.size)
          have r0 := hx5.r0.cell 0
          have r0f := hx5.r0.f 0
          have r1 := hx5.r1.cell 0
          have r1f := hx5.r1.f 0
          have r2 := hx5.r2.cell 0
          have r2f := hx5.r2.f 0
          clear hx5
          gi_wp2
          exact ⟨HR5.out.2, .inl ⟨rfl, HR5.out.1⟩⟩
        | true =>
          have HR5 := Lib.hid (HSB1.out.round HK5.out (i := i) (e := e) (by rw [HL0.out]; exact (H51.out rfl).2) (by rw [HL0.out]; exact (H51.out rfl).1) W3.heap.size ((pre.length : Int) + 1) (e : Int) rfl rfl)
          have b15 := HK5.out.box HSB1.out.bC (by decide) (by omega)
          have b16 := HK5.out.box HSB1.out.bD (by decide) (by omega)
          have r0 := b15.cell 0
          have r0f := b15.f 0
          have r1 := b16.cell 0
          have r1f := b16.f 0
          have r2 := HR5.out.1.x.bA.cell 0
          clear b15 b16
          cases all with
          | true =>
            gi_wp2
            exact ⟨HR5.out.2, HR5.out.1⟩
          | false =>
            gi_wp2
            exact ⟨HR5.out.2, .inr ⟨rfl, HR5.out.1, rfl, by have := HALL.out.resolve_left (by decide); subst this; rfl⟩⟩)
    · have HW := Lib.hid (fun (W' : World) (hf : Frm No W W') => write_no W' _ _ l0 most (hwr.frm hf) (s.extract (dn 0 pre) i) hlow hm2 (by
        have : (s.extract (dn 0 pre) i).size = (mid s.data.toList (dn 0 pre) i).length := by
          show (s.extract (dn 0 pre) i).data.size = _
          rw [← Array.length_toList, ext_mid]
        omega))
      have hov : most < ((whl (fun m => byF m repl.data.toList) s.data.toList (Lst all H)).length : Int) := by
        rw [List.length_append] at hw1
        omega
      have HSB1 := Lib.hid hsb
      have HOV := Lib.hid hov
      have HZ := Lib.hid hsz
      clear hov hA hw1 hw2 hover hP hlow hfit hwr hsb hby hme hml hdn htl hl0 hbl hr' q1 q2 q3 q4 q5 hpre hall hT5 hgT5 hsz hrise
      gi_wp2
      refine wpIn_region_any (by kernel_rfl) (any_round (by kernel_rfl) _ _ _ _ ?_)
      change wpAnyIn _ _ _ _ _ _ _ _ _ (World.drew _)
      refine wpAnyIn_take (i := 2) (v := .int .i64 (i : Int)) rfl rfl (by kernel_rfl) (by kernel_rfl) (by kernel_rfl) (fun _ _ _ h => h) ⟨Or.inl ⟨by rfl, fun w => by go_simp⟩, fun _ => rfl⟩ ?_
      refine wpAnyIn_ready (rs := [0, 1]) (by kernel_rfl) (by simp) ?_
      refine AllReadyIn.cons rfl (fun K hK => ?lc) (AllReadyIn.cons rfl (fun K hK => ?ld) AllReadyIn.nil)
      case' lc => (go_simp; refine hK _ _ ?_; clear hK K; refine wpAnyIn_ready (rs := [1]) (by kernel_rfl) (by simp) ?_)
      case' ld => (go_simp; refine hK _ _ ?_; clear hK K; refine wpAnyIn_ready (rs := [0]) (by kernel_rfl) (by simp) ?_)
      all_goals (refine AllReadyIn.cons rfl (fun K hK => ?_) AllReadyIn.nil; go_simp; refine hK _ _ ?_; clear hK K)
      all_goals (refine wpAnyIn_ready (rs := [3]) (by kernel_rfl) (by simp) ?_; refine AllReadyIn.cons rfl (fun K hK => ?_) AllReadyIn.nil; go_simp; refine hK _ _ ?_; clear hK K)
      all_goals (refine wpAnyIn_ready (rs := [4]) (by kernel_rfl) (by simp) ?_; refine AllReadyIn.cons rfl (fun K hK => ?_) AllReadyIn.nil; go_simp)
      all_goals (refine ⟨trivial, ?_⟩; refine (callsIn_wide.2 (HW.out _ (by exact (Frm.refl No W).drew))).mono ?_; rintro en w4 ⟨rfl, hf4⟩; refine hK _ _ ?_; clear hK K)
      all_goals (refine wpAnyIn_ready (rs := [5]) (by kernel_rfl) (by simp) ?_; refine AllReadyIn.cons rfl (fun K hK => ?_) AllReadyIn.nil; go_simp; refine hK _ _ ?_; clear hK K)
      all_goals (refine wpAnyIn_ready (rs := [6]) (by kernel_rfl) (by simp) ?_; refine AllReadyIn.cons rfl (fun K hK => ?_) AllReadyIn.nil; go_simp; refine hK _ _ ?_; clear hK K)
      all_goals (refine wpAnyIn_take (i := 7) (v := undef) rfl rfl (by kernel_rfl) (by kernel_rfl) (by kernel_rfl) (fun _ _ _ h => h) ⟨Or.inr ⟨by rfl, rfl⟩, fun _ => rfl⟩ ?_)
      all_goals (refine wpAnyIn_take (i := 8) (v := undef) rfl rfl (by kernel_rfl) (by kernel_rfl) (by kernel_rfl) (fun _ _ _ h => h) ⟨Or.inr ⟨by rfl, rfl⟩, fun _ => rfl⟩ ?_)
      all_goals (refine wpAnyIn_take (i := 9) (v := undef) rfl rfl (by kernel_rfl) (by kernel_rfl) (by kernel_rfl) (fun _ _ _ h => h) ⟨Or.inr ⟨by rfl, rfl⟩, fun _ => rfl⟩ ?_)
      all_goals (refine wpAnyIn_take (i := 10) (v := undef) rfl rfl (by kernel_rfl) (by kernel_rfl) (by kernel_rfl) (fun _ _ _ h => h) ⟨Or.inr ⟨by rfl, rfl⟩, fun _ => rfl⟩ ?_)
      all_goals (refine wpAnyIn_take (i := 11) (v := undef) rfl rfl (by kernel_rfl) (by kernel_rfl) (by kernel_rfl) (fun _ _ _ h => h) ⟨Or.inr ⟨by rfl, rfl⟩, fun _ => rfl⟩ ?_)
      all_goals (refine wpAnyIn_ready (rs := [12]) (by kernel_rfl) (by simp) ?_; refine AllReadyIn.cons rfl (fun K hK => ?_) AllReadyIn.nil; go_simp; refine ⟨trivial, ?_⟩; refine hK _ _ ?_; clear hK K)
      all_goals (refine wpAnyIn_take (i := 13) (v := undef) rfl rfl (by kernel_rfl) (by kernel_rfl) (by kernel_rfl) (fun _ _ _ h => h) ⟨Or.inr ⟨by rfl, rfl⟩, fun _ => rfl⟩ ?_)
      all_goals (refine wpAnyIn_ready (rs := [14]) (by kernel_rfl) (by simp) ?_; refine AllReadyIn.cons rfl (fun K hK => ?_) AllReadyIn.nil; go_simp; refine hK _ _ ?_; clear hK K)
      all_goals (refine wpAnyIn_done (by kernel_rfl) ?_ _)
      all_goals (
        have hk4 := Kb.of (B := w1.heap.size + 1) (b := w1.heap.size + 1) ((Frm.refl No W).drew.trans hf4) HZ.out
        have hx4 := HSB1.out.x.kb hk4
        have HR4 := Lib.hid (HSB1.out.refuse hk4 HOV.out W3.heap.size)
        have r0 := hx4.r0.cell 0
        have r0f := hx4.r0.f 0
        have r1 := hx4.r1.cell 0
        have r1f := hx4.r1.f 0
        have r2 := hx4.r2.cell 0
        have r2f := hx4.r2.f 0
        clear hx4 hk4 hf4
        gi_wp2
        exact ⟨HR4.out.2, .inl ⟨rfl, HR4.out.1⟩⟩)
  case done =>
    rintro D xs W hD hxs ⟨hsb, hall⟩ hK
    subst hxs
    have hL : Lst all xs = xs := by
      unfold Lst
      rcases hall with rfl | rfl
      · rw [if_pos rfl]
      · split <;> rfl
    have hdn := rise_dn hrise (Nat.zero_le _)
    have htl := txt_len (by_ := fun m => byF m repl.data.toList) (s := s.data.toList) (m := 1001000) hbl xs 0 (by rw [hsl]; exact hrise)
    have hpl : xs.length * 1001000 ≤ 1002 * 1001000 := Nat.mul_le_mul_right _ (by omega)
    exact tail D W hD (by rw [hL]; exact hsb) (by rw [hL]; exact hdn.2) (by rw [hL]; omega) hK
  case stop =>
    rintro D cd pre W hD ⟨l, x, r, rfl, hH2⟩ hix hK
    rcases hix with ⟨rfl, hov⟩ | ⟨rfl, hsb, hall, hone⟩
    · have HAN := Lib.hid (show SubAns most (whl (fun m => byF m repl.data.toList) s.data.toList (Lst all H)) (Lst all H).length = .tuple #[.string ⟨#[]⟩, .int .i64 0, .bool false] by
        unfold SubAns
        rw [if_neg (by have := hov.2.2.2.2; omega)])
      have HO := Lib.hid (hov.ncs (ncs_put (B := w.heap.size) (o' := .deferred none) (Nat.le_trans hz3 hD) hK rfl) (Nat.le_refl _))
      clear hov tail
      gi_wp2
      refine ⟨by simp, .inl ⟨_, _, rfl, run_takeDeferred hK, ?_⟩⟩
      exact ⟨_, results_sub _ _ _ _ _ _ _ _ rfl rfl rfl HO.out.2.1 HO.out.2.2.1 HO.out.2.2.2.1, by rw [HAN.out], HO.out.1⟩
    · obtain rfl : l = [] := List.eq_nil_of_length_eq_zero (by simpa using hone)
      subst hall
      have hL : Lst false H = [x] := by rw [← hH2]; rfl
      rw [← hH2] at hrise
      obtain ⟨xi, xe⟩ := x
      obtain ⟨q1, q2, q3, _⟩ := hrise
      have htl := txt_len (by_ := fun m => byF m repl.data.toList) (s := s.data.toList) (m := 1001000) hbl [(xi, xe)] 0 (by rw [hsl]; exact ⟨q1, q2, q3, trivial⟩)
      have q4 : dn 0 [(xi, xe)] = xe := rfl
      have HT2 := Lib.hid (tail D W hD (by rw [hL]; exact hsb) (by rw [hL, q4]; exact q3) (by rw [hL]; rw [q4] at htl; simp only [List.length_cons, List.length_nil] at htl; omega) hK)
      clear htl q4 hsb hL
      gi_wp2
      exact HT2.out
end Go.Proofs.Ytacbpdnpepgngaa.wrd
