/- The parser's tokens: ahead, peek, next, take, want. The parser's tokens: op, word, take, want, fail, name, at, skipping. fail, want, isName, name, at, atEnd, skipLines, skipEnds, isPlace. atEnd, skipLines, skipEnds; inner. inner: a reading one node deeper; isPlace. -/
import Derived.Test.YtgbibfhacjjaeaaGreatSynMem
import Derived.Test.YtgbibfhacjjaeaaGreatShelf
import Derived.Lib.Hide
import Derived.WalkSpells
import Derived.Deep.RegionWith
import Derived.Laws.StructEq
import Derived.Deep.LoopGhost

namespace Go.Proofs.YtgbibfhacjjaeaaGreat.syn
set_option linter.unusedVariables false set_option linter.unusedSimpArgs false
open Go.ChangeShapes Go.WideShapes Go.ChangeAt Go.RowKit Go.Proofs.YtgbibfhacjjaeaaGreat.base
open Go.Proofs.YtgbibfhacjjaeaaGreat.lexs (Tok kNl kNum kStr kEre kOp kName kFunc kWord kBuilt)

/-- A token, by value; its two cells. -/
abbrev tkC (t : Tok) : Array Value := #[.string ⟨t.k.toArray⟩, .string ⟨t.t.toArray⟩]
abbrev tkV (t : Tok) : Value := .agg (tkC t)
abbrev tk0 : Array Value := #[.string ⟨#[]⟩, .string ⟨#[]⟩]
theorem getD_in {l : List Tok} {i : Nat} (h : i < l.length) : l[i]? = some (l.getD i tok0) := by
  rw [List.getD_eq_getElem?_getD, List.getElem?_eq_getElem h]; rfl
theorem getD_out {l : List Tok} {i : Nat} (h : l.length ≤ i) : l.getD i tok0 = tok0 := by
  rw [List.getD_eq_getElem?_getD, List.getElem?_eq_none h]; rfl
/-- Two cells are written into a box of the call's own. -/
theorem set2 {w wx : World} {b : Nat} {T : TypeId} {x y : Value} (h : Box wx b T #[x, y]) {S : Nat → Prop} (hf : Frm S w wx) (hb : w.heap.size ≤ b) (u v : Value) :
    Box ((wx.setCell ⟨b, 0, none⟩ u).setCell ⟨b, 1, none⟩ v) b T #[u, v] ∧ Frm S w ((wx.setCell ⟨b, 0, none⟩ u).setCell ⟨b, 1, none⟩ v) :=
  ⟨(h.set 0 u).set 1 v, (hf.setCell ⟨b, 0, none⟩ u (fun h => by have h2 : b < w.heap.size := h; omega)).setCell ⟨b, 1, none⟩ v (fun h => by have h2 : b < w.heap.size := h; omega)⟩
theorem set3 {w wx : World} {b : Nat} {T : TypeId} {x y z : Value} (h : Box wx b T #[x, y, z]) {S : Nat → Prop} (hf : Frm S w wx) (hb : w.heap.size ≤ b) (u v t : Value) :
    Box (((wx.setCell ⟨b, 0, none⟩ u).setCell ⟨b, 1, none⟩ v).setCell ⟨b, 2, none⟩ t) b T #[u, v, t] ∧ Frm S w (((wx.setCell ⟨b, 0, none⟩ u).setCell ⟨b, 1, none⟩ v).setCell ⟨b, 2, none⟩ t) :=
  ⟨((h.set 0 u).set 1 v).set 2 t, ((hf.setCell ⟨b, 0, none⟩ u (fun h => by have h2 : b < w.heap.size := h; omega)).setCell ⟨b, 1, none⟩ v (fun h => by have h2 : b < w.heap.size := h; omega)).setCell ⟨b, 2, none⟩ t (fun h => by have h2 : b < w.heap.size := h; omega)⟩

set_option maxHeartbeats 1000000 in
theorem done_all (w : World) (R n : Nat) (s : PS) (h : PW w R n s) :
    Calls Tryz.prog 60 #[.pointer (some ⟨R, 0, none⟩)] w fun e w' => e = .returned (.bool ((s.r.length : Int) == 0)) ∧ w' = w := by
  obtain ⟨ra, rc, hb, _⟩ := h
  have c0 : w.cell? ⟨R, 0, none⟩ = some (.slice ra s.r.length rc) := hb.cell 0
  clear hb
  go_enter Tryz.func60, Tryz.ntmps60
  go_wp2
  go_ret
  exact ⟨by first | rfl | simp, rfl⟩

set_option maxHeartbeats 1000000 in
theorem ahead_all (w : World) (R n : Nat) (s : PS) (h : PW w R n s) (i : Nat) (hi : i ≤ 10) :
    Calls Tryz.prog 144 #[.pointer (some ⟨R, 0, none⟩), .int .i64 (i : Int)] w fun e w' => e = .returned (tkV (ahead s i)) ∧ Frm No w w' := by
  obtain ⟨ra, rc, hb, hr⟩ := h
  have c0 : w.cell? ⟨R, 0, none⟩ = some (.slice ra s.r.length rc) := hb.cell 0
  have hRl := hb.lt
  have hln := hr.2.1
  have hRB := Box.new w tT tk0
  by_cases hlt : i < s.r.length
  · obtain ⟨h0, h1, h2⟩ := hr
    rcases h2 with h2 | ⟨g, o, cur, rfl, hg, ht⟩
    · rw [h2] at hlt; cases hlt
    · obtain ⟨k1, k2⟩ := ht i _ (getD_in hlt)
      have d1 : w.cell? ⟨g, o + i * 2, none⟩ = some (.string ⟨(s.r.getD i tok0).k.toArray⟩) := (hg.cell _).trans k1
      have d2 : w.cell? ⟨g, o + i * 2 + 1, none⟩ = some (.string ⟨(s.r.getD i tok0).t.toArray⟩) := (hg.cell _).trans k2
      have hgl := hg.lt
      have ht : decide ((s.r.length : Int) ≤ (i : Int)) = false := by rw [decide_eq_false_iff_not]; omega
      unfold ahead
      generalize s.r.getD i tok0 = T at *
      generalize s.r.length = L at *
      clear hb hg h0 h1 k1 k2
      go_enter Tryz.func144, Tryz.ntmps144
      go_wp2
      have hB := Box.new w tT (tkC T)
      have g0 := hB.cell 0
      have g1 := hB.cell 1
      exact bodyPost_ret (v := tkV T) (by simp [results, Tryz.results144, go_sem, g0, g1]) rfl ⟨rfl, (Frm.refl No w).alloc _⟩
  · unfold ahead
    rw [getD_out (by omega)]
    have ht : decide ((s.r.length : Int) ≤ (i : Int)) = true := by rw [decide_eq_true_iff]; omega
    generalize s.r.length = L at *
    clear hb hr
    go_enter Tryz.func144, Tryz.ntmps144
    go_wp2
    have g0 := hRB.cell 0
    have g1 := hRB.cell 1
    exact bodyPost_ret (v := .agg tk0) (by simp [results, Tryz.results144, go_sem, g0, g1]) rfl ⟨rfl, (Frm.refl No w).alloc _⟩

set_option maxHeartbeats 1000000 in
theorem peek_all (w : World) (R n : Nat) (s : PS) (h : PW w R n s) :
    Calls Tryz.prog 108 #[.pointer (some ⟨R, 0, none⟩)] w fun e w' => e = .returned (tkV (peek s)) ∧ Frm No w w' := by
  have hpk : ahead s 0 = peek s := by unfold ahead peek; cases s.r <;> rfl
  have HA := Lib.hid (fun W (hw : PW W R n s) => ahead_all W R n s hw 0 (by omega))
  have HP := Lib.hid (h.move ((Frm.refl No w).alloc (.cells tk0 tT)))
  have HX := Lib.hid (Box.new w tT tk0)
  rw [hpk] at HA
  generalize peek s = T at *
  clear h hpk
  go_enter Tryz.func108, Tryz.ntmps108
  go_wp2_with (go_at_call 144; go_must (refine (HA.out _ HP.out).mono ?_; rintro e w1 ⟨rfl, hf1⟩; have HX1 := Lib.hid (HX.out.frm hf1 id); have HF1 := Lib.hid (((Frm.refl No w).alloc (.cells tk0 tT)).trans hf1); have x0 : w1.cell? ⟨w.heap.size, 0, none⟩ = some (.string ⟨#[]⟩) := HX1.out.cell 0; have x1 : w1.cell? ⟨w.heap.size, 1, none⟩ = some (.string ⟨#[]⟩) := HX1.out.cell 1; have y0 := HX1.out.f 0; have y1 := HX1.out.f 1; clear hf1))
  obtain ⟨hB, hF⟩ := set2 HX1.out HF1.out (Nat.le_refl _) (.string ⟨T.k.toArray⟩) (.string ⟨T.t.toArray⟩)
  clear x0 x1 y0 y1
  generalize (w1.setCell ⟨w.heap.size, 0, none⟩ (.string ⟨T.k.toArray⟩)).setCell ⟨w.heap.size, 1, none⟩ (.string ⟨T.t.toArray⟩) = X at *
  have g0 := hB.cell 0
  have g1 := hB.cell 1
  exact bodyPost_ret (v := tkV T) (by simp [results, Tryz.results108, go_sem, g0, g1]) rfl ⟨rfl, hF⟩

theorem nextS_nil {s : PS} (h : s.r = []) : nextS s = s := by
  unfold nextS
  cases s
  simp only at h
  subst h
  rfl
theorem PW.set0 {w w' : World} {R n : Nat} {s : PS} {ra : Option Addr} {rc : Nat} (hb : Box w R tP (pC ra rc n s)) (ra2 : Option Addr) (l2 rc2 : Nat) (s' : PS) (hl : s'.r.length = l2) (hs : s'.f = s.f ∧ s'.k = s.k ∧ s'.l = s.l ∧ s'.s = s.s) : Box (w.setCell ⟨R, 0, none⟩ (.slice ra2 l2 rc2)) R tP (pC ra2 rc2 n s') := by
  have h := hb.set 0 (.slice ra2 l2 rc2)
  obtain ⟨e1, e2, e3, e4⟩ := hs
  unfold pC
  rw [e1, e2, e3, e4, hl]
  exact h

theorem next_end {w w1 : World} {R n : Nat} {s : PS} (h : PW w R n s) (hf : Frm No w w1) {ra : Option Addr} {rc l : Nat} (hb : Box w1 R tP #[.slice ra l rc, .bool s.f, .int .i64 n, .string ⟨s.k.toArray⟩, .int .i64 s.l, .bool s.s]) {x y : Value} (hx : Box w1 w.heap.size tT #[x, y]) (T : Tok) (ra2 : Option Addr) (rc2 l2 : Nat) (hl : (nextS s).r.length = l2) (ht : TR w ra2 rc2 (nextS s).r) :
    Box ((((w1.setCell ⟨R, 0, none⟩ (.slice ra2 l2 rc2)).setCell ⟨w.heap.size, 0, none⟩ (.string ⟨T.k.toArray⟩)).setCell ⟨w.heap.size, 1, none⟩ (.string ⟨T.t.toArray⟩)).alloc (.cells (tkC T) tT)) w.heap.size tT (tkC T) ∧
    PW ((((w1.setCell ⟨R, 0, none⟩ (.slice ra2 l2 rc2)).setCell ⟨w.heap.size, 0, none⟩ (.string ⟨T.k.toArray⟩)).setCell ⟨w.heap.size, 1, none⟩ (.string ⟨T.t.toArray⟩)).alloc (.cells (tkC T) tT)) R n (nextS s) ∧
    Frm (At R) w ((((w1.setCell ⟨R, 0, none⟩ (.slice ra2 l2 rc2)).setCell ⟨w.heap.size, 0, none⟩ (.string ⟨T.k.toArray⟩)).setCell ⟨w.heap.size, 1, none⟩ (.string ⟨T.t.toArray⟩)).alloc (.cells (tkC T) tT)) := by
  have hRl := h.lt
  have hne : w.heap.size ≠ R := by omega
  have hF : Frm (At R) w ((((w1.setCell ⟨R, 0, none⟩ (.slice ra2 l2 rc2)).setCell ⟨w.heap.size, 0, none⟩ (.string ⟨T.k.toArray⟩)).setCell ⟨w.heap.size, 1, none⟩ (.string ⟨T.t.toArray⟩)).alloc (.cells (tkC T) tT)) :=
    ((((hf.mono (S' := At R) (fun _ _ e => e.elim)).setCell ⟨R, 0, none⟩ _ (fun _ => rfl)).setCell ⟨w.heap.size, 0, none⟩ _ (fun h => absurd h (Nat.lt_irrefl _))).setCell ⟨w.heap.size, 1, none⟩ _ (fun h => absurd h (Nat.lt_irrefl _))).alloc _
  refine ⟨(((hx.set_ne _ (Ne.symm hne)).set 0 _).set 1 _).alloc _, h.to hF ra2 rc2 ?_ ht, hF⟩
  have k := (((hb.set 0 (.slice ra2 l2 rc2)).set_ne (o := 0) (.string ⟨T.k.toArray⟩) hne).set_ne (o := 1) (.string ⟨T.t.toArray⟩) hne).alloc (.cells (tkC T) tT)
  unfold pC
  rw [hl]
  exact k

set_option maxHeartbeats 4000000 in
theorem next_all (w : World) (R n : Nat) (s : PS) (h : PW w R n s) :
    Calls Tryz.prog 107 #[.pointer (some ⟨R, 0, none⟩)] w fun e w' => e = .returned (tkV (peek s)) ∧ PW w' R n (nextS s) ∧ Frm (At R) w w' := by
  have HA := Lib.hid (fun W (hw : PW W R n s) => peek_all W R n s hw)
  have HD := Lib.hid (fun W (hw : PW W R n s) => done_all W R n s hw)
  have HP := Lib.hid (h.move ((Frm.refl No w).alloc (.cells tk0 tT)))
  have HX := Lib.hid (Box.new w tT tk0)
  have HH := Lib.hid h
  obtain ⟨ra, rc, hbx, htr⟩ := h
  have HBX := Lib.hid hbx
  have hRl := hbx.lt
  have hln := htr.2.1
  have hne : w.heap.size ≠ R := by omega
  generalize hT : peek s = T at *
  by_cases hr : s.r = []
  · have hd : ((s.r.length : Int) == 0) = true := by rw [hr]; rfl
    rw [nextS_nil hr]
    clear hbx htr hT hr
    go_enter Tryz.func107, Tryz.ntmps107
    go_wp2_with (first | (go_at_call 108; go_must (refine (HA.out _ HP.out).mono ?_; rintro e w1 ⟨rfl, hf1⟩; have HX1 := Lib.hid (HX.out.frm hf1 id); have HP1 := Lib.hid ((HP.out.move hf1).move ((Frm.refl No w1).alloc (.cells (tkC T) tT))); have HF1 := Lib.hid (((Frm.refl No w).alloc (.cells tk0 tT)).trans hf1); have HBX1 := Lib.hid ((HBX.out.alloc (.cells tk0 tT)).frm hf1 id); have hl1 : w.heap.size < w1.heap.size := (by have := hf1.size; simp at this; omega); have x0 : w1.cell? ⟨w.heap.size, 0, none⟩ = some (.string ⟨#[]⟩) := HX1.out.cell 0; have x1 : w1.cell? ⟨w.heap.size, 1, none⟩ = some (.string ⟨#[]⟩) := HX1.out.cell 1; have y0 := HX1.out.f 0; have y1 := HX1.out.f 1; have cR : w1.cell? ⟨R, 0, none⟩ = some (.slice ra s.r.length rc) := HBX1.out.cell 0; have fR := HBX1.out.f 0; have hR1 : R < w1.heap.size := HBX1.out.lt; clear hf1)) | (go_at_call 60; go_must (refine (HD.out _ HP1.out).mono ?_; rintro e w2 ⟨rfl, rfl⟩)))
    obtain ⟨hB0, hF0⟩ := set2 HX1.out HF1.out (Nat.le_refl _) (.string ⟨T.k.toArray⟩) (.string ⟨T.t.toArray⟩)
    have hB := hB0.alloc (.cells (tkC T) tT)
    have hF := hF0.alloc (.cells (tkC T) tT)
    clear x0 x1 y0 y1 hB0 hF0 cR fR
    generalize ((w1.setCell ⟨w.heap.size, 0, none⟩ (.string ⟨T.k.toArray⟩)).setCell ⟨w.heap.size, 1, none⟩ (.string ⟨T.t.toArray⟩)).alloc (.cells (tkC T) tT) = X at *
    have g0 := hB.cell 0
    have g1 := hB.cell 1
    exact bodyPost_ret (v := tkV T) (by simp [results, Tryz.results107, go_sem, g0, g1]) rfl ⟨rfl, HH.out.move hF, hF.mono (fun _ _ e => e.elim)⟩
  · obtain ⟨t0, ts, hts⟩ : ∃ t ts, s.r = t :: ts := by
      cases h : s.r with
      | nil => exact absurd h hr
      | cons t ts => exact ⟨t, ts, rfl⟩
    have hL : s.r.length = ts.length + 1 := by rw [hts]; rfl
    have hnx : (nextS s).r = ts := by unfold nextS; rw [hts]; rfl
    obtain ⟨g, o, rfl⟩ : ∃ g o, ra = some ⟨g, o, none⟩ := by
      rcases htr.2.2 with h | ⟨g, o, cur, h, _⟩
      · exact absurd h hr
      · exact ⟨g, o, h⟩
    have htr2 := htr
    rw [hts] at htr2
    have hlc : ts.length + 1 ≤ rc := by have := htr.1; omega
    have HTL := Lib.hid (fun ra' h => TR.tail htr2 ra' h)
    have HNX := Lib.hid hnx
    have HL := Lib.hid hL
    have hbx2 := hbx
    unfold pC at hbx2
    rw [hL] at hbx2
    clear HBX
    have HBX := Lib.hid hbx2
    rw [hL] at hln HD
    obtain ⟨L, hLe⟩ : ∃ L, ts.length = L := ⟨_, rfl⟩
    rw [hLe] at hln HD HBX hlc
    have HLE := Lib.hid hLe
    clear hLe
    have hd : (((L + 1 : Nat) : Int) == 0) = false := by rw [beq_eq_false_iff_ne]; omega
    clear hbx hbx2 htr hT hr htr2 hL hnx
    go_enter Tryz.func107, Tryz.ntmps107
    go_wp2_with (first | (go_at_call 108; go_must (refine (HA.out _ HP.out).mono ?_; rintro e w1 ⟨rfl, hf1⟩; have HX1 := Lib.hid (HX.out.frm hf1 id); have HP1 := Lib.hid ((HP.out.move hf1).move ((Frm.refl No w1).alloc (.cells (tkC T) tT))); have HF1 := Lib.hid (((Frm.refl No w).alloc (.cells tk0 tT)).trans hf1); have HBX1 := Lib.hid ((HBX.out.alloc (.cells tk0 tT)).frm hf1 id); have hl1 : w.heap.size < w1.heap.size := (by have := hf1.size; simp at this; omega); have x0 : w1.cell? ⟨w.heap.size, 0, none⟩ = some (.string ⟨#[]⟩) := HX1.out.cell 0; have x1 : w1.cell? ⟨w.heap.size, 1, none⟩ = some (.string ⟨#[]⟩) := HX1.out.cell 1; have y0 := HX1.out.f 0; have y1 := HX1.out.f 1; have cR : w1.cell? ⟨R, 0, none⟩ = some (.slice (some ⟨g, o, none⟩) (L + 1) rc) := HBX1.out.cell 0; have fR := HBX1.out.f 0; have hR1 : R < w1.heap.size := HBX1.out.lt; clear hf1)) | (go_at_call 60; go_must (refine (HD.out _ HP1.out).mono ?_; rintro e w2 ⟨rfl, rfl⟩)))
    · have HE := next_end HH.out HF1.out HBX1.out HX1.out T (some ⟨g, o, none⟩) 0 L (by rw [HNX.out]; exact HLE.out) (by rw [HNX.out]; have h := HTL.out (some ⟨g, o, none⟩) (.inr (by omega)); rw [show rc - 1 = 0 by omega] at h; exact h)
      clear x0 x1 y0 y1 cR fR
      generalize (((w1.setCell ⟨R, 0, none⟩ (.slice (some ⟨g, o, none⟩) L 0)).setCell ⟨w.heap.size, 0, none⟩ (.string ⟨T.k.toArray⟩)).setCell ⟨w.heap.size, 1, none⟩ (.string ⟨T.t.toArray⟩)).alloc (.cells (tkC T) tT) = X at *
      have g0 := HE.1.cell 0
      have g1 := HE.1.cell 1
      exact bodyPost_ret (v := tkV T) (by simp [results, Tryz.results107, go_sem, g0, g1]) rfl ⟨rfl, HE.2⟩
    · have HE := next_end HH.out HF1.out HBX1.out HX1.out T (some ⟨g, o + 2, none⟩) (rc - 1) L (by rw [HNX.out]; exact HLE.out) (by rw [HNX.out]; exact HTL.out _ (.inl rfl))
      clear x0 x1 y0 y1 cR fR
      generalize (((w1.setCell ⟨R, 0, none⟩ (.slice (some ⟨g, o + 2, none⟩) L (rc - 1))).setCell ⟨w.heap.size, 0, none⟩ (.string ⟨T.k.toArray⟩)).setCell ⟨w.heap.size, 1, none⟩ (.string ⟨T.t.toArray⟩)).alloc (.cells (tkC T) tT) = X at *
      have g0 := HE.1.cell 0
      have g1 := HE.1.cell 1
      exact bodyPost_ret (v := tkV T) (by simp [results, Tryz.results107, go_sem, g0, g1]) rfl ⟨rfl, HE.2⟩
end Go.Proofs.YtgbibfhacjjaeaaGreat.syn

namespace Go.Proofs.YtgbibfhacjjaeaaGreat.syn
set_option linter.unusedVariables false set_option linter.unusedSimpArgs false
open Go.ChangeShapes Go.WideShapes Go.ChangeAt Go.RowKit Go.Proofs.YtgbibfhacjjaeaaGreat.base
open Go.Proofs.YtgbibfhacjjaeaaGreat.lexs (Tok kNl kNum kStr kEre kOp kName kFunc kWord kBuilt)

theorem op_all (w : World) (t : ByteArray) : Calls Tryz.prog 196 #[.string t] w fun e w' => e = .returned (.agg #[.string ⟨#[111, 112]⟩, .string t]) ∧ Frm No w w' := by
  have hB := Box.new w tT #[.string ⟨#[111, 112]⟩, .string t]
  go_enter Tryz.func196, Tryz.ntmps196
  go_wp2
  have g0 := hB.cell 0
  have g1 := hB.cell 1
  exact bodyPost_ret (v := .agg #[.string ⟨#[111, 112]⟩, .string t]) (by simp [results, Tryz.results196, go_sem, g0, g1]) rfl ⟨rfl, (Frm.refl No w).alloc _⟩
theorem word_all (w : World) (t : ByteArray) : Calls Tryz.prog 109 #[.string t] w fun e w' => e = .returned (.agg #[.string ⟨#[119, 111, 114, 100]⟩, .string t]) ∧ Frm No w w' := by
  have hB := Box.new w tT #[.string ⟨#[119, 111, 114, 100]⟩, .string t]
  go_enter Tryz.func109, Tryz.ntmps109
  go_wp2
  have g0 := hB.cell 0
  have g1 := hB.cell 1
  exact bodyPost_ret (v := .agg #[.string ⟨#[119, 111, 114, 100]⟩, .string t]) (by simp [results, Tryz.results109, go_sem, g0, g1]) rfl ⟨rfl, (Frm.refl No w).alloc _⟩

theorem st_held : Tryz.prog.stoodInHeld tT = false := by kernel_rfl
theorem eq_guard : Tryz.prog.eqGuardType Tryz.prog.depth tT = false := by kernel_rfl
theorem und_tok : Tryz.prog.underlying tT = some (.struct (Tryz.prog.fieldsOf tT)) := by kernel_rfl
theorem tl_list (l : List UInt8) : (⟨l.toArray⟩ : ByteArray).toList = l := by rw [Lib.toList_data]
theorem tok_same (a b : Tok) (W : World) : (Op.equalIn 10000 tT (tkV a) (tkV b)).run Tryz.prog W = .ok (a == b) W := by
  rw [run_equalIn_agg _ _ _ _ _ und_tok st_held]
  unfold Program.fieldsOf
  rw [Tryz.underlying69]
  have e9 := Tryz.underlying9
  have e : (a == b) = (a.k == b.k && a.t == b.t) := by
    rw [Bool.eq_iff_iff, Bool.and_eq_true, beq_iff_eq, beq_iff_eq, beq_iff_eq]
    constructor
    · rintro rfl; exact ⟨rfl, rfl⟩
    · rintro ⟨h1, h2⟩; cases a; cases b; simp_all
  rw [e]
  simp [go_sem, Op.eqFields, part, e9, tl_list]
  by_cases h1 : a.k = b.k
  · by_cases h2 : a.t = b.t
    · simp [h1, h2]
    · simp [h1, h2]
  · simp [h1]
theorem tok_neq (a b : Tok) (W : World) : (binOp .neq tT (tkV a) (tkV b)).run Tryz.prog W = .ok (.bool (!(a == b))) W := by
  rw [run_neq_struct, tok_same]; rfl
theorem tok_eql (a b : Tok) (W : World) : (binOp .eql tT (tkV a) (tkV b)).run Tryz.prog W = .ok (.bool (a == b)) W := by
  rw [run_eql_struct, tok_same]; rfl

set_option maxRecDepth 20000 in
set_option maxHeartbeats 2000000 in
theorem takeToken_all (w : World) (R n : Nat) (s : PS) (h : PW w R n s) (u : Tok) :
    Calls Tryz.prog 195 #[.pointer (some ⟨R, 0, none⟩), tkV u] w fun e w' => e = .returned (.bool (peek s == u)) ∧ PW w' R n (if peek s == u then nextS s else s) ∧ Frm (At R) w w' := by
  have HA := Lib.hid (fun W (hw : PW W R n s) => peek_all W R n s hw)
  have HN := Lib.hid (fun W (hw : PW W R n s) => next_all W R n s hw)
  have HP := Lib.hid (h.move ((Frm.refl No w).alloc (.cells (tkC u) tT)))
  have HX := Lib.hid (Box.new w tT (tkC u))
  have HF := Lib.hid ((Frm.refl No w).alloc (.cells (tkC u) tT))
  have hm := eq_guard
  have hnq := tok_neq (peek s) u
  clear h
  cases hq : (peek s == u)
  · go_enter Tryz.func195, Tryz.ntmps195
    go_wp2
    go_region_with (go_at_call 108; go_must (refine (HA.out _ (by exact HP.out)).mono ?_; rintro e w1 ⟨rfl, hf1⟩; have hf1' : Frm No (w.alloc (.cells (tkC u) tT)) w1 := ⟨hf1.1, hf1.2, hf1.3, hf1.4, hf1.5⟩; have HX1 := Lib.hid (HX.out.frm hf1' id); have HP1 := Lib.hid (HP.out.move hf1'); have HF1 := Lib.hid (HF.out.trans hf1'); have x0 := HX1.out.cell 0; have x1 := HX1.out.cell 1; clear hf1 hf1'))
    all_goals (go_wp2_with fail)
    all_goals (go_ret; exact ⟨rfl, HP1.out, HF1.out.mono (fun _ _ e => e.elim)⟩)
  · go_enter Tryz.func195, Tryz.ntmps195
    go_wp2
    go_region_with (go_at_call 108; go_must (refine (HA.out _ (by exact HP.out)).mono ?_; rintro e w1 ⟨rfl, hf1⟩; have hf1' : Frm No (w.alloc (.cells (tkC u) tT)) w1 := ⟨hf1.1, hf1.2, hf1.3, hf1.4, hf1.5⟩; have HX1 := Lib.hid (HX.out.frm hf1' id); have HP1 := Lib.hid (HP.out.move hf1'); have HF1 := Lib.hid (HF.out.trans hf1'); have x0 := HX1.out.cell 0; have x1 := HX1.out.cell 1; clear hf1 hf1'))
    all_goals (go_wp2_with (go_at_call 107; go_must (refine (HN.out _ (by exact HP1.out)).mono ?_; rintro e w2 ⟨rfl, hp2, hf2⟩; have HP2 := Lib.hid hp2; have HF2 := Lib.hid ((HF1.out.mono (S' := At R) (fun _ _ e => e.elim)).trans ⟨hf2.1, hf2.2, hf2.3, hf2.4, hf2.5⟩); clear hp2 hf2)))
    all_goals (go_ret; exact ⟨rfl, HP2.out, HF2.out⟩)

/-- What take answers. -/
def Tkn (w : World) (R n : Nat) (s : PS) (y : Bool) : Ending → World → Prop := fun e w' => e = .returned (.bool y) ∧ PW w' R n (if y then nextS s else s) ∧ Frm (At R) w w'
theorem take_all (w : World) (R n : Nat) (s : PS) (h : PW w R n s) (t : List UInt8) :
    Calls Tryz.prog 146 #[.pointer (some ⟨R, 0, none⟩), .string ⟨t.toArray⟩] w (Tkn w R n s (isOp s t)) := by
  have HT := Lib.hid (fun W (hw : PW W R n s) => takeToken_all W R n s hw ⟨kOp, t⟩)
  have HO := Lib.hid (fun W => op_all W ⟨t.toArray⟩)
  have HH := Lib.hid h
  clear h
  go_enter Tryz.func146, Tryz.ntmps146
  go_wp2_with (first | (go_at_call 196; go_must (refine (HO.out _).mono ?_; rintro e w1 ⟨rfl, hf1⟩; have HP1 := Lib.hid (HH.out.move hf1); have HF1 := Lib.hid hf1; clear hf1)) | (go_at_call 195; go_must (refine (HT.out _ HP1.out).mono ?_; rintro e w2 ⟨rfl, hp2, hf2⟩; have HP2 := Lib.hid hp2; have HF2 := Lib.hid ((HF1.out.mono (S' := At R) (fun _ _ e => e.elim)).trans hf2); clear hp2 hf2)))
  go_ret
  exact ⟨rfl, HP2.out, HF2.out⟩
theorem takeWord_all (w : World) (R n : Nat) (s : PS) (h : PW w R n s) (t : List UInt8) :
    Calls Tryz.prog 237 #[.pointer (some ⟨R, 0, none⟩), .string ⟨t.toArray⟩] w (Tkn w R n s (isWord s t)) := by
  have HT := Lib.hid (fun W (hw : PW W R n s) => takeToken_all W R n s hw ⟨kWord, t⟩)
  have HO := Lib.hid (fun W => word_all W ⟨t.toArray⟩)
  have HH := Lib.hid h
  clear h
  go_enter Tryz.func237, Tryz.ntmps237
  go_wp2_with (first | (go_at_call 109; go_must (refine (HO.out _).mono ?_; rintro e w1 ⟨rfl, hf1⟩; have HP1 := Lib.hid (HH.out.move hf1); have HF1 := Lib.hid hf1; clear hf1)) | (go_at_call 195; go_must (refine (HT.out _ HP1.out).mono ?_; rintro e w2 ⟨rfl, hp2, hf2⟩; have HP2 := Lib.hid hp2; have HF2 := Lib.hid ((HF1.out.mono (S' := At R) (fun _ _ e => e.elim)).trans hf2); clear hp2 hf2)))
  go_ret
  exact ⟨rfl, HP2.out, HF2.out⟩

/-- node: a node of its own two texts, and kids. -/
theorem node_all (w : World) (o t : ByteArray) (a : Option Addr) (l c : Nat) :
    Calls Tryz.prog 110 #[.string o, .string t, .slice a l c] w fun e w' => e = .returned (.agg #[.string o, .string t, .slice a l c]) ∧ Frm No w w' := by
  have hB := Box.new w tN #[.string o, .string t, .slice a l c]
  go_enter Tryz.func110, Tryz.ntmps110
  go_wp2
  have g0 := hB.cell 0
  have g1 := hB.cell 1
  have g2 := hB.cell 2
  exact bodyPost_ret (v := .agg #[.string o, .string t, .slice a l c]) (by simp [results, Tryz.results110, go_sem, g0, g1, g2]) rfl ⟨rfl, (Frm.refl No w).alloc _⟩
abbrev nd0 : Array Value := #[.string ⟨#[]⟩, .string ⟨#[]⟩, .slice none 0 0]
abbrev noneC : Array Value := #[.string ⟨#[110, 111, 110, 101]⟩, .string ⟨#[]⟩, .slice none 0 0]
theorem none_all (w : World) : Calls Tryz.prog 152 #[] w fun e w' => e = .returned (.agg noneC) ∧ Frm No w w' := by
  have HX := Lib.hid (Box.new w tN nd0)
  go_enter Tryz.func152, Tryz.ntmps152
  go_wp2_with (go_at_call 110; go_must (refine (node_all _ _ _ _ _ _).mono ?_; rintro e w1 ⟨rfl, hf1⟩; have HX1 := Lib.hid (HX.out.frm hf1 id); have HF1 := Lib.hid (((Frm.refl No w).alloc (.cells nd0 tN)).trans hf1); have x0 := HX1.out.cell 0; have x1 := HX1.out.cell 1; have x2 := HX1.out.cell 2; have y0 := HX1.out.f 0; have y1 := HX1.out.f 1; have y2 := HX1.out.f 2; clear hf1))
  obtain ⟨hB, hF⟩ := set3 HX1.out HF1.out (Nat.le_refl _) (.string ⟨#[110, 111, 110, 101]⟩) (.string ⟨#[]⟩) (.slice none 0 0)
  clear x0 x1 x2 y0 y1 y2
  generalize ((w1.setCell ⟨w.heap.size, 0, none⟩ (.string ⟨#[110, 111, 110, 101]⟩)).setCell ⟨w.heap.size, 1, none⟩ (.string ⟨#[]⟩)).setCell ⟨w.heap.size, 2, none⟩ (.slice none 0 0) = X at *
  have g0 := hB.cell 0
  have g1 := hB.cell 1
  have g2 := hB.cell 2
  exact bodyPost_ret (v := .agg noneC) (by simp [results, Tryz.results152, go_sem, g0, g1, g2]) rfl ⟨rfl, hF⟩
end Go.Proofs.YtgbibfhacjjaeaaGreat.syn

namespace Go.Proofs.YtgbibfhacjjaeaaGreat.syn
set_option linter.unusedVariables false set_option linter.unusedSimpArgs false
open Go.ChangeShapes Go.WideShapes Go.ChangeAt Go.RowKit Go.Proofs.YtgbibfhacjjaeaaGreat.base
open Go.Proofs.YtgbibfhacjjaeaaGreat.lexs (Tok kNl kNum kStr kEre kOp kName kFunc kWord kBuilt)

set_option maxHeartbeats 1000000 in
theorem fail_all (w : World) (R n : Nat) (s : PS) (h : PW w R n s) :
    Calls Tryz.prog 194 #[.pointer (some ⟨R, 0, none⟩)] w fun e w' => e = .returned (.agg noneC) ∧ PW w' R n (failS s) ∧ Frm (At R) w w' := by
  have HH := Lib.hid h
  obtain ⟨ra, rc, hbx, _⟩ := h
  have hRl := hbx.lt
  have hne : w.heap.size ≠ R := by omega
  have c0 : w.cell? ⟨R, 0, none⟩ = some (.slice ra s.r.length rc) := hbx.cell 0
  have c1 : w.cell? ⟨R, 1, none⟩ = some (.bool s.f) := hbx.cell 1
  have f0 := hbx.f 0
  have f1 := hbx.f 1
  have HB := Lib.hid (((hbx.set 1 (.bool true)).set 0 (.slice none 0 0)).alloc (.cells nd0 tN))
  have HX := Lib.hid (show Box (((w.setCell ⟨R, 1, none⟩ (.bool true)).setCell ⟨R, 0, none⟩ (.slice none 0 0)).alloc (.cells nd0 tN)) w.heap.size tN nd0 from by
    have h := Box.new ((w.setCell ⟨R, 1, none⟩ (.bool true)).setCell ⟨R, 0, none⟩ (.slice none 0 0)) tN nd0
    have hs : ((w.setCell ⟨R, 1, none⟩ (.bool true)).setCell ⟨R, 0, none⟩ (.slice none 0 0)).heap.size = w.heap.size := by simp
    rw [hs] at h
    exact h)
  have HF := Lib.hid ((((Frm.refl (At R) w).setCell ⟨R, 1, none⟩ (.bool true) (fun _ => rfl)).setCell ⟨R, 0, none⟩ (.slice none 0 0) (fun _ => rfl)).alloc (.cells nd0 tN))
  clear hbx
  go_enter Tryz.func194, Tryz.ntmps194
  go_wp2_with (go_at_call 152; go_must (refine (none_all _).mono ?_; rintro e w1 ⟨rfl, hf1⟩; have HX1 := Lib.hid (HX.out.frm hf1 id); have HB1 := Lib.hid (HB.out.frm hf1 id); have HF1 := Lib.hid (HF.out.trans (hf1.mono (S' := At R) (fun _ _ e => e.elim))); have x0 := HX1.out.cell 0; have x1 := HX1.out.cell 1; have x2 := HX1.out.cell 2; have y0 := HX1.out.f 0; have y1 := HX1.out.f 1; have y2 := HX1.out.f 2; clear hf1))
  obtain ⟨hB, hF⟩ := set3 HX1.out HF1.out (Nat.le_refl _) (.string ⟨#[110, 111, 110, 101]⟩) (.string ⟨#[]⟩) (.slice none 0 0)
  have hP := ((HB1.out.set_ne (o := 0) (.string ⟨#[110, 111, 110, 101]⟩) hne).set_ne (o := 1) (.string ⟨#[]⟩) hne).set_ne (o := 2) (.slice none 0 0) hne
  clear x0 x1 x2 y0 y1 y2
  generalize ((w1.setCell ⟨w.heap.size, 0, none⟩ (.string ⟨#[110, 111, 110, 101]⟩)).setCell ⟨w.heap.size, 1, none⟩ (.string ⟨#[]⟩)).setCell ⟨w.heap.size, 2, none⟩ (.slice none 0 0) = X at *
  have g0 := hB.cell 0
  have g1 := hB.cell 1
  have g2 := hB.cell 2
  exact bodyPost_ret (v := .agg noneC) (by simp [results, Tryz.results194, go_sem, g0, g1, g2]) rfl ⟨rfl, HH.out.to hF none 0 hP (TR.nil _ _ _), hF⟩

/-- What a function that reads no node answers. -/
def To (w : World) (R n : Nat) (s' : PS) : Ending → World → Prop := fun e w' => e = .returned (.tuple #[]) ∧ PW w' R n s' ∧ Frm (At R) w w'
set_option maxHeartbeats 1000000 in
theorem want_all (w : World) (R n : Nat) (s : PS) (h : PW w R n s) (t : List UInt8) :
    Calls Tryz.prog 145 #[.pointer (some ⟨R, 0, none⟩), .string ⟨t.toArray⟩] w (To w R n (wantO t s)) := by
  have HT := Lib.hid (take_all w R n s h t)
  have HFL := Lib.hid (fun W (hw : PW W R n s) => fail_all W R n s hw)
  unfold wantO
  clear h
  cases hq : isOp s t
  · rw [hq] at HT
    go_enter Tryz.func145, Tryz.ntmps145
    go_wp2_with (first | (go_at_call 146; go_must (refine (HT.out).mono ?_; rintro e w1 ⟨rfl, hp1, hf1⟩; have HP1 := Lib.hid hp1; have HF1 := Lib.hid hf1; clear hp1 hf1)) | (go_at_call 194; go_must (refine (HFL.out _ HP1.out).mono ?_; rintro e w2 ⟨rfl, hp2, hf2⟩; have HP2 := Lib.hid hp2; have HF2 := Lib.hid (HF1.out.trans hf2); clear hp2 hf2)))
    go_end0
    exact ⟨rfl, HP2.out, HF2.out⟩
  · rw [hq] at HT
    go_enter Tryz.func145, Tryz.ntmps145
    go_wp2_with (go_at_call 146; go_must (refine (HT.out).mono ?_; rintro e w1 ⟨rfl, hp1, hf1⟩; have HP1 := Lib.hid hp1; have HF1 := Lib.hid hf1; clear hp1 hf1))
    go_end0
    exact ⟨rfl, HP1.out, HF1.out⟩
set_option maxHeartbeats 1000000 in
theorem wantWord_all (w : World) (R n : Nat) (s : PS) (h : PW w R n s) (t : List UInt8) :
    Calls Tryz.prog 253 #[.pointer (some ⟨R, 0, none⟩), .string ⟨t.toArray⟩] w (To w R n (wantW t s)) := by
  have HT := Lib.hid (takeWord_all w R n s h t)
  have HFL := Lib.hid (fun W (hw : PW W R n s) => fail_all W R n s hw)
  unfold wantW
  clear h
  cases hq : isWord s t
  · rw [hq] at HT
    go_enter Tryz.func253, Tryz.ntmps253
    go_wp2_with (first | (go_at_call 237; go_must (refine (HT.out).mono ?_; rintro e w1 ⟨rfl, hp1, hf1⟩; have HP1 := Lib.hid hp1; have HF1 := Lib.hid hf1; clear hp1 hf1)) | (go_at_call 194; go_must (refine (HFL.out _ HP1.out).mono ?_; rintro e w2 ⟨rfl, hp2, hf2⟩; have HP2 := Lib.hid hp2; have HF2 := Lib.hid (HF1.out.trans hf2); clear hp2 hf2)))
    go_end0
    exact ⟨rfl, HP2.out, HF2.out⟩
  · rw [hq] at HT
    go_enter Tryz.func253, Tryz.ntmps253
    go_wp2_with (go_at_call 237; go_must (refine (HT.out).mono ?_; rintro e w1 ⟨rfl, hp1, hf1⟩; have HP1 := Lib.hid hp1; have HF1 := Lib.hid hf1; clear hp1 hf1))
    go_end0
    exact ⟨rfl, HP1.out, HF1.out⟩

set_option maxHeartbeats 1000000 in
theorem isName_all (w : World) (t : Tok) : Calls Tryz.prog 202 #[tkV t] w fun e w' => e = .returned (.bool (isName t)) ∧ Frm No w w' := by
  unfold isName kName kFunc
  go_enter Tryz.func202, Tryz.ntmps202
  go_wp2
  all_goals (go_ret; exact ⟨by simp_all, (Frm.refl No w).alloc _⟩)

theorem tok_f0 (a b : ByteArray) (W : World) : (Instr.field 69 (.agg #[.string a, .string b]) 0).run Tryz.prog W = .ok (.string a) W := by kernel_rfl
theorem tok_f1 (a b : ByteArray) (W : World) : (Instr.field 69 (.agg #[.string a, .string b]) 1).run Tryz.prog W = .ok (.string b) W := by kernel_rfl
set_option maxHeartbeats 1000000 in
theorem name_all (w : World) (R n : Nat) (s : PS) (h : PW w R n s) :
    Calls Tryz.prog 149 #[.pointer (some ⟨R, 0, none⟩)] w fun e w' => e = .returned (.string ⟨(name s).1.toArray⟩) ∧ PW w' R n (name s).2 ∧ Frm (At R) w w' := by
  have HA := Lib.hid (peek_all w R n s h)
  have HI := Lib.hid (fun W => isName_all W (peek s))
  have HFL := Lib.hid (fun W (hw : PW W R n s) => fail_all W R n s hw)
  have HN := Lib.hid (fun W q (hw : PW W R n q) => show Calls Tryz.prog 107 #[.pointer (some ⟨R, 0, none⟩)] W fun e w' => e = .returned (.agg #[.string ⟨(peek q).k.toArray⟩, .string ⟨(peek q).t.toArray⟩]) ∧ PW w' R n (nextS q) ∧ Frm (At R) W w' from next_all W R n q hw)
  have HH := Lib.hid h
  have hf1 := tok_f1
  unfold name nameS
  clear h
  cases hq : isName (peek s)
  · rw [hq] at HI
    go_enter Tryz.func149, Tryz.ntmps149
    go_wp2_with (first | (go_at_call 108; go_must (refine (HA.out).mono ?_; rintro e w1 ⟨rfl, hg1⟩; have HP1 := Lib.hid (HH.out.move hg1); have HF1 := Lib.hid hg1; clear hg1)) | (go_at_call 202; go_must (refine (HI.out _).mono ?_; rintro e w2 ⟨rfl, hf2⟩; have HP2 := Lib.hid (HP1.out.move hf2); have HF2 := Lib.hid ((HF1.out.trans hf2).mono (S' := At R) (fun _ _ e => e.elim)); clear hf2)) | (go_at_call 194; go_must (refine (HFL.out _ HP2.out).mono ?_; rintro e w3 ⟨rfl, hp3, hf3⟩; have HP3 := Lib.hid hp3; have HF3 := Lib.hid (HF2.out.trans hf3); clear hp3 hf3)) | (go_at_call 107; go_must (refine (HN.out _ _ HP3.out).mono ?_; rintro e w4 ⟨rfl, hp4, hf4⟩; have HP4 := Lib.hid hp4; have HF4 := Lib.hid (HF3.out.trans hf4); clear hp4 hf4)))
    go_ret
    exact ⟨rfl, HP4.out, HF4.out⟩
  · rw [hq] at HI
    go_enter Tryz.func149, Tryz.ntmps149
    go_wp2_with (first | (go_at_call 108; go_must (refine (HA.out).mono ?_; rintro e w1 ⟨rfl, hg1⟩; have HP1 := Lib.hid (HH.out.move hg1); have HF1 := Lib.hid hg1; clear hg1)) | (go_at_call 202; go_must (refine (HI.out _).mono ?_; rintro e w2 ⟨rfl, hf2⟩; have HP2 := Lib.hid (HP1.out.move hf2); have HF2 := Lib.hid ((HF1.out.trans hf2).mono (S' := At R) (fun _ _ e => e.elim)); clear hf2)) | (go_at_call 107; go_must (refine (HN.out _ _ HP2.out).mono ?_; rintro e w4 ⟨rfl, hp4, hf4⟩; have HP4 := Lib.hid hp4; have HF4 := Lib.hid (HF2.out.trans hf4); clear hp4 hf4)))
    go_ret
    exact ⟨rfl, HP4.out, HF4.out⟩

theorem cont_list (L : List B) (x : B) : Lib.containsS (L.map (fun l => (⟨l.toArray⟩ : ByteArray))) ⟨x.toArray⟩ = L.contains x := by
  unfold Lib.containsS
  rw [Bool.eq_iff_iff, decide_eq_true_iff, Lib.idxOfS_nonneg_iff, List.mem_map, List.contains_iff_mem]
  constructor
  · rintro ⟨l, hl, e⟩
    have : l = x := by
      have := congrArg (fun y : ByteArray => y.data.toList) e
      simpa using this
    rw [← this]; exact hl
  · intro h; exact ⟨x, h, rfl⟩
/-- The ops that at is asked for, in a row of the call's own. -/
def OpsR (w : World) (g : Nat) (L : List B) : Prop := Box w g 9 (L.map (fun l => Value.string ⟨l.toArray⟩)).toArray
set_option maxHeartbeats 1000000 in
theorem at_all (w : World) (R n : Nat) (s : PS) (h : PW w R n s) (g : Nat) (L : List B) (hg : OpsR w g L) (hL : L.length ≤ 1000) :
    Calls Tryz.prog 143 #[.pointer (some ⟨R, 0, none⟩), .slice (some ⟨g, 0, none⟩) L.length L.length] w fun e w' => e = .returned (.bool (atOp s L)) ∧ Frm No w w' := by
  have HA := Lib.hid (peek_all w R n s h)
  have HC := Lib.hid (fun (W : World) (hw : OpsR W g L) => show Calls Tryz.prog 193 #[.slice (some ⟨g, 0, none⟩) L.length L.length, .string ⟨(peek s).t.toArray⟩] W fun e w' => e = .returned (.bool (L.contains (peek s).t)) ∧ w' = W from by
    have k := Tryz.slices_Contains_string g 0 L.length L.length (L.map (fun l => (⟨l.toArray⟩ : ByteArray))) ⟨(peek s).t.toArray⟩ W (by simp) (by omega) (fun j hj => by
      rw [hw.cell]
      simp only [List.length_map] at hj
      simp [List.getD_eq_getElem?_getD, List.getElem?_eq_getElem hj])
    rw [List.take_of_length_le (by simp), cont_list] at k
    exact k)
  have HG := Lib.hid hg
  unfold atOp kOp
  generalize peek s = T at *
  obtain ⟨k, t⟩ := T
  clear h hg
  by_cases hk : k = [111, 112]
  · subst hk
    go_enter Tryz.func143, Tryz.ntmps143
    go_wp2_with (first | (go_at_call 108; go_must (refine (HA.out).mono ?_; rintro e w1 ⟨rfl, hf1⟩; have HG1 := Lib.hid (show OpsR (w1.alloc (.cells (tkC ⟨[111, 112], t⟩) tT)) g L from ((HG.out.frm hf1 id).alloc _)); have HF1 := Lib.hid (hf1.alloc (.cells (tkC ⟨[111, 112], t⟩) tT)); clear hf1)) | (go_at_call 193; go_must (refine (HC.out _ HG1.out).mono ?_; rintro e w2 ⟨rfl, rfl⟩)))
    go_ret
    exact ⟨by first | rfl | simp, HF1.out⟩
  · go_enter Tryz.func143, Tryz.ntmps143
    go_wp2_with (first | (go_at_call 108; go_must (refine (HA.out).mono ?_; rintro e w1 ⟨rfl, hf1⟩; have HF1 := Lib.hid (hf1.alloc (.cells (tkC ⟨k, t⟩) tT)); clear hf1)))
    go_ret
    exact ⟨by simp [hk], HF1.out⟩
end Go.Proofs.YtgbibfhacjjaeaaGreat.syn

namespace Go.Proofs.YtgbibfhacjjaeaaGreat.syn
set_option linter.unusedVariables false set_option linter.unusedSimpArgs false
open Go.ChangeShapes Go.WideShapes Go.ChangeAt Go.RowKit Go.Proofs.YtgbibfhacjjaeaaGreat.base
open Go.Proofs.YtgbibfhacjjaeaaGreat.lexs (Tok kNl kNum kStr kEre kOp kName kFunc kWord kBuilt)

set_option maxHeartbeats 1000000 in
theorem atEnd_all (w : World) (R n : Nat) (s : PS) (h : PW w R n s) :
    Calls Tryz.prog 106 #[.pointer (some ⟨R, 0, none⟩)] w fun e w' => e = .returned (.bool (atEnd s)) ∧ Frm No w w' := by
  have HA := Lib.hid (show Calls Tryz.prog 108 #[.pointer (some ⟨R, 0, none⟩)] w fun e w' => e = .returned (.agg #[.string ⟨(peek s).k.toArray⟩, .string ⟨(peek s).t.toArray⟩]) ∧ Frm No w w' from peek_all w R n s h)
  have HT := Lib.hid (fun (W : World) (hw : PW W R n s) (g : Nat) (hg : OpsR W g [o_semi]) => at_all W R n s hw g [o_semi] hg (by decide))
  have HH := Lib.hid h
  have ht0 := tok_f0
  have he : atEnd s = ((peek s).k == kNl || atOp s [o_semi]) := rfl
  rw [he]
  clear h he
  by_cases hk : (peek s).k = kNl
  · rw [hk] at HA ⊢
    unfold kNl at *
    generalize (peek s).t = t at *
    go_enter Tryz.func106, Tryz.ntmps106
    go_wp2_with (go_at_call 108; go_must (refine (HA.out).mono ?_; rintro e w1 ⟨rfl, hg1⟩; have HF1 := Lib.hid hg1; clear hg1))
    go_ret
    exact ⟨by first | rfl | simp, HF1.out⟩
  · have hkb : ((peek s).k == kNl) = false := by rw [beq_eq_false_iff_ne]; exact hk
    rw [hkb]
    unfold kNl at hk
    generalize (peek s).t = t at *
    generalize (peek s).k = k at *
    go_enter Tryz.func106, Tryz.ntmps106
    go_wp2_with (first | (go_at_call 108; go_must (refine (HA.out).mono ?_; rintro e w1 ⟨rfl, hg1⟩; have HF1 := Lib.hid (hg1.alloc (.cells #[.string ⟨#[59]⟩] 9)); have HP1 := Lib.hid ((HH.out.move hg1).move ((Frm.refl No w1).alloc (.cells #[.string ⟨#[59]⟩] 9))); have HO1 := Lib.hid (show OpsR (w1.alloc (.cells #[.string ⟨#[59]⟩] 9)) w1.heap.size [o_semi] from Box.new w1 9 #[.string ⟨#[59]⟩]); clear hg1)) | (go_at_call 143; go_must (refine (HT.out _ HP1.out _ HO1.out).mono ?_; rintro e w2 ⟨rfl, hg2⟩; have HF2 := Lib.hid (HF1.out.trans hg2); clear hg2)))
    go_ret
    exact ⟨by first | rfl | (simp; exact fun h => absurd h hk), HF2.out⟩

theorem dw_step {p : Tok → Bool} (hp : p tok0 = false) (s : PS) (h : p (peek s) = true) : s.r.dropWhile p = s.r.tail.dropWhile p ∧ s.r.tail.length < s.r.length := by
  unfold peek at h
  cases hr : s.r with
  | nil => rw [hr] at h; simp only [List.headD] at h; rw [hp] at h; cases h
  | cons a l =>
    rw [hr] at h
    simp only [List.headD] at h
    exact ⟨by rw [List.dropWhile_cons_of_pos h]; rfl, by simp⟩
theorem dw_stop {p : Tok → Bool} (s : PS) (h : p (peek s) = false) : s.r.dropWhile p = s.r := by
  unfold peek at h
  cases hr : s.r with
  | nil => rfl
  | cons a l =>
    rw [hr] at h
    simp only [List.headD] at h
    rw [List.dropWhile_cons_of_neg (by rw [h]; decide)]

set_option maxHeartbeats 1000000 in
theorem skipEnds_all (w : World) (R n : Nat) (s : PS) (h : PW w R n s) :
    Calls Tryz.prog 59 #[.pointer (some ⟨R, 0, none⟩)] w (To w R n (skipEnds s)) := by
  have HE := Lib.hid (fun W q (hw : PW W R n q) => atEnd_all W R n q hw)
  have HN := Lib.hid (fun W q (hw : PW W R n q) => next_all W R n q hw)
  have HH := Lib.hid h
  clear h
  go_enter Tryz.func59, Tryz.ntmps59
  go_wp2_with fail
  go_loopg [] s.r.length (fun gf wx => ∃ q : PS, q.r.length ≤ gf ∧ PW wx R n q ∧ Frm (At R) w wx ∧ skipEnds q = skipEnds s)
  case atStart => exact ⟨s, Nat.le_refl _, HH.out, Frm.refl _ _, rfl⟩
  case round =>
    obtain ⟨q, hq1, hq2, hq3, hq4⟩ := hrel
    have HQ2 := Lib.hid hq2
    have HQ3 := Lib.hid hq3
    have HQ4 := Lib.hid hq4
    have HQ1 := Lib.hid hq1
    have HEQ := Lib.hid (HE.out wr q hq2)
    clear hq1 hq2 hq3 hq4
    cases hc : atEnd q
    · have hs := HQ4.out
      rw [show skipEnds q = q by unfold skipEnds; rw [dw_stop q hc]] at hs
      have HS := Lib.hid hs
      clear hs
      rw [hc] at HEQ
      go_wp2_with (go_at_call 106; go_must (refine (HEQ.out).mono ?_; rintro e w1 ⟨rfl, hf1⟩; have HF1 := Lib.hid hf1; clear hf1))
      go_end0
      exact ⟨rfl, by rw [← HS.out]; exact HQ2.out.move HF1.out, HQ3.out.trans (HF1.out.mono (fun _ _ e => e.elim))⟩
    · have hst := dw_step (p := isEnd) (by decide) q hc
      have hs : skipEnds (nextS q) = skipEnds s := by
        rw [← HQ4.out]
        unfold skipEnds nextS
        rw [hst.1]
      have HS := Lib.hid hs
      have HL := Lib.hid hst.2
      clear hs hst
      rw [hc] at HEQ
      go_wp2_with (first | (go_at_call 106; go_must (refine (HEQ.out).mono ?_; rintro e w1 ⟨rfl, hf1⟩; have HF1 := Lib.hid hf1; clear hf1)) | (go_at_call 107; go_must (refine (HN.out _ _ (HQ2.out.move HF1.out)).mono ?_; rintro e w2 ⟨rfl, hp2, hf2⟩; have HP2 := Lib.hid hp2; have HF2 := Lib.hid ((HQ3.out.trans (HF1.out.mono (fun _ _ e => e.elim))).trans hf2); clear hp2 hf2)))
      go_roundg ((nextS q).r.length)
      case measure => have := HQ1.out; have := HL.out; have e : (nextS q).r.length = q.r.tail.length := rfl; omega
      case rel => exact ⟨nextS q, Nat.le_refl _, HP2.out, HF2.out, HS.out⟩
set_option maxHeartbeats 1000000 in
theorem skipLines_all (w : World) (R n : Nat) (s : PS) (h : PW w R n s) :
    Calls Tryz.prog 151 #[.pointer (some ⟨R, 0, none⟩)] w (To w R n (skipLines s)) := by
  have HE := Lib.hid (fun W q (hw : PW W R n q) => show Calls Tryz.prog 108 #[.pointer (some ⟨R, 0, none⟩)] W fun e w' => e = .returned (.agg #[.string ⟨(peek q).k.toArray⟩, .string ⟨(peek q).t.toArray⟩]) ∧ Frm No W w' from peek_all W R n q hw)
  have HN := Lib.hid (fun W q (hw : PW W R n q) => next_all W R n q hw)
  have HH := Lib.hid h
  have ht0 := tok_f0
  clear h
  go_enter Tryz.func151, Tryz.ntmps151
  go_wp2_with fail
  go_loopg [] s.r.length (fun gf wx => ∃ q : PS, q.r.length ≤ gf ∧ PW wx R n q ∧ Frm (At R) w wx ∧ skipLines q = skipLines s)
  case atStart => exact ⟨s, Nat.le_refl _, HH.out, Frm.refl _ _, rfl⟩
  case round =>
    obtain ⟨q, hq1, hq2, hq3, hq4⟩ := hrel
    have HQ2 := Lib.hid hq2
    have HQ3 := Lib.hid hq3
    have HQ4 := Lib.hid hq4
    have HQ1 := Lib.hid hq1
    have HEQ := Lib.hid (HE.out wr q hq2)
    clear hq1 hq2 hq3 hq4
    cases hc : isNl (peek q)
    · have hs := HQ4.out
      rw [show skipLines q = q by unfold skipLines; rw [dw_stop q hc]] at hs
      have HS := Lib.hid hs
      clear hs
      unfold isNl kNl at hc
      go_wp2_with (go_at_call 108; go_must (refine (HEQ.out).mono ?_; rintro e w1 ⟨rfl, hf1⟩; have HF1 := Lib.hid hf1; clear hf1))
      go_end0
      exact ⟨rfl, by rw [← HS.out]; exact HQ2.out.move HF1.out, HQ3.out.trans (HF1.out.mono (fun _ _ e => e.elim))⟩
    · have hst := dw_step (p := isNl) (by decide) q hc
      have hs : skipLines (nextS q) = skipLines s := by
        rw [← HQ4.out]
        unfold skipLines nextS
        rw [hst.1]
      have HS := Lib.hid hs
      have HL := Lib.hid hst.2
      clear hs hst
      unfold isNl kNl at hc
      go_wp2_with (first | (go_at_call 108; go_must (refine (HEQ.out).mono ?_; rintro e w1 ⟨rfl, hf1⟩; have HF1 := Lib.hid hf1; clear hf1)) | (go_at_call 107; go_must (refine (HN.out _ _ (HQ2.out.move HF1.out)).mono ?_; rintro e w2 ⟨rfl, hp2, hf2⟩; have HP2 := Lib.hid hp2; have HF2 := Lib.hid ((HQ3.out.trans (HF1.out.mono (fun _ _ e => e.elim))).trans hf2); clear hp2 hf2)))
      go_roundg ((nextS q).r.length)
      case measure => have := HQ1.out; have := HL.out; have e : (nextS q).r.length = q.r.tail.length := rfl; omega
      case rel => exact ⟨nextS q, Nat.le_refl _, HP2.out, HF2.out, HS.out⟩
end Go.Proofs.YtgbibfhacjjaeaaGreat.syn

namespace Go.Proofs.YtgbibfhacjjaeaaGreat.syn
set_option linter.unusedVariables false set_option linter.unusedSimpArgs false
open Go.ChangeShapes Go.WideShapes Go.ChangeAt Go.RowKit Go.Proofs.YtgbibfhacjjaeaaGreat.base
open Go.Proofs.YtgbibfhacjjaeaaGreat.lexs (Tok kNl kNum kStr kEre kOp kName kFunc kWord kBuilt)

/-- A method of the parser's, bound. -/
abbrev bnd (f : FuncId) (R : Nat) : Value := .func (.func f) #[.pointer (some ⟨R, 0, none⟩)] #[]

theorem PW.set2 {w : World} {R n m : Nat} {s : PS} (h : PW w R n s) : PW (w.setCell ⟨R, 2, none⟩ (.int .i64 m)) R m s := by
  have hf : Frm (At R) w (w.setCell ⟨R, 2, none⟩ (.int .i64 m)) := (Frm.refl (At R) w).setCell ⟨R, 2, none⟩ _ (fun _ => rfl)
  obtain ⟨ra, rc, hb, ht⟩ := h
  exact PW.to ⟨ra, rc, hb, ht⟩ hf ra rc (hb.set 2 (.int .i64 m)) ht

set_option maxHeartbeats 2000000 in
theorem inner_deep (w : World) (R : Nat) (s : PS) (h : PW w R 200 s) (v : Value) :
    Calls Tryz.prog 147 #[.pointer (some ⟨R, 0, none⟩), v] w (Ans w R 200 (failN s)) := by
  have hbx := h.box
  obtain ⟨ra, rc, hb⟩ := hbx
  have c2 : w.cell? ⟨R, 2, none⟩ = some (.int .i64 200) := hb.cell 2
  have hRl := hb.lt
  have HF := Lib.hid (fun W (hw : PW W R 200 s) => fail_all W R 200 s hw)
  have HP := Lib.hid (h.move ((Frm.refl No w).alloc (.cells nd0 tN)))
  have HX := Lib.hid (Box.new w tN nd0)
  have hne : w.heap.size ≠ R := by omega
  clear h hb
  go_enter Tryz.func147, Tryz.ntmps147
  go_wp2_with (go_at_call 194; go_must (refine (HF.out _ HP.out).mono ?_; rintro e w1 ⟨rfl, hp1, hf1⟩; have HP1 := Lib.hid hp1; have HX1 := Lib.hid (HX.out.frm hf1 hne); have HF1 := Lib.hid (((Frm.refl (At R) w).alloc (.cells nd0 tN)).trans hf1); have x0 := HX1.out.cell 0; have x1 := HX1.out.cell 1; have x2 := HX1.out.cell 2; have y0 := HX1.out.f 0; have y1 := HX1.out.f 1; have y2 := HX1.out.f 2; clear hp1 hf1))
  obtain ⟨hB, hF⟩ := set3 HX1.out HF1.out (Nat.le_refl _) (.string ⟨#[110, 111, 110, 101]⟩) (.string ⟨#[]⟩) (.slice none 0 0)
  have hP : PW (((w1.setCell ⟨w.heap.size, 0, none⟩ (.string ⟨#[110, 111, 110, 101]⟩)).setCell ⟨w.heap.size, 1, none⟩ (.string ⟨#[]⟩)).setCell ⟨w.heap.size, 2, none⟩ (.slice none 0 0)) R 200 (failS s) :=
    HP1.out.other (S := At w.heap.size) ((((Frm.refl (At w.heap.size) w1).setCell ⟨w.heap.size, 0, none⟩ _ (fun _ => rfl)).setCell ⟨w.heap.size, 1, none⟩ _ (fun _ => rfl)).setCell ⟨w.heap.size, 2, none⟩ _ (fun _ => rfl)) (fun g e _ => by cases e; exact ⟨tN, _, HX1.out, by decide, by decide⟩)
  clear x0 x1 x2 y0 y1 y2
  generalize ((w1.setCell ⟨w.heap.size, 0, none⟩ (.string ⟨#[110, 111, 110, 101]⟩)).setCell ⟨w.heap.size, 1, none⟩ (.string ⟨#[]⟩)).setCell ⟨w.heap.size, 2, none⟩ (.slice none 0 0) = X at *
  have g0 := hB.cell 0
  have g1 := hB.cell 1
  have g2 := hB.cell 2
  exact bodyPost_ret (v := .agg noneC) (by simp [results, Tryz.results147, go_sem, g0, g1, g2]) rfl ⟨none, 0, rfl, KV.nil _ _, hP, hF⟩

set_option maxHeartbeats 4000000 in
theorem inner_go (w : World) (R n : Nat) (hn : n < 200) (s : PS) (h : PW w R n s) (f : FuncId) (rd : Rd) (hc : RC f (n + 1) rd) (eg : ∀ args w, (callFunc f args).run Tryz.prog w = .ok (.enter f args) w) :
    Calls Tryz.prog 147 #[.pointer (some ⟨R, 0, none⟩), bnd f R] w (Ans w R n (rd s)) := by
  have hbx := h.box
  obtain ⟨ra, rc, hb⟩ := hbx
  have c2 : w.cell? ⟨R, 2, none⟩ = some (.int .i64 n) := hb.cell 2
  have hRl := hb.lt
  have f2 := hb.f 2
  have hn1 : ((n : Int) == 200) = false := by rw [beq_eq_false_iff_ne]; omega
  have hW : PW ((w.setCell ⟨R, 2, none⟩ (.int .i64 ((n : Int) + 1))).alloc (.cells nd0 tN)) R (n + 1) s := (show PW (w.setCell ⟨R, 2, none⟩ (.int .i64 ((n : Int) + 1))) R (n + 1) s from h.set2 (m := n + 1)).move ((Frm.refl No _).alloc _)
  have HC := Lib.hid (hc _ R s hW)
  have HW := Lib.hid hW
  have hne : w.heap.size ≠ R := by omega
  have HX := Lib.hid (show Box ((w.setCell ⟨R, 2, none⟩ (.int .i64 ((n : Int) + 1))).alloc (.cells nd0 tN)) w.heap.size tN nd0 from by
    have h := Box.new (w.setCell ⟨R, 2, none⟩ (.int .i64 ((n : Int) + 1))) tN nd0
    have hs : (w.setCell ⟨R, 2, none⟩ (.int .i64 ((n : Int) + 1))).heap.size = w.heap.size := by simp
    rw [hs] at h
    exact h)
  have HF := Lib.hid (((Frm.refl (At R) w).setCell ⟨R, 2, none⟩ (.int .i64 ((n : Int) + 1)) (fun _ => rfl)).alloc (.cells nd0 tN))
  generalize rd s = q at *
  obtain ⟨⟨o, t, k⟩, s'⟩ := q
  clear h hb hc hW
  go_enter Tryz.func147, Tryz.ntmps147
  go_wp2_with (go_at_fn f; go_must (refine (HC.out).mono ?_; rintro e w1 ⟨a, c, rfl, hk, hp, hf⟩; have HK1 := Lib.hid hk; have HP1 := Lib.hid hp; have HF1 := Lib.hid (HF.out.trans hf); have HX1 := Lib.hid (HX.out.frm hf hne); obtain ⟨ra1, rc1, hb1⟩ := hp.box; have c21 : w1.cell? ⟨R, 2, none⟩ = some (.int .i64 ((n : Int) + 1)) := hb1.cell 2; have f21 := hb1.f 2; have hR1 := hb1.lt; have hX1 := HX1.out.lt; have x0 := HX1.out.cell 0; have x1 := HX1.out.cell 1; have x2 := HX1.out.cell 2; have y0 := HX1.out.f 0; have y1 := HX1.out.f 1; have y2 := HX1.out.f 2; clear hk hp hf hb1))
  have hXa := HX1.out.set_ne (o := 2) (.int .i64 (n : Int)) (Ne.symm hne)
  have hP : PW (((((w1.setCell ⟨R, 2, none⟩ (.int .i64 (n : Int))).setCell ⟨w.heap.size, 0, none⟩ (.string ⟨o.toArray⟩)).setCell ⟨w.heap.size, 1, none⟩ (.string ⟨t.toArray⟩)).setCell ⟨w.heap.size, 2, none⟩ (.slice a k.len c)).alloc (.cells #[.string ⟨o.toArray⟩, .string ⟨t.toArray⟩, .slice a k.len c] tN)) R n s' :=
    ((HP1.out.set2 (m := n)).other (S := At w.heap.size) ((((Frm.refl (At w.heap.size) (w1.setCell ⟨R, 2, none⟩ (.int .i64 (n : Int)))).setCell ⟨w.heap.size, 0, none⟩ (.string ⟨o.toArray⟩) (fun _ => rfl)).setCell ⟨w.heap.size, 1, none⟩ (.string ⟨t.toArray⟩) (fun _ => rfl)).setCell ⟨w.heap.size, 2, none⟩ (.slice a k.len c) (fun _ => rfl)) (fun g e _ => by cases e; exact ⟨tN, _, hXa, by decide, by decide⟩)).move ((Frm.refl No _).alloc _)
  have hFX : Frm (At2 R w.heap.size) w1 (((((w1.setCell ⟨R, 2, none⟩ (.int .i64 (n : Int))).setCell ⟨w.heap.size, 0, none⟩ (.string ⟨o.toArray⟩)).setCell ⟨w.heap.size, 1, none⟩ (.string ⟨t.toArray⟩)).setCell ⟨w.heap.size, 2, none⟩ (.slice a k.len c)).alloc (.cells #[.string ⟨o.toArray⟩, .string ⟨t.toArray⟩, .slice a k.len c] tN)) :=
    ((((((Frm.refl (At2 R w.heap.size) w1).setCell ⟨R, 2, none⟩ (.int .i64 (n : Int)) (fun _ => .inl rfl)).setCell ⟨w.heap.size, 0, none⟩ (.string ⟨o.toArray⟩) (fun _ => .inr rfl)).setCell ⟨w.heap.size, 1, none⟩ (.string ⟨t.toArray⟩) (fun _ => .inr rfl)).setCell ⟨w.heap.size, 2, none⟩ (.slice a k.len c) (fun _ => .inr rfl)).alloc _)
  have hK : KV (((((w1.setCell ⟨R, 2, none⟩ (.int .i64 (n : Int))).setCell ⟨w.heap.size, 0, none⟩ (.string ⟨o.toArray⟩)).setCell ⟨w.heap.size, 1, none⟩ (.string ⟨t.toArray⟩)).setCell ⟨w.heap.size, 2, none⟩ (.slice a k.len c)).alloc (.cells #[.string ⟨o.toArray⟩, .string ⟨t.toArray⟩, .slice a k.len c] tN)) (fun g => w.heap.size ≤ g) (.slice a k.len c) k :=
    (HK1.out.frm hFX (fun g hg _ hs => by
      have hg2 : w.heap.size + 1 ≤ g := by simpa using hg
      rcases hs with e | e <;> omega)).mono (fun g hg _ => by
      have hg2 : w.heap.size + 1 ≤ g := by simpa using hg
      omega)
  have hF : Frm (At R) w (((((w1.setCell ⟨R, 2, none⟩ (.int .i64 (n : Int))).setCell ⟨w.heap.size, 0, none⟩ (.string ⟨o.toArray⟩)).setCell ⟨w.heap.size, 1, none⟩ (.string ⟨t.toArray⟩)).setCell ⟨w.heap.size, 2, none⟩ (.slice a k.len c)).alloc (.cells #[.string ⟨o.toArray⟩, .string ⟨t.toArray⟩, .slice a k.len c] tN)) :=
    ((((HF1.out.setCell ⟨R, 2, none⟩ (.int .i64 (n : Int)) (fun _ => rfl)).setCell ⟨w.heap.size, 0, none⟩ (.string ⟨o.toArray⟩) (fun h => absurd h (Nat.lt_irrefl _))).setCell ⟨w.heap.size, 1, none⟩ (.string ⟨t.toArray⟩) (fun h => absurd h (Nat.lt_irrefl _))).setCell ⟨w.heap.size, 2, none⟩ (.slice a k.len c) (fun h => absurd h (Nat.lt_irrefl _))).alloc _
  have hB := (((hXa.set 0 (.string ⟨o.toArray⟩)).set 1 (.string ⟨t.toArray⟩)).set 2 (.slice a k.len c)).alloc (.cells #[.string ⟨o.toArray⟩, .string ⟨t.toArray⟩, .slice a k.len c] tN)
  clear x0 x1 x2 y0 y1 y2 hXa hFX c21 f21
  generalize ((((w1.setCell ⟨R, 2, none⟩ (.int .i64 (n : Int))).setCell ⟨w.heap.size, 0, none⟩ (.string ⟨o.toArray⟩)).setCell ⟨w.heap.size, 1, none⟩ (.string ⟨t.toArray⟩)).setCell ⟨w.heap.size, 2, none⟩ (.slice a k.len c)).alloc (.cells #[.string ⟨o.toArray⟩, .string ⟨t.toArray⟩, .slice a k.len c] tN) = X at *
  have g0 := hB.cell 0
  have g1 := hB.cell 1
  have g2 := hB.cell 2
  exact bodyPost_ret (v := .agg #[.string ⟨o.toArray⟩, .string ⟨t.toArray⟩, .slice a k.len c]) (by simp [results, Tryz.results147, go_sem, g0, g1, g2]) rfl ⟨a, c, rfl, hK, hP, hF⟩

/-- inner, for a reading that is known one node deeper. -/
theorem inner_all (n : Nat) (hn : n ≤ 200) (f : FuncId) (rd : Rd) (hc : n < 200 → RC f (n + 1) rd) (eg : ∀ args w, (callFunc f args).run Tryz.prog w = .ok (.enter f args) w) (w : World) (R : Nat) (s : PS) (h : PW w R n s) :
    Calls Tryz.prog 147 #[.pointer (some ⟨R, 0, none⟩), bnd f R] w (Ans w R n (if n = 200 then failN s else rd s)) := by
  by_cases he : n = 200
  · subst he
    exact inner_deep w R s h _
  · rw [if_neg he]
    exact inner_go w R n (by omega) s h f rd (hc (by omega)) eg

set_option maxHeartbeats 1000000 in
theorem isPlace_all (w : World) (nd : Nd) (a : Option Addr) (c : Nat) : Calls Tryz.prog 204 #[.agg #[.string ⟨nd.op.toArray⟩, .string ⟨nd.tx.toArray⟩, .slice a nd.kids.len c]] w fun e w' => e = .returned (.bool (isPlace nd)) ∧ Frm No w w' := by
  unfold isPlace w_var w_elem w_field
  obtain ⟨o, t, k⟩ := nd
  go_enter Tryz.func204, Tryz.ntmps204
  go_wp2
  all_goals (go_ret; exact ⟨by simp_all, (Frm.refl No w).alloc _⟩)
end Go.Proofs.YtgbibfhacjjaeaaGreat.syn
