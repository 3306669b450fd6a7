/- Contracts of match's builder.loop and builder.rep. Contract of match's builder.rep. Contract of match's builder.build, apart from cat. -/
import Derived.Test.YtbfekknhmjndaaaGreatAlt
import Derived.Deep.Cut

namespace Go.Proofs.YtbfekknhmjndaaaGreat.part
set_option linter.unusedVariables false set_option linter.unusedSimpArgs false
open Go.ChangeShapes Go.WideShapes Go.ChangeAt Go.RowKit Go.Proofs.YtbfekknhmjndaaaGreat.base Go.Proofs.YtbfekknhmjndaaaGreat.spec Go.Proofs.YtbfekknhmjndaaaGreat.nfa Go.Proofs.YtbfekknhmjndaaaGreat.set Go.Proofs.YtbfekknhmjndaaaGreat.parts Go.Proofs.YtbfekknhmjndaaaGreat.items

theorem box_bw {w w' : World} {B BB g : Nat} {l : List St} {C : Array Value} (hB : BW w B BB l) (hf : Frm (SB w B BB) w w') (h : Box w g 100 C) : Box w' g 100 C := by
  obtain ⟨a, cap, D, hb, _⟩ := hB
  exact h.frm hf (fun e => by
    rcases e with e | ⟨_, D, e⟩
    · subst e; have h3 := box_ty hb h; revert h3; decide
    · have h3 := box_ty e h; revert h3; decide)
/-- Another next state of a fork. -/
theorem bw_patch {w : World} {B BB : Nat} {L : List St} (h : BW w B BB L) {i x y : Nat} (hi : L[i]? = some (.fork x y)) (n : Nat) : ∃ g cap, w.cell? ⟨BB, 0, none⟩ = some (.slice (some ⟨g, 0, none⟩) L.length cap) ∧ w.frozen? ⟨g, i * 4 + 2, none⟩ = false ∧ (∃ v, w.cell? ⟨g, i * 4 + 2, none⟩ = some v) ∧
    BW (w.setCell ⟨g, i * 4 + 2, none⟩ (.int .i64 (n : Int))) B BB (L.set i (.fork n y)) ∧ Frm (SB w B BB) w (w.setCell ⟨g, i * 4 + 2, none⟩ (.int .i64 (n : Int))) := by
  obtain ⟨a, cap, C, hb, ho, hs⟩ := h
  have hlt : i < L.length := (List.getElem?_eq_some_iff.1 hi).1
  obtain ⟨g, cap', hv, hBg, hglt⟩ := ho.form (by omega)
  cases hv
  have hCl := hs.len
  obtain ⟨k, px, y', z', h1, _, _, h4, _⟩ := hs.get hi
  have hgB : g ≠ BB := fun e => own_far ho hb (by decide) (by rw [e]; rfl)
  obtain ⟨_, _, cur, hgb⟩ := own_type ho (g := g) rfl
  have hfr : Frm (SB w B BB) w (w.setCell ⟨g, i * 4 + 2, none⟩ (.int .i64 (n : Int))) := Frm.setCell (Frm.refl _ _) ⟨g, i * 4 + 2, none⟩ _ (fun _ => Or.inr ⟨hBg, cur, hgb⟩)
  refine ⟨g, cap, hb.cell 0, ho.frozenAt _, ⟨_, (ho.cellAt (i * 4 + 2) (by omega)).trans h4⟩, ⟨some ⟨g, 0, none⟩, cap, _, ?_, ?_, (hs.patch hi n).go (fun fb f h => fb_sb hb hfr h)⟩, hfr⟩
  · rw [List.length_set]; exact hb.set_ne _ hgB
  · rw [List.length_set]; exact (ho.stored (i * 4 + 2) _).1

set_option maxRecDepth 20000 in
set_option maxHeartbeats 2000000 in
theorem loop_all (N : Nat) (IH : BIH N) (w : World) (t : T) (x ak : Option Addr) (ck : Nat) (hp : PT w All (.agg #[.string t.op, .pointer x, .slice ak t.kids.len ck, .int .i64 t.lo, .int .i64 t.hi]) t) (hN : nd t ≤ N) (hok : okT t) (B BB : Nat) (l : List St) (thn : Nat) (hbw : BW w B BB l) (hB : B ≤ w.heap.size) (hthn : thn < l.length) (hcst : costT t ≤ 4400) (hl : l.length + bud (nd t + 1) ≤ 1000000000) :
    Calls Tryz.prog 87 #[.pointer (some ⟨BB, 0, none⟩), .agg #[.string t.op, .pointer x, .slice ak t.kids.len ck, .int .i64 t.lo, .int .i64 t.hi], .int .i64 (thn : Int)] w (BldPost w B BB l thn (starR (relT t)) (costT t + 1)) := by
  have HIH := Lib.hid IH
  have hbt := bud_lt (show nd t < nd t + 1 by omega)
  have HP := Lib.hid hp
  have HOK := Lib.hid hok
  have HBW := Lib.hid hbw
  have HX := Lib.hid (Box.new w 100 #[.string t.op, .pointer x, .slice ak t.kids.len ck, .int .i64 t.lo, .int .i64 t.hi])
  have hlen1 : (l ++ [St.fork thn thn]).length = l.length + 1 := by simp
  have hl0 : (0 : Int) ≤ (l.length : Int) := by omega
  clear IH hp hok hbw
  go_enter Tryz.func87, Tryz.ntmps87
  go_wp2_with (first | (go_at_call 86; go_must (refine (fork_all _ B BB l (HBW.out.no ((Frm.refl No w).alloc (.cells #[.string t.op, .pointer x, .slice ak t.kids.len ck, .int .i64 t.lo, .int .i64 t.hi] 100))) (by rw [World.size_alloc]; omega) (by omega) thn thn).mono ?_; rintro en w2 ⟨rfl, hbw2, hf2⟩; have HBW2 := Lib.hid hbw2; have HF2 := Lib.hid (SB.then (SB.no ((Frm.refl No w).alloc _)) hf2); have HP2 := Lib.hid (pt_bw HBW.out HF2.out HP.out); have HX2 := Lib.hid (box_bw (HBW.out.no ((Frm.refl No w).alloc (.cells #[.string t.op, .pointer x, .slice ak t.kids.len ck, .int .i64 t.lo, .int .i64 t.hi] 100))) hf2 HX.out); have p0 := HX2.out.cell 0; have p1 := HX2.out.cell 1; have p2 := HX2.out.cell 2; have p3 := HX2.out.cell 3; have p4 := HX2.out.cell 4; have hsz2 := hf2.size; rw [World.size_alloc] at hsz2; clear hbw2 hf2)) | (go_at_call 52; go_must (refine (HIH.out t w2 _ B BB (l ++ [.fork thn thn]) l.length hN HP2.out HOK.out HBW2.out (by omega) (by omega) hcst (by omega)).mono ?_; rintro en w3 ⟨new, once, rfl, hbd⟩; have HBD := Lib.hid hbd; obtain ⟨g, cap, hc0, hfz, ⟨v, hcv⟩, hbw3, hf3⟩ := bw_patch hbd.bw (i := l.length) (x := thn) (y := thn) (by rw [List.append_assoc, List.getElem?_append_right (Nat.le_refl _), Nat.sub_self]; rfl) once; have HBW3 := Lib.hid hbw3; have HF3 := Lib.hid hf3; have hlt3 : (l.length : Int) < ((l ++ [St.fork thn thn] ++ new).length : Int) := (by rw [List.length_append]; omega); clear hbd hbw3 hf3)))
  go_ret
  have hln := HBD.out.len
  have hlt := HBD.out.lt
  have hin := HBD.out.inr
  have hfrag := HBD.out.frag
  rw [hlen1] at hlt hin hfrag
  have hset : (l ++ [St.fork thn thn] ++ new).set l.length (.fork once thn) = l ++ (.fork once thn :: new) := by
    rw [List.append_assoc, List.set_append_right _ _ (Nat.le_refl _), Nat.sub_self]; rfl
  refine ⟨.fork once thn :: new, l.length, rfl, ?_, SB.then HF2.out (SB.then HBD.out.frm HF3.out), hfrag.loop, by rw [List.length_cons, hln], by rw [List.length_cons]; omega, ?_⟩
  · rw [← hset]; exact HBW3.out
  · intro st hs z hz
    rw [List.length_cons]
    rcases List.mem_cons.1 hs with rfl | hs
    · simp only [targets, List.mem_cons, List.not_mem_nil, or_false] at hz
      rcases hz with rfl | rfl <;> omega
    · have := hin st hs z hz
      omega
end Go.Proofs.YtbfekknhmjndaaaGreat.part

namespace Go.Proofs.YtbfekknhmjndaaaGreat.part
set_option linter.unusedVariables false set_option linter.unusedSimpArgs false
open Go.ChangeShapes Go.WideShapes Go.ChangeAt Go.RowKit Go.Proofs.YtbfekknhmjndaaaGreat.base Go.Proofs.YtbfekknhmjndaaaGreat.spec Go.Proofs.YtbfekknhmjndaaaGreat.nfa Go.Proofs.YtbfekknhmjndaaaGreat.set Go.Proofs.YtbfekknhmjndaaaGreat.parts Go.Proofs.YtbfekknhmjndaaaGreat.items

/-- At the head of a round: i times are built that may be left out; i times that may not. -/
def OptAt (w : World) (B BB : Nat) (l : List St) (thn : Nat) (R : Rel) (c n : Nat) (sv iv : Value) (wr : World) (k : Nat) : Prop := ∃ (i : Nat) (new : List St) (start : Nat), i ≤ n ∧ k = n - i ∧ iv = .int .i64 (i : Int) ∧ sv = .int .i64 (start : Int) ∧ Bd w B BB l thn (optR R i) (i * c + i) new start wr
def PowAt (w : World) (B BB : Nat) (l : List St) (thn : Nat) (R Q : Rel) (c n0 n : Nat) (sv iv : Value) (wr : World) (k : Nat) : Prop := ∃ (i : Nat) (new : List St) (start : Nat), i ≤ n ∧ k = n - i ∧ iv = .int .i64 (i : Int) ∧ sv = .int .i64 (start : Int) ∧ Bd w B BB l thn (compR (powR R i) Q) (n0 + i * c) new start wr
theorem Bd.start {w : World} {B BB : Nat} {l : List St} {thn : Nat} (h : BW w B BB l) (ht : thn < l.length) : Bd w B BB l thn idR 0 [] thn w :=
  ⟨by rw [List.append_nil]; exact h, Frm.refl _ _, frag_id _ _, rfl, ht, fun st hs => by cases hs⟩
/-- One more time. -/
theorem Bd.more {w wr w1 w' : World} {B BB : Nat} {l : List St} {thn : Nat} {Q R : Rel} {n c : Nat} {new new2 : List St} {st st2 : Nat} (h : Bd w B BB l thn Q n new st wr) (hf : Frm No wr w1) (h2 : Bd w1 B BB (l ++ new) st R c new2 st2 w') : Bd w B BB l thn (compR R Q) (n + c) (new ++ new2) st2 w' := by
  have hl : (l ++ new).length = l.length + new.length := List.length_append
  have hfr := h2.frag
  have hlt := h2.lt
  have hin := h2.inr
  rw [hl] at hfr hlt hin
  refine ⟨by rw [← List.append_assoc]; exact h2.bw, SB.then h.frm (SB.then (SB.no hf) h2.frm), Frag.comp h.frag hfr, by rw [List.length_append, h.len, h2.len], by rw [List.length_append]; omega, ?_⟩
  exact (h.inr.mono (by rw [List.length_append]; omega)).append (hin.mono (by rw [List.length_append]; omega))
/-- Once more, or not at all. -/
theorem Bd.opt {w wr w1 w2 w' : World} {B BB : Nat} {l : List St} {thn : Nat} {Q R : Rel} {n c : Nat} {new new2 : List St} {st st2 : Nat} (ht : thn < l.length) (h : Bd w B BB l thn Q n new st wr) (hf : Frm No wr w1) (h2 : Bd w1 B BB (l ++ new) st R c new2 st2 w2) (h3 : BW w' B BB (l ++ new ++ new2 ++ [.fork st2 thn])) (hf3 : Frm (SB w2 B BB) w2 w') :
    Bd w B BB l thn (orR (compR R Q) idR) (n + c + 1) (new ++ new2 ++ [.fork st2 thn]) (l.length + (new ++ new2).length) w' := by
  have hm := h.more hf h2
  have hl : (l ++ new).length = l.length + new.length := List.length_append
  have hfr := h2.frag
  rw [hl] at hfr
  have hlm := hm.len
  have hlt := hm.lt
  have he : (new ++ new2 ++ [St.fork st2 thn]).length = (new ++ new2).length + 1 := by simp; omega
  refine ⟨by rw [← List.append_assoc, ← List.append_assoc]; exact h3, SB.then hm.frm hf3, Frag.opt h.frag hfr, by rw [he, hlm], by omega, ?_⟩
  refine (hm.inr.mono (by omega)).append (InR.one (fun x hx => ?_))
  simp only [targets, List.mem_cons, List.not_mem_nil, or_false] at hx
  rcases hx with rfl | rfl
  · omega
  · omega
theorem Bd.congr {w w' : World} {B BB : Nat} {l : List St} {thn : Nat} {Q R : Rel} {n m : Nat} {new : List St} {st : Nat} (h : Bd w B BB l thn Q n new st w') (hr : ∀ s i j, Q s i j ↔ R s i j) (hn : n = m) : Bd w B BB l thn R m new st w' :=
  ⟨h.bw, h.frm, h.frag.congr hr, h.len.trans hn, h.lt, h.inr⟩

set_option maxRecDepth 20000 in
set_option maxHeartbeats 4000000 in
theorem rep_star (N : Nat) (IH : BIH N) (w : World) (f : Forest) (t : T) (op : ByteArray) (x a : Option Addr) (cap : Nat) (lo hi : Int) (hk : PK w All (.slice a f.len cap) f) (hf1 : f.len = 1) (ht : nthF f 0 = some t) (hN : nd t ≤ N) (hok : okT t) (h1 : 0 ≤ lo) (h2 : lo ≤ 255) (h3 : hi = -1) (B BB : Nat) (l : List St) (thn : Nat) (hbw : BW w B BB l) (hB : B ≤ w.heap.size) (hthn : thn < l.length) (hcst : ((costT t + 1) + lo.toNat * costT t) ≤ 4400) (hl : l.length + bud (nd t + 1) ≤ 1000000000) :
    Calls Tryz.prog 69 #[.pointer (some ⟨BB, 0, none⟩), .agg #[.string op, .pointer x, .slice a f.len cap, .int .i64 lo, .int .i64 hi], .int .i64 (thn : Int)] w (BldPost w B BB l thn (compR (powR (relT t) lo.toNat) (starR (relT t))) ((costT t + 1) + lo.toNat * costT t)) := by
  subst h3
  obtain ⟨g, rfl, _, y, ak, ck, c0, c1, c2, c3, c4, hpt⟩ := hk.nth ht
  rw [Nat.zero_mul] at c0 c1 c2 c3 c4
  rw [Nat.zero_add] at c1 c2 c3 c4
  obtain ⟨ln, rfl⟩ : ∃ ln : Nat, lo = (ln : Int) := ⟨lo.toNat, by omega⟩
  rw [Int.toNat_natCast] at *
  have HIH := Lib.hid IH
  have hbt := bud_lt (show nd t < nd t + 1 by omega)
  have HOK := Lib.hid hok
  have HBW := Lib.hid hbw
  have HPT := Lib.hid hpt
  have HE := Lib.hid (Box.new w 100 #[.string op, .pointer x, .slice (some ⟨g, 0, none⟩) 1 cap, .int .i64 (ln : Int), .int .i64 (-1)])
  have glt := World.block_lt_of_cell? w _ c0
  have HF1 := Lib.hid ((Frm.refl No w).alloc (.cells #[.string op, .pointer x, .slice (some ⟨g, 0, none⟩) 1 cap, .int .i64 (ln : Int), .int .i64 (-1)] 100))
  have y0 := cell_frm HF1.out c0 id
  have y1 := cell_frm HF1.out c1 id
  have y2 := cell_frm HF1.out c2 id
  have y3 := cell_frm HF1.out c3 id
  have y4 := cell_frm HF1.out c4 id
  rw [hf1]
  clear IH hok hbw hk hpt c0 c1 c2 c3 c4
  go_enter Tryz.func69, Tryz.ntmps69
  go_upto_region 2 with (fail)
  have HK := Lib.hid (show Box ((w.alloc (.cells #[.string op, .pointer x, .slice (some ⟨g, 0, none⟩) 1 cap, .int .i64 (ln : Int), .int .i64 (-1)] 100)).alloc (.cells #[.string t.op, .pointer y, .slice ak t.kids.len ck, .int .i64 t.lo, .int .i64 t.hi] 100)) (w.heap.size + 1) 100 #[.string t.op, .pointer y, .slice ak t.kids.len ck, .int .i64 t.lo, .int .i64 t.hi] by
    have := Box.new (w.alloc (.cells #[.string op, .pointer x, .slice (some ⟨g, 0, none⟩) 1 cap, .int .i64 (ln : Int), .int .i64 (-1)] 100)) 100 #[.string t.op, .pointer y, .slice ak t.kids.len ck, .int .i64 t.lo, .int .i64 t.hi]
    rw [World.size_alloc] at this; exact this)
  have HE2 := Lib.hid (HE.out.alloc (.cells #[.string t.op, .pointer y, .slice ak t.kids.len ck, .int .i64 t.lo, .int .i64 t.hi] 100))
  have HF2 := Lib.hid (HF1.out.alloc (.cells #[.string t.op, .pointer y, .slice ak t.kids.len ck, .int .i64 t.lo, .int .i64 t.hi] 100))
  have HBW2 := Lib.hid (HBW.out.no HF2.out)
  have HPT2 := Lib.hid (HPT.out.move HF2.out)
  have hsz2 : ((w.alloc (.cells #[.string op, .pointer x, .slice (some ⟨g, 0, none⟩) 1 cap, .int .i64 (ln : Int), .int .i64 (-1)] 100)).alloc (.cells #[.string t.op, .pointer y, .slice ak t.kids.len ck, .int .i64 t.lo, .int .i64 t.hi] 100)).heap.size = w.heap.size + 1 + 1 := by rw [World.size_alloc, World.size_alloc]
  generalize ((w.alloc (.cells #[.string op, .pointer x, .slice (some ⟨g, 0, none⟩) 1 cap, .int .i64 (ln : Int), .int .i64 (-1)] 100)).alloc (.cells #[.string t.op, .pointer y, .slice ak t.kids.len ck, .int .i64 t.lo, .int .i64 t.hi] 100)) = w2 at HK HE2 HF2 HBW2 HPT2 hsz2 ⊢
  have q3 : w2.cell? ⟨w.heap.size, 3, none⟩ = some (.int .i64 (ln : Int)) := HE2.out.cell 3
  have q4 : w2.cell? ⟨w.heap.size, 4, none⟩ = some (.int .i64 (-1)) := HE2.out.cell 4
  have k0 := HK.out.cell 0
  have k1 := HK.out.cell 1
  have k2 := HK.out.cell 2
  have k3 := HK.out.cell 3
  have k4 := HK.out.cell 4
  go_wp2_with (first | (go_at_call 87; go_must (refine (loop_all N HIH.out w2 t y ak ck HPT2.out hN HOK.out B BB l thn HBW2.out (by omega) hthn (by omega) (by omega)).mono ?_; rintro en w4 ⟨new0, start0, rfl, hbd0⟩; have HBD0 := Lib.hid hbd0; have z3 : w4.cell? ⟨w.heap.size, 3, none⟩ = some (.int .i64 (ln : Int)) := (box_bw HBW2.out hbd0.frm HE2.out).cell 3; clear hbd0)))
  go_loopg [8, 38] ln (fun k sv iv wr => PowAt w2 B BB l thn (relT t) (starR (relT t)) (costT t) (costT t + 1) ln sv iv wr k)
  case atStart => exact ⟨0, new0, start0, Nat.zero_le _, rfl, rfl, rfl, HBD0.out.congr (fun s i j => (id_comp _ s i j).symm) (by simp)⟩
  case round =>
    obtain ⟨i, new, start, hi1, hk1, rfl, rfl, hbd⟩ := hrel
    have HBD := Lib.hid hbd
    have hszr := hbd.frm.size
    have HKr := Lib.hid (box_bw HBW2.out hbd.frm HK.out)
    have HPr := Lib.hid (pt_bw HBW2.out hbd.frm HPT2.out)
    have r0 := HKr.out.cell 0
    have r1 := HKr.out.cell 1
    have r2 := HKr.out.cell 2
    have r3 := HKr.out.cell 3
    have r4 := HKr.out.cell 4
    have hln := hbd.len
    have hst := hbd.lt
    have hlen2 : (l ++ new).length = l.length + new.length := List.length_append
    clear hbd
    by_cases hlt : i < ln
    · have hlt' : (i : Int) < (ln : Int) := by omega
      have hmul : (i + 1) * costT t ≤ ln * costT t := Nat.mul_le_mul_right _ hlt
      have hmul2 : (i + 1) * costT t = i * costT t + costT t := by rw [Nat.add_mul, Nat.one_mul]
      go_wp2_with ((go_at_call 52; go_must (refine (HIH.out t wr _ B BB (l ++ new) start hN HPr.out HOK.out HBD.out.bw (by omega) (by omega) (by omega) (by omega)).mono ?_; rintro en w3 ⟨new2, start2, rfl, hbd2⟩)))
      go_roundg (ln - (i + 1))
      case measure => omega
      case rel => exact ⟨i + 1, new ++ new2, start2, by omega, rfl, by go_num, rfl, (HBD.out.more (Frm.refl No wr) hbd2).congr (fun s i' j => (comp_assoc _ _ _ s i' j).symm) (by omega)⟩
    · obtain rfl : i = ln := by omega
      go_wp2
      go_ret
      exact ⟨new, start, rfl, HBD.out.bw, SB.then (SB.no HF2.out) HBD.out.frm, HBD.out.frag, by rw [hln], HBD.out.lt, HBD.out.inr⟩

set_option maxRecDepth 20000 in
set_option maxHeartbeats 4000000 in
theorem rep_opt (N : Nat) (IH : BIH N) (w : World) (f : Forest) (t : T) (op : ByteArray) (x a : Option Addr) (cap : Nat) (lo hi : Int) (hk : PK w All (.slice a f.len cap) f) (hf1 : f.len = 1) (ht : nthF f 0 = some t) (hN : nd t ≤ N) (hok : okT t) (h1 : 0 ≤ lo) (h2 : lo ≤ 255) (h3 : lo ≤ hi ∧ hi ≤ 255) (B BB : Nat) (l : List St) (thn : Nat) (hbw : BW w B BB l) (hB : B ≤ w.heap.size) (hthn : thn < l.length) (hcst : ((lo.toNat * costT t) + ((hi - lo).toNat * costT t + (hi - lo).toNat)) ≤ 4400) (hl : l.length + bud (nd t + 1) ≤ 1000000000) :
    Calls Tryz.prog 69 #[.pointer (some ⟨BB, 0, none⟩), .agg #[.string op, .pointer x, .slice a f.len cap, .int .i64 lo, .int .i64 hi], .int .i64 (thn : Int)] w (BldPost w B BB l thn (compR (powR (relT t) lo.toNat) (optR (relT t) (hi - lo).toNat)) ((lo.toNat * costT t) + ((hi - lo).toNat * costT t + (hi - lo).toNat))) := by
  obtain ⟨g, rfl, _, y, ak, ck, c0, c1, c2, c3, c4, hpt⟩ := hk.nth ht
  rw [Nat.zero_mul] at c0 c1 c2 c3 c4
  rw [Nat.zero_add] at c1 c2 c3 c4
  obtain ⟨ln, rfl⟩ : ∃ ln : Nat, lo = (ln : Int) := ⟨lo.toNat, by omega⟩
  obtain ⟨hn, rfl⟩ : ∃ hn : Nat, hi = ((ln : Int) + (hn : Int)) := ⟨(hi - ln).toNat, by omega⟩
  rw [show (((ln : Int) + (hn : Int)) - (ln : Int)).toNat = hn by omega] at *
  rw [Int.toNat_natCast] at *
  have hh : (((ln : Int) + (hn : Int)) == -1) = false := beq_eq_false_iff_ne.2 (by omega)
  have hsub : ((ln : Int) + (hn : Int)) - (ln : Int) = (hn : Int) := by omega
  have HIH := Lib.hid IH
  have hbt := bud_lt (show nd t < nd t + 1 by omega)
  have HOK := Lib.hid hok
  have HBW := Lib.hid hbw
  have HPT := Lib.hid hpt
  have HE := Lib.hid (Box.new w 100 #[.string op, .pointer x, .slice (some ⟨g, 0, none⟩) 1 cap, .int .i64 (ln : Int), .int .i64 ((ln : Int) + (hn : Int))])
  have glt := World.block_lt_of_cell? w _ c0
  have HF1 := Lib.hid ((Frm.refl No w).alloc (.cells #[.string op, .pointer x, .slice (some ⟨g, 0, none⟩) 1 cap, .int .i64 (ln : Int), .int .i64 ((ln : Int) + (hn : Int))] 100))
  have y0 := cell_frm HF1.out c0 id
  have y1 := cell_frm HF1.out c1 id
  have y2 := cell_frm HF1.out c2 id
  have y3 := cell_frm HF1.out c3 id
  have y4 := cell_frm HF1.out c4 id
  rw [hf1]
  clear IH hok hbw hk hpt c0 c1 c2 c3 c4
  go_enter Tryz.func69, Tryz.ntmps69
  go_upto_region 2 with (fail)
  have HK := Lib.hid (show Box ((w.alloc (.cells #[.string op, .pointer x, .slice (some ⟨g, 0, none⟩) 1 cap, .int .i64 (ln : Int), .int .i64 ((ln : Int) + (hn : Int))] 100)).alloc (.cells #[.string t.op, .pointer y, .slice ak t.kids.len ck, .int .i64 t.lo, .int .i64 t.hi] 100)) (w.heap.size + 1) 100 #[.string t.op, .pointer y, .slice ak t.kids.len ck, .int .i64 t.lo, .int .i64 t.hi] by
    have := Box.new (w.alloc (.cells #[.string op, .pointer x, .slice (some ⟨g, 0, none⟩) 1 cap, .int .i64 (ln : Int), .int .i64 ((ln : Int) + (hn : Int))] 100)) 100 #[.string t.op, .pointer y, .slice ak t.kids.len ck, .int .i64 t.lo, .int .i64 t.hi]
    rw [World.size_alloc] at this; exact this)
  have HE2 := Lib.hid (HE.out.alloc (.cells #[.string t.op, .pointer y, .slice ak t.kids.len ck, .int .i64 t.lo, .int .i64 t.hi] 100))
  have HF2 := Lib.hid (HF1.out.alloc (.cells #[.string t.op, .pointer y, .slice ak t.kids.len ck, .int .i64 t.lo, .int .i64 t.hi] 100))
  have HBW2 := Lib.hid (HBW.out.no HF2.out)
  have HPT2 := Lib.hid (HPT.out.move HF2.out)
  have hsz2 : ((w.alloc (.cells #[.string op, .pointer x, .slice (some ⟨g, 0, none⟩) 1 cap, .int .i64 (ln : Int), .int .i64 ((ln : Int) + (hn : Int))] 100)).alloc (.cells #[.string t.op, .pointer y, .slice ak t.kids.len ck, .int .i64 t.lo, .int .i64 t.hi] 100)).heap.size = w.heap.size + 1 + 1 := by rw [World.size_alloc, World.size_alloc]
  generalize ((w.alloc (.cells #[.string op, .pointer x, .slice (some ⟨g, 0, none⟩) 1 cap, .int .i64 (ln : Int), .int .i64 ((ln : Int) + (hn : Int))] 100)).alloc (.cells #[.string t.op, .pointer y, .slice ak t.kids.len ck, .int .i64 t.lo, .int .i64 t.hi] 100)) = w2 at HK HE2 HF2 HBW2 HPT2 hsz2 ⊢
  have q3 : w2.cell? ⟨w.heap.size, 3, none⟩ = some (.int .i64 (ln : Int)) := HE2.out.cell 3
  have q4 : w2.cell? ⟨w.heap.size, 4, none⟩ = some (.int .i64 ((ln : Int) + (hn : Int))) := HE2.out.cell 4
  have k0 := HK.out.cell 0
  have k1 := HK.out.cell 1
  have k2 := HK.out.cell 2
  have k3 := HK.out.cell 3
  have k4 := HK.out.cell 4
  go_wp2
  go_loopg [8, 26] hn (fun k sv iv wr => OptAt w2 B BB l thn (relT t) (costT t) hn sv iv wr k)
  case atStart => exact ⟨0, [], thn, Nat.zero_le _, rfl, rfl, rfl, (Bd.start HBW2.out hthn).congr (fun s i j => Iff.rfl) (by simp)⟩
  case round =>
    obtain ⟨i, new, start, hi1, hk1, rfl, rfl, hbd⟩ := hrel
    have HBD := Lib.hid hbd
    have hszr := hbd.frm.size
    have HKr := Lib.hid (box_bw HBW2.out hbd.frm HK.out)
    have HPr := Lib.hid (pt_bw HBW2.out hbd.frm HPT2.out)
    have z3 : wr.cell? ⟨w.heap.size, 3, none⟩ = some (.int .i64 (ln : Int)) := (box_bw HBW2.out hbd.frm HE2.out).cell 3
    have r0 := HKr.out.cell 0
    have r1 := HKr.out.cell 1
    have r2 := HKr.out.cell 2
    have r3 := HKr.out.cell 3
    have r4 := HKr.out.cell 4
    have hln := hbd.len
    have hst := hbd.lt
    have hlen2 : (l ++ new).length = l.length + new.length := List.length_append
    clear hbd
    by_cases hlt : i < hn
    · have hlt' : (i : Int) < (hn : Int) := by omega
      have hmul : (i + 1) * costT t ≤ hn * costT t := Nat.mul_le_mul_right _ hlt
      have hmul2 : (i + 1) * costT t = i * costT t + costT t := by rw [Nat.add_mul, Nat.one_mul]
      go_wp2_with (first | (go_at_call 52; go_must (refine (HIH.out t wr _ B BB (l ++ new) start hN HPr.out HOK.out HBD.out.bw (by omega) (by omega) (by omega) (by omega)).mono ?_; rintro en w3 ⟨new2, start2, rfl, hbd2⟩; have HBD2 := Lib.hid hbd2; have hln2 := hbd2.len; have hsz3 := hbd2.frm.size; have hlen3 : (l ++ new ++ new2).length = l.length + new.length + new2.length := (by rw [List.length_append, hlen2]); clear hbd2)) | (go_at_call 86; go_must (refine (fork_all w3 B BB (l ++ new ++ new2) HBD2.out.bw (by omega) (by omega) start2 thn).mono ?_; rintro en w4 ⟨rfl, hbw4, hf4⟩)))
      go_roundg (hn - (i + 1))
      case measure => omega
      case rel => exact ⟨i + 1, new ++ new2 ++ [St.fork start2 thn], l.length + (new ++ new2).length, by omega, rfl, by go_num, congrArg (Value.int IntKind.i64) (by rw [List.length_append]; omega), Bd.congr (R := optR (relT t) (i + 1)) (Bd.opt hthn HBD.out (Frm.refl No wr) HBD2.out hbw4 hf4) (fun s i' j => Iff.rfl) (by omega)⟩
    · obtain rfl : i = hn := by omega
      obtain ⟨new0, rfl⟩ : ∃ n0, n0 = new := ⟨_, rfl⟩
      have HBD0 := HBD
      go_wp2
      go_loopg [8, 38] ln (fun k sv iv wr => PowAt w2 B BB l thn (relT t) (optR (relT t) i) (costT t) (i * costT t + i) ln sv iv wr k)
      case atStart => exact ⟨0, new0, start, Nat.zero_le _, rfl, rfl, rfl, HBD0.out.congr (fun s i j => (id_comp _ s i j).symm) (by simp)⟩
      case round =>
        obtain ⟨j, new, start, hi1, hk1, rfl, rfl, hbd⟩ := hrel
        have HBD := Lib.hid hbd
        have hszr := hbd.frm.size
        have HKr := Lib.hid (box_bw HBW2.out hbd.frm HK.out)
        have HPr := Lib.hid (pt_bw HBW2.out hbd.frm HPT2.out)
        have r0 := HKr.out.cell 0
        have r1 := HKr.out.cell 1
        have r2 := HKr.out.cell 2
        have r3 := HKr.out.cell 3
        have r4 := HKr.out.cell 4
        have hln := hbd.len
        have hst := hbd.lt
        have hlen2 : (l ++ new).length = l.length + new.length := List.length_append
        clear hbd
        by_cases hlt : j < ln
        · have hlt' : (j : Int) < (ln : Int) := by omega
          have hmul : (j + 1) * costT t ≤ ln * costT t := Nat.mul_le_mul_right _ hlt
          have hmul2 : (j + 1) * costT t = j * costT t + costT t := by rw [Nat.add_mul, Nat.one_mul]
          go_wp2_with ((go_at_call 52; go_must (refine (HIH.out t wr _ B BB (l ++ new) start hN HPr.out HOK.out HBD.out.bw (by omega) (by omega) (by omega) (by omega)).mono ?_; rintro en w3 ⟨new2, start2, rfl, hbd2⟩)))
          go_roundg (ln - (j + 1))
          case measure => omega
          case rel => exact ⟨j + 1, new ++ new2, start2, by omega, rfl, by go_num, rfl, (HBD.out.more (Frm.refl No wr) hbd2).congr (fun s i' j' => (comp_assoc _ _ _ s i' j').symm) (by omega)⟩
        · obtain rfl : j = ln := by omega
          go_wp2
          go_ret
          exact ⟨new, start, rfl, HBD.out.bw, SB.then (SB.no HF2.out) HBD.out.frm, HBD.out.frag, by rw [hln]; omega, HBD.out.lt, HBD.out.inr⟩
end Go.Proofs.YtbfekknhmjndaaaGreat.part

namespace Go.Proofs.YtbfekknhmjndaaaGreat.part
set_option linter.unusedVariables false set_option linter.unusedSimpArgs false
open Go.ChangeShapes Go.WideShapes Go.ChangeAt Go.RowKit Go.Proofs.YtbfekknhmjndaaaGreat.base Go.Proofs.YtbfekknhmjndaaaGreat.spec Go.Proofs.YtbfekknhmjndaaaGreat.nfa Go.Proofs.YtbfekknhmjndaaaGreat.set Go.Proofs.YtbfekknhmjndaaaGreat.parts Go.Proofs.YtbfekknhmjndaaaGreat.items

theorem Bd.one {w w' : World} {B BB : Nat} {l : List St} {thn : Nat} {R : Rel} {st : St} (hb : BW w' B BB (l ++ [st])) (hf : Frm (SB w B BB) w w') (hr : Frag l.length [st] l.length thn R) (ht : ∀ x ∈ targets st, x < l.length) : Bd w B BB l thn R 1 [st] l.length w' := by
  have e : [st].length = 1 := rfl
  exact ⟨hb, hf, hr, rfl, by omega, InR.one (fun x hx => by have := ht x hx; omega)⟩
theorem Bd.pre {w w1 w' : World} {B BB : Nat} {l : List St} {thn : Nat} {R : Rel} {n : Nat} {new : List St} {start : Nat} (h : Bd w1 B BB l thn R n new start w') (hf : Frm No w w1) : Bd w B BB l thn R n new start w' :=
  ⟨h.bw, SB.then (SB.no hf) h.frm, h.frag, h.len, h.lt, h.inr⟩
theorem box3b (w : World) (T1 T2 T3 : TypeId) (A B C : Array Value) : Frm No w (((w.alloc (.cells A T1)).alloc (.cells B T2)).alloc (.cells C T3)) := ((((Frm.refl No w).alloc _).alloc _).alloc _)

section
variable (w : World) (t : T) (x ak : Option Addr) (ck : Nat) (B BB : Nat) (l : List St) (thn : Nat)

set_option maxRecDepth 20000 in
set_option maxHeartbeats 400000 in
theorem build_set (hop : t.op = setW) (hp : PT w All (.agg #[.string t.op, .pointer x, .slice ak t.kids.len ck, .int .i64 t.lo, .int .i64 t.hi]) t) (hbw : BW w B BB l) (hB : B ≤ w.heap.size) (hthn : thn < l.length) (hcst : costT t ≤ 4400) (hl : l.length + bud (nd t) ≤ 1000000000) :
    Calls Tryz.prog 52 #[.pointer (some ⟨BB, 0, none⟩), .agg #[.string t.op, .pointer x, .slice ak t.kids.len ck, .int .i64 t.lo, .int .i64 t.hi], .int .i64 (thn : Int)] w (BldPost w B BB l thn (relT t) (costT t)) := by
  have HF := Lib.hid (box3b w 125 100 3 #[.pointer (some ⟨BB, 0, none⟩)] #[.string t.op, .pointer x, .slice ak t.kids.len ck, .int .i64 t.lo, .int .i64 t.hi] #[.int .i64 (thn : Int)])
  have HBW3 := Lib.hid (hbw.no HF.out)
  have hsz : (((w.alloc (.cells #[.pointer (some ⟨BB, 0, none⟩)] 125)).alloc (.cells #[.string t.op, .pointer x, .slice ak t.kids.len ck, .int .i64 t.lo, .int .i64 t.hi] 100)).alloc (.cells #[.int .i64 (thn : Int)] 3)).heap.size = w.heap.size + 1 + 1 + 1 := by rw [World.size_alloc, World.size_alloc, World.size_alloc]
  have h_set : (t.op.toList == [115, 101, 116]) = true := by rw [hop]; decide +kernel
  obtain ⟨x', ak', ck', hv, hset, hkk⟩ := hp
  cases hv
  obtain ⟨fb, hfb, hFB⟩ := hset hop
  have HFB := Lib.hid (show FB _ fb (inS t.set) from Box.frm hFB HF.out id)
  clear hFB
  have HX := Lib.hid hfb
  clear hfb
  have hc : costT t = 1 := by unfold costT costN; rw [if_pos (by simp [hop])]
  have hr : relT t = takeR (inS t.set) := by unfold relT nodeR; rw [if_pos hop]
  rw [hc, hr]
  clear hset hkk hbw hop
  go_enter Tryz.func52, Tryz.ntmps52
  go_wp2_with ((go_at_call 51; go_must (refine (add_all _ B BB l HBW3.out (by omega) (by omega) (.take (inS t.set) thn) 1 (thn : Int) 0 x ⟨rfl, rfl, fb, HX.out, HFB.out⟩).mono ?_; rintro en w2 ⟨rfl, hb2, hf2⟩)))
  go_ret
  exact ⟨_, _, rfl, (Bd.one hb2 hf2 (frag_take _ _ _) (fun x hx => by simp only [targets, List.mem_cons, List.not_mem_nil, or_false] at hx; omega)).pre HF.out⟩

set_option maxRecDepth 20000 in
set_option maxHeartbeats 400000 in
theorem build_bol (hop : t.op = bolW) (hp : PT w All (.agg #[.string t.op, .pointer x, .slice ak t.kids.len ck, .int .i64 t.lo, .int .i64 t.hi]) t) (hbw : BW w B BB l) (hB : B ≤ w.heap.size) (hthn : thn < l.length) (hcst : costT t ≤ 4400) (hl : l.length + bud (nd t) ≤ 1000000000) :
    Calls Tryz.prog 52 #[.pointer (some ⟨BB, 0, none⟩), .agg #[.string t.op, .pointer x, .slice ak t.kids.len ck, .int .i64 t.lo, .int .i64 t.hi], .int .i64 (thn : Int)] w (BldPost w B BB l thn (relT t) (costT t)) := by
  have HF := Lib.hid (box3b w 125 100 3 #[.pointer (some ⟨BB, 0, none⟩)] #[.string t.op, .pointer x, .slice ak t.kids.len ck, .int .i64 t.lo, .int .i64 t.hi] #[.int .i64 (thn : Int)])
  have HBW3 := Lib.hid (hbw.no HF.out)
  have hsz : (((w.alloc (.cells #[.pointer (some ⟨BB, 0, none⟩)] 125)).alloc (.cells #[.string t.op, .pointer x, .slice ak t.kids.len ck, .int .i64 t.lo, .int .i64 t.hi] 100)).alloc (.cells #[.int .i64 (thn : Int)] 3)).heap.size = w.heap.size + 1 + 1 + 1 := by rw [World.size_alloc, World.size_alloc, World.size_alloc]
  have h_set : (t.op.toList == [115, 101, 116]) = false := by rw [hop]; decide +kernel
  have h_bol : (t.op.toList == [98, 111, 108]) = true := by rw [hop]; decide +kernel
  have hc : costT t = 1 := by unfold costT costN; rw [if_pos (by simp [hop])]
  have hr : relT t = bolR := by unfold relT nodeR; rw [hop]; rfl
  rw [hc, hr]
  clear hp hbw hop
  go_enter Tryz.func52, Tryz.ntmps52
  go_wp2_with ((go_at_call 51; go_must (refine (add_all _ B BB l HBW3.out (by omega) (by omega) (.bol thn) 3 (thn : Int) 0 none ⟨rfl, rfl⟩).mono ?_; rintro en w2 ⟨rfl, hb2, hf2⟩)))
  go_ret
  exact ⟨_, _, rfl, (Bd.one hb2 hf2 (frag_bol _ _) (fun x hx => by simp only [targets, List.mem_cons, List.not_mem_nil, or_false] at hx; omega)).pre HF.out⟩

set_option maxRecDepth 20000 in
set_option maxHeartbeats 400000 in
theorem build_eol (hop : t.op = eolW) (hp : PT w All (.agg #[.string t.op, .pointer x, .slice ak t.kids.len ck, .int .i64 t.lo, .int .i64 t.hi]) t) (hbw : BW w B BB l) (hB : B ≤ w.heap.size) (hthn : thn < l.length) (hcst : costT t ≤ 4400) (hl : l.length + bud (nd t) ≤ 1000000000) :
    Calls Tryz.prog 52 #[.pointer (some ⟨BB, 0, none⟩), .agg #[.string t.op, .pointer x, .slice ak t.kids.len ck, .int .i64 t.lo, .int .i64 t.hi], .int .i64 (thn : Int)] w (BldPost w B BB l thn (relT t) (costT t)) := by
  have HF := Lib.hid (box3b w 125 100 3 #[.pointer (some ⟨BB, 0, none⟩)] #[.string t.op, .pointer x, .slice ak t.kids.len ck, .int .i64 t.lo, .int .i64 t.hi] #[.int .i64 (thn : Int)])
  have HBW3 := Lib.hid (hbw.no HF.out)
  have hsz : (((w.alloc (.cells #[.pointer (some ⟨BB, 0, none⟩)] 125)).alloc (.cells #[.string t.op, .pointer x, .slice ak t.kids.len ck, .int .i64 t.lo, .int .i64 t.hi] 100)).alloc (.cells #[.int .i64 (thn : Int)] 3)).heap.size = w.heap.size + 1 + 1 + 1 := by rw [World.size_alloc, World.size_alloc, World.size_alloc]
  have h_set : (t.op.toList == [115, 101, 116]) = false := by rw [hop]; decide +kernel
  have h_bol : (t.op.toList == [98, 111, 108]) = false := by rw [hop]; decide +kernel
  have h_eol : (t.op.toList == [101, 111, 108]) = true := by rw [hop]; decide +kernel
  have hc : costT t = 1 := by unfold costT costN; rw [if_pos (by simp [hop])]
  have hr : relT t = eolR := by unfold relT nodeR; rw [hop]; rfl
  rw [hc, hr]
  clear hp hbw hop
  go_enter Tryz.func52, Tryz.ntmps52
  go_wp2_with ((go_at_call 51; go_must (refine (add_all _ B BB l HBW3.out (by omega) (by omega) (.eol thn) 4 (thn : Int) 0 none ⟨rfl, rfl⟩).mono ?_; rintro en w2 ⟨rfl, hb2, hf2⟩)))
  go_ret
  exact ⟨_, _, rfl, (Bd.one hb2 hf2 (frag_eol _ _) (fun x hx => by simp only [targets, List.mem_cons, List.not_mem_nil, or_false] at hx; omega)).pre HF.out⟩

set_option maxRecDepth 20000 in
set_option maxHeartbeats 400000 in
theorem build_alt (N : Nat) (IH : BIH N) (hop : t.op = altW) (hN : nd t ≤ N + 1) (hN2 : N ≤ 450) (hok : okT t) (hp : PT w All (.agg #[.string t.op, .pointer x, .slice ak t.kids.len ck, .int .i64 t.lo, .int .i64 t.hi]) t) (hbw : BW w B BB l) (hB : B ≤ w.heap.size) (hthn : thn < l.length) (hcst : costT t ≤ 4400) (hl : l.length + bud (nd t) ≤ 1000000000) :
    Calls Tryz.prog 52 #[.pointer (some ⟨BB, 0, none⟩), .agg #[.string t.op, .pointer x, .slice ak t.kids.len ck, .int .i64 t.lo, .int .i64 t.hi], .int .i64 (thn : Int)] w (BldPost w B BB l thn (relT t) (costT t)) := by
  have HF := Lib.hid (box3b w 125 100 3 #[.pointer (some ⟨BB, 0, none⟩)] #[.string t.op, .pointer x, .slice ak t.kids.len ck, .int .i64 t.lo, .int .i64 t.hi] #[.int .i64 (thn : Int)])
  have HBW3 := Lib.hid (hbw.no HF.out)
  have hsz : (((w.alloc (.cells #[.pointer (some ⟨BB, 0, none⟩)] 125)).alloc (.cells #[.string t.op, .pointer x, .slice ak t.kids.len ck, .int .i64 t.lo, .int .i64 t.hi] 100)).alloc (.cells #[.int .i64 (thn : Int)] 3)).heap.size = w.heap.size + 1 + 1 + 1 := by rw [World.size_alloc, World.size_alloc, World.size_alloc]
  have h_set : (t.op.toList == [115, 101, 116]) = false := by rw [hop]; decide +kernel
  have h_bol : (t.op.toList == [98, 111, 108]) = false := by rw [hop]; decide +kernel
  have h_eol : (t.op.toList == [101, 111, 108]) = false := by rw [hop]; decide +kernel
  have h_alt : (t.op.toList == [97, 108, 116]) = true := by rw [hop]; decide +kernel
  have hlen : 0 < t.kids.len := by
    have := hok.1
    unfold okN at this
    rw [hop] at this
    rcases this with h | h | h | h | h | h
    · exact absurd h (by decide)
    · exact absurd h (by decide)
    · exact absurd h (by decide)
    · exact absurd h (by decide)
    · exact h.2
    · exact absurd h.1 (by decide)
  have hc : costT t = (costF t.kids).sum + (t.kids.len - 1) := by unfold costT costN; rw [hop, ← costF_len]; rfl
  have hr : relT t = anyR (relF t.kids) := by unfold relT nodeR; rw [hop]; rfl
  rw [hc] at hcst
  rw [hc, hr]
  obtain ⟨x', ak', ck', hv, hset, hkk⟩ := hp
  cases hv
  have hcap : t.kids.len ≤ ck := by
    obtain ⟨t0, ht0⟩ := nthF_some hlen
    exact (hkk.nth ht0).choose_spec.2.1
  have HA := Lib.hid (alt_all N IH _ t.kids ak ck (hkk.move HF.out) hlen (by unfold nd at hN; omega) hN2 hok.2 B BB l thn HBW3.out (by omega) hthn hcst (by rw [show fsz t.kids + 1 = nd t by unfold nd; omega]; exact hl) hcap)
  clear hset hkk hbw hop IH hok
  go_enter Tryz.func52, Tryz.ntmps52
  go_wp2_with ((go_at_call 68; go_must (refine HA.out.mono ?_; rintro en w2 ⟨new, start, rfl, hbd⟩)))
  go_ret
  exact ⟨_, _, rfl, hbd.pre HF.out⟩
set_option maxRecDepth 20000 in
set_option maxHeartbeats 400000 in
theorem build_rep (N : Nat) (IH : BIH N) (hop : t.op = repW) (hN : nd t ≤ N + 1) (hok : okT t) (hp : PT w All (.agg #[.string t.op, .pointer x, .slice ak t.kids.len ck, .int .i64 t.lo, .int .i64 t.hi]) t) (hbw : BW w B BB l) (hB : B ≤ w.heap.size) (hthn : thn < l.length) (hcst : costT t ≤ 4400) (hl : l.length + bud (nd t) ≤ 1000000000) :
    Calls Tryz.prog 52 #[.pointer (some ⟨BB, 0, none⟩), .agg #[.string t.op, .pointer x, .slice ak t.kids.len ck, .int .i64 t.lo, .int .i64 t.hi], .int .i64 (thn : Int)] w (BldPost w B BB l thn (relT t) (costT t)) := by
  have HF := Lib.hid (box3b w 125 100 3 #[.pointer (some ⟨BB, 0, none⟩)] #[.string t.op, .pointer x, .slice ak t.kids.len ck, .int .i64 t.lo, .int .i64 t.hi] #[.int .i64 (thn : Int)])
  have HBW3 := Lib.hid (hbw.no HF.out)
  have hsz : (((w.alloc (.cells #[.pointer (some ⟨BB, 0, none⟩)] 125)).alloc (.cells #[.string t.op, .pointer x, .slice ak t.kids.len ck, .int .i64 t.lo, .int .i64 t.hi] 100)).alloc (.cells #[.int .i64 (thn : Int)] 3)).heap.size = w.heap.size + 1 + 1 + 1 := by rw [World.size_alloc, World.size_alloc, World.size_alloc]
  have h_set : (t.op.toList == [115, 101, 116]) = false := by rw [hop]; decide +kernel
  have h_bol : (t.op.toList == [98, 111, 108]) = false := by rw [hop]; decide +kernel
  have h_eol : (t.op.toList == [101, 111, 108]) = false := by rw [hop]; decide +kernel
  have h_alt : (t.op.toList == [97, 108, 116]) = false := by rw [hop]; decide +kernel
  have h_rep : (t.op.toList == [114, 101, 112]) = true := by rw [hop]; decide +kernel
  have hokn : t.kids.len = 1 ∧ 0 ≤ t.lo ∧ t.lo ≤ 255 ∧ (t.hi = -1 ∨ (t.lo ≤ t.hi ∧ t.hi ≤ 255)) := by
    have := hok.1
    unfold okN at this
    rw [hop] at this
    rcases this with h | h | h | h | h | h
    · exact absurd h (by decide)
    · exact absurd h (by decide)
    · exact absurd h (by decide)
    · exact absurd h (by decide)
    · exact absurd h.1 (by decide)
    · exact h.2
  obtain ⟨hk1, hlo, hlo2, hhi⟩ := hokn
  obtain ⟨tk, htk⟩ := nthF_some (f := t.kids) (j := 0) (by omega)
  have hnk := nthF_nd htk
  have hnk2 : nd tk ≤ N := by unfold nd at hN ⊢; unfold nd at hnk; omega
  have hokk := okF_nth hok.2 htk
  have hc0 : (costF t.kids).headD 0 = costT tk := by rw [List.headD_eq_head?_getD, List.head?_eq_getElem?, costF_nth htk]; rfl
  have hr0 : (relF t.kids).headD idR = relT tk := by rw [List.headD_eq_head?_getD, List.head?_eq_getElem?, relF_nth htk]; rfl
  have hr : relT t = compR (powR (relT tk) t.lo.toNat) (if t.hi = -1 then starR (relT tk) else optR (relT tk) (t.hi - t.lo).toNat) := by
    unfold relT nodeR; rw [hr0, hop]; rfl
  have hc : costT t = if t.hi = -1 then (t.lo.toNat + 1) * costT tk + 1 else t.hi.toNat * costT tk + (t.hi - t.lo).toNat := by
    unfold costT costN; rw [hc0, hop]; rfl
  obtain ⟨x', ak', ck', hv, hset, hkk⟩ := hp
  cases hv
  by_cases hh : t.hi = -1
  · rw [if_pos hh] at hr hc
    have hcc : costT t = (costT tk + 1) + t.lo.toNat * costT tk := by rw [hc, Nat.add_mul]; omega
    rw [hcc] at hcst
    rw [hcc, hr]
    have HA := Lib.hid (rep_star N IH _ t.kids tk t.op x ak ck t.lo t.hi (hkk.move HF.out) hk1 htk hnk2 hokk hlo hlo2 hh B BB l thn HBW3.out (by omega) hthn hcst (by have h8 : nd t = 1 + fsz t.kids := rfl; have h9 := bud_le (show nd tk + 1 ≤ nd t by omega); omega))
    clear hset hkk hbw hop IH hok hh hr hc hr0 hc0 hk1 hhi htk hcc
    go_enter Tryz.func52, Tryz.ntmps52
    go_wp2_with ((go_at_call 69; go_must (refine HA.out.mono ?_; rintro en w2 ⟨new, start, rfl, hbd⟩)))
    go_ret
    exact ⟨_, _, rfl, hbd.pre HF.out⟩
  · rw [if_neg hh] at hr hc
    have hhi2 : t.lo ≤ t.hi ∧ t.hi ≤ 255 := hhi.elim (fun h => absurd h hh) (fun h => h)
    have hcc : costT t = (t.lo.toNat * costT tk) + ((t.hi - t.lo).toNat * costT tk + (t.hi - t.lo).toNat) := by
      rw [hc, ← Nat.add_assoc, ← Nat.add_mul]
      congr 2
      omega
    rw [hcc] at hcst
    rw [hcc, hr]
    have HA := Lib.hid (rep_opt N IH _ t.kids tk t.op x ak ck t.lo t.hi (hkk.move HF.out) hk1 htk hnk2 hokk hlo hlo2 hhi2 B BB l thn HBW3.out (by omega) hthn hcst (by have h8 : nd t = 1 + fsz t.kids := rfl; have h9 := bud_le (show nd tk + 1 ≤ nd t by omega); omega))
    clear hset hkk hbw hop IH hok hh hr hc hr0 hc0 hk1 hhi htk hcc
    go_enter Tryz.func52, Tryz.ntmps52
    go_wp2_with ((go_at_call 69; go_must (refine HA.out.mono ?_; rintro en w2 ⟨new, start, rfl, hbd⟩)))
    go_ret
    exact ⟨_, _, rfl, hbd.pre HF.out⟩
end
end Go.Proofs.YtbfekknhmjndaaaGreat.part
