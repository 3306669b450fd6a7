/- Contracts of the document's digits with a point (package tedderref02): trim, double, half. Contracts of the document's digits with a point (package tedderref02): double, digits. What Deci3 holds before Exact: slices that lie off a block, boxes, bits, bounds. For trees without Exact. Words of binary64: what is cut to a whole number, how words compare. -/
import Derived.Test.YtcjeeoadgoghfaaGreatDoorProg
import Derived.Test.YtcjeeoadgoghfaaGreatDoorGTabR
import Derived.Test.YtcjeeoadgoghfaaGreatDoorGNear5
import Derived.OpenShut
import Derived.Outline
import Derived.Handy
import Derived.Laws.AppendOwnNone
import Derived.Laws.MakeOwn
import Derived.Laws.OwnMore
import Derived.Laws.FloatArith
import Derived.Laws.Externs

namespace Go.Proofs.YtcjeeoadgoghfaaGreatDoor.deci
set_option linter.unusedVariables false set_option linter.unusedSimpArgs false
open Go.ChangeShapes Go.WideShapes Go.ChangeAt Go.RowKit Go.Proofs.YtcjeeoadgoghfaaGreatDoor.Deci

/-- v reads as the numbers l, in a block from B on. -/
def RdI (w : World) (B : Nat) (v : Value) (l : List Nat) : Prop :=
  (v = .slice none 0 0 ∧ l = []) ∨ ∃ g off cap, v = .slice (some ⟨g, off, none⟩) l.length cap ∧ l.length ≤ cap ∧ B ≤ g ∧ ∀ i (h : i < l.length), w.cell? ⟨g, off + i, none⟩ = some (.int .i64 (l[i] : Nat))

theorem RdI.below {w w' : World} {B : Nat} {v : Value} {l : List Nat} (h : RdI w B v l) (hb : Below w.heap.size w w') : RdI w' B v l := by
  rcases h with h | ⟨g, off, cap, hv, hc, hB, hr⟩
  · exact Or.inl h
  · refine Or.inr ⟨g, off, cap, hv, hc, hB, fun i hi => ?_⟩
    rw [hb.cell (by exact World.block_lt_of_cell? w _ (hr i hi))]
    exact hr i hi
theorem RdI.mono {w : World} {B B' : Nat} {v : Value} {l : List Nat} (h : RdI w B v l) (hb : B' ≤ B) : RdI w B' v l := by
  rcases h with h | ⟨g, off, cap, hv, hc, hB, hr⟩
  · exact Or.inl h
  · exact Or.inr ⟨g, off, cap, hv, hc, by omega, hr⟩
theorem RdI.set {w : World} {B : Nat} {v : Value} {l : List Nat} (h : RdI w B v l) (b o : Nat) (x : Value) (hb : b < B) : RdI (w.setCell ⟨b, o, none⟩ x) B v l := by
  rcases h with h | ⟨g, off, cap, hv, hc, hB, hr⟩
  · exact Or.inl h
  · refine Or.inr ⟨g, off, cap, hv, hc, hB, fun i hi => ?_⟩
    have := hr i hi
    have hne : g ≠ b := by omega
    go_cell

theorem RdI.take {w : World} {B g off cap n : Nat} {l : List Nat} (hc : l.length ≤ cap) (hB : B ≤ g) (hr : ∀ i (h : i < l.length), w.cell? ⟨g, off + i, none⟩ = some (.int .i64 (l[i] : Nat))) (hn : n ≤ l.length) :
    RdI w B (.slice (some ⟨g, off, none⟩) n cap) (l.take n) := by
  have e : (l.take n).length = n := by simp; omega
  refine Or.inr ⟨g, off, cap, by rw [e], by omega, hB, fun i hi => ?_⟩
  rw [hr i (by omega), List.getElem_take]

theorem trim_all (p : Int) (B : Nat) (v : Value) (l : List Nat) (w : World) (hr : RdI w B v l) (hl : l.length ≤ 100000) :
    Calls Tryz.prog 87 #[.agg #[v, .int .i64 p]] w fun e w' => ∃ v', e = .returned (.agg #[v', .int .i64 (pt (trimD l) p)]) ∧ RdI w' B v' (trimD l) ∧ Below w.heap.size w w' := by
  rcases hr with ⟨rfl, rfl⟩ | ⟨g, off, cap, rfl, hcap, hB, hc⟩
  · go_enter Tryz.func87, Tryz.ntmps87
    go_wp2
    go_rounds 1
    exact bodyPost_ret (v := .agg #[.slice none 0 0, .int .i64 0]) (by simp [results, Tryz.results87, go_sem]) rfl ⟨_, by rw [trimD_nil, pt_zero rfl], Or.inl ⟨rfl, trimD_nil⟩, (((Below.refl _ _).alloc (Nat.le_refl _) _).alloc (by simp) _)⟩
  · have hlt0 : 0 < l.length → g < w.heap.size := fun h => World.block_lt_of_cell? w _ (hc 0 h)
    go_enter Tryz.func87, Tryz.ntmps87
    go_wp2
    go_loop [3] (fun n => ∃ k : Nat, k ≤ l.length ∧ n = .int .i64 k ∧ trimD (l.take k) = trimD l) (fun n => (intOf n).toNat)
    case atStart => exact ⟨l.length, Nat.le_refl _, rfl, by rw [List.take_length]⟩
    case round =>
      obtain ⟨k, hk, rfl, ht⟩ := hrel
      have HT := Lib.hid ht
      clear ht
      by_cases hk0 : 0 < k
      · have hg := hlt0 (by omega)
        obtain ⟨c, hcc⟩ : ∃ c, c = l[k - 1]'(by omega) := ⟨_, rfl⟩
        have hcell : w.cell? ⟨g, off + (k - 1), none⟩ = some (.int .i64 (c : Nat)) := by rw [hcc]; exact hc (k - 1) (by omega)
        have HC := Lib.hid hcc
        have HCC := Lib.hid hc
        clear hcc hc
        by_cases hz : c = 0
        · subst hz
          go_wp2
          go_round
          case rel =>
            refine ⟨k - 1, by omega, by go_num, ?_⟩
            rw [← HT.out, show l.take k = l.take (k - 1) ++ [0] by rw [show l.take k = l.take (k - 1 + 1) by rw [show k - 1 + 1 = k by omega], List.take_succ_eq_append_getElem (by omega), ← HC.out], trimD_snoc0]
          case measure => simp [intOf]; omega
        · have hz2 : (((c : Nat) : Int) == 0) = false := by simp; omega
          have e : trimD l = l.take k := by
            rw [← HT.out, show l.take k = l.take (k - 1) ++ [c] by rw [show l.take k = l.take (k - 1 + 1) by rw [show k - 1 + 1 = k by omega], List.take_succ_eq_append_getElem (by omega), ← HC.out], trimD_snoc _ _ hz]
          have HE := Lib.hid e
          clear e
          go_wp2
          refine bodyPost_ret (v := .agg #[.slice (some ⟨g, off, none⟩) k cap, .int .i64 p]) (by simp [results, Tryz.results87, go_sem]) rfl ⟨.slice (some ⟨g, off, none⟩) k cap, ?_, ?_, ?_⟩
          · have : trimD l ≠ [] := by rw [HE.out]; intro h; have := congrArg List.length h; rw [List.length_take, List.length_nil] at this; omega
            rw [pt, if_neg this]
          · rw [HE.out]
            exact (RdI.take hcap hB HCC.out hk).below (((Below.refl _ _).alloc (Nat.le_refl _) _).alloc (by simp) _)
          · exact ((Below.refl _ _).alloc (Nat.le_refl _) _).alloc (by simp) _
      · obtain rfl : k = 0 := by omega
        have HCC := Lib.hid hc
        clear hc
        go_wp2
        have e : trimD l = [] := by rw [← HT.out, List.take_zero, trimD_nil]
        refine bodyPost_ret (v := .agg #[.slice (some ⟨g, off, none⟩) 0 cap, .int .i64 0]) (by simp [results, Tryz.results87, go_sem]) rfl ⟨.slice (some ⟨g, off, none⟩) 0 cap, ?_, ?_, ?_⟩
        · rw [e, pt_zero rfl]
        · rw [e]
          exact (RdI.take (n := 0) hcap hB HCC.out (by omega)).below (((Below.refl _ _).alloc (Nat.le_refl _) _).alloc (by simp) _)
        · exact ((Below.refl _ _).alloc (Nat.le_refl _) _).alloc (by simp) _

theorem RdI.forms {w : World} {B : Nat} {v : Value} {l : List Nat} (h : RdI w B v l) : ∃ a cap, v = .slice a l.length cap := by
  rcases h with ⟨rfl, rfl⟩ | ⟨g, off, cap, rfl, _⟩
  · exact ⟨_, _, rfl⟩
  · exact ⟨_, _, rfl⟩
theorem RdI.addr {w : World} {B : Nat} {v : Value} {l : List Nat} (h : RdI w B v l) (h0 : 0 < l.length) : ∃ g off cap, v = .slice (some ⟨g, off, none⟩) l.length cap ∧ l.length ≤ cap ∧ B ≤ g ∧ ∀ i (h : i < l.length), w.cell? ⟨g, off + i, none⟩ = some (.int .i64 (l[i] : Nat)) := by
  rcases h with ⟨rfl, rfl⟩ | h
  · simp at h0
  · exact h

/-- The first of some numbers, and the rest as a piece of the slice. -/
theorem RdI.first {P : Program} {w : World} {B : Nat} {v : Value} {c : Nat} {t : List Nat} (T : TypeId) (hT : P.underlying T = some (.slice (P.elem T))) (hso : ∀ W, (sizeOf (P.elem T)).run P W = .ok 1 W) (h : RdI w B v (c :: t)) :
    ∃ g off cap aV cV, v = .slice (some ⟨g, off, none⟩) (t.length + 1) cap ∧ t.length + 1 ≤ cap ∧ B ≤ g ∧ w.cell? ⟨g, off, none⟩ = some (.int .i64 (c : Nat)) ∧ RdI w B (.slice aV t.length cV) t ∧
      ∀ W, (Instr.slice T (.slice (some ⟨g, off, none⟩) (t.length + 1) cap) (some (.int .i64 1)) none none).run P W = .ok (.slice aV t.length cV) W := by
  obtain ⟨g, off, cap, rfl, hcap, hB, hc⟩ := h.addr (by simp)
  simp only [List.length_cons] at hcap hc ⊢
  have h0 := hc 0 (by omega)
  refine ⟨g, off, cap, if cap = 1 then some ⟨g, off, none⟩ else some ⟨g, off + 1, none⟩, cap - 1, rfl, hcap, hB, h0, ?_, fun W => ?_⟩
  · by_cases h1 : cap = 1
    · obtain rfl : t = [] := List.eq_nil_of_length_eq_zero (by omega)
      rw [if_pos h1]
      exact Or.inr ⟨g, off, cap - 1, rfl, Nat.zero_le _, hB, fun i hi => by simp at hi⟩
    · rw [if_neg h1]
      refine Or.inr ⟨g, off + 1, cap - 1, rfl, by omega, hB, fun i hi => ?_⟩
      have := hc (i + 1) (by omega)
      rw [show off + 1 + i = off + (i + 1) by omega]
      exact this
  · rw [run_slice_l W T _ _ _ hT .i64 1 (by omega) (by omega), hso]
    simp only [Result.andThen, sliced]
    by_cases h1 : cap = 1
    · simp [h1]
    · simp [h1, Addr.add_lit]

def iV (n : Nat) : Value := .int .i64 (n : Int)
/-- v is a slice of ints of the call's own (from block B on): the numbers l. -/
def OwnI (w : World) (B : Nat) (e : TypeId) (v : Value) (l : List Nat) : Prop := w.ownsRow B e 1 v l.length (l.map iV)
theorem OwnI.nil (w : World) (B : Nat) (e : TypeId) : OwnI w B e (.slice none 0 0) [] := World.ownsRow_nil _ _ _ _
theorem OwnI.alloc {w : World} {B : Nat} {e : TypeId} {v : Value} {l : List Nat} (h : OwnI w B e v l) (o : Obj) : OwnI (w.alloc o) B e v l := World.ownsRow.alloc h o
theorem OwnI.below {w w' : World} {B : Nat} {e : TypeId} {v : Value} {l : List Nat} (h : OwnI w B e v l) (hb : Below w.heap.size w w') : OwnI w' B e v l := by
  refine ⟨h.1, h.2.elim Or.inl (fun ⟨g, cap, cur, hv, hg, hh, r⟩ => Or.inr ⟨g, cap, cur, hv, hg, ?_, r⟩)⟩
  rw [hb.block g (by exact (Array.getElem?_eq_some_iff.1 hh).1)]
  exact hh
theorem OwnI.rd {w : World} {B : Nat} {e : TypeId} {v : Value} {l : List Nat} (h : OwnI w B e v l) : RdI w B v l := by
  have hc := fun g hg => World.ownsRow.cells h (g := g) hg
  rcases h.2 with ⟨h0, h1⟩ | ⟨g, cap, cur, hv, hg, hh, hn, hm, hcs, ht⟩
  · exact Or.inl ⟨h0, List.eq_nil_of_length_eq_zero h1⟩
  · refine Or.inr ⟨g, 0, cap, hv, hn, hg, fun i hi => ?_⟩
    have := hc g (by rw [hv]; rfl) i (iV l[i]) (by rw [List.getElem?_map, List.getElem?_eq_getElem hi]; rfl)
    rw [Addr.add_lit] at this
    exact this

/-- 'append(l, x)' of one int, which lies in a new block of its own. -/
theorem wpList_appI1 {P : Program} (w : World) {ops : Array Oper} {rest : List Oper} {o : Oper} {a : Act} {Q : Exit → Act → World → Prop} (hgd : o.guard = none) (s x : Operand) (t : TypeId)
    (ho : o.op = .call { callee := .builtin .append, args := #[s, x], argTypes := #[t, t] })
    (B : Nat) (e : TypeId) (ht : P.underlying t = some (.slice e)) (hinf : (P.info? e).map (fun i => (i.zero, i.size, i.bytes)) = some (some (.int .i64 0), 1, 8))
    (v : Value) (l : List Nat) (hs : a.eval s = v) (hown : OwnI w B e v l) (n : Int)
    (hx : a.eval x = .slice (some ⟨w.heap.size, 0, none⟩) 1 1) (b : Nat) (hn : n = (b : Int)) (hl : l.length + 1 ≤ 17592186044416) (hB : B ≤ w.heap.size)
    (h : ∀ v' w', OwnI w' B e v' (l ++ [b]) → Below B w w' → wpList P ops Q rest (a.put o.dst v') w') :
    wpList P ops Q (o :: rest) a (w.alloc (.cells #[.int .i64 n] e)) := by
  obtain ⟨i0, hi, hz0, hz1, hz2⟩ := info_parts hinf
  subst hn
  refine wpList_append_own _ hgd s x t ho B e i0 (.int .i64 0) 1 8 ht hi hz0 hz1 hz2 rfl (by decide) v _ _ hs (World.ownsRow.alloc hown _) ⟨w.heap.size, 0, none⟩ 1 1 [iV b] hx rfl (cell_one_new _ _ _) (fun u hu => by simp at hu; subst hu; rfl) (by unfold maxLen; omega) (by omega) (by simp; omega) ?_
  intro v' w' hown' hg _
  refine h v' w' ?_ ?_
  · have e2 : l.length + 1 = (l ++ [b]).length := by simp
    have e3 : l.map iV ++ [iV b] = (l ++ [b]).map iV := by simp
    unfold OwnI
    rw [← e2, ← e3]
    exact hown'
  · exact ((Below.refl _ _).alloc hB _).grown hg (by simp; omega) (fun q hq => ((World.ownsRow.lt hown) q hq).1)

/-- What a struct in a block of the call's own holds. -/
def Box2 (w : World) (b : Nat) (T : TypeId) (x y : Value) : Prop := w.heap[b]? = some (.cells #[x, y] T (0, 0))
theorem Box2.c0 {w : World} {b : Nat} {T : TypeId} {x y : Value} (h : Box2 w b T x y) : w.cell? ⟨b, 0, none⟩ = some x := by simp [World.cell?, show w.heap[b]? = _ from h]
theorem Box2.c1 {w : World} {b : Nat} {T : TypeId} {x y : Value} (h : Box2 w b T x y) : w.cell? ⟨b, 1, none⟩ = some y := by simp [World.cell?, show w.heap[b]? = _ from h]
theorem Box2.f {w : World} {b : Nat} {T : TypeId} {x y : Value} (h : Box2 w b T x y) (o : Nat) : w.frozen? ⟨b, o, none⟩ = false := by simp [World.frozen?, show w.heap[b]? = _ from h]
theorem Box2.below {w w' : World} {b B : Nat} {T : TypeId} {x y : Value} (h : Box2 w b T x y) (hb : Below B w w') (hlt : b < B) : Box2 w' b T x y := by
  unfold Box2
  rw [hb.block b hlt]
  exact h

theorem Box2.new (w : World) (T : TypeId) (x y : Value) : Box2 (w.alloc (.cells #[x, y] T)) w.heap.size T x y := heap_alloc_new w _
theorem Box2.old {w : World} {b : Nat} {T : TypeId} {x y : Value} (h : Box2 w b T x y) (o : Obj) : Box2 (w.alloc o) b T x y :=
  h.below ((Below.refl w.heap.size _).alloc (Nat.le_refl _) _) (by exact (Array.getElem?_eq_some_iff.1 h).1)

theorem Box2.set_ne {w : World} {b b2 o : Nat} {T : TypeId} {x y : Value} (h : Box2 w b T x y) (z : Value) (hne : b2 ≠ b) : Box2 (w.setCell ⟨b2, o, none⟩ z) b T x y := by
  unfold Box2 at *
  rw [heap_setCell_other w ⟨b2, o, none⟩ b z (fun e => hne e.symm)]
  exact h

theorem size_setCell2 (w : World) (a : Addr) (v : Value) : (w.setCell a v).heap.size = w.heap.size := by simp

theorem rem_snoc (l : List Nat) (d : Nat) : rem 0 (l ++ [d]) = (10 * rem 0 l + d) % 2 ∧ hlf 0 (l ++ [d]) = hlf 0 l ++ [(10 * rem 0 l + d) / 2] := ⟨(hlf_snoc l d 0).2, (hlf_snoc l d 0).1⟩

set_option maxRecDepth 100000 in
set_option maxHeartbeats 400000 in
theorem half_all (p : Int) (v : Value) (l : List Nat) (w : World) (hr : RdI w 0 v l) (hl : l.length ≤ 90000) (hd : Digs l) (hp0 : -1000000 ≤ p) (hp1 : p ≤ 1000000) :
    Calls Tryz.prog 90 #[.agg #[v, .int .i64 p]] w fun e w' => ∃ v', e = .returned (.agg #[v', .int .i64 (pt (trimD (hlfL l)) (hlfP l p))]) ∧ RdI w' w.heap.size v' (trimD (hlfL l)) ∧ Below w.heap.size w w' := by
  have HI := Lib.hid (show (Tryz.prog.info? 3).map (fun i => (i.zero, i.size, i.bytes)) = some (some (.int .i64 0), 1, 8) by kernel_rfl)
  have HR := Lib.hid hr
  obtain ⟨a, cap, rfl⟩ := hr.forms
  clear hr
  go_enter Tryz.func90, Tryz.ntmps90
  go_wp2
  go_loopw [3, 4, 5] (fun ov lv iv wr => ∃ k : Nat, k ≤ l.length ∧ iv = .int .i64 k ∧ lv = .int .i64 (rem 0 (l.take k) : Nat) ∧ OwnI wr (w.heap.size + 2) 3 ov (hlf 0 (l.take k)) ∧ Box2 wr w.heap.size 85 (.slice a l.length cap) (.int .i64 p) ∧ Box2 wr (w.heap.size + 1) 85 (.slice none 0 0) (.int .i64 0) ∧ w.heap.size + 2 ≤ wr.heap.size ∧ Below w.heap.size w wr) (fun _ _ iv _ => l.length - (intOf iv).toNat)
  case atStart => exact ⟨0, Nat.zero_le _, rfl, rfl, OwnI.nil _ _ _, (Box2.new _ _ _ _).old _, (by have := Box2.new (w.alloc (.cells #[.slice a l.length cap, .int .i64 p] 85)) 85 (.slice none 0 0) (.int .i64 0); rw [World.size_alloc] at this; exact this), by simp, ((Below.refl _ _).alloc (Nat.le_refl _) _).alloc (by simp) _⟩
  case round =>
    obtain ⟨k, hk, rfl, rfl, hown, hb0, hb1, hsz, hbel⟩ := hrel
    have c00 := hb0.c0
    have hrem := rem_le (l.take k) 0 (by omega)
    have HB0 := Lib.hid hb0
    have HB1 := Lib.hid hb1
    clear hb0 hb1
    by_cases hlt : k < l.length
    · obtain ⟨g, off, cap', he, hcap, hB0, hc⟩ := HR.out.addr (by omega)
      injection he with e1 e2 e3
      subst e1 e3
      have hg : g < w.heap.size := World.block_lt_of_cell? w _ (hc k hlt)
      have hcell : wr.cell? ⟨g, off + k, none⟩ = some (.int .i64 (l[k] : Nat)) := by
        rw [hbel.cell (by exact hg)]; exact hc k hlt
      have hd9 := hd l[k] (by simp)
      have HS := Lib.hid (rem_snoc (l.take k) l[k])
      have HC := Lib.hid hc
      have HT := Lib.hid (show l.take k ++ [l[k]] = l.take (k + 1) from (List.take_succ_eq_append_getElem hlt).symm)
      clear hc
      generalize hde : l[k] = d at *
      have HDE := Lib.hid hde
      clear hde
      generalize hre : rem 0 (l.take k) = r at *
      have HRE := Lib.hid hre
      clear hre
      have hlen : (hlf 0 (l.take k)).length ≤ k := by rw [hlf_len]; exact List.length_take_le _ _
      go_wp2_with (at_builtin; refine wpList_appI1 _ rfl (.tmp 22) (.tmp 25) 83 rfl (w.heap.size + 2) 3 Tryz.underlying83 HI.out _ _ rfl hown _ rfl ((10 * r + d) / 2) (by omega) (by omega) (by omega) ?_; intro v' w1 hown' hb1)
      go_roundw
      case rel => exact ⟨k + 1, by omega, by go_num, by rw [← HT.out, HS.out.1]; go_num, by rw [← HT.out, HS.out.2]; exact hown', HB0.out.below hb1 (by omega), HB1.out.below hb1 (by omega), by have := hb1.size; omega, hbel.trans (hb1.mono (by omega))⟩
      case measure => simp [intOf]; omega
    · obtain rfl : k = l.length := by omega
      have HTK := Lib.hid (show l.take l.length = l from List.take_length)
      rw [HTK.out] at hown hrem
      have hlen : (hlf 0 l).length = l.length := hlf_len _ _
      have c01 := HB0.out.c1
      have f0 := HB0.out.f 0
      have f1 := HB0.out.f 1
      have HD := Lib.hid (show ∀ t, hlfR l = 0 :: t → hlfL l = t ∧ hlfP l p = p - 1 by intro t e; simp [hlfL, hlfP, e])
      have HD2 := Lib.hid (show ∀ d t, d ≠ 0 → hlfR l = d :: t → hlfL l = d :: t ∧ hlfP l p = p by intro d t h0 e; unfold hlfL hlfP; rw [e]; constructor <;> (split <;> simp_all))
      have hT : Tryz.prog.underlying 83 = some (.slice (Tryz.prog.elem 83)) := by kernel_rfl
      have hso : ∀ W, (sizeOf (Tryz.prog.elem 83)).run Tryz.prog W = .ok 1 W := fun _ => by kernel_rfl
      have HF := Lib.hid (fun (w : World) (B : Nat) (v : Value) (c : Nat) (t : List Nat) (h : RdI w B v (c :: t)) => RdI.first 83 hT hso h)
      clear hT hso
      by_cases hrp : 0 < rem 0 l
      · rw [show rem 0 (l.take l.length) = 1 by rw [HTK.out]; omega]
        have HRR := Lib.hid (show hlfR l = hlf 0 l ++ [5] by rw [hlfR, if_pos hrp])
        obtain ⟨c, t, hct⟩ : ∃ c t, hlf 0 l ++ [5] = c :: t := by cases h : hlf 0 l with
          | nil => exact ⟨5, [], rfl⟩
          | cons c t => exact ⟨c, t ++ [5], rfl⟩
        have htl : t.length ≤ 90000 := by have := congrArg List.length hct; rw [List.length_append, List.length_singleton, List.length_cons] at this; omega
        have HCT := Lib.hid hct
        clear hct
        by_cases hc0 : c = 0
        · subst hc0
          have HH := Lib.hid (HD.out t (by rw [HRR.out, HCT.out]))
          go_wp2_with (first | (at_builtin; go_must (refine wpList_appI1 _ rfl (.tmp 31) (.tmp 32) 83 rfl (w.heap.size + 2) 3 Tryz.underlying83 HI.out _ _ rfl hown _ rfl 5 (by rfl) (by omega) (by omega) ?_; intro v' w1 hown' hb1; rw [HCT.out] at hown'; have hz1 := hb1.size; have hbel1 := hbel.trans (hb1.mono (by omega)); have K0 := Lib.hid (HB0.out.below hb1 (by omega)); have K1 := Lib.hid (HB1.out.below hb1 (by omega)); have g00 := K0.out.c0; have g01 := K0.out.c1; have gf0 := K0.out.f 0; have gf1 := K0.out.f 1; obtain ⟨g2, off2, cap2, aV, cV, rfl, hcap2, hB2, h20, HV, hsl⟩ := HF.out _ _ _ _ _ hown'.rd)) | (go_at_call 87; go_must (refine (trim_all (p - 1) (w.heap.size + 2) (.slice aV t.length cV) (t) _ (by exact (HV.set w.heap.size 1 (.int .i64 (p - 1)) (by omega)).set w.heap.size 0 (.slice aV t.length cV) (by omega)) (by first | omega | (simp only [List.length_cons, List.length_nil]; omega))).mono ?_; rintro e w2 ⟨v2, rfl, hr2, hb2⟩; obtain ⟨a2, c2, rfl⟩ := hr2.forms; have hz2 := hb2.size; simp only [size_setCell2] at hz2; have M1 := Lib.hid ((((K1.out.set_ne (.int .i64 (p - 1)) (by omega)).set_ne (.slice aV t.length cV) (by omega)).below hb2 (by simp only [size_setCell2]; omega)) : Box2 w2 (w.heap.size + 1) _ _ _); have m0 := M1.out.c0; have m1 := M1.out.c1; have mf0 := M1.out.f 0; have mf1 := M1.out.f 1)))
          refine bodyPost_ret (v := .agg #[.slice a2 (trimD (t)).length c2, .int .i64 (pt (trimD (t)) (p - 1))]) (by simp [results, Tryz.results90, go_sem, m0, m1]) rfl ⟨.slice a2 (trimD (t)).length c2, by rw [HH.out.1, HH.out.2], ?_, ?_⟩
          · rw [HH.out.1]
            exact (((hr2.set _ 0 _ (by omega)).set _ 1 _ (by omega))).mono (by omega)
          · exact ((((hbel1.setCell (by simp) _).setCell (by simp) _).trans (hb2.mono (by simp only [size_setCell2]; omega))).setCell (by simp) _ |>.setCell (by simp) _)
        · have HH := Lib.hid (HD2.out c t hc0 (by rw [HRR.out, HCT.out]))
          have hc1 : (((c : Nat) : Int) == 0) = false := by simp; omega
          go_wp2_with (first | (at_builtin; go_must (refine wpList_appI1 _ rfl (.tmp 31) (.tmp 32) 83 rfl (w.heap.size + 2) 3 Tryz.underlying83 HI.out _ _ rfl hown _ rfl 5 (by rfl) (by omega) (by omega) ?_; intro v' w1 hown' hb1; rw [HCT.out] at hown'; have hz1 := hb1.size; have hbel1 := hbel.trans (hb1.mono (by omega)); have K0 := Lib.hid (HB0.out.below hb1 (by omega)); have K1 := Lib.hid (HB1.out.below hb1 (by omega)); have g00 := K0.out.c0; have g01 := K0.out.c1; have gf0 := K0.out.f 0; have gf1 := K0.out.f 1; obtain ⟨g2, off2, cap2, aV, cV, rfl, hcap2, hB2, h20, HV, hsl⟩ := HF.out _ _ _ _ _ hown'.rd)) | (go_at_call 87; go_must (refine (trim_all (p) (w.heap.size + 2) (.slice (some ⟨g2, off2, none⟩) (t.length + 1) cap2) (c :: t) _ (by exact (hown'.rd).set w.heap.size 0 (.slice (some ⟨g2, off2, none⟩) (t.length + 1) cap2) (by omega)) (by first | omega | (simp only [List.length_cons, List.length_nil]; omega))).mono ?_; rintro e w2 ⟨v2, rfl, hr2, hb2⟩; obtain ⟨a2, c2, rfl⟩ := hr2.forms; have hz2 := hb2.size; simp only [size_setCell2] at hz2; have M1 := Lib.hid (((K1.out.set_ne (.slice (some ⟨g2, off2, none⟩) (t.length + 1) cap2) (by omega)).below hb2 (by simp only [size_setCell2]; omega)) : Box2 w2 (w.heap.size + 1) _ _ _); have m0 := M1.out.c0; have m1 := M1.out.c1; have mf0 := M1.out.f 0; have mf1 := M1.out.f 1)))
          refine bodyPost_ret (v := .agg #[.slice a2 (trimD (c :: t)).length c2, .int .i64 (pt (trimD (c :: t)) (p))]) (by simp [results, Tryz.results90, go_sem, m0, m1]) rfl ⟨.slice a2 (trimD (c :: t)).length c2, by rw [HH.out.1, HH.out.2], ?_, ?_⟩
          · rw [HH.out.1]
            exact (((hr2.set _ 0 _ (by omega)).set _ 1 _ (by omega))).mono (by omega)
          · exact (((hbel1.setCell (by simp) _).trans (hb2.mono (by simp only [size_setCell2]; omega))).setCell (by simp) _ |>.setCell (by simp) _)
      · rw [show rem 0 (l.take l.length) = 0 by rw [HTK.out]; omega]
        have HRR := Lib.hid (show hlfR l = hlf 0 l by rw [hlfR, if_neg hrp])
        have hbel1 := hbel
        cases hct : hlf 0 l with
        | nil =>
          have HH := Lib.hid (show hlfL l = [] ∧ hlfP l p = p by have e : hlfR l = [] := (by rw [HRR.out, hct]); simp [hlfL, hlfP, e])
          rw [hct] at hown
          have hrd := hown.rd
          obtain ⟨a3, c3, rfl⟩ := hown.rd.forms
          clear hct
          go_wp2_with ((go_at_call 87; go_must (refine (trim_all (p) (w.heap.size + 2) (.slice a3 0 c3) ([]) _ (by exact (hrd).set w.heap.size 0 (.slice a3 0 c3) (by omega)) (by first | omega | (simp only [List.length_cons, List.length_nil]; omega))).mono ?_; rintro e w2 ⟨v2, rfl, hr2, hb2⟩; obtain ⟨a2, c2, rfl⟩ := hr2.forms; have hz2 := hb2.size; simp only [size_setCell2] at hz2; have M1 := Lib.hid (((HB1.out.set_ne (.slice a3 0 c3) (by omega)).below hb2 (by simp only [size_setCell2]; omega)) : Box2 w2 (w.heap.size + 1) _ _ _); have m0 := M1.out.c0; have m1 := M1.out.c1; have mf0 := M1.out.f 0; have mf1 := M1.out.f 1)))
          refine bodyPost_ret (v := .agg #[.slice a2 (trimD ([])).length c2, .int .i64 (pt (trimD ([])) (p))]) (by simp [results, Tryz.results90, go_sem, m0, m1]) rfl ⟨.slice a2 (trimD ([])).length c2, by rw [HH.out.1, HH.out.2], ?_, ?_⟩
          · rw [HH.out.1]
            exact (((hr2.set _ 0 _ (by omega)).set _ 1 _ (by omega))).mono (by omega)
          · exact (((hbel1.setCell (by simp) _).trans (hb2.mono (by simp only [size_setCell2]; omega))).setCell (by simp) _ |>.setCell (by simp) _)
        | cons c t =>
          rw [hct] at hown
          have htl : t.length + 1 ≤ 90000 := by have := congrArg List.length hct; rw [List.length_cons] at this; omega
          have HCT := Lib.hid hct
          clear hct
          obtain ⟨g2, off2, cap2, aV, cV, rfl, hcap2, hB2, h20, HV, hsl⟩ := HF.out _ _ _ _ _ hown.rd
          have hrd := hown.rd
          by_cases hc0 : c = 0
          · subst hc0
            have HH := Lib.hid (HD.out t (by rw [HRR.out, HCT.out]))
            go_wp2_with ((go_at_call 87; go_must (refine (trim_all (p - 1) (w.heap.size + 2) (.slice aV t.length cV) (t) _ (by exact (HV.set w.heap.size 1 (.int .i64 (p - 1)) (by omega)).set w.heap.size 0 (.slice aV t.length cV) (by omega)) (by first | omega | (simp only [List.length_cons, List.length_nil]; omega))).mono ?_; rintro e w2 ⟨v2, rfl, hr2, hb2⟩; obtain ⟨a2, c2, rfl⟩ := hr2.forms; have hz2 := hb2.size; simp only [size_setCell2] at hz2; have M1 := Lib.hid ((((HB1.out.set_ne (.int .i64 (p - 1)) (by omega)).set_ne (.slice aV t.length cV) (by omega)).below hb2 (by simp only [size_setCell2]; omega)) : Box2 w2 (w.heap.size + 1) _ _ _); have m0 := M1.out.c0; have m1 := M1.out.c1; have mf0 := M1.out.f 0; have mf1 := M1.out.f 1)))
            refine bodyPost_ret (v := .agg #[.slice a2 (trimD (t)).length c2, .int .i64 (pt (trimD (t)) (p - 1))]) (by simp [results, Tryz.results90, go_sem, m0, m1]) rfl ⟨.slice a2 (trimD (t)).length c2, by rw [HH.out.1, HH.out.2], ?_, ?_⟩
            · rw [HH.out.1]
              exact (((hr2.set _ 0 _ (by omega)).set _ 1 _ (by omega))).mono (by omega)
            · exact ((((hbel1.setCell (by simp) _).setCell (by simp) _).trans (hb2.mono (by simp only [size_setCell2]; omega))).setCell (by simp) _ |>.setCell (by simp) _)
          · have HH := Lib.hid (HD2.out c t hc0 (by rw [HRR.out, HCT.out]))
            have hc1 : (((c : Nat) : Int) == 0) = false := by simp; omega
            go_wp2_with ((go_at_call 87; go_must (refine (trim_all (p) (w.heap.size + 2) (.slice (some ⟨g2, off2, none⟩) (t.length + 1) cap2) (c :: t) _ (by exact (hrd).set w.heap.size 0 (.slice (some ⟨g2, off2, none⟩) (t.length + 1) cap2) (by omega)) (by first | omega | (simp only [List.length_cons, List.length_nil]; omega))).mono ?_; rintro e w2 ⟨v2, rfl, hr2, hb2⟩; obtain ⟨a2, c2, rfl⟩ := hr2.forms; have hz2 := hb2.size; simp only [size_setCell2] at hz2; have M1 := Lib.hid (((HB1.out.set_ne (.slice (some ⟨g2, off2, none⟩) (t.length + 1) cap2) (by omega)).below hb2 (by simp only [size_setCell2]; omega)) : Box2 w2 (w.heap.size + 1) _ _ _); have m0 := M1.out.c0; have m1 := M1.out.c1; have mf0 := M1.out.f 0; have mf1 := M1.out.f 1)))
            refine bodyPost_ret (v := .agg #[.slice a2 (trimD (c :: t)).length c2, .int .i64 (pt (trimD (c :: t)) (p))]) (by simp [results, Tryz.results90, go_sem, m0, m1]) rfl ⟨.slice a2 (trimD (c :: t)).length c2, by rw [HH.out.1, HH.out.2], ?_, ?_⟩
            · rw [HH.out.1]
              exact (((hr2.set _ 0 _ (by omega)).set _ 1 _ (by omega))).mono (by omega)
            · exact (((hbel1.setCell (by simp) _).trans (hb2.mono (by simp only [size_setCell2]; omega))).setCell (by simp) _ |>.setCell (by simp) _)
end Go.Proofs.YtcjeeoadgoghfaaGreatDoor.deci

namespace Go.Proofs.YtcjeeoadgoghfaaGreatDoor.deci
set_option linter.unusedVariables false set_option linter.unusedSimpArgs false
open Go.ChangeShapes Go.WideShapes Go.ChangeAt Go.RowKit Go.Proofs.YtcjeeoadgoghfaaGreatDoor.Deci

/-- 'append(b, s...)' of ints that lie anywhere, none too. -/
theorem wpList_appII {P : Program} (w : World) {ops : Array Oper} {rest : List Oper} {o : Oper} {a : Act} {Q : Exit → Act → World → Prop} (hgd : o.guard = none) (s x : Operand) (t : TypeId)
    (ho : o.op = .call { callee := .builtin .append, args := #[s, x], argTypes := #[t, t] })
    (B : Nat) (e : TypeId) (ht : P.underlying t = some (.slice e)) (hinf : (P.info? e).map (fun i => (i.zero, i.size, i.bytes)) = some (some (.int .i64 0), 1, 8))
    (v : Value) (l : List Nat) (hs : a.eval s = v) (hown : OwnI w B e v l) (B2 : Nat) (y : Value) (news : List Nat) (hx : a.eval x = y) (hrd : RdI w B2 y news)
    (hl : l.length + news.length ≤ 17592186044416) (hB : B ≤ w.heap.size)
    (h : ∀ v' w', OwnI w' B e v' (l ++ news) → Below B w w' → wpList P ops Q rest (a.put o.dst v') w') :
    wpList P ops Q (o :: rest) a w := by
  obtain ⟨i0, hi, hz0, hz1, hz2⟩ := info_parts hinf
  rcases hrd with ⟨rfl, rfl⟩ | ⟨g, off, cap, rfl, hcap, hB2, hc⟩
  · refine wpList_append_own_none hgd s x t ho B e i0 1 ht hi v _ _ hs hown hx ?_
    exact h v w (by simpa using hown) (Below.refl _ _)
  · refine wpList_append_own _ hgd s x t ho B e i0 (.int .i64 0) 1 8 ht hi hz0 hz1 hz2 rfl (by decide) v _ _ hs hown ⟨g, off, none⟩ news.length cap (news.map iV) hx (by simp) ?_ (fun u hu => by obtain ⟨b, _, rfl⟩ := List.mem_map.1 hu; rfl) (by unfold maxLen; omega) (by omega) (by omega) ?_
    · intro j u hj
      rw [List.getElem?_map] at hj
      rw [Addr.add_lit]
      by_cases hlt : j < news.length
      · rw [List.getElem?_eq_getElem hlt] at hj
        rw [hc j hlt]
        exact hj
      · rw [List.getElem?_eq_none (by omega)] at hj
        simp at hj
    · intro v' w' hown' hg _
      refine h v' w' ?_ ?_
      · have e2 : l.length + news.length = (l ++ news).length := by simp
        have e3 : l.map iV ++ news.map iV = (l ++ news).map iV := by simp
        unfold OwnI
        rw [← e2, ← e3]
        exact hown'
      · exact (Below.refl _ _).grown hg hB (fun q hq => ((World.ownsRow.lt hown) q hq).1)

/-- One int in a new block is the call's own. -/
theorem OwnI.one (w : World) (B : Nat) (e : TypeId) (b : Nat) (hB : B ≤ w.heap.size) : OwnI (w.alloc (.cells #[iV b] e)) B e (.slice (some ⟨w.heap.size, 0, none⟩) 1 1) [b] :=
  ⟨rfl, Or.inr ⟨w.heap.size, 1, #[iV b], rfl, hB, heap_alloc_new w _, Nat.le_refl _, by unfold maxLen; omega, rfl, rfl⟩⟩

/-- A world with a new block of one int. -/
theorem RdI.alloc {w : World} {B : Nat} {v : Value} {l : List Nat} (h : RdI w B v l) (o : Obj) : RdI (w.alloc o) B v l :=
  h.below ((Below.refl w.heap.size w).alloc (Nat.le_refl _) o)

theorem Box2.alloc {w : World} {b : Nat} {T : TypeId} {x y : Value} (h : Box2 w b T x y) (o : Obj) : Box2 (w.alloc o) b T x y := h.old o

set_option maxRecDepth 100000 in
set_option maxHeartbeats 400000 in
theorem digits_all (n : Nat) (w : World) (hn : n < 18446744073709551616) :
    Calls Tryz.prog 122 #[.int .u64 n] w fun e w' => ∃ v', e = .returned (.agg #[v', .int .i64 (pt (trimD (digs n)) (digs n).length)]) ∧ RdI w' w.heap.size v' (trimD (digs n)) ∧ Below w.heap.size w w' := by
  have HI := Lib.hid (show (Tryz.prog.info? 3).map (fun i => (i.zero, i.size, i.bytes)) = some (some (.int .i64 0), 1, 8) by kernel_rfl)
  have hlen := digs_len 20 n (by omega)
  go_enter Tryz.func122, Tryz.ntmps122
  go_wp2
  go_loopw [0, 3] (fun nv dv wr => ∃ (m : Nat) (d : List Nat), m ≤ n ∧ nv = .int .u64 m ∧ OwnI wr (w.heap.size + 1) 3 dv d ∧ digs m ++ d = digs n ∧ Box2 wr w.heap.size 85 (.slice none 0 0) (.int .i64 0) ∧ w.heap.size + 1 ≤ wr.heap.size ∧ Below w.heap.size w wr) (fun nv _ _ => (intOf nv).toNat)
  case atStart => exact ⟨n, [], Nat.le_refl _, rfl, OwnI.nil _ _ _, by simp, Box2.new _ _ _ _, by simp, (Below.refl _ _).alloc (Nat.le_refl _) _⟩
  case round =>
    obtain ⟨m, d, hm, rfl, hown, heq, hb0, hsz, hbel⟩ := hrel
    have hdl : (digs m).length + d.length = (digs n).length := by rw [← heq]; simp
    have HB0 := Lib.hid hb0
    have HEQ := Lib.hid heq
    have HN := Lib.hid hn
    have hm64 : (m : Int) < 18446744073709551616 := by omega
    clear hb0 heq hn
    by_cases h0 : 0 < m
    · have hrd := hown.rd
      go_wp2_with (at_builtin; go_must (refine wpList_appII _ rfl (.tmp 9) (.tmp 10) 83 rfl (w.heap.size + 1) 3 Tryz.underlying83 HI.out _ _ rfl (OwnI.one wr (w.heap.size + 1) 3 (m % 10) (by omega)) (w.heap.size + 1) _ d rfl (hrd.alloc _) (by simp; omega) (by simp; omega) ?_; intro v' w1 hown' hb1))
      go_roundw
      case rel => exact ⟨m / 10, [m % 10] ++ d, by omega, by go_num, hown', by rw [← HEQ.out, digs_pos h0, List.append_assoc], (HB0.out.alloc _).below hb1 (by omega), by have := hb1.size; simp only [World.size_alloc] at this; omega, (hbel.alloc (by omega) _).trans (hb1.mono (by omega))⟩
      case measure => simp [intOf]; omega
    · obtain rfl : m = 0 := by omega
      have HD := Lib.hid (show digs n = d by rw [← HEQ.out, digs_zero]; rfl)
      rw [digs_zero, List.length_nil, Nat.zero_add] at hdl
      have hrd := hown.rd
      obtain ⟨a3, c3, rfl⟩ := hown.rd.forms
      have hdl2 : d.length ≤ 20 := by omega
      clear hdl hlen
      go_wp2_with (go_at_call 87; go_must (refine (trim_all (d.length : Nat) (w.heap.size + 1) (.slice a3 d.length c3) d _ hrd (by omega)).mono ?_; rintro e w2 ⟨v2, rfl, hr2, hb2⟩; obtain ⟨a2, c2, rfl⟩ := hr2.forms; have hz2 := hb2.size; have M1 := Lib.hid ((HB0.out.below hb2 (by omega)) : Box2 w2 w.heap.size _ _ _); have m0 := M1.out.c0; have m1 := M1.out.c1; have mf0 := M1.out.f 0; have mf1 := M1.out.f 1))
      refine bodyPost_ret (v := .agg #[.slice a2 (trimD d).length c2, .int .i64 (pt (trimD d) (d.length : Nat))]) (by simp [results, Tryz.results122, go_sem, m0, m1]) rfl ⟨.slice a2 (trimD d).length c2, by rw [HD.out], ?_, ?_⟩
      · rw [HD.out]
        exact (((hr2.set _ 0 _ (by omega)).set _ 1 _ (by omega))).mono (by omega)
      · exact (((hbel.trans (hb2.mono (by omega))).setCell (by simp) _).setCell (by simp) _)

/-- A row of a block of the call's own: k zeros, and behind them the numbers l. -/
def RowZ (w : World) (g : Nat) (e : TypeId) (k : Nat) (l : List Nat) : Prop := w.heap[g]? = some (.cells ((List.replicate k 0 ++ l).map iV).toArray e (0, 0))

theorem RowZ.cell {w : World} {g : Nat} {e : TypeId} {k : Nat} {l : List Nat} (h : RowZ w g e k l) (j : Nat) (hj : j < k) : w.cell? ⟨g, j, none⟩ = some (.int .i64 0) := by
  simp only [World.cell?, show w.heap[g]? = _ from h]
  rw [List.getElem?_toArray, List.getElem?_map, List.getElem?_append_left (by simpa using hj), List.getElem?_replicate, if_pos hj]
  rfl
theorem RowZ.free {w : World} {g : Nat} {e : TypeId} {k : Nat} {l : List Nat} (h : RowZ w g e k l) (j : Nat) : w.frozen? ⟨g, j, none⟩ = false := by simp [World.frozen?, show w.heap[g]? = _ from h]
theorem RowZ.set {w : World} {g : Nat} {e : TypeId} {k : Nat} {l : List Nat} (h : RowZ w g e (k + 1) l) (x : Nat) : RowZ (w.setCell ⟨g, k, none⟩ (iV x)) g e k (x :: l) := by
  unfold RowZ at *
  rw [heap_setCell_same w g k _ e (iV x) h]
  congr 2
  apply Array.toList_inj.1
  rw [Array.toList_setIfInBounds, List.toList_toArray, ← List.map_set, List.replicate_succ', List.append_assoc, List.set_append_right _ _ (by simp)]
  simp
theorem RowZ.below {w w' : World} {g B : Nat} {e : TypeId} {k : Nat} {l : List Nat} (h : RowZ w g e k l) (hb : Below B w w') (hlt : g < B) : RowZ w' g e k l := by
  unfold RowZ
  rw [hb.block g hlt]
  exact h
theorem RowZ.made (w : World) (e : TypeId) (n : Nat) : RowZ (w.alloc (.cells (madeCells #[.int .i64 0] n) e)) w.heap.size e n [] := by
  unfold RowZ
  rw [heap_alloc_new]
  congr 2
  apply Array.toList_inj.1
  rw [toList_madeCells_one]
  simp [iV]
theorem RowZ.own {w : World} {g B : Nat} {e : TypeId} {l : List Nat} (h : RowZ w g e 0 l) (hB : B ≤ g) (n : Nat) (hn : n = l.length) (hm : n ≤ 100000) : OwnI w B e (.slice (some ⟨g, 0, none⟩) n n) l := by
  subst hn
  refine ⟨by simp, Or.inr ⟨g, l.length, _, rfl, hB, h, Nat.le_refl _, by unfold maxLen; omega, by simp, by simp [List.take_of_length_le]⟩⟩

theorem drop_pred (l : List Nat) (k : Nat) (h : k < l.length) : l.drop k = l[k] :: l.drop (k + 1) := List.drop_eq_getElem_cons h

set_option maxRecDepth 100000 in
set_option maxHeartbeats 400000 in
theorem double_all (p : Int) (v : Value) (l : List Nat) (w : World) (hr : RdI w 0 v l) (hl : l.length ≤ 90000) (hd : Digs l) (hp0 : -1000000 ≤ p) (hp1 : p ≤ 1000000) :
    Calls Tryz.prog 91 #[.agg #[v, .int .i64 p]] w fun e w' => ∃ v', e = .returned (.agg #[v', .int .i64 (pt (trimD (dblL l)) (dblP l p))]) ∧ RdI w' w.heap.size v' (trimD (dblL l)) ∧ Below w.heap.size w w' := by
  have HI := Lib.hid (show (Tryz.prog.info? 3).map (fun i => (i.zero, i.size, i.bytes)) = some (some (.int .i64 0), 1, 8) by kernel_rfl)
  obtain ⟨i0, hi, hz0, hz1, hz2⟩ := info_parts HI.out
  have hmk : ∀ W, (Instr.makeSlice 83 (.int .i64 (l.length : Nat)) (.int .i64 (l.length : Nat))).run Tryz.prog W = .ok (.slice (some ⟨W.heap.size, 0, none⟩) l.length l.length) (W.alloc (.cells (madeCells #[.int .i64 0] l.length) 3)) := fun W => by
    have := run_make W 83 3 i0 (.int .i64 0) Tryz.underlying83 hi hz0 .i64 .i64 (l.length : Nat) (l.length : Nat) (by omega) (by omega) (by rw [hz2]; omega) (by omega)
    rw [this, hz1]
    simp [Value.cells]
  clear hi hz0 hz1 hz2 i0
  have HR := Lib.hid hr
  obtain ⟨a, cap, rfl⟩ := hr.forms
  clear hr
  go_enter Tryz.func91, Tryz.ntmps91
  go_wp2
  go_loopw [4, 5] (fun cv iv wr => ∃ k : Nat, k ≤ l.length ∧ iv = .int .i64 ((k : Int) - 1) ∧ cv = .int .i64 ((dbl (l.drop k)).2 : Nat) ∧ RowZ wr (w.heap.size + 1 + 1) 3 k (dbl (l.drop k)).1 ∧ Box2 wr w.heap.size 85 (.slice a l.length cap) (.int .i64 p) ∧ Box2 wr (w.heap.size + 1) 85 (.slice none 0 0) (.int .i64 0) ∧ w.heap.size + 3 ≤ wr.heap.size ∧ Below w.heap.size w wr) (fun _ iv _ => (intOf iv + 1).toNat)
  case atStart =>
    refine ⟨l.length, Nat.le_refl _, rfl, by rw [List.drop_length]; rfl, ?_, ((Box2.new _ _ _ _).old _).old _, ?_, by simp, ((((Below.refl _ _).alloc (Nat.le_refl _) _).alloc (by simp) _).alloc (by simp; omega) _)⟩
    · rw [List.drop_length]
      have := RowZ.made ((w.alloc (.cells #[.slice a l.length cap, .int .i64 p] 85)).alloc (.cells #[.slice none 0 0, .int .i64 0] 85)) 3 l.length
      rw [World.size_alloc, World.size_alloc] at this
      exact this
    · have := (Box2.new (w.alloc (.cells #[.slice a l.length cap, .int .i64 p] 85)) 85 (.slice none 0 0) (.int .i64 0)).old (.cells (madeCells #[.int .i64 0] l.length) 3)
      rw [World.size_alloc] at this
      exact this
  case round =>
    obtain ⟨k, hk, rfl, rfl, hrow, hb0, hb1, hsz, hbel⟩ := hrel
    have c00 := hb0.c0
    have hcar := dbl_carry (l.drop k) (fun x hx => hd x (List.mem_of_mem_drop hx))
    have HB0 := Lib.hid hb0
    have HB1 := Lib.hid hb1
    clear hb0 hb1 hmk
    by_cases hk0 : 0 < k
    · obtain ⟨j, rfl⟩ : ∃ j, k = j + 1 := ⟨k - 1, by omega⟩
      obtain ⟨g, off, cap', he, hcap, hB0, hc⟩ := HR.out.addr (by omega)
      injection he with e1 e2 e3
      subst e1 e3
      have hg : g < w.heap.size := World.block_lt_of_cell? w _ (hc j hk)
      have hcell : wr.cell? ⟨g, off + j, none⟩ = some (.int .i64 (l[j] : Nat)) := by
        rw [hbel.cell (by exact hg)]; exact hc j hk
      have hd9 := hd l[j] (by simp)
      have hj := hrow.cell j (by omega)
      have hjf := hrow.free j
      have HROW := Lib.hid hrow
      have HS := Lib.hid (show dbl (l.drop j) = ((2 * l[j] + (dbl (l.drop (j + 1))).2) % 10 :: (dbl (l.drop (j + 1))).1, (2 * l[j] + (dbl (l.drop (j + 1))).2) / 10) by rw [drop_pred l j hk]; rfl)
      clear hc hrow
      generalize hde : l[j] = d at *
      clear hde
      generalize hre : (dbl (l.drop (j + 1))).2 = r at *
      clear hre
      go_wp2
      go_roundw
      case rel =>
        refine ⟨j, by omega, by go_num, by rw [HS.out]; go_num, ?_, HB0.out.set_ne _ (by omega), HB1.out.set_ne _ (by omega), by simp; omega, hbel.setCell (by simp; omega) _⟩
        rw [HS.out]
        have := HROW.out.set ((2 * d + r) % 10)
        exact this
      case measure => simp [intOf]
    · obtain rfl : k = 0 := by omega
      rw [List.drop_zero] at hcar hrow ⊢
      have hln : (dbl l).1.length = l.length := dbl_len l
      have HOWN := Lib.hid (hrow.own (B := w.heap.size + 2) (by omega) l.length hln.symm (by omega))
      have HLN := Lib.hid hln
      clear hrow hln
      have f0 := HB0.out.f 0
      have f1 := HB0.out.f 1
      have c01 := HB0.out.c1
      by_cases hc1 : 0 < (dbl l).2
      · rw [show (dbl l).2 = 1 by omega]
        have HH := Lib.hid (show dblL l = 1 :: (dbl l).1 ∧ dblP l p = p + 1 by unfold dblL dblP; rw [if_pos hc1, if_pos hc1, show (dbl l).2 = 1 by omega]; exact ⟨rfl, rfl⟩)
        clear hc1
        go_wp2_with (first | (at_builtin; go_must (refine wpList_appII _ rfl (.tmp 37) (.tmp 38) 83 rfl (w.heap.size + 2) 3 Tryz.underlying83 HI.out _ _ rfl (OwnI.one wr (w.heap.size + 2) 3 1 (by omega)) (w.heap.size + 2) _ (dbl l).1 rfl (HOWN.out.rd.alloc _) (by rw [HLN.out]; simp; omega) (by simp; omega) ?_; intro v' w1 hown' hb1; have hrd' := hown'.rd; rw [List.singleton_append] at hrd'; obtain ⟨a3, c3, hv3⟩ := hrd'.forms; rw [List.length_cons, HLN.out] at hv3; subst hv3; have hz1 := hb1.size; simp only [World.size_alloc] at hz1; have hbel1 := (hbel.alloc (by omega) _).trans (hb1.mono (by omega)); have K0 := Lib.hid ((HB0.out.alloc _).below hb1 (by omega)); have K1 := Lib.hid ((HB1.out.alloc _).below hb1 (by omega)); have g00 := K0.out.c0; have g01 := K0.out.c1; have gf0 := K0.out.f 0; have gf1 := K0.out.f 1)) | (go_at_call 87; go_must (refine (trim_all (p + 1) (w.heap.size + 2) (.slice a3 (l.length + 1) c3) (1 :: (dbl l).1) _ (by exact ((hrd').set w.heap.size 1 (.int .i64 (p + 1)) (by omega)).set w.heap.size 0 (.slice a3 (l.length + 1) c3) (by omega)) (by rw [List.length_cons, HLN.out]; omega)).mono ?_; rintro e w2 ⟨v2, rfl, hr2, hb2⟩; obtain ⟨a2, c2, rfl⟩ := hr2.forms; have hz2 := hb2.size; simp only [size_setCell2] at hz2; have M1 := Lib.hid ((((K1.out.set_ne (.int .i64 (p + 1)) (by omega)).set_ne (.slice a3 (l.length + 1) c3) (by omega)).below hb2 (by simp only [size_setCell2]; omega)) : Box2 w2 (w.heap.size + 1) _ _ _); have m0 := M1.out.c0; have m1 := M1.out.c1; have mf0 := M1.out.f 0; have mf1 := M1.out.f 1)))
        refine bodyPost_ret (v := .agg #[.slice a2 (trimD (1 :: (dbl l).1)).length c2, .int .i64 (pt (trimD (1 :: (dbl l).1)) (p + 1))]) (by simp [results, Tryz.results91, go_sem, m0, m1]) rfl ⟨.slice a2 (trimD (1 :: (dbl l).1)).length c2, by rw [HH.out.1, HH.out.2], ?_, ?_⟩
        · rw [HH.out.1]
          exact (((hr2.set _ 0 _ (by omega)).set _ 1 _ (by omega))).mono (by omega)
        · exact ((((hbel1.setCell (by simp) _).setCell (by simp) _).trans (hb2.mono (by simp only [size_setCell2]; omega))).setCell (by simp) _ |>.setCell (by simp) _)
      · rw [show (dbl l).2 = 0 by omega]
        have HH := Lib.hid (show dblL l = (dbl l).1 ∧ dblP l p = p by unfold dblL dblP; rw [if_neg hc1, if_neg hc1]; exact ⟨rfl, rfl⟩)
        clear hc1
        have hbel1 := hbel
        have hrd := HOWN.out.rd
        go_wp2_with ((go_at_call 87; go_must (refine (trim_all (p) (w.heap.size + 2) (.slice (some ⟨w.heap.size + 1 + 1, 0, none⟩) l.length l.length) ((dbl l).1) _ (by exact (hrd).set w.heap.size 0 (.slice (some ⟨w.heap.size + 1 + 1, 0, none⟩) l.length l.length) (by omega)) (by rw [HLN.out]; omega)).mono ?_; rintro e w2 ⟨v2, rfl, hr2, hb2⟩; obtain ⟨a2, c2, rfl⟩ := hr2.forms; have hz2 := hb2.size; simp only [size_setCell2] at hz2; have M1 := Lib.hid (((HB1.out.set_ne (.slice (some ⟨w.heap.size + 1 + 1, 0, none⟩) l.length l.length) (by omega)).below hb2 (by simp only [size_setCell2]; omega)) : Box2 w2 (w.heap.size + 1) _ _ _); have m0 := M1.out.c0; have m1 := M1.out.c1; have mf0 := M1.out.f 0; have mf1 := M1.out.f 1)))
        refine bodyPost_ret (v := .agg #[.slice a2 (trimD ((dbl l).1)).length c2, .int .i64 (pt (trimD ((dbl l).1)) (p))]) (by simp [results, Tryz.results91, go_sem, m0, m1]) rfl ⟨.slice a2 (trimD ((dbl l).1)).length c2, by rw [HH.out.1, HH.out.2], ?_, ?_⟩
        · rw [HH.out.1]
          exact (((hr2.set _ 0 _ (by omega)).set _ 1 _ (by omega))).mono (by omega)
        · exact (((hbel1.setCell (by simp) _).trans (hb2.mono (by simp only [size_setCell2]; omega))).setCell (by simp) _ |>.setCell (by simp) _)
end Go.Proofs.YtcjeeoadgoghfaaGreatDoor.deci

namespace Go.Proofs.YtcjeeoadgoghfaaGreatDoor.deci
set_option linter.unusedVariables false set_option linter.unusedSimpArgs false
open Go.ChangeShapes Go.WideShapes Go.ChangeAt Go.RowKit Go.Proofs.YtcjeeoadgoghfaaGreatDoor.Deci

/-- The slice v doesn't lie in block D. -/
def Off (v : Value) (D : Nat) : Prop := ∀ g off n cap, v = .slice (some ⟨g, off, none⟩) n cap → 0 < n → g ≠ D
theorem RdI.off {w : World} {B : Nat} {v : Value} {l : List Nat} (h : RdI w B v l) : Off v w.heap.size := by
  intro g off n cap hv hn
  rcases h with ⟨h, _⟩ | ⟨g', off', cap', h, _, _, hc⟩
  · rw [h] at hv; cases hv
  · rw [h] at hv
    cases hv
    have := World.block_lt_of_cell? w _ (hc 0 hn)
    simp at this
    omega
theorem RdI.off_lt {w : World} {B D : Nat} {v : Value} {l : List Nat} (h : RdI w B v l) (hD : D < B) : Off v D := by
  intro g off n cap hv hn
  rcases h with ⟨h, _⟩ | ⟨g', off', cap', h, _, hB, hc⟩
  · rw [h] at hv; cases hv
  · rw [h] at hv
    cases hv
    omega
theorem RdI.setOff {w : World} {B : Nat} {v : Value} {l : List Nat} (h : RdI w B v l) (b o : Nat) (x : Value) (hb : Off v b) : RdI (w.setCell ⟨b, o, none⟩ x) B v l := by
  rcases h with h | ⟨g, off, cap, hv, hc, hB, hr⟩
  · exact Or.inl h
  · refine Or.inr ⟨g, off, cap, hv, hc, hB, fun i hi => ?_⟩
    have := hr i hi
    have hne : g ≠ b := hb g off _ cap hv (by omega)
    go_cell

/-- A struct in a block of the call's own, both fields written. -/
theorem Box2.put {w : World} {b : Nat} {T : TypeId} {x y : Value} (h : Box2 w b T x y) (x' y' : Value) : Box2 ((w.setCell ⟨b, 0, none⟩ x').setCell ⟨b, 1, none⟩ y') b T x' y' := by
  unfold Box2 at *
  have h1 := heap_setCell_same w b 0 _ T x' h
  have h2 := heap_setCell_same _ b 1 _ T y' h1
  rw [h2]
  rfl

/-- What a finite number's word says: a numerator, a denominator. -/
def magOf (b : Nat) : Nat := if b % 9223372036854775808 / 4503599627370496 = 0 then b % 4503599627370496 else b % 4503599627370496 + 4503599627370496
def expOf (b : Nat) : Int := if b % 9223372036854775808 / 4503599627370496 = 0 then -1074 else (b % 9223372036854775808 / 4503599627370496 : Nat) - 1075
def numOf (b : Nat) : Nat := magOf b * 2 ^ (expOf b).toNat
def denOf (b : Nat) : Nat := 2 ^ (-(expOf b)).toNat

theorem run_bits (x : Nat) (W : World) : (callFunc 51 #[.float .f64 x]).run Tryz.prog W = .ok (.value (.int .u64 x)) W := by
  rw [run_callFunc_extern (e := Extern.MathFloatBits.float64bits) Tryz.func51 (by kernel_rfl) (by kernel_rfl) (by kernel_rfl) (by kernel_rfl)]
  rfl
theorem run_frombits (x : Nat) (W : World) : (callFunc 88 #[.int .u64 x]).run Tryz.prog W = .ok (.value (.float .f64 x)) W := by
  rw [run_callFunc_extern (e := Extern.MathFloatBits.float64frombits) Tryz.func88 (by kernel_rfl) (by kernel_rfl) (by kernel_rfl) (by kernel_rfl)]
  rfl

theorem Fine.any {p : Int} {a b : Nat} (h : Fine [] p a b) (b' : Nat) : Fine [] p a b' := Fine.make h.digs h.tight h.led h.zero (by have := Rep.nil h.rep; subst this; simp [Rep, val])

theorem pt_bd {l : List Nat} {p k : Int} (h0 : -k ≤ p) (h1 : p ≤ k) (hk : 0 ≤ k) : -k ≤ pt l p ∧ pt l p ≤ k := by
  unfold pt
  split <;> omega
theorem dblP_bd {l : List Nat} {p k : Int} (h0 : -k ≤ p) (h1 : p ≤ k) : -(k + 1) ≤ dblP l p ∧ dblP l p ≤ k + 1 := by
  unfold dblP
  split <;> omega
theorem hlfP_bd {l : List Nat} {p k : Int} (h0 : -k ≤ p) (h1 : p ≤ k) : -(k + 1) ≤ hlfP l p ∧ hlfP l p ≤ k + 1 := by
  unfold hlfP
  split <;> omega
theorem trim_bd (l : List Nat) (k : Nat) (h : l.length ≤ k) : (trimD l).length ≤ k := Nat.le_trans (trimD_len l) h

end Go.Proofs.YtcjeeoadgoghfaaGreatDoor.deci

namespace Go.Proofs.YtcjeeoadgoghfaaGreatDoor.deci
def wholeN (b : Nat) : Int := if 9223372036854775808 ≤ b then -((numOf b / denOf b : Nat) : Int) else ((numOf b / denOf b : Nat) : Int)
theorem denOf_pos (b : Nat) : 0 < denOf b := Nat.two_pow_pos _
theorem finite_of {b : Nat} (hc : b % 9223372036854775808 < 4890909195324358656) : b % 9223372036854775808 / 4503599627370496 < 2047 := by omega
end Go.Proofs.YtcjeeoadgoghfaaGreatDoor.deci
namespace Go.Proofs.YtcjeeoadgoghfaaGreatDoor.FloatMath
set_option linter.unusedVariables false set_option linter.unusedSimpArgs false
open Ieee Go.Proofs.YtcjeeoadgoghfaaGreatDoor.deci

theorem read_finite (b : Nat) (hf : b % 9223372036854775808 / 4503599627370496 < 2047) : double.read b = .number (b / 9223372036854775808 % 2 == 1) (magOf b) (expOf b) := by
  unfold Format.read
  rw [signWeight, binade, infRung, least]
  simp only
  unfold magOf expOf
  by_cases hs : b % 9223372036854775808 < 4503599627370496
  · rw [if_pos hs, if_pos (by omega), if_pos (by omega)]
    congr 1
    omega
  · rw [if_neg hs, if_pos (by omega), if_neg (by omega), if_neg (by omega)]
    congr 1
    · omega
    · omega

theorem zero_cut (neg : Bool) (n k : Nat) : Toward.zero.cut neg n k = n / 2 ^ k := by
  unfold Toward.cut
  simp only [Nat.one_shiftLeft, Bool.toNat_false, Nat.add_zero]
  by_cases h : k ≤ n.log2 + 2
  · rw [Nat.min_eq_left h]
  · rw [Nat.min_eq_right (by omega)]
    have h1 := lt_log2 n
    have h2 : n < 2 ^ (n.log2 + 2) := Nat.lt_of_lt_of_le h1 (Nat.pow_le_pow_right (by omega) (by omega))
    have h3 : n < 2 ^ k := Nat.lt_of_lt_of_le h1 (Nat.pow_le_pow_right (by omega) (by omega))
    rw [Nat.div_eq_of_lt h2, Nat.div_eq_of_lt h3]

/-- The word of a finite number that is cut to a whole number. -/
def trW (b : Nat) : Nat := double.nearest (b / 9223372036854775808 % 2 == 1) (numOf b / denOf b) 0

theorem trunc_word (b : Nat) (hf : b % 9223372036854775808 / 4503599627370496 < 2047) : double.write ((double.read b).integral .zero) = trW b := by
  rw [read_finite b hf]
  unfold Datum.integral Format.write trW
  simp only
  rw [zero_cut, Nat.shiftLeft_eq]
  rfl

theorem order_eq (s : Bool) (m n : Nat) (i j : Int) : (Datum.number s m i).order (.number s n j) = some .eq ↔ m * 2 ^ (i - min i j).toNat = n * 2 ^ (j - min i j).toNat := by
  unfold Datum.order signed
  simp only [Option.some.injEq, Nat.shiftLeft_eq]
  generalize m * 2 ^ (i - min i j).toNat = x
  generalize n * 2 ^ (j - min i j).toNat = y
  have h : ∀ a c : Int, compare a c = .eq ↔ a = c := fun a c => by rw [Std.LawfulEqCmp.compare_eq_iff_eq]
  rw [h]
  cases s
  · simp only [Bool.false_eq_true, if_false]; omega
  · simp only [if_true]; omega

theorem mag_lt (b : Nat) : magOf b < 2 ^ 53 := by rw [pow53]; unfold magOf; split <;> omega
theorem mag_ge (b : Nat) (h : -1074 < expOf b) : 2 ^ 52 ≤ magOf b := by
  rw [pow52]; unfold expOf at h; unfold magOf
  split
  · rename_i h0; rw [if_pos h0] at h; omega
  · omega
theorem exp_ge (b : Nat) : -1074 ≤ expOf b := by unfold expOf; split <;> omega

theorem rung_of (b : Nat) (h : -1074 < expOf b) : (expOf b + 1074).toNat * 4503599627370496 + magOf b = b % 9223372036854775808 := by
  unfold expOf magOf at *
  split
  · rename_i h0; rw [if_pos h0] at h; omega
  · omega

theorem word_self (b : Nat) (hb : b < 18446744073709551616) : double.word (b / 9223372036854775808 % 2 == 1) (b % 9223372036854775808) = b := by
  unfold Format.word
  rw [signWeight]
  by_cases h : b / 9223372036854775808 % 2 = 1
  · simp only [h, beq_self_eq_true, if_true]; omega
  · have e : (b / 9223372036854775808 % 2 == 1) = false := by simpa using h
    rw [e]
    simp
    omega

theorem log2_eq {m k : Nat} (h0 : 2 ^ k ≤ m) (h1 : m < 2 ^ (k + 1)) : m.log2 = k := by
  have hp := Nat.two_pow_pos k
  have a := (Nat.le_log2 (n := m) (by omega)).2 h0
  have b := (Nat.log2_lt (n := m) (k := k + 1) (by omega)).2 h1
  omega

/-- A whole number cut is itself, and no other is. -/
theorem trunc_order (b : Nat) (hb : b < 18446744073709551616) (hf : b % 9223372036854775808 / 4503599627370496 < 2047) : double.order (trW b) b = some .eq ↔ denOf b ∣ numOf b := by
  have hpos : 0 < denOf b := (Nat.two_pow_pos _)
  unfold Format.order
  by_cases hV : numOf b / denOf b = 0
  · have e : double.read (trW b) = .number (b / 9223372036854775808 % 2 == 1) 0 (-1074) := by
      unfold trW Format.nearest
      rw [hV, if_pos rfl, read_word _ _ (by omega), if_pos (by omega)]
    rw [e, read_finite b hf, order_eq, Nat.zero_mul]
    have hlt : numOf b < denOf b := by
      rcases Nat.div_eq_zero_iff.1 hV with h | h
      · omega
      · exact h
    constructor
    · intro h
      have hm : magOf b = 0 := by
        rcases Nat.mul_eq_zero.1 h.symm with h | h
        · exact h
        · have := Nat.two_pow_pos (expOf b - min (-1074) (expOf b)).toNat; omega
      unfold numOf
      rw [hm, Nat.zero_mul]
      exact Nat.dvd_zero _
    · intro h
      have hn := Nat.eq_zero_of_dvd_of_lt h hlt
      unfold numOf at hn
      rcases Nat.mul_eq_zero.1 hn with h | h
      · rw [h, Nat.zero_mul]
      · have := Nat.two_pow_pos (expOf b).toNat; omega
  · by_cases he : 0 ≤ expOf b
    · have hden : denOf b = 1 := by unfold denOf; rw [show (-(expOf b)).toNat = 0 by omega]
      rw [hden, Nat.div_one] at hV
      have hm1 := mag_lt b
      have hm2 := mag_ge b (by omega)
      have hlog : (numOf b).log2 = 52 + (expOf b).toNat := by
        apply log2_eq
        · unfold numOf; rw [Nat.pow_add]; exact Nat.mul_le_mul_right _ hm2
        · unfold numOf; rw [show 52 + (expOf b).toNat + 1 = 53 + (expOf b).toNat by omega, Nat.pow_add]; exact Nat.mul_lt_mul_of_pos_right hm1 (Nat.two_pow_pos _)
      have hr := rung_of b (by omega)
      have hx := nearest_exact (b / 9223372036854775808 % 2 == 1) (numOf b) (magOf b) 0 (expOf b) (by omega) (by rw [hlog]; omega) (by rw [show (0 - expOf b).toNat = 0 by omega, Nat.pow_zero, Nat.mul_one, show (expOf b - 0).toNat = (expOf b).toNat by omega]; rfl) (by rw [hr]; omega)
      have ht : trW b = b := by
        unfold trW
        rw [hden, Nat.div_one, hx.1, hr, word_self b hb]
      rw [ht, read_finite b hf, order_eq, hden]
      exact ⟨fun _ => Nat.one_dvd _, fun _ => rfl⟩
    · have hnum : numOf b = magOf b := by unfold numOf; rw [show (expOf b).toNat = 0 by omega]; simp
      obtain ⟨V, hVd⟩ : ∃ V, V = numOf b / denOf b := ⟨_, rfl⟩
      have hV53 : V < 2 ^ 53 := by rw [hVd, hnum]; exact Nat.lt_of_le_of_lt (Nat.div_le_self _ _) (mag_lt b)
      have hVp : 0 < V := by omega
      have hlog : V.log2 ≤ 52 := by have := (Nat.log2_lt (n := V) (k := 53) (by omega)).2 hV53; omega
      have hkl : V * 2 ^ (52 - V.log2) < 2 ^ 53 := by
        have h1 := lt_log2 V
        calc V * 2 ^ (52 - V.log2) < 2 ^ (V.log2 + 1) * 2 ^ (52 - V.log2) := Nat.mul_lt_mul_of_pos_right h1 (Nat.two_pow_pos _)
          _ = 2 ^ (V.log2 + 1 + (52 - V.log2)) := (Nat.pow_add 2 _ _).symm
          _ = 2 ^ 53 := by rw [show V.log2 + 1 + (52 - V.log2) = 53 by omega]
      rw [pow53] at hkl
      have hx := nearest_exact (b / 9223372036854775808 % 2 == 1) V (V * 2 ^ (52 - V.log2)) 0 (V.log2 - 52) hVp (by omega) (by rw [show ((V.log2 : Int) - 52 - 0).toNat = 0 by omega, show (0 - ((V.log2 : Int) - 52)).toNat = 52 - V.log2 by omega]; simp) (by omega)
      have ht : double.read (trW b) = .number (b / 9223372036854775808 % 2 == 1) (V * 2 ^ (52 - V.log2)) (V.log2 - 52) := by unfold trW; rw [← hVd]; exact hx.2
      rw [ht, read_finite b hf, order_eq, hnum]
      obtain ⟨B, hB⟩ : ∃ B, B = min ((V.log2 : Int) - 52) (expOf b) := ⟨_, rfl⟩
      rw [← hB]
      have e1 : V * 2 ^ (52 - V.log2) * 2 ^ ((V.log2 : Int) - 52 - B).toNat = V * denOf b * 2 ^ (expOf b - B).toNat := by
        unfold denOf
        rw [Nat.mul_assoc, Nat.mul_assoc, ← Nat.pow_add, ← Nat.pow_add]
        congr 2
        omega
      rw [e1]
      constructor
      · intro h
        have := Nat.eq_of_mul_eq_mul_right (Nat.two_pow_pos _) h
        exact ⟨V, by rw [← this, Nat.mul_comm]⟩
      · rintro ⟨q, hq⟩
        have : V = q := by rw [hVd, hnum, hq, Nat.mul_div_cancel_left _ hpos]
        rw [this, hq, Nat.mul_comm q]

/-- Numbers that aren't below 0 compare as their words do: against 2^63. -/
theorem order_big (r : Nat) (h : r / 4503599627370496 < 2047) (hr : r < 9223372036854775808) : (double.order r 4890909195324358656 == some .gt || double.order r 4890909195324358656 == some .eq) = decide (4890909195324358656 ≤ r) := by
  have e0 : r % 9223372036854775808 = r := Nat.mod_eq_of_lt hr
  have hf : r % 9223372036854775808 / 4503599627370496 < 2047 := by rw [e0]; exact h
  have hc : double.read 4890909195324358656 = .number false 4503599627370496 11 := by
    rw [read_finite _ (by decide)]
    decide
  have hs : (r / 9223372036854775808 % 2 == 1) = false := by rw [Nat.div_eq_of_lt hr]; rfl
  unfold Format.order
  rw [read_finite r hf, hc, hs]
  unfold Datum.order signed
  simp only [Nat.shiftLeft_eq, Bool.false_eq_true, if_false]
  have hm1 := mag_lt r
  rw [pow53] at hm1
  obtain ⟨x, hx⟩ : ∃ x : Nat, x = magOf r * 2 ^ (expOf r - min (expOf r) 11).toNat := ⟨_, rfl⟩
  obtain ⟨y, hy⟩ : ∃ y : Nat, y = 4503599627370496 * 2 ^ (11 - min (expOf r) 11).toNat := ⟨_, rfl⟩
  rw [← hx, ← hy]
  by_cases hbig : 4890909195324358656 ≤ r
  · have he : 11 ≤ expOf r := by unfold expOf; rw [e0, if_neg (by omega)]; omega
    have hm2 := mag_ge r (by omega)
    rw [pow52] at hm2
    have hle : y ≤ x := by
      rw [hx, hy, show (11 - min (expOf r) 11).toNat = 0 by omega, Nat.pow_zero, Nat.mul_one]
      exact Nat.le_trans hm2 (Nat.le_mul_of_pos_right _ (Nat.two_pow_pos _))
    rw [decide_eq_true hbig]
    rcases Nat.lt_or_eq_of_le hle with h1 | h1
    · rw [show compare (x : Int) (y : Int) = .gt by rw [Int.compare_eq_gt]; omega]; rfl
    · rw [h1, show compare (x : Int) (x : Int) = .eq by rw [Std.LawfulEqCmp.compare_eq_iff_eq]]; rfl
  · have he : expOf r ≤ 10 := by unfold expOf; rw [e0]; split <;> omega
    have hlt : x < y := by
      rw [hx, hy, show (expOf r - min (expOf r) 11).toNat = 0 by omega, Nat.pow_zero, Nat.mul_one]
      have : 2 ^ 1 ≤ 2 ^ (11 - min (expOf r) 11).toNat := Nat.pow_le_pow_right (by omega) (by omega)
      have := Nat.mul_le_mul_left 4503599627370496 this
      omega
    rw [decide_eq_false hbig, show compare (x : Int) (y : Int) = .lt by rw [Int.compare_eq_lt]; omega]
    rfl

theorem read_inf (b : Nat) (h : b % 9223372036854775808 = 9218868437227405312) : double.read b = .infinity (b / 9223372036854775808 % 2 == 1) := by
  unfold Format.read
  rw [signWeight, binade, infRung]
  simp only
  rw [if_neg (by omega), if_neg (by omega), if_pos h]
theorem read_nan (b : Nat) (h : 9218868437227405312 < b % 9223372036854775808) : double.read b = .nan (b / 9223372036854775808 % 2 == 1) (b % 9223372036854775808 - 9218868437227405312) := by
  unfold Format.read
  rw [signWeight, binade, infRung]
  simp only
  rw [if_neg (by omega), if_neg (by omega), if_neg (by omega)]
theorem inf_word (b : Nat) (hb : b < 18446744073709551616) (h : b % 9223372036854775808 = 9218868437227405312) : double.write ((double.read b).integral .zero) = b := by
  rw [read_inf b h]
  show double.word _ double.infRung = b
  rw [infRung, ← h, word_self b hb]
theorem inf_order (b : Nat) (h : b % 9223372036854775808 = 9218868437227405312) : double.order b b = some .eq := by
  unfold Format.order
  rw [read_inf b h]
  unfold Datum.order
  simp
theorem inf_big : (double.order 9218868437227405312 4890909195324358656 == some .gt || double.order 9218868437227405312 4890909195324358656 == some .eq) = true := by decide
theorem nan_order (a b : Nat) (h : 9218868437227405312 < b % 9223372036854775808) : double.order a b = none := by
  unfold Format.order
  rw [read_nan b h]
  unfold Datum.order
  split <;> simp_all
end Go.Proofs.YtcjeeoadgoghfaaGreatDoor.FloatMath
