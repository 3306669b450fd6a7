/- Contracts of the document's digits with a point (package tedderref02): trim, double, half. -/
import Derived.Test.YtnddldnabldnoaaGreatDoorProg
import Derived.Test.YtnddldnabldnoaaGreatDoorKit
import Derived.Test.YtnddldnabldnoaaGreatDoorDeciMath
import Derived.OpenShut
import Derived.Outline
import Derived.Handy
namespace Go.Proofs.YtnddldnabldnoaaGreatDoor.deci
set_option linter.unusedVariables false set_option linter.unusedSimpArgs false
open Go.ChangeShapes Go.WideShapes Go.ChangeAt Go.RowKit Go.Proofs.YtnddldnabldnoaaGreatDoor.Deci

/-- v reads as the numbers l, in a block from B on. -/
def RdI (w : World) (B : Nat) (v : Value) (l : List Nat) : Prop :=
  (v = .slice none 0 0 ∧ l = []) ∨ ∃ g off cap, v = .slice (some ⟨g, off, none⟩) l.length cap ∧ l.length ≤ cap ∧ B ≤ g ∧ ∀ i (h : i < l.length), w.cell? ⟨g, off + i, none⟩ = some (.int .i64 (l[i] : Nat))

theorem RdI.below {w w' : World} {B : Nat} {v : Value} {l : List Nat} (h : RdI w B v l) (hb : Below w.heap.size w w') : RdI w' B v l := by
  rcases h with h | ⟨g, off, cap, hv, hc, hB, hr⟩
  · exact Or.inl h
  · refine Or.inr ⟨g, off, cap, hv, hc, hB, fun i hi => ?_⟩
    rw [hb.cell (by exact World.block_lt_of_cell? w _ (hr i hi))]
    exact hr i hi
theorem RdI.mono {w : World} {B B' : Nat} {v : Value} {l : List Nat} (h : RdI w B v l) (hb : B' ≤ B) : RdI w B' v l := by
  rcases h with h | ⟨g, off, cap, hv, hc, hB, hr⟩
  · exact Or.inl h
  · exact Or.inr ⟨g, off, cap, hv, hc, by omega, hr⟩
theorem RdI.set {w : World} {B : Nat} {v : Value} {l : List Nat} (h : RdI w B v l) (b o : Nat) (x : Value) (hb : b < B) : RdI (w.setCell ⟨b, o, none⟩ x) B v l := by
  rcases h with h | ⟨g, off, cap, hv, hc, hB, hr⟩
  · exact Or.inl h
  · refine Or.inr ⟨g, off, cap, hv, hc, hB, fun i hi => ?_⟩
    have := hr i hi
    have hne : g ≠ b := by omega
    go_cell

theorem RdI.take {w : World} {B g off cap n : Nat} {l : List Nat} (hc : l.length ≤ cap) (hB : B ≤ g) (hr : ∀ i (h : i < l.length), w.cell? ⟨g, off + i, none⟩ = some (.int .i64 (l[i] : Nat))) (hn : n ≤ l.length) :
    RdI w B (.slice (some ⟨g, off, none⟩) n cap) (l.take n) := by
  have e : (l.take n).length = n := by simp; omega
  refine Or.inr ⟨g, off, cap, by rw [e], by omega, hB, fun i hi => ?_⟩
  rw [hr i (by omega), List.getElem_take]

theorem trim_all (p : Int) (B : Nat) (v : Value) (l : List Nat) (w : World) (hr : RdI w B v l) (hl : l.length ≤ 100000) :
    Calls Tryz.prog 60 #[.agg #[v, .int .i64 p]] w fun e w' => ∃ v', e = .returned (.agg #[v', .int .i64 (pt (trimD l) p)]) ∧ RdI w' B v' (trimD l) ∧ Below w.heap.size w w' := by
  rcases hr with ⟨rfl, rfl⟩ | ⟨g, off, cap, rfl, hcap, hB, hc⟩
  · go_enter Tryz.func60, Tryz.ntmps60
    go_wp2
    go_rounds 1
    exact bodyPost_ret (v := .agg #[.slice none 0 0, .int .i64 0]) (by simp [results, Tryz.results60, go_sem]) rfl ⟨_, by rw [trimD_nil, pt_zero rfl], Or.inl ⟨rfl, trimD_nil⟩, (((Below.refl _ _).alloc (Nat.le_refl _) _).alloc (by simp) _)⟩
  · have hlt0 : 0 < l.length → g < w.heap.size := fun h => World.block_lt_of_cell? w _ (hc 0 h)
    go_enter Tryz.func60, Tryz.ntmps60
    go_wp2
    go_loop [3] (fun n => ∃ k : Nat, k ≤ l.length ∧ n = .int .i64 k ∧ trimD (l.take k) = trimD l) (fun n => (intOf n).toNat)
    case atStart => exact ⟨l.length, Nat.le_refl _, rfl, by rw [List.take_length]⟩
    case round =>
      obtain ⟨k, hk, rfl, ht⟩ := hrel
      have HT := Lib.hid ht
      clear ht
      by_cases hk0 : 0 < k
      · have hg := hlt0 (by omega)
        obtain ⟨c, hcc⟩ : ∃ c, c = l[k - 1]'(by omega) := ⟨_, rfl⟩
        have hcell : w.cell? ⟨g, off + (k - 1), none⟩ = some (.int .i64 (c : Nat)) := by rw [hcc]; exact hc (k - 1) (by omega)
        have HC := Lib.hid hcc
        have HCC := Lib.hid hc
        clear hcc hc
        by_cases hz : c = 0
        · subst hz
          go_wp2
          go_round
          case rel =>
            refine ⟨k - 1, by omega, by go_num, ?_⟩
            rw [← HT.out, show l.take k = l.take (k - 1) ++ [0] by rw [show l.take k = l.take (k - 1 + 1) by rw [show k - 1 + 1 = k by omega], List.take_succ_eq_append_getElem (by omega), ← HC.out], trimD_snoc0]
          case measure => simp [intOf]; omega
        · have hz2 : (((c : Nat) : Int) == 0) = false := by simp; omega
          have e : trimD l = l.take k := by
            rw [← HT.out, show l.take k = l.take (k - 1) ++ [c] by rw [show l.take k = l.take (k - 1 + 1) by rw [show k - 1 + 1 = k by omega], List.take_succ_eq_append_getElem (by omega), ← HC.out], trimD_snoc _ _ hz]
          have HE := Lib.hid e
          clear e
          go_wp2
          refine bodyPost_ret (v := .agg #[.slice (some ⟨g, off, none⟩) k cap, .int .i64 p]) (by simp [results, Tryz.results60, go_sem]) rfl ⟨.slice (some ⟨g, off, none⟩) k cap, ?_, ?_, ?_⟩
          · have : trimD l ≠ [] := by rw [HE.out]; intro h; have := congrArg List.length h; rw [List.length_take, List.length_nil] at this; omega
            rw [pt, if_neg this]
          · rw [HE.out]
            exact (RdI.take hcap hB HCC.out hk).below (((Below.refl _ _).alloc (Nat.le_refl _) _).alloc (by simp) _)
          · exact ((Below.refl _ _).alloc (Nat.le_refl _) _).alloc (by simp) _
      · obtain rfl : k = 0 := by omega
        have HCC := Lib.hid hc
        clear hc
        go_wp2
        have e : trimD l = [] := by rw [← HT.out, List.take_zero, trimD_nil]
        refine bodyPost_ret (v := .agg #[.slice (some ⟨g, off, none⟩) 0 cap, .int .i64 0]) (by simp [results, Tryz.results60, go_sem]) rfl ⟨.slice (some ⟨g, off, none⟩) 0 cap, ?_, ?_, ?_⟩
        · rw [e, pt_zero rfl]
        · rw [e]
          exact (RdI.take (n := 0) hcap hB HCC.out (by omega)).below (((Below.refl _ _).alloc (Nat.le_refl _) _).alloc (by simp) _)
        · exact ((Below.refl _ _).alloc (Nat.le_refl _) _).alloc (by simp) _

theorem RdI.forms {w : World} {B : Nat} {v : Value} {l : List Nat} (h : RdI w B v l) : ∃ a cap, v = .slice a l.length cap := by
  rcases h with ⟨rfl, rfl⟩ | ⟨g, off, cap, rfl, _⟩
  · exact ⟨_, _, rfl⟩
  · exact ⟨_, _, rfl⟩
theorem RdI.addr {w : World} {B : Nat} {v : Value} {l : List Nat} (h : RdI w B v l) (h0 : 0 < l.length) : ∃ g off cap, v = .slice (some ⟨g, off, none⟩) l.length cap ∧ l.length ≤ cap ∧ B ≤ g ∧ ∀ i (h : i < l.length), w.cell? ⟨g, off + i, none⟩ = some (.int .i64 (l[i] : Nat)) := by
  rcases h with ⟨rfl, rfl⟩ | h
  · simp at h0
  · exact h

/-- The first of some numbers, and the rest as a piece of the slice. -/
theorem RdI.first {P : Program} {w : World} {B : Nat} {v : Value} {c : Nat} {t : List Nat} (T : TypeId) (hT : P.underlying T = some (.slice (P.elem T))) (hso : ∀ W, (sizeOf (P.elem T)).run P W = .ok 1 W) (h : RdI w B v (c :: t)) :
    ∃ g off cap aV cV, v = .slice (some ⟨g, off, none⟩) (t.length + 1) cap ∧ t.length + 1 ≤ cap ∧ B ≤ g ∧ w.cell? ⟨g, off, none⟩ = some (.int .i64 (c : Nat)) ∧ RdI w B (.slice aV t.length cV) t ∧
      ∀ W, (Instr.slice T (.slice (some ⟨g, off, none⟩) (t.length + 1) cap) (some (.int .i64 1)) none none).run P W = .ok (.slice aV t.length cV) W := by
  obtain ⟨g, off, cap, rfl, hcap, hB, hc⟩ := h.addr (by simp)
  simp only [List.length_cons] at hcap hc ⊢
  have h0 := hc 0 (by omega)
  refine ⟨g, off, cap, if cap = 1 then some ⟨g, off, none⟩ else some ⟨g, off + 1, none⟩, cap - 1, rfl, hcap, hB, h0, ?_, fun W => ?_⟩
  · by_cases h1 : cap = 1
    · obtain rfl : t = [] := List.eq_nil_of_length_eq_zero (by omega)
      rw [if_pos h1]
      exact Or.inr ⟨g, off, cap - 1, rfl, Nat.zero_le _, hB, fun i hi => by simp at hi⟩
    · rw [if_neg h1]
      refine Or.inr ⟨g, off + 1, cap - 1, rfl, by omega, hB, fun i hi => ?_⟩
      have := hc (i + 1) (by omega)
      rw [show off + 1 + i = off + (i + 1) by omega]
      exact this
  · rw [run_slice_l W T _ _ _ hT .i64 1 (by omega) (by omega), hso]
    simp only [Result.andThen, sliced]
    by_cases h1 : cap = 1
    · simp [h1]
    · simp [h1, Addr.add_lit]

def iV (n : Nat) : Value := .int .i64 (n : Int)
/-- v is a slice of ints of the call's own (from block B on): the numbers l. -/
def OwnI (w : World) (B : Nat) (e : TypeId) (v : Value) (l : List Nat) : Prop := w.ownsRow B e 1 v l.length (l.map iV)
theorem OwnI.nil (w : World) (B : Nat) (e : TypeId) : OwnI w B e (.slice none 0 0) [] := World.ownsRow_nil _ _ _ _
theorem OwnI.alloc {w : World} {B : Nat} {e : TypeId} {v : Value} {l : List Nat} (h : OwnI w B e v l) (o : Obj) : OwnI (w.alloc o) B e v l := World.ownsRow.alloc h o
theorem OwnI.below {w w' : World} {B : Nat} {e : TypeId} {v : Value} {l : List Nat} (h : OwnI w B e v l) (hb : Below w.heap.size w w') : OwnI w' B e v l := by
  refine ⟨h.1, h.2.elim Or.inl (fun ⟨g, cap, cur, hv, hg, hh, r⟩ => Or.inr ⟨g, cap, cur, hv, hg, ?_, r⟩)⟩
  rw [hb.block g (by exact (Array.getElem?_eq_some_iff.1 hh).1)]
  exact hh
theorem OwnI.rd {w : World} {B : Nat} {e : TypeId} {v : Value} {l : List Nat} (h : OwnI w B e v l) : RdI w B v l := by
  have hc := fun g hg => World.ownsRow.cells h (g := g) hg
  rcases h.2 with ⟨h0, h1⟩ | ⟨g, cap, cur, hv, hg, hh, hn, hm, hcs, ht⟩
  · exact Or.inl ⟨h0, List.eq_nil_of_length_eq_zero h1⟩
  · refine Or.inr ⟨g, 0, cap, hv, hn, hg, fun i hi => ?_⟩
    have := hc g (by rw [hv]; rfl) i (iV l[i]) (by rw [List.getElem?_map, List.getElem?_eq_getElem hi]; rfl)
    rw [Addr.add_lit] at this
    exact this

/-- 'append(l, x)' of one int, which lies in a new block of its own. -/
theorem wpList_appI1 {P : Program} (w : World) {ops : Array Oper} {rest : List Oper} {o : Oper} {a : Act} {Q : Exit → Act → World → Prop} (hgd : o.guard = none) (s x : Operand) (t : TypeId)
    (ho : o.op = .call { callee := .builtin .append, args := #[s, x], argTypes := #[t, t] })
    (B : Nat) (e : TypeId) (ht : P.underlying t = some (.slice e)) (hinf : (P.info? e).map (fun i => (i.zero, i.size, i.bytes)) = some (some (.int .i64 0), 1, 8))
    (v : Value) (l : List Nat) (hs : a.eval s = v) (hown : OwnI w B e v l) (n : Int)
    (hx : a.eval x = .slice (some ⟨w.heap.size, 0, none⟩) 1 1) (b : Nat) (hn : n = (b : Int)) (hl : l.length + 1 ≤ 17592186044416) (hB : B ≤ w.heap.size)
    (h : ∀ v' w', OwnI w' B e v' (l ++ [b]) → Below B w w' → wpList P ops Q rest (a.put o.dst v') w') :
    wpList P ops Q (o :: rest) a (w.alloc (.cells #[.int .i64 n] e)) := by
  obtain ⟨i0, hi, hz0, hz1, hz2⟩ := info_parts hinf
  subst hn
  refine wpList_append_own _ hgd s x t ho B e i0 (.int .i64 0) 1 8 ht hi hz0 hz1 hz2 rfl (by decide) v _ _ hs (World.ownsRow.alloc hown _) ⟨w.heap.size, 0, none⟩ 1 1 [iV b] hx rfl (cell_one_new _ _ _) (fun u hu => by simp at hu; subst hu; rfl) (by unfold maxLen; omega) (by omega) (by simp; omega) ?_
  intro v' w' hown' hg _
  refine h v' w' ?_ ?_
  · have e2 : l.length + 1 = (l ++ [b]).length := by simp
    have e3 : l.map iV ++ [iV b] = (l ++ [b]).map iV := by simp
    unfold OwnI
    rw [← e2, ← e3]
    exact hown'
  · exact ((Below.refl _ _).alloc hB _).grown hg (by simp; omega) (fun q hq => ((World.ownsRow.lt hown) q hq).1)

/-- What a struct in a block of the call's own holds. -/
def Box2 (w : World) (b : Nat) (T : TypeId) (x y : Value) : Prop := w.heap[b]? = some (.cells #[x, y] T (0, 0))
theorem Box2.c0 {w : World} {b : Nat} {T : TypeId} {x y : Value} (h : Box2 w b T x y) : w.cell? ⟨b, 0, none⟩ = some x := by simp [World.cell?, show w.heap[b]? = _ from h]
theorem Box2.c1 {w : World} {b : Nat} {T : TypeId} {x y : Value} (h : Box2 w b T x y) : w.cell? ⟨b, 1, none⟩ = some y := by simp [World.cell?, show w.heap[b]? = _ from h]
theorem Box2.f {w : World} {b : Nat} {T : TypeId} {x y : Value} (h : Box2 w b T x y) (o : Nat) : w.frozen? ⟨b, o, none⟩ = false := by simp [World.frozen?, show w.heap[b]? = _ from h]
theorem Box2.below {w w' : World} {b B : Nat} {T : TypeId} {x y : Value} (h : Box2 w b T x y) (hb : Below B w w') (hlt : b < B) : Box2 w' b T x y := by
  unfold Box2
  rw [hb.block b hlt]
  exact h

theorem Box2.new (w : World) (T : TypeId) (x y : Value) : Box2 (w.alloc (.cells #[x, y] T)) w.heap.size T x y := heap_alloc_new w _
theorem Box2.old {w : World} {b : Nat} {T : TypeId} {x y : Value} (h : Box2 w b T x y) (o : Obj) : Box2 (w.alloc o) b T x y :=
  h.below ((Below.refl w.heap.size _).alloc (Nat.le_refl _) _) (by exact (Array.getElem?_eq_some_iff.1 h).1)

theorem Box2.set_ne {w : World} {b b2 o : Nat} {T : TypeId} {x y : Value} (h : Box2 w b T x y) (z : Value) (hne : b2 ≠ b) : Box2 (w.setCell ⟨b2, o, none⟩ z) b T x y := by
  unfold Box2 at *
  rw [heap_setCell_other w ⟨b2, o, none⟩ b z (fun e => hne e.symm)]
  exact h

theorem size_setCell2 (w : World) (a : Addr) (v : Value) : (w.setCell a v).heap.size = w.heap.size := by simp

theorem rem_snoc (l : List Nat) (d : Nat) : rem 0 (l ++ [d]) = (10 * rem 0 l + d) % 2 ∧ hlf 0 (l ++ [d]) = hlf 0 l ++ [(10 * rem 0 l + d) / 2] := ⟨(hlf_snoc l d 0).2, (hlf_snoc l d 0).1⟩

set_option maxRecDepth 100000 in
set_option maxHeartbeats 400000 in
theorem half_all (p : Int) (v : Value) (l : List Nat) (w : World) (hr : RdI w 0 v l) (hl : l.length ≤ 90000) (hd : Digs l) (hp0 : -1000000 ≤ p) (hp1 : p ≤ 1000000) :
    Calls Tryz.prog 62 #[.agg #[v, .int .i64 p]] w fun e w' => ∃ v', e = .returned (.agg #[v', .int .i64 (pt (trimD (hlfL l)) (hlfP l p))]) ∧ RdI w' w.heap.size v' (trimD (hlfL l)) ∧ Below w.heap.size w w' := by
  have HI := Lib.hid (show (Tryz.prog.info? 3).map (fun i => (i.zero, i.size, i.bytes)) = some (some (.int .i64 0), 1, 8) by kernel_rfl)
  have HR := Lib.hid hr
  obtain ⟨a, cap, rfl⟩ := hr.forms
  clear hr
  go_enter Tryz.func62, Tryz.ntmps62
  go_wp2
  go_loopw [3, 4, 5] (fun ov lv iv wr => ∃ k : Nat, k ≤ l.length ∧ iv = .int .i64 k ∧ lv = .int .i64 (rem 0 (l.take k) : Nat) ∧ OwnI wr (w.heap.size + 2) 3 ov (hlf 0 (l.take k)) ∧ Box2 wr w.heap.size 79 (.slice a l.length cap) (.int .i64 p) ∧ Box2 wr (w.heap.size + 1) 79 (.slice none 0 0) (.int .i64 0) ∧ w.heap.size + 2 ≤ wr.heap.size ∧ Below w.heap.size w wr) (fun _ _ iv _ => l.length - (intOf iv).toNat)
  case atStart => exact ⟨0, Nat.zero_le _, rfl, rfl, OwnI.nil _ _ _, (Box2.new _ _ _ _).old _, (by have := Box2.new (w.alloc (.cells #[.slice a l.length cap, .int .i64 p] 79)) 79 (.slice none 0 0) (.int .i64 0); rw [World.size_alloc] at this; exact this), by simp, ((Below.refl _ _).alloc (Nat.le_refl _) _).alloc (by simp) _⟩
  case round =>
    obtain ⟨k, hk, rfl, rfl, hown, hb0, hb1, hsz, hbel⟩ := hrel
    have c00 := hb0.c0
    have hrem := rem_le (l.take k) 0 (by omega)
    have HB0 := Lib.hid hb0
    have HB1 := Lib.hid hb1
    clear hb0 hb1
    by_cases hlt : k < l.length
    · obtain ⟨g, off, cap', he, hcap, hB0, hc⟩ := HR.out.addr (by omega)
      injection he with e1 e2 e3
      subst e1 e3
      have hg : g < w.heap.size := World.block_lt_of_cell? w _ (hc k hlt)
      have hcell : wr.cell? ⟨g, off + k, none⟩ = some (.int .i64 (l[k] : Nat)) := by
        rw [hbel.cell (by exact hg)]; exact hc k hlt
      have hd9 := hd l[k] (by simp)
      have HS := Lib.hid (rem_snoc (l.take k) l[k])
      have HC := Lib.hid hc
      have HT := Lib.hid (show l.take k ++ [l[k]] = l.take (k + 1) from (List.take_succ_eq_append_getElem hlt).symm)
      clear hc
      generalize hde : l[k] = d at *
      have HDE := Lib.hid hde
      clear hde
      generalize hre : rem 0 (l.take k) = r at *
      have HRE := Lib.hid hre
      clear hre
      have hlen : (hlf 0 (l.take k)).length ≤ k := by rw [hlf_len]; exact List.length_take_le _ _
      go_wp2_with (at_builtin; refine wpList_appI1 _ rfl (.tmp 22) (.tmp 25) 77 rfl (w.heap.size + 2) 3 Tryz.underlying77 HI.out _ _ rfl hown _ rfl ((10 * r + d) / 2) (by omega) (by omega) (by omega) ?_; intro v' w1 hown' hb1)
      go_roundw
      case rel => exact ⟨k + 1, by omega, by go_num, by rw [← HT.out, HS.out.1]; go_num, by rw [← HT.out, HS.out.2]; exact hown', HB0.out.below hb1 (by omega), HB1.out.below hb1 (by omega), by have := hb1.size; omega, hbel.trans (hb1.mono (by omega))⟩
      case measure => simp [intOf]; omega
    · obtain rfl : k = l.length := by omega
      have HTK := Lib.hid (show l.take l.length = l from List.take_length)
      rw [HTK.out] at hown hrem
      have hlen : (hlf 0 l).length = l.length := hlf_len _ _
      have c01 := HB0.out.c1
      have f0 := HB0.out.f 0
      have f1 := HB0.out.f 1
      have HD := Lib.hid (show ∀ t, hlfR l = 0 :: t → hlfL l = t ∧ hlfP l p = p - 1 by intro t e; simp [hlfL, hlfP, e])
      have HD2 := Lib.hid (show ∀ d t, d ≠ 0 → hlfR l = d :: t → hlfL l = d :: t ∧ hlfP l p = p by intro d t h0 e; unfold hlfL hlfP; rw [e]; constructor <;> (split <;> simp_all))
      have hT : Tryz.prog.underlying 77 = some (.slice (Tryz.prog.elem 77)) := by kernel_rfl
      have hso : ∀ W, (sizeOf (Tryz.prog.elem 77)).run Tryz.prog W = .ok 1 W := fun _ => by kernel_rfl
      have HF := Lib.hid (fun (w : World) (B : Nat) (v : Value) (c : Nat) (t : List Nat) (h : RdI w B v (c :: t)) => RdI.first 77 hT hso h)
      clear hT hso
      by_cases hrp : 0 < rem 0 l
      · rw [show rem 0 (l.take l.length) = 1 by rw [HTK.out]; omega]
        have HRR := Lib.hid (show hlfR l = hlf 0 l ++ [5] by rw [hlfR, if_pos hrp])
        obtain ⟨c, t, hct⟩ : ∃ c t, hlf 0 l ++ [5] = c :: t := by cases h : hlf 0 l with
          | nil => exact ⟨5, [], rfl⟩
          | cons c t => exact ⟨c, t ++ [5], rfl⟩
        have htl : t.length ≤ 90000 := by have := congrArg List.length hct; rw [List.length_append, List.length_singleton, List.length_cons] at this; omega
        have HCT := Lib.hid hct
        clear hct
        by_cases hc0 : c = 0
        · subst hc0
          have HH := Lib.hid (HD.out t (by rw [HRR.out, HCT.out]))
          go_wp2_with (first | (at_builtin; go_must (refine wpList_appI1 _ rfl (.tmp 31) (.tmp 32) 77 rfl (w.heap.size + 2) 3 Tryz.underlying77 HI.out _ _ rfl hown _ rfl 5 (by rfl) (by omega) (by omega) ?_; intro v' w1 hown' hb1; rw [HCT.out] at hown'; have hz1 := hb1.size; have hbel1 := hbel.trans (hb1.mono (by omega)); have K0 := Lib.hid (HB0.out.below hb1 (by omega)); have K1 := Lib.hid (HB1.out.below hb1 (by omega)); have g00 := K0.out.c0; have g01 := K0.out.c1; have gf0 := K0.out.f 0; have gf1 := K0.out.f 1; obtain ⟨g2, off2, cap2, aV, cV, rfl, hcap2, hB2, h20, HV, hsl⟩ := HF.out _ _ _ _ _ hown'.rd)) | (go_at_call 60; go_must (refine (trim_all (p - 1) (w.heap.size + 2) (.slice aV t.length cV) (t) _ (by exact (HV.set w.heap.size 1 (.int .i64 (p - 1)) (by omega)).set w.heap.size 0 (.slice aV t.length cV) (by omega)) (by first | omega | (simp only [List.length_cons, List.length_nil]; omega))).mono ?_; rintro e w2 ⟨v2, rfl, hr2, hb2⟩; obtain ⟨a2, c2, rfl⟩ := hr2.forms; have hz2 := hb2.size; simp only [size_setCell2] at hz2; have M1 := Lib.hid ((((K1.out.set_ne (.int .i64 (p - 1)) (by omega)).set_ne (.slice aV t.length cV) (by omega)).below hb2 (by simp only [size_setCell2]; omega)) : Box2 w2 (w.heap.size + 1) _ _ _); have m0 := M1.out.c0; have m1 := M1.out.c1; have mf0 := M1.out.f 0; have mf1 := M1.out.f 1)))
          refine bodyPost_ret (v := .agg #[.slice a2 (trimD (t)).length c2, .int .i64 (pt (trimD (t)) (p - 1))]) (by simp [results, Tryz.results62, go_sem, m0, m1]) rfl ⟨.slice a2 (trimD (t)).length c2, by rw [HH.out.1, HH.out.2], ?_, ?_⟩
          · rw [HH.out.1]
            exact (((hr2.set _ 0 _ (by omega)).set _ 1 _ (by omega))).mono (by omega)
          · exact ((((hbel1.setCell (by simp) _).setCell (by simp) _).trans (hb2.mono (by simp only [size_setCell2]; omega))).setCell (by simp) _ |>.setCell (by simp) _)
        · have HH := Lib.hid (HD2.out c t hc0 (by rw [HRR.out, HCT.out]))
          have hc1 : (((c : Nat) : Int) == 0) = false := by simp; omega
          go_wp2_with (first | (at_builtin; go_must (refine wpList_appI1 _ rfl (.tmp 31) (.tmp 32) 77 rfl (w.heap.size + 2) 3 Tryz.underlying77 HI.out _ _ rfl hown _ rfl 5 (by rfl) (by omega) (by omega) ?_; intro v' w1 hown' hb1; rw [HCT.out] at hown'; have hz1 := hb1.size; have hbel1 := hbel.trans (hb1.mono (by omega)); have K0 := Lib.hid (HB0.out.below hb1 (by omega)); have K1 := Lib.hid (HB1.out.below hb1 (by omega)); have g00 := K0.out.c0; have g01 := K0.out.c1; have gf0 := K0.out.f 0; have gf1 := K0.out.f 1; obtain ⟨g2, off2, cap2, aV, cV, rfl, hcap2, hB2, h20, HV, hsl⟩ := HF.out _ _ _ _ _ hown'.rd)) | (go_at_call 60; go_must (refine (trim_all (p) (w.heap.size + 2) (.slice (some ⟨g2, off2, none⟩) (t.length + 1) cap2) (c :: t) _ (by exact (hown'.rd).set w.heap.size 0 (.slice (some ⟨g2, off2, none⟩) (t.length + 1) cap2) (by omega)) (by first | omega | (simp only [List.length_cons, List.length_nil]; omega))).mono ?_; rintro e w2 ⟨v2, rfl, hr2, hb2⟩; obtain ⟨a2, c2, rfl⟩ := hr2.forms; have hz2 := hb2.size; simp only [size_setCell2] at hz2; have M1 := Lib.hid (((K1.out.set_ne (.slice (some ⟨g2, off2, none⟩) (t.length + 1) cap2) (by omega)).below hb2 (by simp only [size_setCell2]; omega)) : Box2 w2 (w.heap.size + 1) _ _ _); have m0 := M1.out.c0; have m1 := M1.out.c1; have mf0 := M1.out.f 0; have mf1 := M1.out.f 1)))
          refine bodyPost_ret (v := .agg #[.slice a2 (trimD (c :: t)).length c2, .int .i64 (pt (trimD (c :: t)) (p))]) (by simp [results, Tryz.results62, go_sem, m0, m1]) rfl ⟨.slice a2 (trimD (c :: t)).length c2, by rw [HH.out.1, HH.out.2], ?_, ?_⟩
          · rw [HH.out.1]
            exact (((hr2.set _ 0 _ (by omega)).set _ 1 _ (by omega))).mono (by omega)
          · exact (((hbel1.setCell (by simp) _).trans (hb2.mono (by simp only [size_setCell2]; omega))).setCell (by simp) _ |>.setCell (by simp) _)
      · rw [show rem 0 (l.take l.length) = 0 by rw [HTK.out]; omega]
        have HRR := Lib.hid (show hlfR l = hlf 0 l by rw [hlfR, if_neg hrp])
        have hbel1 := hbel
        cases hct : hlf 0 l with
        | nil =>
          have HH := Lib.hid (show hlfL l = [] ∧ hlfP l p = p by have e : hlfR l = [] := (by rw [HRR.out, hct]); simp [hlfL, hlfP, e])
          rw [hct] at hown
          have hrd := hown.rd
          obtain ⟨a3, c3, rfl⟩ := hown.rd.forms
          clear hct
          go_wp2_with ((go_at_call 60; go_must (refine (trim_all (p) (w.heap.size + 2) (.slice a3 0 c3) ([]) _ (by exact (hrd).set w.heap.size 0 (.slice a3 0 c3) (by omega)) (by first | omega | (simp only [List.length_cons, List.length_nil]; omega))).mono ?_; rintro e w2 ⟨v2, rfl, hr2, hb2⟩; obtain ⟨a2, c2, rfl⟩ := hr2.forms; have hz2 := hb2.size; simp only [size_setCell2] at hz2; have M1 := Lib.hid (((HB1.out.set_ne (.slice a3 0 c3) (by omega)).below hb2 (by simp only [size_setCell2]; omega)) : Box2 w2 (w.heap.size + 1) _ _ _); have m0 := M1.out.c0; have m1 := M1.out.c1; have mf0 := M1.out.f 0; have mf1 := M1.out.f 1)))
          refine bodyPost_ret (v := .agg #[.slice a2 (trimD ([])).length c2, .int .i64 (pt (trimD ([])) (p))]) (by simp [results, Tryz.results62, go_sem, m0, m1]) rfl ⟨.slice a2 (trimD ([])).length c2, by rw [HH.out.1, HH.out.2], ?_, ?_⟩
          · rw [HH.out.1]
            exact (((hr2.set _ 0 _ (by omega)).set _ 1 _ (by omega))).mono (by omega)
          · exact (((hbel1.setCell (by simp) _).trans (hb2.mono (by simp only [size_setCell2]; omega))).setCell (by simp) _ |>.setCell (by simp) _)
        | cons c t =>
          rw [hct] at hown
          have htl : t.length + 1 ≤ 90000 := by have := congrArg List.length hct; rw [List.length_cons] at this; omega
          have HCT := Lib.hid hct
          clear hct
          obtain ⟨g2, off2, cap2, aV, cV, rfl, hcap2, hB2, h20, HV, hsl⟩ := HF.out _ _ _ _ _ hown.rd
          have hrd := hown.rd
          by_cases hc0 : c = 0
          · subst hc0
            have HH := Lib.hid (HD.out t (by rw [HRR.out, HCT.out]))
            go_wp2_with ((go_at_call 60; go_must (refine (trim_all (p - 1) (w.heap.size + 2) (.slice aV t.length cV) (t) _ (by exact (HV.set w.heap.size 1 (.int .i64 (p - 1)) (by omega)).set w.heap.size 0 (.slice aV t.length cV) (by omega)) (by first | omega | (simp only [List.length_cons, List.length_nil]; omega))).mono ?_; rintro e w2 ⟨v2, rfl, hr2, hb2⟩; obtain ⟨a2, c2, rfl⟩ := hr2.forms; have hz2 := hb2.size; simp only [size_setCell2] at hz2; have M1 := Lib.hid ((((HB1.out.set_ne (.int .i64 (p - 1)) (by omega)).set_ne (.slice aV t.length cV) (by omega)).below hb2 (by simp only [size_setCell2]; omega)) : Box2 w2 (w.heap.size + 1) _ _ _); have m0 := M1.out.c0; have m1 := M1.out.c1; have mf0 := M1.out.f 0; have mf1 := M1.out.f 1)))
            refine bodyPost_ret (v := .agg #[.slice a2 (trimD (t)).length c2, .int .i64 (pt (trimD (t)) (p - 1))]) (by simp [results, Tryz.results62, go_sem, m0, m1]) rfl ⟨.slice a2 (trimD (t)).length c2, by rw [HH.out.1, HH.out.2], ?_, ?_⟩
            · rw [HH.out.1]
              exact (((hr2.set _ 0 _ (by omega)).set _ 1 _ (by omega))).mono (by omega)
            · exact ((((hbel1.setCell (by simp) _).setCell (by simp) _).trans (hb2.mono (by simp only [size_setCell2]; omega))).setCell (by simp) _ |>.setCell (by simp) _)
          · have HH := Lib.hid (HD2.out c t hc0 (by rw [HRR.out, HCT.out]))
            have hc1 : (((c : Nat) : Int) == 0) = false := by simp; omega
            go_wp2_with ((go_at_call 60; go_must (refine (trim_all (p) (w.heap.size + 2) (.slice (some ⟨g2, off2, none⟩) (t.length + 1) cap2) (c :: t) _ (by exact (hrd).set w.heap.size 0 (.slice (some ⟨g2, off2, none⟩) (t.length + 1) cap2) (by omega)) (by first | omega | (simp only [List.length_cons, List.length_nil]; omega))).mono ?_; rintro e w2 ⟨v2, rfl, hr2, hb2⟩; obtain ⟨a2, c2, rfl⟩ := hr2.forms; have hz2 := hb2.size; simp only [size_setCell2] at hz2; have M1 := Lib.hid (((HB1.out.set_ne (.slice (some ⟨g2, off2, none⟩) (t.length + 1) cap2) (by omega)).below hb2 (by simp only [size_setCell2]; omega)) : Box2 w2 (w.heap.size + 1) _ _ _); have m0 := M1.out.c0; have m1 := M1.out.c1; have mf0 := M1.out.f 0; have mf1 := M1.out.f 1)))
            refine bodyPost_ret (v := .agg #[.slice a2 (trimD (c :: t)).length c2, .int .i64 (pt (trimD (c :: t)) (p))]) (by simp [results, Tryz.results62, go_sem, m0, m1]) rfl ⟨.slice a2 (trimD (c :: t)).length c2, by rw [HH.out.1, HH.out.2], ?_, ?_⟩
            · rw [HH.out.1]
              exact (((hr2.set _ 0 _ (by omega)).set _ 1 _ (by omega))).mono (by omega)
            · exact (((hbel1.setCell (by simp) _).trans (hb2.mono (by simp only [size_setCell2]; omega))).setCell (by simp) _ |>.setCell (by simp) _)
end Go.Proofs.YtnddldnabldnoaaGreatDoor.deci
