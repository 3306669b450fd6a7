/- Slices of pairs of places, of the call's own; the document's Spans. -/
import Derived.Test.YteaibkbdoocifaaDoorProg
import Derived.Test.YteaibkbdoocifaaDoorFrm
import Derived.Test.YteaibkbdoocifaaDoorInP
import Derived.Deep.AppendLies
import Derived.Deep.DeepCutAuto
namespace Go.Proofs.YteaibkbdoocifaaDoor.inps
set_option linter.unusedVariables false set_option linter.unusedSimpArgs false
open Go.ChangeShapes Go.WideShapes Go.ChangeAt Go.RowKit Go.Proofs.YteaibkbdoocifaaDoor.base

/-- The cells of a list of places. -/
def pCs (L : List (Nat × Nat)) : List Value := L.flatMap (fun p => [.int .i64 (p.1 : Int), .int .i64 (p.2 : Int)])
theorem pCs_len (L : List (Nat × Nat)) : (pCs L).length = L.length * 2 := by
  induction L with
  | nil => rfl
  | cons t ts ih => simp only [pCs, List.flatMap_cons, List.length_append] at ih ⊢; rw [ih]; simp; omega
theorem pCs_snoc (L : List (Nat × Nat)) (p : Nat × Nat) : pCs (L ++ [p]) = pCs L ++ [.int .i64 (p.1 : Int), .int .i64 (p.2 : Int)] := by
  simp [pCs]
theorem pCs_get {L : List (Nat × Nat)} {i : Nat} {p : Nat × Nat} (h : L[i]? = some p) : (pCs L)[i * 2]? = some (.int .i64 (p.1 : Int)) ∧ (pCs L)[i * 2 + 1]? = some (.int .i64 (p.2 : Int)) := by
  induction L generalizing i with
  | nil => cases h
  | cons x ts ih =>
    have e : pCs (x :: ts) = .int .i64 (x.1 : Int) :: .int .i64 (x.2 : Int) :: pCs ts := rfl
    rw [e]
    cases i with
    | zero => cases h; exact ⟨rfl, rfl⟩
    | succ i =>
      have := ih (i := i) (by simpa using h)
      rw [show (i + 1) * 2 = i * 2 + 1 + 1 by omega, List.getElem?_cons_succ, List.getElem?_cons_succ, show i * 2 + 1 + 1 + 1 = (i * 2 + 1) + 1 + 1 by omega, List.getElem?_cons_succ, List.getElem?_cons_succ]
      exact this
/-- v is a slice of places of the call's own, from block B on. -/
def OwnP (w : World) (B : Nat) (v : Value) (L : List (Nat × Nat)) : Prop := (∃ a c, v = .slice a L.length c) ∧ w.ownsRow B 25 2 v L.length (pCs L)
theorem own_lt {w : World} {B n size : Nat} {e : TypeId} {v : Value} {xs : List Value} (h : w.ownsRow B e size v n xs) {q : Nat} (hq : v.ownBlock = some q) : B ≤ q ∧ q < w.heap.size := by
  rcases h.2 with ⟨h0, h1⟩ | ⟨g, cap, cur, hv, hg, hh, _⟩
  · rw [h0] at hq; cases hq
  · rw [hv] at hq
    simp only [Value.ownBlock, Option.some.injEq] at hq
    subst hq
    exact ⟨hg, (Array.getElem?_eq_some_iff.1 hh).1⟩
theorem own_frm {w w' : World} {B n size : Nat} {e : TypeId} {v : Value} {xs : List Value} (h : w.ownsRow B e size v n xs) (hf : Frm No w w') : w'.ownsRow B e size v n xs := by
  refine ⟨h.1, h.2.elim Or.inl (fun ⟨g, cap, cur, hv, hg, hh, r⟩ => Or.inr ⟨g, cap, cur, hv, hg, ?_, r⟩)⟩
  rw [hf.block g (Array.getElem?_eq_some_iff.1 hh).1 (fun h => h)]
  exact hh
theorem OwnP.nil (w : World) (B : Nat) : OwnP w B (.slice none 0 0) [] := ⟨⟨none, 0, rfl⟩, World.ownsRow_nil _ _ _ _⟩
theorem OwnP.frm {w w' : World} {B : Nat} {v : Value} {L : List (Nat × Nat)} (h : OwnP w B v L) (hf : Frm No w w') : OwnP w' B v L := ⟨h.1, own_frm h.2 hf⟩
theorem OwnP.mono {w : World} {B B' : Nat} {v : Value} {L : List (Nat × Nat)} (h : OwnP w B v L) (hb : B' ≤ B) : OwnP w B' v L := by
  refine ⟨h.1, h.2.1, ?_⟩
  rcases h.2.2 with h0 | ⟨g, cap, cur, hv, hg, r⟩
  · exact .inl h0
  · exact .inr ⟨g, cap, cur, hv, Nat.le_trans hb hg, r⟩

theorem info_pr : (Tryd.prog.info? 25).map (fun i => (i.zero, i.size, i.bytes)) = some (some (.agg #[.int .i64 0, .int .i64 0]), 2, 16) := by kernel_rfl
theorem own_slice {w : World} {B n size : Nat} {e : TypeId} {v : Value} {xs : List Value} (h : w.ownsRow B e size v n xs) : ∃ a c, v = .slice a n c := by
  rcases h.2 with ⟨h0, h1⟩ | ⟨g, cap, cur, hv, hg, hh, _⟩
  · exact ⟨none, 0, by rw [h0, h1]⟩
  · exact ⟨_, _, hv⟩

/-- 'append(l, [2]int{x, y})': the pair lies in a new block of its own. -/
theorem wpList_appP (w : World) {ops : Array Oper} {rest : List Oper} {o : Oper} {a : Act} {Q : Exit → Act → World → Prop} (hgd : o.guard = none) (s x : Operand)
    (ho : o.op = .call { callee := .builtin .append, args := #[s, x], argTypes := #[23, 23] })
    (B : Nat) (v : Value) (L : List (Nat × Nat)) (hs : a.eval s = v) (hown : OwnP w B v L) (X Y : Int) (x0 y0 : Nat) (hX : X = (x0 : Int)) (hY : Y = (y0 : Int))
    (p : Nat) (hx : a.eval x = .slice (some ⟨p, 0, none⟩) 1 1) (hp : p = w.heap.size) (hl : L.length ≤ 100000) (hB : B ≤ w.heap.size)
    (h : ∀ a' c' w', OwnP w' B (.slice a' (L.length + 1) c') (L ++ [(x0, y0)]) → Frm (fun k => v.ownBlock = some k) w w' → wpList Tryd.prog ops Q rest (a.put o.dst (.slice a' (L.length + 1) c')) w') :
    wpList Tryd.prog ops Q (o :: rest) a (w.alloc (.cells #[.int .i64 X, .int .i64 Y] 25)) := by
  obtain ⟨i0, hi, hz0, hz1, hz2⟩ := info_parts info_pr
  subst hX hY hp
  refine wpList_append_own _ hgd s x 23 ho B 25 i0 (.agg #[.int .i64 0, .int .i64 0]) 2 16 Tryd.underlying23 hi hz0 hz1 hz2 rfl (by decide) v _ _ hs (World.ownsRow.alloc hown.2 _) ⟨w.heap.size, 0, none⟩ 1 1 [.int .i64 (x0 : Int), .int .i64 (y0 : Int)] hx rfl (World.news_of_block (cs := #[.int .i64 (x0 : Int), .int .i64 (y0 : Int)]) (t := 25) (fr := (0, 0)) (heap_alloc_new w _)) (by simp [Value.oneCell']) (by unfold maxLen; omega) (by omega) (by simp; omega) ?_
  intro v' w' hown' hg _
  obtain ⟨a', c', rfl⟩ := own_slice hown'
  refine h a' c' w' ⟨⟨a', c', by simp⟩, ?_⟩ ?_
  · rw [pCs_snoc, List.length_append]
    exact hown'
  · exact ((Frm.refl _ w).alloc _).grown hg (fun k hk _ => hk)

/-- What lies ahead of the call stays, where an own slice grows. -/
theorem frm_app {w0 w w' : World} {B : Nat} {v : Value} {L : List (Nat × Nat)} (h : Frm No w0 w) (ho : OwnP w B v L) (hB : w0.heap.size ≤ B) (hg : Frm (fun k => v.ownBlock = some k) w w') : Frm No w0 w' :=
  h.then hg (fun q hq e => absurd (own_lt ho.2 e).1 (by omega))

theorem sx_ne {s : ByteArray} {i : Nat} (h : i < s.size) : sx s i ≠ [] := by rw [sx_cons s i h]; simp
theorem sx_drop (s : ByteArray) (i j : Nat) : (sx s i).drop j = sx s (i + j) := by unfold sx; rw [List.drop_drop]

theorem spn_end {s : ByteArray} {b : UInt8} {f : Nat} : spn b (sx s s.size) f s.size = if f < s.size then [(f, s.size)] else [] := by
  rw [sx_nil s s.size (Nat.le_refl _)]; rfl
theorem spn_same {s : ByteArray} {b : UInt8} {f k : Nat} (h : k < s.size) (hc : s[k] ≠ b) : spn b (sx s k) f k = spn b (sx s (k + 1)) f (k + 1) := by
  rw [sx_cons s k h]; simp only [spn, if_neg hc]
theorem spn_cut {s : ByteArray} {b : UInt8} {f k : Nat} (h : k < s.size) (hc : s[k] = b) : spn b (sx s k) f k = (f, k) :: spn b (sx s (k + 1)) (k + 1) (k + 1) := by
  rw [sx_cons s k h]; simp only [spn, if_pos hc]

set_option maxHeartbeats 2000000 in
set_option maxRecDepth 20000 in
/-- The document's Spans by one byte. -/
theorem dspans_byte (s rs : ByteArray) (h0 : 0 < rs.size) (w : World) (hs : s.size ≤ 3000) :
    Calls Tryd.prog 8 #[.string s, .string rs] w fun e w' => ∃ v, e = .returned v ∧ OwnP w' w.heap.size v (spn rs[0] (sx s 0) 0 0) ∧ Frm No w w' := by
  have hne : (rs.toList == []) = false := by
    rw [beq_eq_false_iff_ne]
    intro e
    rw [Lib.toList_data] at e
    have := congrArg List.length e
    rw [len_list] at this
    simp only [List.length_nil] at this
    omega
  have h0' : (0 : Int) < (rs.size : Int) := by omega
  go_enter Tryd.func8, Tryd.ntmps8
  go_wp2
  go_loopw [5, 6, 7] (fun v fv iv wr => ∃ (k f : Nat) (L : List (Nat × Nat)), k ≤ s.size ∧ f ≤ k ∧ L.length ≤ k ∧ iv = .int .i64 k ∧ fv = .int .i64 f ∧ OwnP wr w.heap.size v L ∧ spn rs[0] (sx s 0) 0 0 = L ++ spn rs[0] (sx s k) f k ∧ Frm No w wr) (fun _ _ iv _ => s.size - (intOf iv).toNat)
  case atStart => exact ⟨0, 0, [], Nat.zero_le _, Nat.le_refl _, Nat.le_refl _, rfl, rfl, OwnP.nil _ _, rfl, Frm.refl _ _⟩
  case round =>
    obtain ⟨k, f, L, hk, hf, hl, rfl, rfl, hown, hsp, hfr⟩ := hrel
    have HO := Lib.hid hown
    obtain ⟨⟨va, vc, rfl⟩, _⟩ := hown
    have HSP := Lib.hid hsp
    have HF := Lib.hid hfr
    have hw := hfr.size
    clear hsp hfr
    have hf0 : (0 : Int) ≤ (f : Int) := by omega
    have hfk : (f : Int) ≤ (k : Int) := by omega
    by_cases hlt : k < s.size
    · have hx0 : (0 : Int) ≤ (k : Int) := by omega
      have hx1 : (k : Int) < (s.size : Int) := by omega
      by_cases hc : s[k] = rs[0]
      · have HC := Lib.hid (show spn rs[0] (sx s 0) 0 0 = (L ++ [(f, k)]) ++ spn rs[0] (sx s (k + 1)) (k + 1) (k + 1) by rw [HSP.out, spn_cut hlt hc]; simp)
        have hcb : ((s[k].toNat : Int) == (rs[0].toNat : Int)) = true := by rw [hc]; simp
        clear hc HSP
        go_wp2
        go_quiet (fail)
        go_wp2_with (at_builtin; refine wpList_appP _ rfl _ _ rfl w.heap.size (.slice va L.length vc) L rfl (by exact HO.out) _ _ f k rfl rfl _ rfl (by rfl) (by omega) (by exact hw) ?_; intro a' c' w3 ho3 hf3; have HO3 := Lib.hid ho3; have HF3 := Lib.hid (frm_app (HF.out.drewN _) (by exact HO.out) (Nat.le_refl _) hf3); clear ho3 hf3)
        go_roundw
        case rel => exact ⟨k + 1, k + 1, L ++ [(f, k)], by omega, Nat.le_refl _, by simp; omega, by go_num, by go_num, HO3.out, HC.out, HF3.out⟩
        case measure => simp [intOf]; omega
      · have HC := Lib.hid (show spn rs[0] (sx s 0) 0 0 = L ++ spn rs[0] (sx s (k + 1)) f (k + 1) by rw [HSP.out, spn_same hlt hc])
        have hcb : ((s[k].toNat : Int) == (rs[0].toNat : Int)) = false := by rw [u8_beq]; simpa using hc
        clear hc HSP
        go_wp2
        go_quiet (fail)
        go_wp2
        go_roundw
        case rel => exact ⟨k + 1, f, L, by omega, by omega, by omega, by go_num, rfl, HO.out.frm ((Frm.refl _ _).drewN _), HC.out, HF.out.drewN _⟩
        case measure => simp [intOf]; omega
    · obtain rfl : k = s.size := by omega
      rw [spn_end] at HSP
      by_cases hfs : f < s.size
      · have hfs' : (f : Int) < (s.size : Int) := by omega
        rw [if_pos hfs] at HSP
        clear hfs
        go_wp2_with (at_builtin; refine wpList_appP _ rfl _ _ rfl w.heap.size (.slice va L.length vc) L rfl (by exact HO.out) _ _ f s.size rfl rfl _ rfl (by rfl) (by omega) (by exact hw) ?_; intro a' c' w3 ho3 hf3; have HO3 := Lib.hid ho3; have HF3 := Lib.hid (frm_app HF.out HO.out (Nat.le_refl _) hf3); clear ho3 hf3)
        go_ret
        exact ⟨_, rfl, by rw [HSP.out]; exact HO3.out, HF3.out⟩
      · have hfs' : ¬ (f : Int) < (s.size : Int) := by omega
        rw [if_neg hfs, List.append_nil] at HSP
        clear hfs
        go_wp2
        go_ret
        exact ⟨_, rfl, by rw [HSP.out]; exact HO.out, HF.out⟩

end Go.Proofs.YteaibkbdoocifaaDoor.inps
