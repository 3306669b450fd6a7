/- Contract of match's builder.build at a cat: a range over slices.Backward. -/
import Derived.Test.YtbfekknhmjndaaaGreatRepM
import Derived.Test.YtbfekknhmjndaaaGreatBack
namespace Go.Proofs.YtbfekknhmjndaaaGreat.part
set_option linter.unusedVariables false set_option linter.unusedSimpArgs false
open Go.ChangeShapes Go.WideShapes Go.ChangeAt Go.RowKit Go.Shelf Go.Proofs.YtbfekknhmjndaaaGreat.base Go.Proofs.YtbfekknhmjndaaaGreat.spec Go.Proofs.YtbfekknhmjndaaaGreat.nfa Go.Proofs.YtbfekknhmjndaaaGreat.set Go.Proofs.YtbfekknhmjndaaaGreat.parts Go.Proofs.YtbfekknhmjndaaaGreat.items Go.Proofs.YtbfekknhmjndaaaGreat.back
attribute [local go_sem] Oper.semAt_some

theorem BW.at {w w' : World} {S : Nat → Prop} {B BB : Nat} {l : List St} (h : BW w B BB l) (hf : Frm S w w') (hs : ∀ k T C, (T = 105 ∨ T = 108 ∨ T = 111) → Box w k T C → ¬ S k) : BW w' B BB l := by
  obtain ⟨a, cap, C, h1, h2, h3⟩ := h
  exact ⟨a, cap, C, h1.frm hf (hs _ _ _ (Or.inl rfl) h1), own_move h2 hf (fun g e => by obtain ⟨_, _, cur, hb⟩ := own_type h2 e; exact hs _ _ _ (Or.inr (Or.inl rfl)) hb), h3.go (fun fb f h => Box.frm h hf (hs _ _ _ (Or.inr (Or.inr rfl)) h))⟩
/-- What is built stays where other blocks, new since, are written. -/
theorem Bd.at {w wr w' : World} {S : Nat → Prop} {B BB : Nat} {l : List St} {thn : Nat} {R : Rel} {n : Nat} {new : List St} {st : Nat} (h : Bd w B BB l thn R n new st wr) (hf : Frm S wr w') (hs : ∀ k T C, (T = 105 ∨ T = 108 ∨ T = 111) → Box wr k T C → ¬ S k) (hw : ∀ k, k < w.heap.size → ¬ S k) : Bd w B BB l thn R n new st w' :=
  ⟨h.bw.at hf hs, h.frm.then hf (fun k hk e => absurd e (hw k hk)), h.frag, h.len, h.lt, h.inr⟩

section
variable (w : World) (t : T) (x ak : Option Addr) (ck : Nat) (B BB : Nat) (l : List St) (thn : Nat)
/-- What the kids at these places match, the last one first; how many states they have. -/
def relK (i : Ix t.kids.len) : Rel := ((relF t.kids)[i.1]?).getD idR
def relL (pre : List (Ix t.kids.len)) : Rel := pre.foldl (fun Q i => compR (relK t i) Q) idR
def costK (i : Ix t.kids.len) : Nat := ((costF t.kids)[i.1]?).getD 0
def costL (pre : List (Ix t.kids.len)) : Nat := (pre.map (costK t)).sum
theorem relL_snoc (pre : List (Ix t.kids.len)) (i : Ix t.kids.len) : relL t (pre ++ [i]) = compR (relK t i) (relL t pre) := by
  unfold relL; rw [List.foldl_append]; rfl
theorem costL_snoc (pre : List (Ix t.kids.len)) (i : Ix t.kids.len) : costL t (pre ++ [i]) = costL t pre + costK t i := by
  unfold costL; simp
theorem costL_le (C : Nat) (hC : ∀ i, costK t i ≤ C) (pre : List (Ix t.kids.len)) : costL t pre ≤ pre.length * C := by
  induction pre with
  | nil => simp [costL]
  | cons i r ih =>
    have := hC i
    unfold costL at ih ⊢
    simp only [List.map_cons, List.sum_cons, List.length_cons, Nat.succ_mul]
    omega
theorem relL_down (m : Nat) (h : m ≤ t.kids.len) : relL t (down t.kids.len m) = ((relF t.kids).drop (t.kids.len - m)).foldr compR idR ∧ costL t (down t.kids.len m) = ((costF t.kids).drop (t.kids.len - m)).sum := by
  induction m with
  | zero =>
    rw [List.drop_of_length_le (by rw [relF_len]; omega), List.drop_of_length_le (by rw [costF_len]; omega)]
    exact ⟨rfl, rfl⟩
  | succ m ih =>
    obtain ⟨ih1, ih2⟩ := ih (by omega)
    obtain ⟨tk, htk⟩ := nthF_some (f := t.kids) (j := t.kids.len - 1 - m) (by omega)
    have e : t.kids.len - (m + 1) = t.kids.len - 1 - m := by omega
    have e2 : t.kids.len - 1 - m + 1 = t.kids.len - m := by omega
    rw [down_succ _ _ (by omega), relL_snoc, costL_snoc, ih1, ih2, e, drop_at (relF_nth htk), drop_at (costF_nth htk), e2]
    constructor
    · unfold relK; simp only [relF_nth htk]; rfl
    · unfold costK; simp only [costF_nth htk, List.sum_cons, Option.getD_some]; omega

/-- Behind the kids at these places. -/
def CatI (pre : List (Ix t.kids.len)) (W : World) : Prop := ∃ (new : List St) (start : Nat), Bd w B BB l thn (relL t pre) (costL t pre) new start W ∧
  Box W w.heap.size 125 #[.pointer (some ⟨BB, 0, none⟩)] ∧ Box W (w.heap.size + 1 + 1) 3 #[.int .i64 (start : Int)] ∧ w.heap.size + 4 ≤ W.heap.size ∧ ∃ C, Box W (w.heap.size + 1 + 1 + 1) 98 C
theorem catI_own {n : Nat} (hn : w.heap.size ≤ n) : OwnFrom n (CatI w t B BB l thn) := fun pre W W' row h hg hr => by
  obtain ⟨new, start, h3, h4, h5, h6, C7, h7⟩ := h
  have hf := frm_own hg hr
  exact ⟨new, start, h3.at hf (fun k T C _ hb => box_nc hb) (fun k hk e => by have := e.1; omega), h4.frm hf (box_nc h4), h5.frm hf (box_nc h5), Nat.le_trans h6 hg.size, C7, h7.frm hf (box_nc h7)⟩
/-- An int's variable is no builder's. -/
theorem sb_int {w : World} {B BB g : Nat} {l : List St} {C : Array Value} (hB : BW w B BB l) (h : Box w g 3 C) : ¬ SB w B BB g := fun e => by
  obtain ⟨a, cap, D, hb, _⟩ := hB
  rcases e with e | ⟨_, D, e⟩
  · subst e; have h3 := box_ty hb h; revert h3; decide
  · have h3 := box_ty e h; revert h3; decide
def strOf : Option Value → ByteArray
  | some (.string s) => s
  | _ => ⟨#[]⟩
def ptrOf : Option Value → Option Addr
  | some (.pointer p) => p
  | _ => none
def slA : Option Value → Option Addr
  | some (.slice a _ _) => a
  | _ => none
def slN : Option Value → Nat
  | some (.slice _ n _) => n
  | _ => 0
def slC : Option Value → Nat
  | some (.slice _ _ c) => c
  | _ => 0
def intO : Option Value → Int
  | some (.int _ z) => z
  | _ => 0
/-- The kids' cells, as functions of the place. -/
theorem elts {f : Forest} {a : Option Addr} {cap : Nat} (h : PK w All (.slice a f.len cap) f) : ∃ E : Elt, (∀ k tk, nthF f k = some tk → PT w All (.agg #[(.string (E.op k)), (.pointer (E.px k)), (.slice (E.ka k) (E.kn k) (E.kc k)), (.int .i64 (E.lo k)), (.int .i64 (E.hi k))]) tk) ∧ ((a = none ∧ f.len = 0 ∧ cap = 0) ∨ ∃ g cur, a = some ⟨g, 0, none⟩ ∧ Box w g 100 cur ∧ E.At cur f.len) := by
  rcases h with ⟨h1, h2⟩ | ⟨g, c, cur, h1, h2, h3, h4, h5⟩
  · subst h2
    cases h1
    exact ⟨⟨fun _ => ⟨#[]⟩, fun _ => none, fun _ => none, fun _ => 0, fun _ => 0, fun _ => 0, fun _ => 0⟩, (fun k tk hk => by cases hk), Or.inl ⟨rfl, rfl, rfl⟩⟩
  · cases h1
    have key : ∀ j v, (cur.toList.take (5 * f.len))[j]? = some v → cur[j]? = some v := fun j v hj => by
      rw [List.getElem?_take] at hj
      split at hj
      · rw [← Array.getElem?_toList]; exact hj
      · cases hj
    refine ⟨⟨fun k => strOf (cur[k * 5]?), fun k => ptrOf (cur[k * 5 + 1]?), fun k => slA (cur[k * 5 + 2]?), fun k => slN (cur[k * 5 + 2]?), fun k => slC (cur[k * 5 + 2]?), fun k => intO (cur[k * 5 + 3]?), fun k => intO (cur[k * 5 + 4]?)⟩, fun k tk hk => ?_, Or.inr ⟨g, cur, rfl, h4, fun k hk => ?_⟩⟩
    · obtain ⟨x, ak, ck, e0, e1, e2, e3, e4, e5⟩ := h5.nth hk
      simp only [key _ _ e0, key _ _ e1, key _ _ e2, key _ _ e3, key _ _ e4, strOf, ptrOf, slA, slN, slC, intO]
      exact e5
    · obtain ⟨tk, htk⟩ := nthF_some hk
      obtain ⟨x, ak, ck, e0, e1, e2, e3, e4, e5⟩ := h5.nth htk
      simp only [key _ _ e0, key _ _ e1, key _ _ e2, key _ _ e3, key _ _ e4, strOf, ptrOf, slA, slN, slC, intO]
      exact ⟨trivial, trivial, trivial, trivial, trivial⟩
set_option maxRecDepth 100000 in
set_option maxHeartbeats 4000000 in
theorem build_cat (N : Nat) (IH : BIH N) (hop : t.op = catW) (hN : nd t ≤ N + 1) (hN2 : N ≤ 450) (hok : okT t) (hp : PT w All (.agg #[.string t.op, .pointer x, .slice ak t.kids.len ck, .int .i64 t.lo, .int .i64 t.hi]) t) (hbw : BW w B BB l) (hB : B ≤ w.heap.size) (hthn : thn < l.length) (hcst : costT t ≤ 4400) (hl : l.length + bud (nd t) ≤ 1000000000) :
    Calls Tryz.prog 52 #[.pointer (some ⟨BB, 0, none⟩), .agg #[.string t.op, .pointer x, .slice ak t.kids.len ck, .int .i64 t.lo, .int .i64 t.hi], .int .i64 (thn : Int)] w (BldPost w B BB l thn (relT t) (costT t)) := by
  have h_set : (t.op.toList == [115, 101, 116]) = false := by rw [hop]; decide +kernel
  have h_bol : (t.op.toList == [98, 111, 108]) = false := by rw [hop]; decide +kernel
  have h_eol : (t.op.toList == [101, 111, 108]) = false := by rw [hop]; decide +kernel
  have h_alt : (t.op.toList == [97, 108, 116]) = false := by rw [hop]; decide +kernel
  have h_rep : (t.op.toList == [114, 101, 112]) = false := by rw [hop]; decide +kernel
  have HOP := Lib.hid hop
  clear hop
  refine (callsIn_wide (n := 6)).1 ?_
  refine callsIn_of_wp_marks Tryz.func52 rfl trivial ?_ rfl
  simp only [Tryz.ntmps52, List.size_toArray, List.length_cons, List.length_nil, Nat.reduceAdd, Nat.reduceSub, Array.replicate_succ, Array.replicate_zero, List.push_toArray, List.append_toArray, List.nil_append, List.cons_append]
  gi_wp2_with (refine ⟨trivial, ?_⟩; gi_at_call 70; refine (back_in Fence.wide _ trivial rfl _ _ _ _).mono ?_; rintro e w' ⟨rfl, rfl⟩)
  obtain ⟨x', ak', ck', hv, hset, hkk⟩ := hp
  have hv2 := hv
  simp only [Value.agg.injEq, Array.mk.injEq, List.cons.injEq, Value.slice.injEq, Value.pointer.injEq, and_true, true_and] at hv2
  obtain ⟨rfl, rfl, rfl⟩ := hv2
  clear hv hset
  obtain ⟨E, hE1, hE2⟩ := elts w hkk
  have hF4 : Frm No w ((((w.alloc (.cells #[.pointer (some ⟨BB, 0, none⟩)] 125)).alloc (.cells #[.string t.op, .pointer x, .slice ak t.kids.len ck, .int .i64 t.lo, .int .i64 t.hi] 100)).alloc (.cells #[.int .i64 (thn : Int)] 3)).alloc (.cells #[.slice ak t.kids.len ck] 98)) := ((((Frm.refl No w).alloc _).alloc _).alloc _).alloc _
  have hsz4 : ((((w.alloc (.cells #[.pointer (some ⟨BB, 0, none⟩)] 125)).alloc (.cells #[.string t.op, .pointer x, .slice ak t.kids.len ck, .int .i64 t.lo, .int .i64 t.hi] 100)).alloc (.cells #[.int .i64 (thn : Int)] 3)).alloc (.cells #[.slice ak t.kids.len ck] 98)).heap.size = w.heap.size + 4 := by rw [World.size_alloc, World.size_alloc, World.size_alloc, World.size_alloc]
  have b0 : Box ((((w.alloc (.cells #[.pointer (some ⟨BB, 0, none⟩)] 125)).alloc (.cells #[.string t.op, .pointer x, .slice ak t.kids.len ck, .int .i64 t.lo, .int .i64 t.hi] 100)).alloc (.cells #[.int .i64 (thn : Int)] 3)).alloc (.cells #[.slice ak t.kids.len ck] 98)) w.heap.size 125 #[.pointer (some ⟨BB, 0, none⟩)] := (((Box.new w _ _).alloc _).alloc _).alloc _
  have b2 : Box ((((w.alloc (.cells #[.pointer (some ⟨BB, 0, none⟩)] 125)).alloc (.cells #[.string t.op, .pointer x, .slice ak t.kids.len ck, .int .i64 t.lo, .int .i64 t.hi] 100)).alloc (.cells #[.int .i64 (thn : Int)] 3)).alloc (.cells #[.slice ak t.kids.len ck] 98)) (w.heap.size + 1 + 1) 3 #[.int .i64 (thn : Int)] := by
    have := Box.new ((w.alloc (.cells #[.pointer (some ⟨BB, 0, none⟩)] 125)).alloc (.cells #[.string t.op, .pointer x, .slice ak t.kids.len ck, .int .i64 t.lo, .int .i64 t.hi] 100)) 3 #[.int .i64 (thn : Int)]
    rw [World.size_alloc, World.size_alloc] at this
    exact this.alloc _
  have b3 : Box ((((w.alloc (.cells #[.pointer (some ⟨BB, 0, none⟩)] 125)).alloc (.cells #[.string t.op, .pointer x, .slice ak t.kids.len ck, .int .i64 t.lo, .int .i64 t.hi] 100)).alloc (.cells #[.int .i64 (thn : Int)] 3)).alloc (.cells #[.slice ak t.kids.len ck] 98)) (w.heap.size + 1 + 1 + 1) 98 #[.slice ak t.kids.len ck] := by
    have := Box.new (((w.alloc (.cells #[.pointer (some ⟨BB, 0, none⟩)] 125)).alloc (.cells #[.string t.op, .pointer x, .slice ak t.kids.len ck, .int .i64 t.lo, .int .i64 t.hi] 100)).alloc (.cells #[.int .i64 (thn : Int)] 3)) 98 #[.slice ak t.kids.len ck]
    rw [World.size_alloc, World.size_alloc, World.size_alloc] at this
    exact this
  have hlf := len_fsz t.kids
  have hnd : nd t = 1 + fsz t.kids := rfl
  have hbw4 := hbw.no hF4
  have hbd0 : Bd w B BB l thn idR 0 [] thn ((((w.alloc (.cells #[.pointer (some ⟨BB, 0, none⟩)] 125)).alloc (.cells #[.string t.op, .pointer x, .slice ak t.kids.len ck, .int .i64 t.lo, .int .i64 t.hi] 100)).alloc (.cells #[.int .i64 (thn : Int)] 3)).alloc (.cells #[.slice ak t.kids.len ck] 98)) := (Bd.start hbw4 hthn).pre hF4
  have hI4 : (ak = none ∧ t.kids.len = 0 ∧ ck = 0) ∨ ∃ g cur, ak = some ⟨g, 0, none⟩ ∧ Box ((((w.alloc (.cells #[.pointer (some ⟨BB, 0, none⟩)] 125)).alloc (.cells #[.string t.op, .pointer x, .slice ak t.kids.len ck, .int .i64 t.lo, .int .i64 t.hi] 100)).alloc (.cells #[.int .i64 (thn : Int)] 3)).alloc (.cells #[.slice ak t.kids.len ck] 98)) g 100 cur ∧ E.At cur t.kids.len := hE2.imp (fun h => h) (fun ⟨g, cur, h1, h2, h3⟩ => ⟨g, cur, h1, h2.frm hF4 id, h3⟩)
  have hc : costT t = (costF t.kids).sum := by unfold costT costN; rw [HOP.out]; rfl
  have hr : relT t = (relF t.kids).foldr compR idR := by unfold relT nodeR; rw [HOP.out]; rfl
  have hrd := (relL_down t t.kids.len (Nat.le_refl _)).1
  have hcd := (relL_down t t.kids.len (Nat.le_refl _)).2
  rw [Nat.sub_self, List.drop_zero] at hrd hcd
  generalize ((((w.alloc (.cells #[.pointer (some ⟨BB, 0, none⟩)] 125)).alloc (.cells #[.string t.op, .pointer x, .slice ak t.kids.len ck, .int .i64 t.lo, .int .i64 t.hi] 100)).alloc (.cells #[.int .i64 (thn : Int)] 3)).alloc (.cells #[.slice ak t.kids.len ck] 98)) = w4 at hF4 hsz4 b0 b2 b3 hbw4 hbd0 hI4 ⊢
  refine wpIn_rangeFunc_ownH (F := Fence.wide) (n := 6) rfl (by omega) (gf := 88) (lb := #[.pointer (some ⟨w.heap.size + 1 + 1 + 1, 0, none⟩)]) rfl trivial (enters_of Tryz.func88 (by kernel_rfl) rfl)
    (back_stops Fence.wide (6 - 1) trivial rfl (by omega) (w.heap.size + 1 + 1 + 1) ak t.kids.len ck E (by omega) w4 b3 hI4) (fun h k => kp_t h k) (kp_b _) (Below.refl _ _) (fun _ => rfl)
    (CatI w t B BB l thn) (fun _ _ _ => False) (catI_own w t B BB l thn (by omega)) (fun _ _ _ _ _ hs _ _ => hs)
    ⟨[], thn, hbd0, b0, b2, by omega, _, b3⟩
    (fun i a' W => ∃ Bx, Box W Bx 100 #[(.string (E.op i.1)), (.pointer (E.px i.1)), (.slice (E.ka i.1) (E.kn i.1) (E.kc i.1)), (.int .i64 (E.lo i.1)), (.int .i64 (E.hi i.1))] ∧ a' = { tmps := #[.pointer (some ⟨BB, 0, none⟩), .agg #[.string t.op, .pointer x, .slice ak t.kids.len ck, .int .i64 t.lo, .int .i64 t.hi], .int .i64 (thn : Int), .pointer (some ⟨w.heap.size, 0, none⟩), .pointer (some ⟨w.heap.size + 1, 0, none⟩), .pointer (some ⟨w.heap.size + 1 + 1, 0, none⟩), .int .i64 0, undef, .pointer (some ⟨Bx, 0, none⟩), .pointer (some ⟨w.heap.size + 1, 0, none⟩), .string t.op, .bool false, .bool false, undef, undef, undef, undef, undef, undef, .bool false, .bool false, undef, undef, undef, undef, .bool false, .bool false, undef, undef, undef, undef, .bool false, .bool false, undef, undef, undef, undef, undef, .bool false, .bool false, undef, undef, undef, undef, .pointer (some ⟨w.heap.size + 1, 2, none⟩), .slice ak t.kids.len ck, .func (.func 88) #[] #[.pointer (some ⟨w.heap.size + 1 + 1 + 1, 0, none⟩)], .int .i64 (i.1 : Int), .agg #[(.string (E.op i.1)), (.pointer (E.px i.1)), (.slice (E.ka i.1) (E.kn i.1) (E.kc i.1)), (.int .i64 (E.lo i.1)), (.int .i64 (E.hi i.1))], undef, undef, undef, undef, undef], defers := [] })
    (fun i a' _ W W' row hs hg hr => by obtain ⟨Bx, h1, h2⟩ := hs; exact ⟨Bx, h1.frm (frm_own hg hr) (box_nc h1), h2⟩) ?assign ?body ?done ?stop
  case assign =>
    rintro l2 pre i W K hi hK
    gi_wp2
    have hfn : Frm No W (W.alloc (.cells #[(.string (E.op i.1)), (.pointer (E.px i.1)), (.slice (E.ka i.1) (E.kn i.1) (E.kc i.1)), (.int .i64 (E.lo i.1)), (.int .i64 (E.hi i.1))] 100)) := (Frm.refl No W).alloc _
    refine hK _ _ ((KeepsOthers.alloc _ _).from _) (fun k T C _ hb => hb.alloc _) ?_ ⟨W.heap.size, Box.new W _ _, rfl⟩
    obtain ⟨new, start, h3, h4, h5, h6, C7, h7⟩ := hi
    exact ⟨new, start, h3.at hfn (fun _ _ _ _ _ => id) (fun _ _ => id), h4.alloc _, h5.alloc _, Nat.le_trans h6 hfn.size, C7, h7.alloc _⟩
  case body =>
    rintro l2 pre i a' W hl2 _ ⟨new, start, h3, h4, h5, h6, C7, h7⟩ ⟨Bx, hbx, rfl⟩ hlen
    have c3 : W.cell? ⟨w.heap.size, 0, none⟩ = some (.pointer (some ⟨BB, 0, none⟩)) := h4.cell 0
    have c5 : W.cell? ⟨w.heap.size + 1 + 1, 0, none⟩ = some (.int .i64 (start : Int)) := h5.cell 0
    have x0 := hbx.cell 0
    have x1 := hbx.cell 1
    have x2 := hbx.cell 2
    have x3 := hbx.cell 3
    have x4 := hbx.cell 4
    obtain ⟨tk, htk⟩ := nthF_some i.2
    have hnk := nthF_nd htk
    have hbk := bud_lt (show nd tk < nd t by omega)
    have hck : costK t i = costT tk := by unfold costK; rw [costF_nth htk]; rfl
    have hrk : relK t i = relT tk := by unfold relK; rw [relF_nth htk]; rfl
    have hC : ∀ j, costK t j ≤ 4400 := fun j => by
      obtain ⟨tj, htj⟩ := nthF_some j.2
      unfold costK
      rw [costF_nth htj, Option.getD_some]
      have h9 := sum_take (l := costF t.kids) (j.1 + 1)
      rw [take_at (costF_nth htj)] at h9
      simp only [List.sum_append, List.sum_cons, List.sum_nil] at h9
      omega
    have hcl := costL_le t 4400 hC pre
    have hpl : pre.length * 4400 ≤ 450 * 4400 := Nat.mul_le_mul_right _ (by omega)
    have hln := h3.len
    have hlen2 : (l ++ new).length = l.length + new.length := List.length_append
    have hbs2 : (w.heap.size + 1 + 1) < W.heap.size := h5.lt
    have hszB : B ≤ W.heap.size := by omega
    have hgo := IH tk W _ B BB (l ++ new) start (by omega) (pt_bw hbw h3.frm (hE1 i.1 tk htk)) (okF_nth hok.2 htk) h3.bw hszB (by rw [hlen2]; exact h3.lt) (by have := hC i; omega) (by omega)
    have HGO := Lib.hid hgo
    have H3 := Lib.hid h3
    have H4 := Lib.hid h4
    have H5 := Lib.hid h5
    have H7 := Lib.hid h7
    clear h3 h4 h5 h7 hbx hgo hcl hpl hC
    gi_wp2_with (refine ⟨trivial, ?_⟩; gi_at_call 52; refine (CallsIn.inRound l2 (callsIn_wide.2 HGO.out)).mono ?_; rintro e W2 ⟨new2, start2, rfl, hbd2⟩; have HBD2 := Lib.hid hbd2; have H52 := Lib.hid (H5.out.frm hbd2.frm (sb_int H3.out.bw H5.out)); have d5 := H52.out.cell 0; have e5 := H52.out.f 0; clear hbd2)
    have hfs : Frm (At (w.heap.size + 1 + 1)) W2 (W2.setCell ⟨w.heap.size + 1 + 1, 0, none⟩ (.int .i64 (start2 : Int))) := Frm.setCell (Frm.refl _ _) ⟨w.heap.size + 1 + 1, 0, none⟩ _ (fun _ => rfl)
    have hBB : BB < w.heap.size := by obtain ⟨_, _, _, hb, _⟩ := hbw; exact hb.lt
    have hcut : ∀ k T C, Box W k T C → T ≠ 105 → T ≠ 108 → T ≠ 3 → Box (W2.setCell ⟨w.heap.size + 1 + 1, 0, none⟩ (.int .i64 (start2 : Int))) k T C := fun k T C hb h1 h2 h3 => by
      have hb2 := hb.frm HBD2.out.frm (fun e => by
        rcases e with e | ⟨_, D, e⟩
        · obtain ⟨_, _, _, hb0, _⟩ := H3.out.bw
          subst e
          exact h1 (box_ty hb hb0)
        · exact h2 (box_ty hb e))
      exact hb2.frm hfs (fun e => by have e' : k = w.heap.size + 1 + 1 := e; subst e'; exact h3 (box_ty hb2 H52.out))
    refine ⟨⟨Nat.le_trans HBD2.out.frm.size hfs.size, fun k o hk ho hoc => ?_⟩, fun k T C hT hb => ?_, new ++ new2, start2, ?_, hcut _ _ _ H4.out (by decide) (by decide) (by decide), H52.out.set 0 _, by have h8 := HBD2.out.frm.size; have h9 := hfs.size; omega, C7, hcut _ _ _ H7.out (by decide) (by decide) (by decide)⟩
    · have h10 : ¬ SB W B BB k := fun e => by
        rcases e with e | ⟨_, D, e⟩
        · obtain ⟨_, _, _, hb0, _⟩ := H3.out.bw
          subst e
          rw [show W.heap[k]? = _ from hb0] at ho
          cases ho; cases hoc
        · rw [show W.heap[k]? = _ from e] at ho
          cases ho; cases hoc
      have h11 : k ≠ w.heap.size + 1 + 1 := fun e => by
        subst e
        rw [show W.heap[w.heap.size + 1 + 1]? = _ from H5.out] at ho
        cases ho; cases hoc
      have hklt : k < W.heap.size := (Array.getElem?_eq_some_iff.1 ho).1
      rw [hfs.block k (Nat.lt_of_lt_of_le hklt HBD2.out.frm.size) h11, HBD2.out.frm.block k hklt h10]
      exact ho
    · rcases hT with hT | hT | hT
      · subst hT; exact hcut _ _ _ hb (by decide) (by decide) (by decide)
      · subst hT; exact hcut _ _ _ hb (by decide) (by decide) (by decide)
      · subst hT
        have hT := box_ty hb H7.out
        subst hT
        exact hcut _ _ _ hb (by decide) (by decide) (by decide)
    · rw [relL_snoc, costL_snoc, hrk, hck]
      exact (H3.out.more (Frm.refl No W) HBD2.out).at hfs (fun k T C hT hb e => by
        have e' : k = w.heap.size + 1 + 1 := e
        subst e'
        have h12 := box_ty hb H52.out
        subst h12
        revert hT
        decide) (fun k hk e => by have e' : k = w.heap.size + 1 + 1 := e; omega)
  case done =>
    rintro D ys W hD hys ⟨new, start, h3, h4, h5, h6, C7, h7⟩ hK
    subst hys
    have c5 : W.cell? ⟨w.heap.size + 1 + 1, 0, none⟩ = some (.int .i64 (start : Int)) := h5.cell 0
    have HB := Lib.hid h3
    clear h3 h4 h5
    gi_wp2
    refine ⟨by simp, .inl ⟨_, _, rfl, run_takeDeferred hK, ?_⟩⟩
    refine ⟨_, results_tmp rfl _ _ _, new, start, rfl, ?_⟩
    exact Bd.congr (HB.out.at (frm_own (B := w.heap.size) (grownBy_putObj' W D (.deferred none)) (fun r e => by cases e; exact ⟨by omega, _, hK, rfl⟩)) (fun k T C _ hb => box_nc hb) (fun k hk e => by have := e.1; omega)) (fun s i j => by rw [hr, hrd]) (by rw [hc, hcd])
  case stop =>
    rintro D c pre W _ _ h _
    exact h.elim
end
end Go.Proofs.YtbfekknhmjndaaaGreat.part
