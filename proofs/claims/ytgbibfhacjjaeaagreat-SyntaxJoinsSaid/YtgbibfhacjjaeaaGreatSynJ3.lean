/- Rows of trees one behind the other; the law SyntaxJoins. The law SyntaxJoins. -/
import Derived.Test.YtgbibfhacjjaeaaGreatSynJ1
import Derived.Test.YtgbibfhacjjaeaaGreatSynS1
import Derived.Laws.OwnMore
import Derived.Deep.AppendLies
import Derived.Lib.Hide

namespace Go.Proofs.YtgbibfhacjjaeaaGreat.syn
set_option maxRecDepth 20000 set_option linter.unusedVariables false set_option linter.unusedSimpArgs false
open Go.ChangeShapes Go.WideShapes Go.ChangeAt Go.RowKit Go.Proofs.YtgbibfhacjjaeaaGreat.base
open Go.Proofs.YtgbibfhacjjaeaaGreat.lexs (Tok kNl kNum kStr kEre kOp kName kFunc kWord kBuilt)

def Any : Nat → Prop := fun _ => True
theorem RepC.any {w : World} {F : Nat → Prop} {f : Fo} {C : List Value} (h : RepC w F f C) : RepC w Any f C := h.go (fun _ _ _ hb => ⟨trivial, hb⟩)
theorem RepC.move {w w' : World} {F : Nat → Prop} {f : Fo} {C : List Value} (h : RepC w F f C) (hf : Frm No w w') : RepC w' F f C := h.go (fun g cur hF hb => ⟨hF, hb.frm hf id⟩)
theorem RepC.app {w : World} {F : Nat → Prop} {f g : Fo} {C D : List Value} (h : RepC w F f C) (k : RepC w F g D) : RepC w F (f.app g) (C ++ D) := by
  induction f generalizing C with
  | nil => rw [show C = [] from h]; exact k
  | cons o t ks r ih1 ih2 =>
    obtain ⟨v, C', rfl, h1, h2⟩ := h
    exact ⟨v, C' ++ D, rfl, h1, ih2 h2⟩
theorem RepC.one {w : World} {F : Nat → Prop} {f : Fo} {C : List Value} (h : RepC w F f C) : ∀ u ∈ C, u.oneCell' = true := by
  induction f generalizing C with
  | nil => rw [show C = [] from h]; intro u hu; cases hu
  | cons o t ks r ih1 ih2 =>
    obtain ⟨v, C', rfl, h1, h2⟩ := h
    have hv : v.oneCell' = true := by
      rcases h1 with ⟨rfl, _⟩ | ⟨g, cap, cur, rfl, _⟩ <;> rfl
    intro u hu
    rcases List.mem_cons.1 hu with rfl | hu
    · rfl
    rcases List.mem_cons.1 hu with rfl | hu
    · rfl
    rcases List.mem_cons.1 hu with rfl | hu
    · exact hv
    · exact ih2 h2 u hu
theorem itemsL_len (I : Inn) (k : Nat) (f : Fo) (s : PS) : (itemsL I k f s).1.len ≤ f.len + k := by
  induction k generalizing f s with
  | zero => exact Nat.le_refl _
  | succ k ih =>
    unfold itemsL
    split
    · simp only; omega
    · have := ih (f.snoc (item I s).1) (skipEnds (item I s).2)
      rw [Fo.len_snoc] at this
      omega
theorem parseS_len {s : ByteArray} {f : Fo} (h : parseS s = some f) : f.len ≤ 20000 := by
  unfold parseS at h
  obtain ⟨ts, h1, h2⟩ := Option.bind_eq_some_iff.1 h
  have h3 := lexL_few h1
  unfold parseT items at h2
  generalize inn 200 = I at *
  split at h2
  · cases h2
  split at h2
  · cases h2
  cases h2
  have h4 := itemsL_len I (skipEnds (start ts)).r.length .nil (skipEnds (start ts))
  have h5 := (skipEnds_le (start ts)).1
  have h6 : (start ts).r.length = ts.length := rfl
  have h7 : Fo.nil.len = 0 := rfl
  omega

/-- What is appended to a slice of one's own: a row of trees. -/
theorem app_row (w0 w : World) (B n la c cb ca : Nat) (g : Nat) (a : Option Addr) (f fa : Fo) (C : List Value) (hf : Frm No w0 w) (hB : B ≤ g) (hBw : B ≤ w.heap.size) (hown : w.ownsRow B tN 3 (.slice (some ⟨g, 0, none⟩) f.len c) f.len C) 
    (hr : RowN w0 cb a ca fa) (hn : f.len + fa.len ≤ 50000) (ty : TypeId) :
    ∃ g' cap w', (Builtin.append_ #[23, 23] ty #[.slice (some ⟨g, 0, none⟩) f.len c, .slice a fa.len ca]).run Tryz.prog w = .ok (.slice (some ⟨g', 0, none⟩) (f.len + fa.len) cap) w' ∧
      B ≤ g' ∧ (Frm (fun k => B ≤ k) w w') ∧ ∃ D, w'.ownsRow B tN 3 (.slice (some ⟨g', 0, none⟩) (f.app fa).len cap) (f.app fa).len (C ++ D) ∧ ∀ w'', Frm No w0 w'' → RepC w'' Any fa D := by
  obtain ⟨i0, hi, hz0, hz1, hz2⟩ := node_parts
  obtain ⟨D, hro0, hrc, hnil⟩ := hr
  have hro := own_frm hro0 hf (fun _ _ _ _ => id)
  have hrm : ∀ w'', Frm No w0 w'' → RepC w'' Any fa D := fun w'' h => hrc.any.move h
  by_cases hz : fa.len = 0
  · obtain ⟨rfl, rfl⟩ := hnil hz
    have hfn : fa = .nil := by cases fa with
      | nil => rfl
      | cons _ _ _ _ => simp only [Fo.len] at hz; omega
    subst hfn
    have hD : D = [] := List.eq_nil_of_length_eq_zero (by have := hrc.len; simpa [Fo.len] using this)
    subst hD
    refine ⟨g, c, w, ?_, hB, Frm.refl _ _, [], ?_, hrm⟩
    · have k := run_append_owned_none (P := Tryz.prog) (w := w) B 23 ty tN i0 3 Tryz.underlying23 hi (.slice (some ⟨g, 0, none⟩) f.len c) f.len C hown
      exact k
    · rw [Fo.app_nil, List.append_nil]; exact hown
  · have hro2 := hro
    rcases hro.2 with ⟨_, e⟩ | ⟨ga, cap1, cur, ea, hBa, hb, hc1, hc2, _, htk⟩
    · exact absurd e hz
    cases ea
    have hpos : 0 < fa.len := by omega
    obtain ⟨g', cap, w', h1, h2, h3, h4, h5⟩ := run_append_lies (P := Tryz.prog) w 23 ty B tN i0 _ 3 56 Tryz.underlying23 hi hz0 hz1 hz2 rfl (by omega) (.slice (some ⟨g, 0, none⟩) f.len c) f.len C hown
      ⟨ga, 0, none⟩ fa.len ca D hro.1 (fun j u hj => by
        have hj2 : j < fa.len * 3 := by rw [← hro.1]; exact (List.getElem?_eq_some_iff.1 hj).1
        have := World.ownsRow.cellAt hro2 j hj2
        rw [hj] at this
        rw [show (⟨ga, 0, none⟩ : Addr).add j = ⟨ga, j, none⟩ from by unfold Addr.add; by_cases hj0 : j = 0 <;> simp [hj0]]
        exact this) hrc.one hpos (by unfold maxLen; omega) (by omega) hBw w.heap.size rfl
    refine ⟨g', cap, w', h1, ?_, ?_, D, ?_, hrm⟩
    · rcases h4 with e | e
      · simp only [Value.ownBlock, Option.some.injEq] at e; omega
      · omega
    · exact (Frm.refl _ w).grown h3 (fun k hk _ => by simp only [Value.ownBlock, Option.some.injEq] at hk; omega)
    · rw [Fo.len_app]; exact h2
theorem PPost_or {r : Option Fo} {w : World} {e : Ending} {w' : World} (h : PPost w r e w') : ∃ (v : Value) (b : Bool), e = .returned (.tuple #[v, .bool b]) ∧ Frm No w w' := by
  obtain ⟨hf, h⟩ := h
  cases r with
  | none => exact ⟨_, _, h, hf⟩
  | some f => obtain ⟨a, c, he, _⟩ := h; exact ⟨_, _, he, hf⟩
theorem begin_len {T : ByteArray} {t : List UInt8} (hT : T.data.toList = 66 :: 69 :: 71 :: 73 :: 78 :: 32 :: t) (ht : T.size ≤ 2000) {fb : Fo} (hb : parseS T = some fb) : 0 < fb.len := by
  unfold parseS at hb
  obtain ⟨tb, h3, h4⟩ := Option.bind_eq_some_iff.1 hb
  have hlt : t.length ≤ 10000 := by
    have e : T.data.toList.length = T.size := by simp
    rw [hT] at e
    simp only [List.length_cons] at e
    omega
  rw [hT] at h3
  obtain ⟨B', rfl⟩ := lexs.begin_lex hlt h3
  unfold parseT items at h4
  generalize inn 200 = I at *
  split at h4
  · cases h4
  split at h4
  · cases h4
  cases h4
  have es : skipEnds (start (⟨kWord, [66, 69, 71, 73, 78]⟩ :: B')) = start (⟨kWord, [66, 69, 71, 73, 78]⟩ :: B') := rfl
  rw [es]
  have el : (start (⟨kWord, [66, 69, 71, 73, 78]⟩ :: B')).r.length = B'.length + 1 := rfl
  rw [el, itemsL, if_neg (by intro e; cases e), ex.itemsL_acc, Fo.len_app, Fo.len_snoc]
  omega

theorem joins_same {w4 : World} {B c cc a ca b cb : _} {fa fb : Fo} (hc : RowN w4 c a ca (fa.app fb)) (ha : RowN w4 cc b cb fa) {Bb : Nat} {bb : Option Addr} {cbb : Nat} (hb : RowN w4 Bb bb cbb fb) (hB : B = w4.heap.size) (hla : fa.len ≤ 20000) (hlb : fb.len ≤ 20000) (hlb0 : 0 < fb.len) (ty ty2 : TypeId) :
    ∃ g5 cap5 w5 g6 cap6 w6, (Builtin.append_ #[23, 23] ty #[.slice (some ⟨w4.heap.size, 0, none⟩) 0 0, .slice b fa.len cb]).run Tryz.prog (w4.alloc (.cells #[] tN)) = .ok (.slice (some ⟨g5, 0, none⟩) fa.len cap5) w5 ∧
      (Builtin.append_ #[23, 23] ty2 #[.slice (some ⟨g5, 0, none⟩) fa.len cap5, .slice bb fb.len cbb]).run Tryz.prog w5 = .ok (.slice (some ⟨g6, 0, none⟩) (fa.len + fb.len) cap6) w6 ∧ Frm No w4 w6 ∧
      Calls Tryz.prog 15 #[.slice a (fa.len + fb.len) ca, .slice (some ⟨g6, 0, none⟩) (fa.len + fb.len) cap6] w6 fun e w' => e = .returned (.bool true) ∧ Frm No w6 w' := by
  subst hB
  have hX : Frm No w4 (w4.alloc (.cells #[] tN)) := frm1 w4 _
  have hown0 : (w4.alloc (.cells #[] tN)).ownsRow w4.heap.size tN 3 (.slice (some ⟨w4.heap.size, 0, none⟩) 0 0) 0 [] := World.ownsRow_lit w4 #[] 0 (Nat.le_refl _) (Nat.zero_le _) rfl
  obtain ⟨g5, cap5, w5, h1, h2, h3, D, h4, h5⟩ := app_row w4 (w4.alloc (.cells #[] tN)) w4.heap.size 0 0 0 cc cb w4.heap.size b .nil fa [] hX (Nat.le_refl _) (by rw [World.size_alloc]; omega) hown0 ha (by simp [Fo.len]; omega) ty
  have hX5 : Frm No w4 w5 := hX.then h3 (fun k hk hs => by have hs : w4.heap.size ≤ k := hs; omega)
  have e0 : Fo.nil.app fa = fa := rfl
  have e1 : Fo.nil.len + fa.len = fa.len := by simp [Fo.len]
  rw [e0, List.nil_append] at h4
  rw [e1] at h1
  obtain ⟨g6, cap6, w6, k1, k2, k3, D2, k4, k5⟩ := app_row w4 w5 w4.heap.size 0 0 cap5 Bb cbb g5 bb fa fb D hX5 h2 hX5.size h4 hb (by omega) ty2
  have hX6 : Frm No w4 w6 := hX5.then k3 (fun k hk hs => by have hs : w4.heap.size ≤ k := hs; omega)
  have hne : fa.app fb ≠ .nil := by
    intro e
    have := congrArg Fo.len e
    rw [Fo.len_app] at this
    simp only [Fo.len] at this
    omega
  have hkv2 : KV w6 Any (.slice (some ⟨g6, 0, none⟩) (fa.app fb).len cap6) (fa.app fb) := by
    rcases k4.2 with ⟨e, _⟩ | ⟨g, cap, cur, e, hB, hh, q1, q2, _, q3⟩
    · cases e
    · cases e
      refine Or.inr ⟨g6, cap6, cur, rfl, ⟨hne, Nat.le_trans q1 q2⟩, trivial, hh, ?_⟩
      rw [show 3 * (fa.app fb).len = (fa.app fb).len * 3 by omega, q3]
      exact (h5 w6 hX6).app (k5 w6 hX6)
  have hkv1 : KV w6 Any (.slice a (fa.app fb).len ca) (fa.app fb) := (hc.kv.move hX6).mono (fun _ _ _ => trivial)
  have hS := same_all (fa.app fb).depth (fa.app fb) w6 Any Any a (some ⟨g6, 0, none⟩) ca cap6 (Nat.le_refl _) hkv1 hkv2
  rw [Fo.len_app] at hS
  exact ⟨g5, cap5, w5, g6, cap6, w6, h1, k1, hX6, hS⟩
end Go.Proofs.YtgbibfhacjjaeaaGreat.syn

namespace Go.Proofs.YtgbibfhacjjaeaaGreat.syn
set_option maxRecDepth 20000 set_option linter.unusedVariables false set_option linter.unusedSimpArgs false
open Go.ChangeShapes Go.WideShapes Go.ChangeAt Go.RowKit Go.Proofs.YtgbibfhacjjaeaaGreat.base
open Go.Proofs.YtgbibfhacjjaeaaGreat.lexs (Tok kNl kNum kStr kEre kOp kName kFunc kWord kBuilt)

/-- An append whose run is known, also where it is guarded. -/
theorem wpList_app_run {P : Program} {ops : Array Oper} {rest : List Oper} {o : Oper} {a : Act} {w w2 : World} {Q : Exit → Act → World → Prop} (hgd : Region.wanted o (yielded ops a.tmps) = true) (s x : Operand) (t : TypeId)
    (ho : o.op = .call { callee := .builtin .append, args := #[s, x], argTypes := #[t, t] }) (v u r : Value) (hs : a.eval s = v) (hx : a.eval x = u) (hr : (Builtin.append_ #[t, t] o.type #[v, u]).run P w = .ok r w2)
    (h : wpList P ops Q rest (a.put o.dst r) w2) : wpList P ops Q (o :: rest) a w := by
  rw [wpList, if_pos hgd]
  left
  unfold Oper.wp execOp
  simp only [ho, resolve, invoke, builtin, Sem.run_bind, Sem.run_pure, Result.andThen_ok, List.map_toArray, List.map_cons, List.map_nil, hs, hx, hr]
  exact h

set_option maxHeartbeats 4000000 in
theorem joins_all (s t : ByteArray) (w : World) : Calls Tryz.prog 4 #[.string s, .string t] w fun e w' => e = .returned (.bool true) ∧ Frm No w w' := by
  by_cases h1 : 1500 < s.size
  · have h1' : (1500 : Int) < (s.size : Int) := by omega
    go_enter Tryz.func4, Tryz.ntmps4
    go_wp2_with (go_at_call 11; go_must (refine (awake6_all _).mono ?_; rintro e w1 ⟨rfl, hf1⟩; have HF1 := Lib.hid hf1; clear hf1))
    go_ret
    exact ⟨rfl, HF1.out⟩
  have h1' : ¬ (1500 : Int) < (s.size : Int) := by omega
  by_cases h2 : 1500 < t.size
  · have h2' : (1500 : Int) < (t.size : Int) := by omega
    go_enter Tryz.func4, Tryz.ntmps4
    go_wp2_with (go_at_call 11; go_must (refine (awake6_all _).mono ?_; rintro e w1 ⟨rfl, hf1⟩; have HF1 := Lib.hid hf1; clear hf1))
    go_ret
    exact ⟨rfl, HF1.out⟩
  have h2' : ¬ (1500 : Int) < (t.size : Int) := by omega
  have hcs : (∃ m : Nat, ∃ hm : m < s.size, (s.size : Int) - 1 = (m : Int) ∧ (0 : Int) < s.size ∧ ((s[m].toNat : Int) == 92) = true) ∨ ((s.size : Int) = 0) ∨ (∃ m : Nat, ∃ hm : m < s.size, (s.size : Int) - 1 = (m : Int) ∧ (0 : Int) < s.size ∧ ((s[m].toNat : Int) == 92) = false) := by
    by_cases h0 : s.size = 0
    · exact Or.inr (Or.inl (by omega))
    · cases h : ((s[s.size - 1].toNat : Int) == 92) with
      | true => exact Or.inl ⟨s.size - 1, by omega, by omega, by omega, h⟩
      | false => exact Or.inr (Or.inr ⟨s.size - 1, by omega, by omega, by omega, h⟩)
  have hsl : s.size ≤ 1500 := by omega
  have htl : t.size ≤ 1500 := by omega
  have e9 : (⟨#[66, 69, 71, 73, 78, 32, 123, 125, 10]⟩ : ByteArray).size = 9 := rfl
  have e1 : (⟨#[10]⟩ : ByteArray).size = 1 := rfl
  have hTs : (⟨#[66, 69, 71, 73, 78, 32, 123, 125, 10]⟩ ++ t : ByteArray).size ≤ 2000 := by rw [ByteArray.size_append]; omega
  have HA := Lib.hid (fun w => parse_all s w (by omega))
  have HB := Lib.hid (fun w => parse_all (⟨#[66, 69, 71, 73, 78, 32, 123, 125, 10]⟩ ++ t) w (by omega))
  have HC := Lib.hid (fun (w : World) => parse_all ((s ++ ⟨#[10]⟩) ++ (⟨#[66, 69, 71, 73, 78, 32, 123, 125, 10]⟩ ++ t)) w (by rw [ByteArray.size_append, ByteArray.size_append]; omega))
  have HCD := Lib.hid (show ((s ++ ⟨#[10]⟩) ++ (⟨#[66, 69, 71, 73, 78, 32, 123, 125, 10]⟩ ++ t) : ByteArray).data.toList = s.data.toList ++ 10 :: (⟨#[66, 69, 71, 73, 78, 32, 123, 125, 10]⟩ ++ t : ByteArray).data.toList by simp)
  have HTD := Lib.hid (show (⟨#[66, 69, 71, 73, 78, 32, 123, 125, 10]⟩ ++ t : ByteArray).data.toList = 66 :: 69 :: 71 :: 73 :: 78 :: 32 :: (123 :: 125 :: 10 :: t.data.toList) by simp)
  have HTS := Lib.hid hTs
  clear hTs e9 e1
  rcases hcs with ⟨m, hm, hz, hp, hb⟩ | hcs
  · go_enter Tryz.func4, Tryz.ntmps4
    go_wp2_with (go_at_call 11; go_must (refine (awake6_all _).mono ?_; rintro e w1 ⟨rfl, hf1⟩; have HF1 := Lib.hid hf1; clear hf1))
    go_ret
    exact ⟨rfl, HF1.out⟩
  have hok : lexs.okl s.data.toList := by
    rcases hcs with h0' | ⟨m, hm, hz, hp, hb⟩
    · exact lexs.okl_nil h0'
    · exact lexs.okl_of hm hz hb
  have HOK := Lib.hid hok
  clear hok
  cases hA : parseS s with
  | none =>
    rw [hA] at HA
    clear hA HOK
    rcases hcs with h0' | ⟨m, hm, hz, hp, hb⟩
    all_goals
      go_enter Tryz.func4, Tryz.ntmps4
      go_wp2_with (first | (go_at_call 11; go_must (refine (awake6_all _).mono ?_; rintro e w1 ⟨rfl, hf1⟩; have HF1 := Lib.hid hf1; clear hf1)) | (go_at_call 12; (with_reducible refine (HA.out _).mono ?_); rintro e w2 ⟨hf2, h2⟩; obtain rfl : e = .returned (.tuple #[.slice none 0 0, .bool false]) := h2; have HF2 := Lib.hid hf2; clear hf2) | (go_at_call 12; (with_reducible refine (HB.out _).mono ?_); intro e w3 h3; obtain ⟨v3, b3, rfl, hf3⟩ := PPost_or h3; have HF3 := Lib.hid hf3; clear hf3 h3))
      go_ret
      exact ⟨rfl, HF1.out.trans (HF2.out.trans HF3.out)⟩
  | some fa =>
    rw [hA] at HA
    have HLA := Lib.hid (parseS_len hA)
    cases hB : parseS (⟨#[66, 69, 71, 73, 78, 32, 123, 125, 10]⟩ ++ t) with
    | none =>
      rw [hB] at HB
      clear hA hB HOK
      rcases hcs with h0' | ⟨m, hm, hz, hp, hb⟩
      all_goals
        go_enter Tryz.func4, Tryz.ntmps4
        go_wp2_with (first | (go_at_call 11; go_must (refine (awake6_all _).mono ?_; rintro e w1 ⟨rfl, hf1⟩; have HF1 := Lib.hid hf1; clear hf1)) | (go_at_call 12; (with_reducible refine (HA.out _).mono ?_); rintro e w2 ⟨hf2, aa, ca, rfl, hra⟩; have HF2 := Lib.hid hf2; have HRA := Lib.hid hra; clear hf2 hra) | (go_at_call 12; (with_reducible refine (HB.out _).mono ?_); rintro e w3 ⟨hf3, h3⟩; obtain rfl : e = .returned (.tuple #[.slice none 0 0, .bool false]) := h3; have HF3 := Lib.hid hf3; clear hf3))
        go_ret
        exact ⟨rfl, HF1.out.trans (HF2.out.trans HF3.out)⟩
    | some fb =>
      rw [hB] at HB
      have HLB := Lib.hid (parseS_len hB)
      have HLB0 := Lib.hid (begin_len HTD.out HTS.out hB)
      have hj := parseS_join (by omega) HTS.out HOK.out HTD.out HCD.out hA hB
      rw [hj] at HC
      clear hA hB hj HOK HTD HCD HTS
      rcases hcs with h0' | ⟨m, hm, hz, hp, hb⟩
      all_goals
        go_enter Tryz.func4, Tryz.ntmps4
        go_wp2_with (first | (go_at_call 11; go_must (refine (awake6_all _).mono ?_; rintro e w1 ⟨rfl, hf1⟩; have HF1 := Lib.hid hf1; clear hf1)) | (go_at_call 12; (with_reducible refine (HA.out _).mono ?_); rintro e w2 ⟨hf2, aa, ca, rfl, hra⟩; have HF2 := Lib.hid hf2; have HRA := Lib.hid hra; clear hf2 hra) | (go_at_call 12; (with_reducible refine (HB.out _).mono ?_); rintro e w3 ⟨hf3, ab, cb, rfl, hrb⟩; have HF3 := Lib.hid hf3; have HRB := Lib.hid hrb; clear hf3 hrb) | (go_at_call 12; (with_reducible refine (HC.out _).mono ?_); rintro e w4 ⟨hf4, ac, cc, rfl, hrc⟩; obtain ⟨g5, cap5, w5, g6, cap6, w6, hrun5, hrun6, hf46, hsm⟩ := joins_same hrc ((HRA.out.move HF3.out).move hf4) (HRB.out.move hf4) rfl HLA.out HLB.out HLB0.out 23 23; rw [Fo.len_app] at *; have HF4 := Lib.hid (hf4.trans hf46); have HSM := Lib.hid hsm; clear hf4 hf46 hsm hrc) | (go_at_call 15; go_must (refine (HSM.out).mono ?_; rintro e w7 ⟨rfl, hf7⟩; have HF7 := Lib.hid hf7; clear hf7)) | (refine wpList_app_run (by first | rfl | simp [Region.wanted, yielded]) _ _ _ rfl _ _ _ rfl rfl hrun5 ?_; have hq := hrun5; clear hrun5) | (refine wpList_app_run (by first | rfl | simp [Region.wanted, yielded]) _ _ _ rfl _ _ _ rfl rfl hrun6 ?_; clear hrun6))
        go_ret
        exact ⟨rfl, HF1.out.trans (HF2.out.trans (HF3.out.trans (HF4.out.trans HF7.out)))⟩
end Go.Proofs.YtgbibfhacjjaeaaGreat.syn
