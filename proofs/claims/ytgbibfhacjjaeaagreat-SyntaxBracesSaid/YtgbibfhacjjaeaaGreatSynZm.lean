/- items, deeper. -/
import Derived.Test.YtgbibfhacjjaeaaGreatSynZl
namespace Go.Proofs.YtgbibfhacjjaeaaGreat.syn
set_option maxRecDepth 20000 set_option linter.unusedVariables false set_option linter.unusedSimpArgs false
open Go.ChangeShapes Go.WideShapes Go.ChangeAt Go.RowKit Go.Proofs.YtgbibfhacjjaeaaGreat.base
open Go.Proofs.YtgbibfhacjjaeaaGreat.lexs (Tok kNl kNum kStr kEre kOp kName kFunc kWord kBuilt)

theorem paramsL_le (k : Nat) (f : Fo) (s : PS) : Le (paramsL k f s).2 s := by
  induction k generalizing f s with
  | zero => exact Le.refl s
  | succ k ih =>
    unfold paramsL
    split
    · exact (ih _ _).trans ((name_lt _).1.trans ((skipLines_le _).trans (nextS_le s)))
    · exact Le.refl s
theorem params_le (s : PS) : Le (params s).2 s := by
  unfold params
  split
  · exact (nextS_le _).trans (wantO_lt _ s).1
  · exact (wantO_lt _ _).1.trans ((paramsL_le _ _ _).trans ((name_lt _).1.trans (wantO_lt _ s).1))
section
variable {I : Inn} (hI : LtI I)
include hI
theorem function_le (s : PS) : Le (function I s).2 s := (block_lt hI _).1.trans ((skipLines_le _).trans ((params_le _).trans (name_lt s).1))
theorem ruleBlock_le (s : PS) : Le (ruleBlock I s).2 s := by
  unfold ruleBlock
  split
  · exact (block_lt hI s).1
  · split
    · exact Le.refl s
    · exact (failN_lt s).1
theorem rule_lt (s : PS) : Lt (rule I s).2 s := by
  unfold rule
  split
  · exact block_lt hI s
  · dsimp only
    split
    · exact Lt.trans ((ruleBlock_le hI _).trans ((hI _ _).1.trans ((skipLines_le _).trans (nextS_le _)))) (hI _ s)
    · exact Lt.trans (ruleBlock_le hI _) (hI _ s)
theorem item_len (s : PS) : (item I s).2.r.length ≤ s.r.length - 1 := by
  have hn : ∀ k, (setK k (nextS s)).r.length = s.r.length - 1 := fun k => by unfold setK nextS; simp
  unfold item
  split
  · have := (block_lt hI (setK (peek s).t (nextS s))).1.1
    rw [hn] at this
    exact this
  · split
    · have := (function_le hI (setK (peek s).t (nextS s))).1
      rw [hn] at this
      exact this
    · exact (rule_lt hI (setK w_rule s)).2.2
end
theorem itemsL_end (I : Inn) (k : Nat) (f : Fo) (q : PS) (h : q.r.isEmpty = true) : itemsL I k f q = (f, q) := by
  cases k <;> simp [itemsL, h]

set_option maxHeartbeats 8000000 in
theorem items_all (n : Nat) (I : Inn) (hI : InC n I) (hK : kp.LtI I) : RL 28 n (items I) := by
  intro w R s h
  obtain ⟨i0, hi, hz0, hz1, hz2⟩ := node_parts
  have HH := Lib.hid h
  have HE := Lib.hid (fun W q (hw : PW W R n q) => skipEnds_all W R n q hw)
  have HDN := Lib.hid (fun W q (hw : PW W R n q) => done_b n q W R hw)
  have HI := Lib.hid (fun W q (hw : PW W R n q) => item_all n I hI hK W R q hw)
  have HLT := Lib.hid hI.lt
  have HD := Lib.hid (show items I s = itemsL I (skipEnds s).r.length .nil (skipEnds s) from rfl)
  generalize items I s = res at *
  have HE0 := Lib.hid (skipEnds_all w R n s h)
  generalize skipEnds s = s1 at *
  clear h hI hK
  go_enter Tryz.func28, Tryz.ntmps28
  go_wp2_with (go_at_call 59; go_must (refine (HE0.out).mono ?_; rintro e w1 ⟨rfl, hp1, hf1⟩; have HP1 := Lib.hid hp1; have HF1 := Lib.hid hf1; clear hp1 hf1))
  go_loopg [3] s1.r.length (fun gf lv wx => ∃ (f : Fo) (q : PS) (a : Option Addr) (c : Nat), lv = .slice a f.len c ∧ RowN wx w.heap.size a c f ∧ PW wx R n q ∧ Frm (At R) w wx ∧ itemsL I gf f q = res ∧ q.r.length ≤ gf ∧ f.len + gf ≤ 100000)
  case atStart =>
    have hl := HP1.out.len
    exact ⟨.nil, s1, none, 0, rfl, RowN.nil _ _, HP1.out, HF1.out, HD.out.symm, Nat.le_refl _, by simp [Fo.len]; omega⟩
  case round =>
    obtain ⟨f, q, a, c, rfl, hr, hq, hf, hl, hk, hb⟩ := hrel
    have HR := Lib.hid hr
    have HQ := Lib.hid hq
    have HF := Lib.hid hf
    have HL := Lib.hid hl
    have HK := Lib.hid hk
    have HBD := Lib.hid hb
    have HDQ := Lib.hid (HDN.out wr q hq)
    clear hr hq hf hl hk hb HP1 HF1 HD HH HE0
    cases hc : q.r.isEmpty
    · rw [hc] at HDQ
      have hne : q.r ≠ [] := by intro e; rw [e] at hc; cases hc
      obtain ⟨gf, rfl⟩ : ∃ m, gk = m + 1 := by
        cases gk with
        | zero => exact absurd (List.eq_nil_of_length_eq_zero (by have := HK.out; omega)) hne
        | succ m => exact ⟨m, rfl⟩
      have hls := HL.out
      rw [show itemsL I (gf + 1) f q = itemsL I gf (f.snoc (item I q).1) (skipEnds (item I q).2) from by rw [itemsL, if_neg (by rw [hc]; decide)]] at hls
      have hlen : (skipEnds (item I q).2).r.length ≤ gf := by
        have e1 := (skipEnds_le (item I q).2).1
        have e2 := item_len HLT.out q
        have e4 := List.length_pos_iff.2 hne
        have := HK.out
        omega
      have HLEN := Lib.hid hlen
      have HLS := Lib.hid hls
      have HIQ := Lib.hid (fun W (hw : PW W R n q) => HI.out W q hw)
      have HEQ := Lib.hid (fun W (hw : PW W R n (item I q).2) => HE.out W _ hw)
      generalize item I q = q1 at *
      obtain ⟨n1, s2⟩ := q1
      dsimp only at HLEN HLS HEQ
      clear hc hls hlen hne HL HE HI HDN
      go_wp2_with (first | (have hz := HP5; clear hz; go_at_call 59; go_must (refine (HEQ.out _ HP5.out).mono ?_; rintro e w6 ⟨rfl, hp6, hf6⟩; have HP6 := Lib.hid hp6; have HR6 := Lib.hid (HR5.out.at HP5.out hf6); have HF6 := Lib.hid (HF5.out.trans hf6); clear hp6 hf6)) | (have hz := HP2; clear hz; go_at_call 61; go_must (refine (HIQ.out _ HP2.out).mono ?_; rintro e w4 ⟨a4, c4, rfl, hk4, hp4, hf4⟩; have HK4 := Lib.hid hk4; have HP4 := Lib.hid hp4; have HF4 := Lib.hid (HF2.out.trans hf4); have HR4 := Lib.hid (HR2.out.at HP2.out hf4); obtain ⟨C, hro, hro2⟩ := HR4.out; have HO := Lib.hid hro; have hsz4 := HF4.out.size; clear hk4 hp4 hf4 hro hro2)) | (refine wpList_append_lies _ rfl _ _ _ rfl w.heap.size tN i0 _ 3 56 Tryz.underlying23 hi hz0 hz1 hz2 rfl (by omega) (.slice a f.len c) f.len C rfl (World.ownsRow.alloc HO.out _) ⟨w4.heap.size, 0, none⟩ 1 1 [.string ⟨n1.op.toArray⟩, .string ⟨n1.tx.toArray⟩, .slice a4 n1.kids.len c4] rfl rfl (World.news_of_block (heap_alloc_new w4 _)) (by simp [Value.oneCell']) (by omega) (by have := HBD.out; unfold maxLen; omega) (by have := HBD.out; omega) (by simp; omega) (w4.heap.size + 1) (by simp) ?_; intro g gcap w5 hown5 hgrow hat hlt5; obtain ⟨hr5, hp5, hf5⟩ := RowN.more HF4.out HR4.out HK4.out HF2.out.size (fun g hg => HR2.out.ownlt g hg) HP4.out HO.out hown5 hgrow hat; have HR5 := Lib.hid hr5; have HP5 := Lib.hid hp5; have HF5 := Lib.hid hf5; clear hr5 hp5 hf5) | (go_at_call 60; go_must (refine (HDQ.out).mono ?_; rintro e w2 ⟨rfl, hf2⟩; have HP2 := Lib.hid (HQ.out.move hf2); have HR2 := Lib.hid (HR.out.move hf2); have HF2 := Lib.hid (HF.out.trans (frm_no hf2)); clear hf2)))
      go_roundg gf
      case measure => omega
      case rel => exact ⟨f.snoc n1, skipEnds s2, some ⟨g, 0, none⟩, gcap, by rw [Fo.len_snoc], HR6.out, HP6.out, HF6.out, HLS.out, HLEN.out, by have := HBD.out; rw [Fo.len_snoc]; omega⟩
    · rw [hc] at HDQ
      have hls := HL.out
      rw [itemsL_end I _ f q hc] at hls
      subst hls
      clear hc HL HE HI HDN
      go_wp2_with (go_at_call 60; go_must (refine (HDQ.out).mono ?_; rintro e w2 ⟨rfl, hf2⟩; have HP2 := Lib.hid (HQ.out.move hf2); have HR2 := Lib.hid (HR.out.move hf2); have HF2 := Lib.hid (HF.out.trans (frm_no hf2)); clear hf2))
      go_ret
      exact ⟨a, c, rfl, HR2.out, HP2.out, HF2.out⟩

theorem Fo.nth_some {f : Fo} {i : Nat} (h : i < f.len) : ∃ t, f.nth i = some t := by
  induction f generalizing i with
  | nil => simp [Fo.len] at h
  | cons op tx kids rest _ ih =>
    cases i with
    | zero => exact ⟨_, rfl⟩
    | succ i => exact ih (by simp only [Fo.len] at h; omega)
theorem Fo.nth_none {f : Fo} {i : Nat} (h : f.len ≤ i) : f.nth i = none := by
  induction f generalizing i with
  | nil => rfl
  | cons op tx kids rest _ ih =>
    cases i with
    | zero => simp [Fo.len] at h
    | succ i => exact ih (by simp only [Fo.len] at h; omega)
theorem Fo.depth_nth {f : Fo} {i : Nat} {t : Nd} (h : f.nth i = some t) : t.kids.depth + 1 ≤ f.depth := by
  induction f generalizing i with
  | nil => cases h
  | cons op tx kids rest _ ih =>
    cases i with
    | zero => simp only [Fo.nth, Option.some.injEq] at h; subst h; simp only [Fo.depth]; omega
    | succ i => have := ih h; simp only [Fo.depth]; omega
theorem Fo.depth_le {f : Fo} {m : Nat} (h : ∀ i t, f.nth i = some t → t.kids.depth + 1 ≤ m) : f.depth ≤ m := by
  induction f with
  | nil => simp [Fo.depth]
  | cons op tx kids rest _ ih =>
    have h1 := h 0 _ rfl
    have h2 := ih (fun i t ht => h (i + 1) t ht)
    simp only [Fo.depth]
    simp only at h1
    omega

theorem KV.few {w : World} {F : Nat → Prop} {f : Fo} {a : Option Addr} {c : Nat} (h : KV w F (.slice a f.len c) f) : f.len ≤ maxLen := by
  rcases h with ⟨_, rfl⟩ | ⟨_, _, _, _, hn, _⟩
  · exact Nat.zero_le _
  · exact hn.2.1
theorem KV.room {w : World} {F : Nat → Prop} {f : Fo} {a : Option Addr} {c : Nat} (h : KV w F (.slice a f.len c) f) : f.len ≤ c := by
  rcases h with ⟨h, rfl⟩ | ⟨_, _, _, h, hn, _⟩
  · exact Nat.zero_le _
  · cases h; exact hn.2.2

set_option maxHeartbeats 4000000 in
theorem deeper_all (l : Nat) : ∀ (w : World) (F : Nat → Prop) (o t : B) (k : Fo) (a : Option Addr) (c : Nat), l ≤ 1000 → KV w F (.slice a k.len c) k →
    Calls Tryz.prog 29 #[.agg #[.string ⟨o.toArray⟩, .string ⟨t.toArray⟩, .slice a k.len c], .int .i64 (l : Int)] w fun e w' => e = .returned (.bool (decide (l < k.depth + 1))) ∧ Frm No w w' := by
  induction l with
  | zero =>
    intro w F o t k a c hl hk
    have hd : decide (0 < k.depth + 1) = true := by rw [decide_eq_true_iff]; omega
    rw [hd]
    have h0 : (((0 : Nat) : Int) == 0) = true := rfl
    clear hk hd
    go_enter Tryz.func29, Tryz.ntmps29
    go_wp2
    go_ret
    exact ⟨rfl, frm1 w _⟩
  | succ l ih =>
    intro w F o t k a c hl hk
    have IH := Lib.hid ih
    have hfew := hk.few
    unfold maxLen at hfew
    have HK := Lib.hid hk
    have hl0 : (((l + 1 : Nat) : Int) == 0) = false := by rw [beq_eq_false_iff_ne]; omega
    have hl1 : ((l + 1 : Nat) : Int) - 1 = (l : Int) := by omega
    have HB := Lib.hid (Box.new w tN #[.string ⟨o.toArray⟩, .string ⟨t.toArray⟩, .slice a k.len c])
    clear ih hk
    go_enter Tryz.func29, Tryz.ntmps29
    go_wp2
    go_loopg [12] k.len (fun gf iv wr => ∃ i : Nat, gf + i = k.len ∧ iv = .int .i64 i ∧ Frm No w wr ∧ ∀ j u, j < i → k.nth j = some u → u.kids.depth + 1 ≤ l)
    case atStart => exact ⟨0, by omega, rfl, frm1 w _, fun j u hj => absurd hj (Nat.not_lt_zero _)⟩
    case round =>
      obtain ⟨i, hi, rfl, hf, hd⟩ := hrel
      have HF := Lib.hid hf
      have HD := Lib.hid hd
      clear hf hd
      by_cases hlt : i < k.len
      · obtain ⟨u, hu⟩ := Fo.nth_some hlt
        obtain ⟨g, kv, cur, rfl, hb, c0, c1, c2, hkv⟩ := KV.nth (HK.out.move HF.out) i u hu
        obtain ⟨a2, c2', rfl⟩ := hkv.forms
        have HKV := Lib.hid hkv
        have HU := Lib.hid hu
        have hbl := hb.lt
        rw [Nat.mul_comm] at c0 c1 c2
        have hx0 : (0 : Int) ≤ (i : Int) := by omega
        have hx1 : (i : Int) < (k.len : Int) := by omega
        obtain ⟨uo, ut, uk⟩ := u
        dsimp only at c0 c1 c2 HKV
        clear hkv hb hu
        by_cases hdp : l < uk.depth + 1
        · have hdt : decide (l < uk.depth + 1) = true := by rw [decide_eq_true_iff]; exact hdp
          have HDP := Lib.hid hdp
          clear hdp
          go_wp2_with (go_at_call 29; go_must (refine (IH.out _ F uo ut uk a2 c2' (by omega) (KV.move HKV.out (by (repeat (first | exact Frm.refl _ _ | assumption | refine Frm.alloc ?_ _))))).mono ?_; rintro e w3 ⟨rfl, hf3⟩; have HF3 := Lib.hid (show Frm No wr w3 from Frm.trans (by (repeat (first | exact Frm.refl _ _ | assumption | refine Frm.alloc ?_ _))) hf3); clear hf3))
          go_ret
          have h1 := Fo.depth_nth HU.out
          have h2 := HDP.out
          dsimp only at h1
          exact ⟨by rw [show decide (l + 1 < k.depth + 1) = true from by rw [decide_eq_true_iff]; omega]; rfl, HF.out.trans HF3.out⟩
        · have hdt : decide (l < uk.depth + 1) = false := by rw [decide_eq_false_iff_not]; exact hdp
          have HDP := Lib.hid hdp
          clear hdp
          go_wp2_with (go_at_call 29; go_must (refine (IH.out _ F uo ut uk a2 c2' (by omega) (KV.move HKV.out (by (repeat (first | exact Frm.refl _ _ | assumption | refine Frm.alloc ?_ _))))).mono ?_; rintro e w3 ⟨rfl, hf3⟩; have HF3 := Lib.hid (show Frm No wr w3 from Frm.trans (by (repeat (first | exact Frm.refl _ _ | assumption | refine Frm.alloc ?_ _))) hf3); clear hf3))
          go_roundg (gk - 1)
          case measure => omega
          case rel =>
           refine ⟨i + 1, by omega, by go_num, HF.out.trans HF3.out, fun j v hj hv => ?_⟩
           by_cases hji : j = i
           · subst hji
             have h3 := HU.out
             rw [hv] at h3
             cases h3
             have := HDP.out
             dsimp only
             omega
           · exact HD.out j v (by omega) hv
      · obtain rfl : i = k.len := by omega
        go_wp2
        go_ret
        have hdl : k.depth ≤ l := Fo.depth_le (fun j v hv => HD.out j v (by
          by_cases hj : j < k.len
          · exact hj
          · exfalso
            have : k.nth j = none := Fo.nth_none (by omega)
            rw [this] at hv
            cases hv) hv)
        exact ⟨by rw [show decide (l + 1 < k.depth + 1) = false from by rw [decide_eq_false_iff_not]; omega]; rfl, HF.out⟩
end Go.Proofs.YtgbibfhacjjaeaaGreat.syn
