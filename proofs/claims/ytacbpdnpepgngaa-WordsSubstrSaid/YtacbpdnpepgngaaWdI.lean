/- What Find finds, as a function; contract of matches and of its iterator. -/
import Derived.Test.YtacbpdnpepgngaaFnd
import Derived.Test.YtacbpdnpepgngaaWdL
import Derived.Test.YtacbpdnpepgngaaWdP
namespace Go.Proofs.Ytacbpdnpepgngaa.wrd
set_option linter.unusedVariables false set_option linter.unusedSimpArgs false
open Go.ChangeShapes Go.WideShapes Go.ChangeAt Go.RowKit Go.Shelf Go.Proofs.Ytacbpdnpepgngaa.base Go.Proofs.Ytacbpdnpepgngaa.nfa Go.Proofs.Ytacbpdnpepgngaa.part Go.Proofs.Ytacbpdnpepgngaa.rng
attribute [local go_sem] Oper.semAt_some

open Classical in
/-- The leftmost, longest match from a place on. -/
noncomputable def fdR (R : Option Rel) (s : List UInt8) : Fd := fun p => match R with
  | none => none
  | some R => if h : ∃ q : Nat × Nat, BestR R s p true q.1 q.2 then some h.choose else none
theorem fdR_of {R : Rel} {s : List UInt8} {p : Nat} {fd : Bool} {rs re : Nat} (h : BestR R s p fd rs re) : fdR (some R) s p = if fd = true then some (rs, re) else none := by
  unfold fdR
  dsimp only
  cases fd with
  | false =>
    rw [dif_neg (fun ⟨q, hq⟩ => by have := (best_one h hq).1; cases this)]
    rfl
  | true =>
    have hex : ∃ q : Nat × Nat, BestR R s p true q.1 q.2 := ⟨(rs, re), h⟩
    rw [dif_pos hex]
    have := best_one h hex.choose_spec
    rw [if_pos rfl]
    exact congrArg some (Prod.ext this.2.1.symm this.2.2.symm)
theorem fdR_some {R : Rel} {s : List UInt8} {p i e : Nat} (h : fdR (some R) s p = some (i, e)) : BestR R s p true i e := by
  unfold fdR at h
  dsimp only at h
  split at h
  · rename_i hex
    have := hex.choose_spec
    injection h with h
    rw [h] at this
    exact this
  · cases h
theorem fdR_fits (R : Option Rel) (s : List UInt8) : Fits (fdR R s) s.length := by
  intro p i e h
  cases R with
  | none => cases h
  | some R =>
    rcases fdR_some h with ⟨h1, _⟩ | ⟨_, h1, h2, h3, _⟩
    · cases h1
    · exact ⟨h1, h2, h3⟩
theorem fdR_past (R : Option Rel) (s : List UInt8) (q : Nat) (hq : s.length < q) : fdR R s q = none := by
  cases h : fdR R s q with
  | none => rfl
  | some x =>
    obtain ⟨i, e⟩ := x
    have := fdR_fits R s q i e h
    omega

/-- What Find answers. -/
def FdAns (o : Option (Nat × Nat)) (e : Ending) : Prop := match o with
  | none => e = .returned (.tuple #[.int .i64 0, .int .i64 0, .bool false])
  | some (i, j) => e = .returned (.tuple #[.int .i64 (i : Int), .int .i64 ((j : Int) - (i : Int)), .bool true])
theorem fr_ans {R : Rel} {s : ByteArray} {p : Nat} {fd : Bool} {rs re : Nat} {en : Ending} (he : en = .returned (.tuple #[.int .i64 (rs : Nat), .int .i64 ((re : Int) - (rs : Int)), .bool fd])) (h : FR R s (p : Int) fd rs re) : FdAns (fdR (some R) s.data.toList p) en := by
  have hl : s.data.toList.length = s.size := by simp
  unfold FR at h
  split at h
  · rw [Int.toNat_natCast] at h
    rw [fdR_of h]
    cases fd with
    | true => exact he
    | false =>
      rcases h with ⟨_, rfl, rfl, _⟩ | ⟨h, _⟩
      · exact he
      · cases h
  · obtain ⟨rfl, rfl, rfl⟩ := h
    rw [fdR_past _ _ _ (by omega)]
    exact he
theorem find_c (w : World) (v : Value) (R : Option Rel) (s : ByteArray) (p : Nat) (h : MP w v R) (hz : s.size ≤ 1000000) :
    Calls Try.prog 37 #[v, .string s, .int .i64 (p : Int)] w fun e w' => FdAns (fdR R s.data.toList p) e ∧ Frm No w w' := by
  cases R with
  | none =>
    obtain rfl : v = .pointer none := h
    refine (find_nil w s _).mono ?_
    rintro e w' ⟨rfl, rfl⟩
    exact ⟨rfl, Frm.refl _ _⟩
  | some R =>
    refine (mp_findFR w v R s _ h hz).mono ?_
    rintro e w' ⟨fd, rs, re, he, hfr, hf⟩
    exact ⟨fr_ans he hfr, hf⟩

/-- The matches that count, from a place on, of a text of n bytes. -/
def hts (f : Fd) (n p la : Nat) : List (Nat × Nat) := hits f (n + 2 - p) p la
theorem hts_none {f : Fd} {n p la : Nat} (h : f p = none) : hts f n p la = [] := hits_none h
theorem hts_some {f : Fd} {n p la i e : Nat} (hf : Fits f n) (hp : ∀ q, n < q → f q = none) (h : f p = some (i, e)) : hts f n p la = if la ≤ e then (i, e) :: hts f n (nxt i e) (lst la i e) else hts f n (nxt i e) (lst la i e) := by
  obtain ⟨g1, g2, g3⟩ := hf p i e h
  have hn : p < nxt i e := by unfold nxt; split <;> omega
  have hn2 : nxt i e ≤ n + 1 := by unfold nxt; split <;> omega
  unfold hts
  rw [hits_some h (by omega), hits_more hf (n + 2 - p - 1) (n + 2 - nxt i e) (nxt i e) (lst la i e) (by omega) (by omega) (fun h => hp _ h) hp]

/-- matches. -/
theorem matches_all (w : World) (v : Value) (s : ByteArray) (pa : Option Addr) (hv : v = .pointer pa) :
    Calls Try.prog 27 #[v, .string s] w fun e w' => e = .returned (.func (.func 44) #[] #[.pointer (some ⟨w.heap.size, 0, none⟩), .pointer (some ⟨w.heap.size + 1, 0, none⟩)]) ∧ w' = (w.alloc (.cells #[v] 38)).alloc (.cells #[.string s] 9) := by
  subst hv
  go_enter Try.func27, Try.ntmps27
  go_wp2
  go_ret
  exact ⟨rfl, rfl⟩

set_option maxRecDepth 100000 in
set_option maxHeartbeats 4000000 in
/-- Its iterator: the matches that count, one behind the other. -/
theorem matches_gives (w : World) (s : ByteArray) (R : Option Rel) (pa : Option Addr) (bm bs : Nat) (n : Nat) (hn : 1 ≤ n) (hz : s.size ≤ 100000) (I : List (Nat × Nat) → World → Prop)
    (hIm : ∀ pre A, I pre A → A.cell? ⟨bm, 0, none⟩ = some (.pointer pa) ∧ A.cell? ⟨bs, 0, none⟩ = some (.string s) ∧ MP A (.pointer pa) R) (H : List (Nat × Nat)) (hH : hts (fdR R s.data.toList) s.size 0 0 = H) :
    Gives Try.prog n 44 #[.pointer (some ⟨bm, 0, none⟩), .pointer (some ⟨bs, 0, none⟩)] (fun x : Nat × Nat => #[.int .i64 (x.1 : Int), .int .i64 (x.2 : Int)])
      (fun pre x => ∃ r, pre ++ x :: r = H) (fun xs => xs = H) (fun pre => ∃ l x r, pre = l ++ [x] ∧ l ++ x :: r = H) I w := by
  intro l J Jx W hJI hJ hJx hY h0
  have hl : s.data.toList.length = s.size := by simp
  have hfit := fdR_fits R s.data.toList
  have hpast := fdR_past R s.data.toList
  rw [hl] at hfit hpast
  refine callsIn_of_wp Try.func44 rfl trivial ?_ rfl
  simp only [Try.ntmps44, List.size_toArray, List.length_cons, List.length_nil, Nat.reduceAdd, Nat.reduceSub, Array.replicate_succ, Array.replicate_zero, List.push_toArray, List.append_toArray, List.nil_append, List.cons_append]
  gi_wp2
  gi_loopw [4, 5] (fun lv av wr => ∃ (pre : List (Nat × Nat)) (p la : Nat), lv = .int .i64 ((la : Int) - 1) ∧ av = .int .i64 (p : Int) ∧ J pre wr ∧ pre ++ hts (fdR R s.data.toList) s.size p la = H ∧ p ≤ s.size + 1 ∧ la ≤ p + 1)
    (fun _ av _ => s.size + 2 - (intOf av).toNat)
  case atStart => exact ⟨[], 0, 0, rfl, rfl, h0, hH, Nat.zero_le _, Nat.zero_le _⟩
  case round =>
    obtain ⟨pre, p, la, rfl, rfl, hj, heq, hp, hla⟩ := hrel
    obtain ⟨m1, m2, m3⟩ := hIm _ _ (hJI _ _ hj)
    have HF := Lib.hid (find_c wr _ R s p m3 (by omega))
    have HJ2 := Lib.hid (fun A (hf : Frm No wr A) => hJ _ _ _ hj hf)
    have HEQ := Lib.hid heq
    cases hfp : fdR R s.data.toList p with
    | none =>
      have HE := Lib.hid (show pre = H by rw [hts_none hfp, List.append_nil] at heq; exact heq)
      rw [hfp] at HF
      clear heq hfp m3 hj hY
      gi_wp2_with (refine ⟨trivial, ?_⟩; gi_at_call 37; refine (callsIn_wide.2 HF.out).mono ?_; rintro en w2 ⟨rfl, hf2⟩)
      refine bodyPost_ret (results_none rfl _ _ _) rfl ?_
      exact ⟨⟨_, rfl⟩, .inl ⟨pre, HE.out, HJ2.out _ hf2⟩⟩
    | some x =>
      obtain ⟨i, e⟩ := x
      obtain ⟨g1, g2, g3⟩ := hfit p i e hfp
      have HX := Lib.hid (hts_some (la := la) hfit hpast hfp)
      rw [hfp] at HF
      have hsum : (i : Int) + ((e : Int) - (i : Int)) = (e : Int) := by omega
      by_cases hle : la ≤ e
      · have t1 : decide ((la : Int) - 1 < (e : Int)) = true := by rw [decide_eq_true_eq]; omega
        have hnext : pre ++ (i, e) :: hts (fdR R s.data.toList) s.size (nxt i e) (lst la i e) = H := by
          have := HEQ.out
          rw [HX.out, if_pos hle] at this
          exact this
        have HYY := Lib.hid (fun A (hj : J pre A) => hY pre (i, e) A hj ⟨_, hnext⟩)
        have HN := Lib.hid hnext
        by_cases hie : i < e
        · have t2 : decide ((0 : Int) < (e : Int) - (i : Int)) = true := by rw [decide_eq_true_eq]; omega
          have hnx : nxt i e = e := by unfold nxt; rw [if_pos hie]
          have hls : lst la i e = e + 1 := by unfold lst; rw [if_pos hie]
          rw [hnx, hls] at hnext
          have HN2 := Lib.hid hnext
          clear heq hfp m3 hj hY hnext hnx hls
          gi_wp2_with (refine ⟨trivial, ?_⟩; gi_at_call 37; refine (callsIn_wide.2 HF.out).mono ?_; rintro en w2 ⟨rfl, hf2⟩; obtain ⟨fn, tmps, assign, body, hy, hR⟩ := HYY.out w2 (HJ2.out _ hf2); dsimp only at hy)
          refine hR.mono ?_
          rintro en w3 (⟨rfl, hj3⟩ | ⟨rfl, hx3⟩)
          · gi_wp2
            go_roundw
            case rel => exact ⟨pre ++ [(i, e)], e, e + 1, by go_num, rfl, hj3, by rw [List.append_assoc]; exact HN2.out, by omega, by omega⟩
            case measure => simp [intOf]; omega
          · gi_wp2
            refine bodyPost_ret (results_none rfl _ _ _) rfl ?_
            exact ⟨⟨_, rfl⟩, .inr ⟨_, ⟨pre, (i, e), _, rfl, HN.out⟩, hx3⟩⟩
        · obtain rfl : i = e := by omega
          have t2 : decide ((0 : Int) < (i : Int) - (i : Int)) = false := by rw [decide_eq_false_iff_not]; omega
          have hnx : nxt i i = i + 1 := by unfold nxt; rw [if_neg hie]
          have hls : lst la i i = la := by unfold lst; rw [if_neg hie]
          rw [hnx, hls] at hnext
          have HN2 := Lib.hid hnext
          clear heq hfp m3 hj hY hnext hnx hls
          gi_wp2_with (refine ⟨trivial, ?_⟩; gi_at_call 37; refine (callsIn_wide.2 HF.out).mono ?_; rintro en w2 ⟨rfl, hf2⟩; obtain ⟨fn, tmps, assign, body, hy, hR⟩ := HYY.out w2 (HJ2.out _ hf2); dsimp only at hy)
          refine hR.mono ?_
          rintro en w3 (⟨rfl, hj3⟩ | ⟨rfl, hx3⟩)
          · gi_wp2
            go_roundw
            case rel => exact ⟨pre ++ [(i, i)], i + 1, la, rfl, by go_num, hj3, by rw [List.append_assoc]; exact HN2.out, by omega, by omega⟩
            case measure => simp [intOf]; omega
          · gi_wp2
            refine bodyPost_ret (results_none rfl _ _ _) rfl ?_
            exact ⟨⟨_, rfl⟩, .inr ⟨_, ⟨pre, (i, i), _, rfl, HN.out⟩, hx3⟩⟩
      · obtain rfl : i = e := by omega
        have t1 : decide ((la : Int) - 1 < (i : Int)) = false := by rw [decide_eq_false_iff_not]; omega
        have t2 : decide ((0 : Int) < (i : Int) - (i : Int)) = false := by rw [decide_eq_false_iff_not]; omega
        have HN2 := Lib.hid (show pre ++ hts (fdR R s.data.toList) s.size (i + 1) la = H by
          have := HEQ.out
          rw [HX.out, if_neg hle] at this
          have hnx : nxt i i = i + 1 := by unfold nxt; rw [if_neg (Nat.lt_irrefl i)]
          have hls : lst la i i = la := by unfold lst; rw [if_neg (Nat.lt_irrefl i)]
          rw [hnx, hls] at this
          exact this)
        clear heq hfp m3 hj hY
        gi_wp2_with (refine ⟨trivial, ?_⟩; gi_at_call 37; refine (callsIn_wide.2 HF.out).mono ?_; rintro en w2 ⟨rfl, hf2⟩)
        refine ⟨fun _ h => (by cases h), ?_⟩
        gi_wp2
        go_roundw
        case rel => exact ⟨pre, i + 1, la, rfl, by go_num, HJ2.out _ hf2, HN2.out, by omega, by omega⟩
        case measure => simp [intOf]; omega
end Go.Proofs.Ytacbpdnpepgngaa.wrd
