/- Contract of strconv's rightShift. Contract of strconv's (*decimal).Shift, up to 120 places. Contract of strconv's shouldRoundUp. -/
import Derived.Test.YtcjeeoadgoghfaaGreatDoorDecE
import Derived.Deep.DeepCutAuto
import Derived.Deep.CutBlock
import Derived.Deep.LoopGhost
import Derived.Laws.Bits64b
import Derived.Test.YtcjeeoadgoghfaaGreatDoorGDecB
import Derived.Test.YtcjeeoadgoghfaaGreatDoorGNear5

namespace Go.Proofs.YtcjeeoadgoghfaaGreatDoor.deca
set_option linter.unusedVariables false set_option linter.unusedSimpArgs false
open Go.ChangeShapes Go.WideShapes Go.ChangeAt Go.RowKit Go.Proofs.YtcjeeoadgoghfaaGreatDoor.base Go.Proofs.YtcjeeoadgoghfaaGreatDoor.Deci Go.Proofs.YtcjeeoadgoghfaaGreatDoor.Usc

/-- W is put down, n is at hand: j digits of l were read, and a zeros behind them. -/
structure Rs (k : Nat) (l W : List Nat) (n j a : Nat) : Prop where
  eq : val W * (10 * 2 ^ k) + n = val (l.take j) * 10 ^ a
  lt : n < 10 * 2 ^ k
  dig : Digs W
  led : Led W
  big : W = [] → 2 ^ k ≤ n
theorem rs_div {k n : Nat} (h : n < 10 * 2 ^ k) : n / 2 ^ k ≤ 9 ∧ 2 ^ k * (n / 2 ^ k) + n % 2 ^ k = n ∧ n % 2 ^ k < 2 ^ k := by
  have hp : 0 < 2 ^ k := Nat.pow_pos (by decide)
  refine ⟨?_, Nat.div_add_mod _ _, Nat.mod_lt _ hp⟩
  have := (Nat.div_lt_iff_lt_mul hp).2 h
  omega
theorem Rs.led_snoc {k : Nat} {l W : List Nat} {n j a : Nat} (h : Rs k l W n j a) : Led (W ++ [n / 2 ^ k]) := by
  intro d t e
  cases W with
  | nil =>
    cases e
    have := Nat.div_pos (h.big rfl) (Nat.pow_pos (by decide))
    omega
  | cons c u => cases e; exact h.led _ _ rfl
theorem Rs.read {k : Nat} {l W : List Nat} {n j d : Nat} (h : Rs k l W n j 0) (hj : j < l.length) (hd : l[j] = d) (h9 : d ≤ 9) : Rs k l (W ++ [n / 2 ^ k]) (n % 2 ^ k * 10 + d) (j + 1) 0 := by
  obtain ⟨h1, h2, h3⟩ := rs_div h.lt
  refine ⟨?_, by omega, h.dig.append (Digs.one h1), h.led_snoc, fun e => by simp at e⟩
  have e := h.eq
  rw [Nat.pow_zero, Nat.mul_one] at e ⊢
  rw [val_snoc, List.take_succ_eq_append_getElem hj, val_snoc, hd, ← e]
  generalize 2 ^ k = P at *
  generalize n / P = q at *
  have e1 : (10 * val W + q) * (10 * P) = 10 * (val W * (10 * P)) + 10 * (P * q) := by
    rw [Nat.add_mul]
    congr 1
    · ac_rfl
    · ac_rfl
  rw [e1]
  omega
theorem Rs.zero {k : Nat} {l W : List Nat} {n j a : Nat} (h : Rs k l W n j a) : Rs k l (W ++ [n / 2 ^ k]) (n % 2 ^ k * 10) j (a + 1) := by
  obtain ⟨h1, h2, h3⟩ := rs_div h.lt
  refine ⟨?_, by omega, h.dig.append (Digs.one h1), h.led_snoc, fun e => by simp at e⟩
  have e := h.eq
  rw [val_snoc, Nat.pow_succ, ← Nat.mul_assoc (val (l.take j)), ← e]
  generalize 2 ^ k = P at *
  generalize n / P = q at *
  have e1 : (10 * val W + q) * (10 * P) = 10 * (val W * (10 * P)) + 10 * (P * q) := by
    rw [Nat.add_mul]
    congr 1
    · ac_rfl
    · ac_rfl
  rw [e1]
  omega
theorem Rs.room {k : Nat} {l W : List Nat} {n a : Nat} (h : Rs k l W n l.length a) (hn : 0 < n) : a ≤ k := by
  rcases Nat.lt_or_ge k a with h1 | h1
  · have e := h.eq
    rw [List.take_length] at e
    have := shr_done e h.lt h1
    omega
  · exact h1
theorem trimD_zeros (x : List Nat) (m : Nat) : trimD (x ++ List.replicate m 0) = trimD x := by
  induction m with
  | zero => simp
  | succ m ih => rw [List.replicate_succ', ← List.append_assoc, trimD_snoc0, ih]
theorem Rs.done {k : Nat} {l W : List Nat} {a : Nat} (tr : Bool) (h : Rs k l W 0 l.length a) (ha : a ≤ k + 1) : trimD (W.take 800) = cut8 (digs (val l * 5 ^ k)) ∧ cutT tr W = cutT tr (digs (val l * 5 ^ k)) ∧ (digs (val l * 5 ^ k)).length + a = W.length + (k + 1) := by
  have hne : W ≠ [] := by
    intro e
    have := h.big e
    have hp : 0 < 2 ^ k := Nat.pow_pos (by decide)
    omega
  have e := h.eq
  rw [List.take_length, Nat.add_zero] at e
  have hs := shr_same h.dig h.led hne e ha
  rw [hs]
  refine ⟨?_, ?_, by rw [List.length_append, List.length_replicate]; omega⟩
  · unfold cut8
    rw [List.take_append, List.take_replicate, trimD_zeros]
  · unfold cutT
    rw [List.drop_append, List.any_append]
    have : ((List.replicate (k + 1 - a) 0).drop (800 - W.length)).any (fun d => d != 0) = false := by
      rw [List.drop_replicate]
      simp
    rw [this, Bool.or_false]

/-- The digits W are put down, those that have room; from j on stand the digits of l as they stood. -/
structure Rt (w : World) (R : Nat) (W l : List Nat) (j : Nat) (dp : Int) (neg tr : Bool) : Prop where
  box : ∃ C, Box w R 243 C ∧ C.size = 804 ∧ (∀ i (h : i < W.length), i < 800 → C[i]? = some (.int .u8 ((W[i] : Int) + 48))) ∧ (∀ i (h : i < l.length), j ≤ i → C[i]? = some (.int .u8 ((l[i] : Int) + 48))) ∧ C[800]? = some (.int .i64 l.length) ∧ C[801]? = some (.int .i64 dp) ∧ C[802]? = some (.bool neg) ∧ C[803]? = some (.bool (cutT tr W))
  len : l.length ≤ 800
theorem Rt.start {w : World} {R : Nat} {l : List Nat} {dp : Int} {neg tr : Bool} (h : Dm w R l dp neg tr) (j : Nat) (q : Int) : Rt (w.setCell ⟨R, 801, none⟩ (.int .i64 q)) R [] l j q neg tr := by
  have h' := h.setPt q
  obtain ⟨C, hb, hz, hd, h0, h1, h2, h3⟩ := h'.box
  exact ⟨⟨C, hb, hz, fun i h => absurd h (by simp), fun i h _ => hd i h, h0, h1, h2, by rw [h3]; simp [cutT]⟩, h.len⟩
theorem Rt.d {w : World} {R : Nat} {W l : List Nat} {j : Nat} {dp : Int} {neg tr : Bool} (h : Rt w R W l j dp neg tr) (i : Nat) (hi : i < l.length) (hr : j ≤ i) : w.cell? ⟨R, i, none⟩ = some (.int .u8 ((l[i] : Int) + 48)) := by
  obtain ⟨C, hb, _, _, hd, _⟩ := h.box; rw [hb.cell]; exact hd i hi hr
theorem Rt.nd {w : World} {R : Nat} {W l : List Nat} {j : Nat} {dp : Int} {neg tr : Bool} (h : Rt w R W l j dp neg tr) : w.cell? ⟨R, 800, none⟩ = some (.int .i64 l.length) := by
  obtain ⟨C, hb, _, _, _, h0, _⟩ := h.box; rw [hb.cell]; exact h0
theorem Rt.free {w : World} {R : Nat} {W l : List Nat} {j : Nat} {dp : Int} {neg tr : Bool} (h : Rt w R W l j dp neg tr) (o : Nat) : w.frozen? ⟨R, o, none⟩ = false := by
  obtain ⟨C, hb, _⟩ := h.box; exact hb.f o
theorem Rt.any {w : World} {R : Nat} {W l : List Nat} {j : Nat} {dp : Int} {neg tr : Bool} (h : Rt w R W l j dp neg tr) : ∃ v : Nat → Value, ∀ o, o < 804 → w.cell? ⟨R, o, none⟩ = some (v o) := by
  obtain ⟨C, hb, hz, _⟩ := h.box
  exact ⟨fun o => C[o]!, fun o ho => by rw [hb.cell, Array.getElem?_eq_getElem (by omega)]; simp [Array.getElem!_eq_getD, Array.getD, show o < C.size by omega]⟩
/-- One more digit is put down. -/
theorem Rt.put {w : World} {R : Nat} {W l : List Nat} {j : Nat} {dp : Int} {neg tr : Bool} (h : Rt w R W l j dp neg tr) (i : Nat) (hi : i = W.length) (hw : i < 800) (j' : Nat) (hj : j ≤ j') (hj2 : i < j' ∨ l.length ≤ j') (x : Nat) (n : Int) (hn : n = (x : Int) + 48) :
    Rt (w.setCell ⟨R, i, none⟩ (.int .u8 n)) R (W ++ [x]) l j' dp neg tr := by
  subst hn; subst hi
  obtain ⟨C, hb, hz, hx, hd, h0, h1, h2, h3⟩ := h.box
  refine ⟨⟨_, hb.set W.length _, by simpa using hz, fun i hi hlt => ?_, fun i hi hir => ?_, ?_, ?_, ?_, ?_⟩, h.len⟩
  · by_cases he : i = W.length
    · subst he
      rw [Array.getElem?_setIfInBounds_self_of_lt (by omega)]
      simp
    · have hi2 : i < W.length := by rw [List.length_append] at hi; simp at hi; omega
      rw [Array.getElem?_setIfInBounds_ne (by omega), hx i hi2 hlt, List.getElem_append_left hi2]
  · rw [Array.getElem?_setIfInBounds_ne (by omega)]; exact hd i hi (by omega)
  · rw [Array.getElem?_setIfInBounds_ne (by omega)]; exact h0
  · rw [Array.getElem?_setIfInBounds_ne (by omega)]; exact h1
  · rw [Array.getElem?_setIfInBounds_ne (by omega)]; exact h2
  · rw [Array.getElem?_setIfInBounds_ne (by omega), h3]
    unfold cutT
    have e1 : W.drop 800 = [] := List.drop_eq_nil_of_le (by omega)
    have e2 : (W ++ [x]).drop 800 = [] := List.drop_eq_nil_of_le (by rw [List.length_append]; simp; omega)
    rw [e1, e2]
/-- One that has no room. -/
theorem Rt.skip {w : World} {R : Nat} {W l : List Nat} {j : Nat} {dp : Int} {neg tr : Bool} (h : Rt w R W l j dp neg tr) (hp : 800 ≤ W.length) : Rt w R (W ++ [0]) l j dp neg tr := by
  obtain ⟨C, hb, hz, hx, hd, h0, h1, h2, h3⟩ := h.box
  refine ⟨⟨C, hb, hz, fun i hi hlt => ?_, hd, h0, h1, h2, ?_⟩, h.len⟩
  · rw [hx i (by omega) hlt, List.getElem_append_left (by omega)]
  · rw [h3]
    unfold cutT
    rw [List.drop_append_of_le_length hp, List.any_append]
    simp
theorem Rt.cut {w : World} {R : Nat} {W l : List Nat} {j : Nat} {dp : Int} {neg tr : Bool} (h : Rt w R W l j dp neg tr) (hp : 800 ≤ W.length) (x : Nat) (hx0 : x ≠ 0) : Rt (w.setCell ⟨R, 803, none⟩ (.bool true)) R (W ++ [x]) l j dp neg tr := by
  obtain ⟨C, hb, hz, hx, hd, h0, h1, h2, h3⟩ := h.box
  refine ⟨⟨_, hb.set 803 _, by simpa using hz, fun i hi hlt => ?_, fun i hi hir => ?_, ?_, ?_, ?_, ?_⟩, h.len⟩
  · rw [Array.getElem?_setIfInBounds_ne (by omega), hx i (by omega) hlt, List.getElem_append_left (by omega)]
  · rw [Array.getElem?_setIfInBounds_ne (by have := h.len; omega)]; exact hd i hi hir
  · rw [Array.getElem?_setIfInBounds_ne (by decide)]; exact h0
  · rw [Array.getElem?_setIfInBounds_ne (by decide)]; exact h1
  · rw [Array.getElem?_setIfInBounds_ne (by decide)]; exact h2
  · rw [Array.getElem?_setIfInBounds_self_of_lt (by omega)]
    unfold cutT
    rw [List.drop_append_of_le_length hp, List.any_append]
    have : (x != 0) = true := by simpa using hx0
    simp [this]
theorem Rt.done {w : World} {R : Nat} {W l : List Nat} {j : Nat} {dp : Int} {neg tr : Bool} (h : Rt w R W l j dp neg tr) (n : Int) (hn : n = ((min W.length 800 : Nat) : Int)) :
    Dm (w.setCell ⟨R, 800, none⟩ (.int .i64 n)) R (W.take 800) dp neg (cutT tr W) := by
  subst hn
  obtain ⟨C, hb, hz, hx, hd, h0, h1, h2, h3⟩ := h.box
  have e : (W.take 800).length = min W.length 800 := by rw [List.length_take, Nat.min_comm]
  refine ⟨⟨_, hb.set 800 _, by simpa using hz, fun i hi => ?_, ?_, ?_, ?_, ?_⟩, by omega⟩
  · rw [Array.getElem?_setIfInBounds_ne (by omega), hx i (by omega) (by omega), List.getElem_take]
  · rw [Array.getElem?_setIfInBounds_self_of_lt (by omega), e]
  · rw [Array.getElem?_setIfInBounds_ne (by decide)]; exact h1
  · rw [Array.getElem?_setIfInBounds_ne (by decide)]; exact h2
  · rw [Array.getElem?_setIfInBounds_ne (by decide)]; exact h3

theorem shr_cast (V k : Nat) : (V : Int) / 2 ^ k = ((V / 2 ^ k : Nat) : Int) := by rw [Int.natCast_ediv]; push_cast; rfl
theorem shr_true {V k : Nat} (h : V < 2 ^ k) : ((V : Int) / 2 ^ k == 0) = true := by
  rw [shr_cast, Nat.div_eq_of_lt h]; rfl
theorem shr_false {V k : Nat} (h : 2 ^ k ≤ V) : ((V : Int) / 2 ^ k == 0) = false := by
  have := Nat.div_pos h (Nat.pow_pos (by decide))
  rw [shr_cast, beq_eq_false_iff_ne]
  omega
theorem two60 {k : Nat} (h : k ≤ 60) : 2 ^ k ≤ 1152921504606846976 := by
  have h6 : 2 ^ k ≤ 2 ^ 60 := Nat.pow_le_pow_right (by decide) h
  have e : (2 : Nat) ^ 60 = 1152921504606846976 := by decide
  omega
/-- One more digit behind a number, as the code reads it. -/
theorem read_eq {V d : Nat} (hd : d ≤ 9) (hV : V < 1152921504606846976) : ∃ A B X : Nat, IntKind.u64.wrap ((V : Int) * 10) = (A : Int) ∧ IntKind.u64.wrap ((A : Int) + ((d : Int) + 48)) = (B : Int) ∧ IntKind.u64.wrap ((B : Int) - 48) = (X : Int) ∧ X = 10 * V + d := by
  refine ⟨V * 10, V * 10 + d + 48, 10 * V + d, ?_, ?_, ?_, rfl⟩
  · rw [Go.IntWalk.u64_in _ ⟨by omega, by omega⟩]; omega
  · rw [Go.IntWalk.u64_in _ ⟨by omega, by omega⟩]; omega
  · rw [Go.IntWalk.u64_in _ ⟨by omega, by omega⟩]; omega
theorem mask_eq {k : Nat} (h : k ≤ 60) : ∃ P m : Nat, IntKind.u64.wrap ((2 : Int) ^ k) = (P : Int) ∧ IntKind.u64.wrap ((P : Int) - 1) = (m : Int) ∧ P = 2 ^ k ∧ m = 2 ^ k - 1 := by
  have h1 := two60 h
  have h2 : 0 < 2 ^ k := Nat.pow_pos (by decide)
  have e : (2 : Int) ^ k = ((2 ^ k : Nat) : Int) := by push_cast; rfl
  refine ⟨2 ^ k, 2 ^ k - 1, ?_, ?_, rfl, rfl⟩
  · rw [e, Go.IntWalk.u64_in _ ⟨by omega, by omega⟩]
  · rw [Go.IntWalk.u64_in _ ⟨by omega, by omega⟩]; omega
theorem and_eq {k M m : Nat} (h : k ≤ 60) (hM : M < 10 * 2 ^ k) (hm : m = 2 ^ k - 1) : bits .and .u64 (M : Int) (m : Int) = ((M % 2 ^ k : Nat) : Int) := by
  have h1 := two60 h
  subst hm
  rw [bits_and_u64_nat M (2 ^ k - 1) (by omega) (by omega), Nat.and_two_pow_sub_one_eq_mod]
theorem ten_eq {V : Nat} (hV : V < 1152921504606846976) : ∃ A : Nat, IntKind.u64.wrap ((V : Int) * 10) = (A : Int) ∧ A = V * 10 :=
  ⟨V * 10, by rw [Go.IntWalk.u64_in _ ⟨by omega, by omega⟩]; omega, rfl⟩
theorem val_pos_take {l : List Nat} {j : Nat} (hl : Led l) (hj : 0 < j) (hne : l ≠ []) : 0 < val (l.take j) := by
  cases l with
  | nil => exact absurd rfl hne
  | cons d t =>
    obtain ⟨i, rfl⟩ : ∃ i, j = i + 1 := ⟨j - 1, by omega⟩
    have h1 := hl d t rfl
    have h2 := val_ge d (t.take i) (by omega)
    rw [List.take_succ_cons]
    exact Nat.lt_of_lt_of_le (Nat.pow_pos (by decide)) h2

set_option maxRecDepth 20000 in
set_option maxHeartbeats 1000000 in
theorem right_all (w : World) (R : Nat) (l : List Nat) (dp : Int) (neg tr : Bool) (k : Nat) (h : Dm w R l dp neg tr) (hR : R ≠ 0)
    (hd : Digs l) (hl : Led l) (hne : l ≠ []) (hk : 1 ≤ k) (hk2 : k ≤ 60) (hp : dp ≤ 100000) (hp2 : -100000 ≤ dp) :
    Calls Tryz.prog 267 #[.pointer (some ⟨R, 0, none⟩), .int .u64 k] w fun e w' => e = .returned (.tuple #[]) ∧ Dm w' R (cut8 (digs (val l * 5 ^ k))) (Deci.pt (cut8 (digs (val l * 5 ^ k))) (ptS (val l * 5 ^ k) l (dp - k))) neg (cutT tr (digs (val l * 5 ^ k))) ∧ Frm (At R) w w' := by
  have H := Lib.hid h
  have x0 := h.nd
  have xp := h.pt
  have hlen := h.len
  have HD := Lib.hid hd
  obtain ⟨n, hn⟩ : ∃ n, l.length = n := ⟨_, rfl⟩
  have HN := Lib.hid hn
  rw [hn] at x0 hlen
  have hn0 : 0 < n := by rw [← hn]; exact List.length_pos_iff.2 hne
  clear h hn hd
  go_enter Tryz.func267, Tryz.ntmps267
  go_upto_block 0 with (fail)
  go_cut [4, 5, 6] (fun rv wv nv wr => ∃ ρ N j a : Nat, rv = .int .i64 ρ ∧ wv = .int .i64 0 ∧ nv = .int .u64 N ∧ Rs k l [] N j a ∧ ρ = j + a ∧ 1 ≤ ρ ∧ j ≤ n ∧ (a = 0 ∨ j = n) ∧ a ≤ k ∧ wr = w)
  case first =>
    go_wp2
    go_loopw [4, 6] (fun rv nv wr => ∃ j : Nat, j ≤ n ∧ rv = .int .i64 j ∧ nv = .int .u64 (val (l.take j) : Nat) ∧ val (l.take j) < 10 * 2 ^ k ∧ wr = w) (fun rv _ _ => n - (intOf rv).toNat)
    case atStart => exact ⟨0, Nat.zero_le _, rfl, by simp [val_nil], by rw [List.take_zero, val_nil]; exact Nat.mul_pos (by decide) (Nat.pow_pos (by decide)), rfl⟩
    case round =>
      obtain ⟨j, hj, rfl, rfl, hv, hw⟩ := hrel
      have HW := Lib.hid hw
      subst hw
      have HV := Lib.hid hv
      by_cases hs : val (l.take j) < 2 ^ k
      · have f1 := shr_true hs
        by_cases hjn : j < n
        · have hjl : j < l.length := by rw [HN.out]; exact hjn
          obtain ⟨d, hd⟩ : ∃ d, l[j] = d := ⟨_, rfl⟩
          have hd9 : d ≤ 9 := by rw [← hd]; exact HD.out _ (List.getElem_mem _)
          have x1 := H.out.d j hjl
          have hE : val (l.take (j + 1)) = 10 * val (l.take j) + d := by rw [List.take_succ_eq_append_getElem hjl, val_snoc, hd]
          obtain ⟨V, hVV⟩ : ∃ V, val (l.take j) = V := ⟨_, rfl⟩
          rw [hd] at x1
          rw [hVV] at hs hE f1 ⊢
          obtain ⟨A, B, X, e1, e2, e3, hX⟩ := read_eq hd9 (Nat.lt_of_lt_of_le hs (two60 hk2))
          have HE := Lib.hid (show val (l.take (j + 1)) = X by rw [hE, hX])
          have HL := Lib.hid (show X < 10 * 2 ^ k by omega)
          clear hd hE hVV hs hX hv
          go_wp2
          go_roundw
          case rel => exact ⟨j + 1, by omega, by go_num, by rw [HE.out], by rw [HE.out]; exact HL.out, by first | rfl | trivial⟩
          case measure => simp [intOf]; omega
        · obtain rfl : j = n := by omega
          have hV0 := val_pos_take hl hn0 hne
          obtain ⟨V, hVV⟩ : ∃ V, val (l.take j) = V := ⟨_, rfl⟩
          rw [hVV] at hs f1 hV0 hv ⊢
          have HVV := Lib.hid hVV
          have HS := Lib.hid hs
          have f2 : ((V : Int) == 0) = false := by rw [beq_eq_false_iff_ne]; omega
          clear hVV hs hv
          go_wp2
          go_loopw [4, 6] (fun rv nv wr2 => ∃ z : Nat, z ≤ k ∧ rv = .int .i64 ((j : Int) + z) ∧ nv = .int .u64 ((V * 10 ^ z : Nat) : Int) ∧ V * 10 ^ z < 10 * 2 ^ k ∧ wr2 = wr) (fun rv _ _ => (j + k + 1) - (intOf rv).toNat)
          case atStart => exact ⟨0, Nat.zero_le _, by simp, by simp, by rw [Nat.pow_zero, Nat.mul_one]; have := HS.out; omega, rfl⟩
          case round =>
            obtain ⟨z, hz, rfl, rfl, hzv, hw⟩ := hrel
            subst hw
            by_cases hzs : V * 10 ^ z < 2 ^ k
            · have f3 := shr_true hzs
              have hzk := shr_first hV0 hzs
              have hE : V * 10 ^ (z + 1) = V * 10 ^ z * 10 := by rw [Nat.pow_succ, Nat.mul_assoc]
              obtain ⟨N, hN⟩ : ∃ N, V * 10 ^ z = N := ⟨_, rfl⟩
              rw [hN] at hzs hE f3 ⊢
              obtain ⟨A, e1, hA⟩ := ten_eq (Nat.lt_of_lt_of_le hzs (two60 hk2))
              have HE := Lib.hid (show V * 10 ^ (z + 1) = A by rw [hE, hA])
              have HL := Lib.hid (show A < 10 * 2 ^ k by omega)
              clear hE hN hzs hA hzv
              go_wp2
              go_roundw
              case rel => exact ⟨z + 1, by omega, by go_num, by rw [HE.out], by rw [HE.out]; exact HL.out, by first | rfl | trivial⟩
              case measure => simp [intOf]; omega
            · have f3 := shr_false (Nat.le_of_not_lt hzs)
              have HZ := Lib.hid (And.intro hzv hzs)
              obtain ⟨N, hN⟩ : ∃ N, V * 10 ^ z = N := ⟨_, rfl⟩
              have HNN := Lib.hid hN
              rw [hN] at f3 ⊢
              clear hN hzs hzv
              go_wp2
              go_meet
              exact ⟨j + z, N, j, z, by go_num, rfl, rfl, ⟨by rw [HVV.out, HNN.out, val_nil]; simp, by rw [← HNN.out]; exact HZ.out.1, fun d h => by simp at h, fun d t e => by simp at e, fun _ => by rw [← HNN.out]; exact Nat.le_of_not_lt HZ.out.2⟩, rfl, by omega, Nat.le_refl _, Or.inr rfl, hz, rfl⟩
      · have f1 := shr_false (Nat.le_of_not_lt hs)
        have hj0 : 1 ≤ j := by
          rcases Nat.eq_zero_or_pos j with h0 | h0
          · exfalso; apply hs; subst h0; rw [List.take_zero, val_nil]; exact Nat.pow_pos (by decide)
          · exact h0
        have HS := Lib.hid hs
        obtain ⟨V, hVV⟩ : ∃ V, val (l.take j) = V := ⟨_, rfl⟩
        have HVV := Lib.hid hVV
        rw [hVV] at f1 ⊢
        clear hVV hs hv
        go_wp2
        go_meet
        exact ⟨j, V, j, 0, rfl, rfl, rfl, ⟨by rw [HVV.out, val_nil]; simp, by rw [← HVV.out]; exact HV.out, fun d h => by simp at h, fun d t e => by simp at e, fun _ => by rw [← HVV.out]; exact Nat.le_of_not_lt HS.out⟩, rfl, hj0, hj, Or.inl rfl, Nat.zero_le _, rfl⟩
  case rest =>
    obtain ⟨ρ, N, j, a, rfl, rfl, rfl, hrs, hρ, hρ1, hjn, haj, hak, hw⟩ := hcut
    have HW := Lib.hid hw
    subst hw
    have xf := H.out.free 801
    obtain ⟨q, hq⟩ : ∃ q : Int, dp - ((ρ : Int) - 1) = q := ⟨_, rfl⟩
    have hρ2 : ρ ≤ 860 := by omega
    have HT := Lib.hid (Rt.start H.out j q)
    have HRS := Lib.hid hrs
    have HRO := Lib.hid hρ
    obtain ⟨P, m, em1, em2, hP, hm⟩ : ∃ P m : Nat, IntKind.u64.wrap ((2 : Int) ^ k) = (P : Int) ∧ IntKind.u64.wrap ((P : Int) - 1) = (m : Int) ∧ P = 2 ^ k ∧ m = 2 ^ k - 1 := mask_eq hk2
    have HP := Lib.hid hP
    have HMK := Lib.hid hm
    clear hrs hρ hP hm
    go_wp2
    go_loopw [4, 5, 6] (fun rv ov nv wr => ∃ (i M : Nat) (W : List Nat), rv = .int .i64 ((i : Int) + a) ∧ ov = .int .i64 W.length ∧ nv = .int .u64 M ∧ Rs k l W M i a ∧ W.length + j = i ∧ i ≤ n ∧ (a = 0 ∨ i = n) ∧ Rt wr R W l i q neg tr ∧ Frm (At R) wc wr) (fun rv _ _ _ => n + a - (intOf rv).toNat)
    case atStart => exact ⟨j, N, [], by rw [HRO.out]; simp, rfl, rfl, HRS.out, by simp, hjn, haj, by rw [← hq] at HT ⊢; exact HT.out, (Frm.refl _ _).setCell _ _ (fun _ => rfl)⟩
    case round =>
      obtain ⟨i, M, W, rfl, rfl, rfl, hrs, hWi, hin, hai, ht, hf⟩ := hrel
      have HT := Lib.hid ht
      have HF := Lib.hid hf
      have HRS := Lib.hid hrs
      have HWI := Lib.hid hWi
      have y0 := ht.nd
      rw [HN.out] at y0
      have hWl : (W.length : Int) ≤ i := by omega
      by_cases hi : i + a < n
      · obtain rfl : a = 0 := by omega
        have hil : i < l.length := by rw [HN.out]; omega
        have x1 := ht.d i hil (Nat.le_refl _)
        obtain ⟨d, hd⟩ : ∃ d, l[i] = d := ⟨_, rfl⟩
        have hd9 : d ≤ 9 := by rw [← hd]; exact HD.out _ (List.getElem_mem _)
        rw [hd] at x1
        obtain ⟨x, hx⟩ : ∃ x, M / 2 ^ k = x := ⟨_, rfl⟩
        have es : (M : Int) / 2 ^ k = (x : Int) := by rw [shr_cast, hx]
        have hx9 : x ≤ 9 := by rw [← hx]; exact (rs_div hrs.lt).1
        obtain ⟨y, hy⟩ : ∃ y, M % 2 ^ k = y := ⟨_, rfl⟩
        have ea : bits .and .u64 (M : Int) (m : Int) = (y : Int) := by rw [and_eq hk2 hrs.lt HMK.out, hy]
        have hy2 : y < 1152921504606846976 := by have := (rs_div hrs.lt).2.2; have := two60 hk2; omega
        obtain ⟨A, B, X, e1, e2, e3, hX⟩ := read_eq hd9 hy2
        have HNX := Lib.hid (show Rs k l (W ++ [x]) X (i + 1) 0 by have := hrs.read hil hd hd9; rw [hx, hy] at this; rw [hX, Nat.mul_comm 10 y]; exact this)
        obtain ⟨v0, z0⟩ := ht.any
        have z1 := z0 W.length (by omega)
        have f0 := ht.free W.length
        clear ht hf hrs hWi z0 hx hd hy hy2 hX
        go_wp2
        go_roundw
        case rel => exact ⟨i + 1, X, W ++ [x], by simp, by simp, rfl, HNX.out, by have := HWI.out; rw [List.length_append, List.length_singleton]; omega, by omega, Or.inl trivial, HT.out.put W.length rfl (by omega) (i + 1) (by omega) (Or.inl (by omega)) x _ rfl, HF.out.setCell _ _ (fun _ => rfl)⟩
        case measure => simp [intOf]; omega
      · obtain rfl : i = n := by omega
        clear ht hf hrs hWi
        go_wp2
        go_loopg [5, 6] (k + 1 - a) (fun g ov nv wr => ∃ (M b : Nat) (W : List Nat), g + b = k + 1 ∧ ov = .int .i64 ((min W.length 800 : Nat) : Int) ∧ nv = .int .u64 M ∧ Rs k l W M i b ∧ W.length + j + a = i + b ∧ Rt wr R W l i q neg tr ∧ Frm (At R) wc wr)
        case atStart => exact ⟨M, a, W, by omega, by rw [Nat.min_eq_left (by omega)], rfl, HRS.out, by have := HWI.out; omega, HT.out, HF.out⟩
        case round =>
          obtain ⟨M, b, W, hg, rfl, rfl, hrs, hWi, ht, hf⟩ := hrel
          clear HT HF HRS HWI y0
          have HT := Lib.hid ht
          have HF := Lib.hid hf
          have HRS := Lib.hid hrs
          have HWI := Lib.hid hWi
          have HG := Lib.hid hg
          have f0 := ht.free
          obtain ⟨v0, z0⟩ := ht.any
          have HZ := Lib.hid z0
          by_cases hM : 0 < M
          · have hbk : b ≤ k := by have h := hrs; rw [← HN.out] at h; exact h.room hM
            obtain ⟨x, hx⟩ : ∃ x, M / 2 ^ k = x := ⟨_, rfl⟩
            have es : (M : Int) / 2 ^ k = (x : Int) := by rw [shr_cast, hx]
            have hx9 : x ≤ 9 := by rw [← hx]; exact (rs_div hrs.lt).1
            obtain ⟨y, hy⟩ : ∃ y, M % 2 ^ k = y := ⟨_, rfl⟩
            have ea : bits .and .u64 (M : Int) (m : Int) = (y : Int) := by rw [and_eq hk2 hrs.lt HMK.out, hy]
            have hy2 : y < 1152921504606846976 := by have := (rs_div hrs.lt).2.2; have := two60 hk2; omega
            obtain ⟨A, e1, hA⟩ := ten_eq hy2
            have HNX := Lib.hid (show Rs k l (W ++ [x]) A i (b + 1) by have := hrs.zero; rw [hx, hy] at this; rw [hA]; exact this)
            have fM : (0 : Int) < (M : Int) := by omega
            by_cases hw : W.length < 800
            · have hmin : min W.length 800 = W.length := Nat.min_eq_left (by omega)
              have z1 := HZ.out W.length (by omega)
              have HMI := Lib.hid (show min (W ++ [x]).length 800 = W.length + 1 by rw [List.length_append, List.length_singleton]; omega)
              rw [hmin]
              clear ht hf hrs hWi z0 hx hy hy2 hA hg hmin
              go_wp2
              go_roundg (k + 1 - (b + 1))
              case rel => exact ⟨A, b + 1, W ++ [x], by omega, by rw [HMI.out]; go_num, rfl, HNX.out, by have := HWI.out; rw [List.length_append, List.length_singleton]; omega, HT.out.put W.length rfl hw i (Nat.le_refl _) (Or.inr (by rw [HN.out]; exact Nat.le_refl _)) x _ rfl, HF.out.setCell _ _ (fun _ => rfl)⟩
              case measure => have := HG.out; omega
            · have hmin : min W.length 800 = 800 := Nat.min_eq_right (by omega)
              have HMI := Lib.hid (show min (W ++ [x]).length 800 = 800 by rw [List.length_append, List.length_singleton]; omega)
              have hw2 : 800 ≤ W.length := by omega
              rw [hmin]
              clear ht hf hrs hWi hy hy2 hA hg hmin z0
              by_cases hx0 : x = 0
              · subst hx0
                clear hx
                go_wp2
                go_roundg (k + 1 - (b + 1))
                case rel => exact ⟨A, b + 1, W ++ [0], by omega, by rw [HMI.out], rfl, HNX.out, by have := HWI.out; rw [List.length_append, List.length_singleton]; omega, HT.out.skip hw2, HF.out⟩
                case measure => have := HG.out; omega
              · have z1 := HZ.out 803 (by omega)
                have fx : (0 : Int) < (x : Int) := by omega
                clear hx
                go_wp2
                go_roundg (k + 1 - (b + 1))
                case rel => exact ⟨A, b + 1, W ++ [x], by omega, by rw [HMI.out], rfl, HNX.out, by have := HWI.out; rw [List.length_append, List.length_singleton]; omega, HT.out.cut hw2 x hx0, HF.out.setCell _ _ (fun _ => rfl)⟩
                case measure => have := HG.out; omega
          · obtain rfl : M = 0 := by omega
            have z1 := HZ.out 800 (by omega)
            obtain ⟨c1, c2, c3⟩ := Rs.done (k := k) (l := l) (W := W) (a := b) tr (by rw [HN.out]; exact hrs) (by omega)
            have HC1 := Lib.hid c1
            have HC2 := Lib.hid c2
            have HPT := Lib.hid (show q = ptS (val l * 5 ^ k) l (dp - k) by unfold ptS; rw [HN.out, ← hq, HRO.out]; omega)
            obtain ⟨mn, hmn⟩ : ∃ mn, min W.length 800 = mn := ⟨_, rfl⟩
            have HMN := Lib.hid hmn
            rw [hmn]
            clear ht hf hrs hWi z0 c1 c2 c3 hg hmn
            go_wp2_with (go_at_call 265; go_must (refine (trim_all _ R (W.take 800) q neg (cutT tr W) (HT.out.done _ (by rw [HMN.out])) hR).mono ?_; rintro e w' ⟨rfl, hd2, hf2⟩))
            refine bodyPost_end (v := .tuple #[]) (by simp [results, Tryz.results267, go_sem]) rfl ⟨rfl, ?_, ?_⟩
            · rw [HC1.out, HC2.out, HPT.out] at hd2; exact hd2
            · refine Frm.trans ?_ hf2
              exact HF.out.setCell ⟨R, 800, none⟩ _ (fun _ => rfl)
end Go.Proofs.YtcjeeoadgoghfaaGreatDoor.deca

namespace Go.Proofs.YtcjeeoadgoghfaaGreatDoor.deca
set_option linter.unusedVariables false set_option linter.unusedSimpArgs false
open Go.ChangeShapes Go.WideShapes Go.ChangeAt Go.RowKit Go.Proofs.YtcjeeoadgoghfaaGreatDoor.base Go.Proofs.YtcjeeoadgoghfaaGreatDoor.Deci Go.Proofs.YtcjeeoadgoghfaaGreatDoor.Usc

/-- A decimal behind a shift: its digits, its point, its flag. -/
structure Dec where
  l : List Nat
  dp : Int
  tr : Bool
def Dec.val (d : Dec) : Nat := Deci.val d.l
def shl (d : Dec) (k : Nat) : Dec := ⟨cut8 (digs (d.val * 2 ^ k)), ptS (d.val * 2 ^ k) d.l d.dp, cutT d.tr (digs (d.val * 2 ^ k))⟩
def shr (d : Dec) (k : Nat) : Dec := ⟨cut8 (digs (d.val * 5 ^ k)), ptS (d.val * 5 ^ k) d.l (d.dp - k), cutT d.tr (digs (d.val * 5 ^ k))⟩
theorem shl_good {d : Dec} (h : Usc.Fair d.l) (k : Nat) : Usc.Good (shl d k).l := good_digs (Nat.mul_pos h.pos (Nat.pow_pos (by decide)))
theorem shr_good {d : Dec} (h : Usc.Fair d.l) (k : Nat) : Usc.Good (shr d k).l := good_digs (Nat.mul_pos h.pos (Nat.pow_pos (by decide)))
theorem good_pt {l : List Nat} (h : Usc.Good l) (p : Int) : Deci.pt l p = p := if_neg h.2.2.2.1

/-- How the point moves. -/
theorem len_ge {l : List Nat} {v : Nat} (h : Usc.Fair l) (hv : Deci.val l ≤ v) : l.length ≤ (digs v).length := by
  obtain ⟨hd, hl, hne, _⟩ := h
  have h1 : 10 ^ (l.length - 1) ≤ Deci.val l := by
    cases l with
    | nil => exact absurd rfl hne
    | cons d t =>
      have := val_ge d t (by have := hl d t rfl; omega)
      simpa using this
  have h2 : v < 10 ^ (digs v).length := by
    obtain ⟨a, b, c⟩ := digs_all v
    have := val_lt (digs v) a
    rwa [c] at this
  have h3 : 10 ^ (l.length - 1) < 10 ^ (digs v).length := Nat.lt_of_le_of_lt (Nat.le_trans h1 hv) h2
  have h4 := (Nat.pow_lt_pow_iff_right (by decide : 1 < 10)).1 h3
  have h5 := List.length_pos_iff.2 hne
  omega
theorem shr_pt {d : Dec} (h : Usc.Fair d.l) (k : Nat) : d.dp - k ≤ (shr d k).dp ∧ (shr d k).dp ≤ d.dp := by
  show d.dp - k ≤ ptS (d.val * 5 ^ k) d.l (d.dp - k) ∧ ptS (d.val * 5 ^ k) d.l (d.dp - k) ≤ d.dp
  have h1 : Deci.val d.l ≤ d.val * 5 ^ k := Nat.le_mul_of_pos_right _ (Nat.pow_pos (by decide))
  have h2 := len_ge h h1
  have h3 : d.val * 5 ^ k < 10 ^ (d.l.length + k) := by
    rw [Nat.pow_add]
    exact Nat.lt_of_lt_of_le (Nat.mul_lt_mul_of_pos_right (val_lt d.l h.1) (Nat.pow_pos (by decide))) (Nat.mul_le_mul_left _ (Nat.pow_le_pow_left (by decide) k))
  have h4 := digs_len _ _ h3
  unfold ptS
  omega
theorem shl_pt {d : Dec} (h : Usc.Fair d.l) (k m : Nat) (hm : 2 ^ k ≤ 10 ^ m) : d.dp ≤ (shl d k).dp ∧ (shl d k).dp ≤ d.dp + m := by
  show d.dp ≤ ptS (d.val * 2 ^ k) d.l d.dp ∧ ptS (d.val * 2 ^ k) d.l d.dp ≤ d.dp + m
  have h1 : Deci.val d.l ≤ d.val * 2 ^ k := Nat.le_mul_of_pos_right _ (Nat.pow_pos (by decide))
  have h2 := len_ge h h1
  have h3 : d.val * 2 ^ k < 10 ^ (d.l.length + m) := by
    rw [Nat.pow_add]
    exact Nat.lt_of_lt_of_le (Nat.mul_lt_mul_of_pos_right (val_lt d.l h.1) (Nat.pow_pos (by decide))) (Nat.mul_le_mul_left _ hm)
  have h4 := digs_len _ _ h3
  unfold ptS
  omega

/-- The decimal in block R. -/
def DmD (w : World) (R : Nat) (d : Dec) (neg : Bool) : Prop := Dm w R d.l d.dp neg d.tr

theorem leftD (w : World) (R B : Nat) (d : Dec) (neg : Bool) (k : Nat) (h : DmD w R d neg) (hT : Cheat w B) (hR : R ≠ 0) (hB : R ≠ B) (hG : R ≠ 17)
    (hg : Usc.Fair d.l) (hk : 1 ≤ k) (hk2 : k ≤ 60) (hp : d.dp ≤ 100000) (hp2 : -100000 ≤ d.dp) :
    Calls Tryz.prog 266 #[.pointer (some ⟨R, 0, none⟩), .int .u64 k] w fun e w' => e = .returned (.tuple #[]) ∧ DmD w' R (shl d k) neg ∧ Frm (At R) w w' := by
  refine (left_all w R B d.l d.dp neg d.tr k h hT hR hB hG hg.1 hg.2.1 hg.2.2.1 hk hk2 hp hp2).mono ?_
  rintro e w' ⟨rfl, hd, hf⟩
  refine ⟨rfl, ?_, hf⟩
  rw [good_pt (show Usc.Good (cut8 (digs (Deci.val d.l * 2 ^ k))) from shl_good (d := d) hg k)] at hd
  exact hd
theorem rightD (w : World) (R : Nat) (d : Dec) (neg : Bool) (k : Nat) (h : DmD w R d neg) (hR : R ≠ 0)
    (hg : Usc.Fair d.l) (hk : 1 ≤ k) (hk2 : k ≤ 60) (hp : d.dp ≤ 100000) (hp2 : -100000 ≤ d.dp) :
    Calls Tryz.prog 267 #[.pointer (some ⟨R, 0, none⟩), .int .u64 k] w fun e w' => e = .returned (.tuple #[]) ∧ DmD w' R (shr d k) neg ∧ Frm (At R) w w' := by
  refine (right_all w R d.l d.dp neg d.tr k h hR hg.1 hg.2.1 hg.2.2.1 hk hk2 hp hp2).mono ?_
  rintro e w' ⟨rfl, hd, hf⟩
  refine ⟨rfl, ?_, hf⟩
  rw [good_pt (show Usc.Good (cut8 (digs (Deci.val d.l * 5 ^ k))) from shr_good (d := d) hg k)] at hd
  exact hd

set_option maxHeartbeats 1000000 in
theorem shiftL (w : World) (R B : Nat) (d : Dec) (neg : Bool) (k : Nat) (h : DmD w R d neg) (hT : Cheat w B) (hR : R ≠ 0) (hB : R ≠ B) (hG : R ≠ 17)
    (hg : Usc.Fair d.l) (hk : 1 ≤ k) (hk2 : k ≤ 60) (hp : d.dp ≤ 100000) (hp2 : -100000 ≤ d.dp) :
    Calls Tryz.prog 223 #[.pointer (some ⟨R, 0, none⟩), .int .i64 k] w fun e w' => e = .returned (.tuple #[]) ∧ DmD w' R (shl d k) neg ∧ Frm (At R) w w' := by
  have x0 := Dm.nd h
  have hn : 0 < d.l.length := List.length_pos_iff.2 hg.2.2.1
  have f0 : ((d.l.length : Int) == 0) = false := by rw [beq_eq_false_iff_ne]; omega
  have HC := Lib.hid (leftD w R B d neg k h hT hR hB hG hg hk hk2 hp hp2)
  have hlen := h.len
  clear h hT hg hn
  go_enter Tryz.func223, Tryz.ntmps223
  go_wp2
  go_loopw [1] (fun kv wr => kv = .int .i64 k ∧ w = wr) (fun _ _ => 0)
  case atStart => exact ⟨rfl, rfl⟩
  case round =>
    obtain ⟨rfl, hw⟩ := hrel
    subst hw
    go_wp2_with (go_at_call 266; go_must (refine HC.out.mono ?_; rintro e w' ⟨rfl, hd2, hf2⟩))
    refine bodyPost_end (v := .tuple #[]) (by simp [results, Tryz.results223, go_sem]) rfl ⟨rfl, hd2, hf2⟩

set_option maxHeartbeats 1000000 in
theorem shiftR (w : World) (R : Nat) (d : Dec) (neg : Bool) (k : Nat) (h : DmD w R d neg) (hR : R ≠ 0)
    (hg : Usc.Fair d.l) (hk : 1 ≤ k) (hk2 : k ≤ 60) (hp : d.dp ≤ 100000) (hp2 : -100000 ≤ d.dp) :
    Calls Tryz.prog 223 #[.pointer (some ⟨R, 0, none⟩), .int .i64 (-(k : Int))] w fun e w' => e = .returned (.tuple #[]) ∧ DmD w' R (shr d k) neg ∧ Frm (At R) w w' := by
  have x0 := Dm.nd h
  have hn : 0 < d.l.length := List.length_pos_iff.2 hg.2.2.1
  have f0 : ((d.l.length : Int) == 0) = false := by rw [beq_eq_false_iff_ne]; omega
  have HC := Lib.hid (rightD w R d neg k h hR hg hk hk2 hp hp2)
  have hlen := h.len
  have f1 : ¬ (-60 : Int) > -(k : Int) := by omega
  clear h hg hn
  go_enter Tryz.func223, Tryz.ntmps223
  go_wp2
  go_loopw [1] (fun kv wr => kv = .int .i64 (-(k : Int)) ∧ w = wr) (fun _ _ => 0)
  case atStart => exact ⟨rfl, rfl⟩
  case round =>
    obtain ⟨rfl, hw⟩ := hrel
    subst hw
    go_wp2_with (go_at_call 267; go_must (refine HC.out.mono ?_; rintro e w' ⟨rfl, hd2, hf2⟩))
    refine bodyPost_end (v := .tuple #[]) (by simp [results, Tryz.results223, go_sem]) rfl ⟨rfl, hd2, hf2⟩

set_option maxHeartbeats 1000000 in
theorem shiftR2' (w : World) (R : Nat) (d : Dec) (neg : Bool) (k : Nat) (h : DmD w R d neg) (hR : R ≠ 0)
    (hg : Usc.Fair d.l) (hk : 1 ≤ k) (hk2 : k ≤ 60) (hp : d.dp ≤ 100000) (hp2 : -90000 ≤ d.dp) (n : Int) (hn' : n = -((60 + k : Nat) : Int)) :
    Calls Tryz.prog 223 #[.pointer (some ⟨R, 0, none⟩), .int .i64 n] w fun e w' => e = .returned (.tuple #[]) ∧ DmD w' R (shr (shr d 60) k) neg ∧ Frm (At R) w w' := by
  have x0 := Dm.nd h
  have hn : 0 < d.l.length := List.length_pos_iff.2 hg.2.2.1
  have f0 : ((d.l.length : Int) == 0) = false := by rw [beq_eq_false_iff_ne]; omega
  have HC := Lib.hid (rightD w R d neg 60 h hR hg (by decide) (by decide) hp (by omega))
  obtain ⟨p1, p2⟩ := shr_pt hg 60
  have HC2 := Lib.hid (fun w' hd => rightD w' R (shr d 60) neg k hd hR (shr_good hg 60).fair hk hk2 (by omega) (by omega))
  have hlen := h.len
  have HN := Lib.hid hn'
  have g1 : n < -60 := by omega
  have g2 : -1000 ≤ n := by omega
  have g3 : decide (n < 0) = true := by simp; omega
  have g4 : decide (0 < n) = false := by simp; omega
  clear h hg hn p1 p2 hn'
  go_enter Tryz.func223, Tryz.ntmps223
  go_wp2
  go_loopw [1] (fun kv wr => (kv = .int .i64 n ∧ w = wr) ∨ (kv = .int .i64 (-(k : Int)) ∧ DmD wr R (shr d 60) neg ∧ Frm (At R) w wr)) (fun kv _ => (-(intOf kv)).toNat)
  case atStart => exact Or.inl ⟨rfl, rfl⟩
  case round =>
    rcases hrel with ⟨rfl, hw⟩ | ⟨rfl, hd1, hf1⟩
    · subst hw
      go_wp2_with (go_at_call 267; go_must (refine HC.out.mono ?_; rintro e w' ⟨rfl, hd2, hf2⟩; have HD2 := Lib.hid hd2; have HF2 := Lib.hid hf2; clear hd2 hf2))
      go_roundw
      case rel =>
        right
        refine ⟨?_, HD2.out, HF2.out⟩
        have := HN.out
        rw [show n + 60 = -(k : Int) by omega]
      case measure => have := HN.out; simp [intOf]; omega
    · have HD1 := Lib.hid hd1
      have HF1 := Lib.hid hf1
      have f1 : ¬ (-60 : Int) > -(k : Int) := by omega
      clear hd1 hf1
      go_wp2_with (go_at_call 267; go_must (refine (HC2.out _ HD1.out).mono ?_; rintro e w' ⟨rfl, hd2, hf2⟩))
      refine bodyPost_end (v := .tuple #[]) (by simp [results, Tryz.results223, go_sem]) rfl ⟨rfl, hd2, HF1.out.trans hf2⟩
end Go.Proofs.YtcjeeoadgoghfaaGreatDoor.deca

namespace Go.Proofs.YtcjeeoadgoghfaaGreatDoor.deca
set_option linter.unusedVariables false set_option linter.unusedSimpArgs false
open Go.ChangeShapes Go.WideShapes Go.ChangeAt Go.RowKit Go.Proofs.YtcjeeoadgoghfaaGreatDoor.base Go.Proofs.YtcjeeoadgoghfaaGreatDoor.Deci Go.Proofs.YtcjeeoadgoghfaaGreatDoor.Usc

theorem upR_at {l : List Nat} {k : Nat} (tr : Bool) (h : k < l.length) : upR l k tr = if l[k] = 5 ∧ k + 1 = l.length then (tr || (decide (0 < k) && decide ((l.getD (k - 1) 0) % 2 ≠ 0))) else decide (5 ≤ l[k]) := by
  rw [upR_cons tr (List.drop_eq_getElem_cons h)]
  have e : (l[k] = 5 ∧ l.drop (k + 1) = []) = (l[k] = 5 ∧ k + 1 = l.length) := by
    rw [List.drop_eq_nil_iff]
    apply propext
    constructor
    · rintro ⟨a, b⟩; exact ⟨a, by omega⟩
    · rintro ⟨a, b⟩; exact ⟨a, by omega⟩
  simp only [e]
theorem upR_out {l : List Nat} {k : Nat} (tr : Bool) (h : l.length ≤ k) : upR l k tr = false := by
  unfold upR
  rw [List.drop_eq_nil_of_le h]

theorem mod2_bool (y : Nat) : ((y : Int) % 2 != 0) = decide (y % 2 ≠ 0) := by
  rcases (show y % 2 = 0 ∨ y % 2 = 1 by omega) with h | h
  · rw [show (y : Int) % 2 = 0 by omega, h]; rfl
  · rw [show (y : Int) % 2 = 1 by omega, h]; rfl

set_option maxHeartbeats 1000000 in
theorem up_all (w : World) (R : Nat) (l : List Nat) (dp : Int) (neg tr : Bool) (p : Int) (h : Dm w R l dp neg tr) (hd : Digs l) (hR : R ≠ 0) (hp : p ≤ 100000) (hp2 : -100000 ≤ p) :
    Calls Tryz.prog 268 #[.pointer (some ⟨R, 0, none⟩), .int .i64 p] w fun e w' => e = .returned (.bool (if p < 0 then false else upR l p.toNat tr)) ∧ Frm No w w' := by
  have x0 := h.nd
  have xt := h.tr
  have hlen := h.len
  by_cases hneg : p < 0
  · rw [if_pos hneg]
    clear h
    go_enter Tryz.func268, Tryz.ntmps268
    go_wp2
    go_ret
    exact ⟨rfl, Frm.refl No w⟩
  · rw [if_neg hneg]
    obtain ⟨k, rfl⟩ : ∃ k : Nat, p = k := ⟨p.toNat, by omega⟩
    rw [Int.toNat_natCast]
    obtain ⟨n, hn⟩ : ∃ n, l.length = n := ⟨_, rfl⟩
    rw [hn] at x0 hlen
    by_cases hk : k < n
    · have hkl : k < l.length := by omega
      obtain ⟨x, hx⟩ : ∃ x, l[k] = x := ⟨_, rfl⟩
      have x1 := h.d k hkl
      have HU := Lib.hid (upR_at tr hkl)
      rw [hx] at x1
      rw [hx, hn] at HU
      have hx9 : x ≤ 9 := by rw [← hx]; exact hd _ (List.getElem_mem _)
      by_cases h5 : x = 5
      · subst h5
        by_cases hk1 : k + 1 = n
        · cases tr with
          | true =>
            have HX := Lib.hid (show upR l k true = true by rw [HU.out, if_pos ⟨rfl, hk1⟩]; rfl)
            clear h hx hn
            go_enter Tryz.func268, Tryz.ntmps268
            go_wp2
            go_ret
            exact ⟨ret_bool HX.out.symm, Frm.refl No w⟩
          | false =>
            by_cases hk0 : 0 < k
            · have hk2 : k - 1 < l.length := by omega
              obtain ⟨y, hy⟩ : ∃ y, l[k - 1] = y := ⟨_, rfl⟩
              have x2 := h.d (k - 1) hk2
              rw [hy] at x2
              have hy9 : y ≤ 9 := by rw [← hy]; exact hd _ (List.getElem_mem _)
              have hkk : ((k : Int) - 1) = ((k - 1 : Nat) : Int) := by omega
              have HX := Lib.hid (show upR l k false = decide (y % 2 ≠ 0) by
                rw [HU.out, if_pos ⟨rfl, hk1⟩, List.getD_eq_getElem?_getD, List.getElem?_eq_getElem hk2, hy]
                simp [hk0])
              clear h hx hn hy
              go_enter Tryz.func268, Tryz.ntmps268
              go_wp2
              go_ret
              exact ⟨ret_bool ((mod2_bool y).trans HX.out.symm), Frm.refl No w⟩
            · obtain rfl : k = 0 := by omega
              have HX := Lib.hid (show upR l 0 false = false by rw [HU.out, if_pos ⟨rfl, hk1⟩]; rfl)
              clear h hx hn
              go_enter Tryz.func268, Tryz.ntmps268
              go_wp2
              go_ret
              exact ⟨ret_bool HX.out.symm, Frm.refl No w⟩
        · have HX := Lib.hid (show upR l k tr = true by rw [HU.out, if_neg (by omega)]; rfl)
          clear h hx hn
          go_enter Tryz.func268, Tryz.ntmps268
          go_wp2
          go_ret
          exact ⟨ret_bool HX.out.symm, Frm.refl No w⟩
      · have HX := Lib.hid (show upR l k tr = decide (5 ≤ x) by rw [HU.out, if_neg (by omega)])
        have f1 : (((x : Int) + 48) == 53) = false := by simp; omega
        by_cases hge : 5 ≤ x
        · have HY := Lib.hid (show upR l k tr = true by rw [HX.out]; simp [hge])
          have f2 : decide ((53 : Int) ≤ (x : Int) + 48) = true := by simp; omega
          clear h hx hn h5
          go_enter Tryz.func268, Tryz.ntmps268
          go_wp2
          go_ret
          exact ⟨ret_bool HY.out.symm, Frm.refl No w⟩
        · have HY := Lib.hid (show upR l k tr = false by rw [HX.out]; simp [hge])
          have f2 : decide ((53 : Int) ≤ (x : Int) + 48) = false := by simp; omega
          clear h hx hn h5
          go_enter Tryz.func268, Tryz.ntmps268
          go_wp2
          go_ret
          exact ⟨ret_bool HY.out.symm, Frm.refl No w⟩
    · have HX := Lib.hid (upR_out tr (show l.length ≤ k by omega))
      clear h hn
      go_enter Tryz.func268, Tryz.ntmps268
      go_wp2
      go_ret
      exact ⟨ret_bool HX.out.symm, Frm.refl No w⟩
end Go.Proofs.YtcjeeoadgoghfaaGreatDoor.deca
