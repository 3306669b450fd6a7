/- Contract of strconv's leftShift. -/
import Derived.Test.YtcjeeoadgoghfaaGreatDoorGDecB
import Derived.Test.YtcjeeoadgoghfaaGreatDoorGNear5
import Derived.IntWalk

namespace Go.Proofs.YtcjeeoadgoghfaaGreatDoor.deca
set_option linter.unusedVariables false set_option linter.unusedSimpArgs false
open Go.ChangeShapes Go.WideShapes Go.ChangeAt Go.RowKit Go.Proofs.YtcjeeoadgoghfaaGreatDoor.base Go.Proofs.YtcjeeoadgoghfaaGreatDoor.Deci Go.Proofs.YtcjeeoadgoghfaaGreatDoor.Usc

/-- The table leftcheats as it lies, its rows in block B. -/
structure Cheat (w : World) (B : Nat) : Prop where
  ex : ∃ o : Nat, w.cell? ⟨17, 0, none⟩ = some (.slice (some ⟨B, o, none⟩) 61 61) ∧
    (∀ k, 1 ≤ k → k ≤ 60 → w.cell? ⟨B, o + k * 2, none⟩ = some (.int .i64 (cutD k))) ∧
    ∀ k, 1 ≤ k → k ≤ 60 → ∃ s, w.cell? ⟨B, o + k * 2 + 1, none⟩ = some (.string s) ∧ DigB s (cutS k)
theorem Cheat.frm {S : Nat → Prop} {w w' : World} {B : Nat} (h : Cheat w B) (k : Frm S w w') (h1 : ¬ S B) (h2 : ¬ S 17) : Cheat w' B :=
  ⟨by
    obtain ⟨o, a1, a2, a3⟩ := h.ex
    exact ⟨o, cell_frm a1 k h2, fun j a b => cell_frm (a2 j a b) k h1, fun j a b => by obtain ⟨s, e, d⟩ := a3 j a b; exact ⟨s, cell_frm e k h1, d⟩⟩⟩

/-- From p on stand the digits X, those that have room; the first r digits of l stand as they stood. -/
structure Pt (w : World) (R p : Nat) (X l : List Nat) (r : Nat) (dp : Int) (neg tr : Bool) : Prop where
  box : ∃ C, Box w R 243 C ∧ C.size = 804 ∧ (∀ i (h : i < X.length), p + i < 800 → C[p + i]? = some (.int .u8 ((X[i] : Int) + 48))) ∧ (∀ i (h : i < l.length), i < r → C[i]? = some (.int .u8 ((l[i] : Int) + 48))) ∧ C[800]? = some (.int .i64 l.length) ∧ C[801]? = some (.int .i64 dp) ∧ C[802]? = some (.bool neg) ∧ C[803]? = some (.bool (tr || (X.drop (800 - p)).any (· != 0)))
theorem Pt.start {w : World} {R : Nat} {l : List Nat} {dp : Int} {neg tr : Bool} (h : Dm w R l dp neg tr) (p : Nat) : Pt w R p [] l l.length dp neg tr := by
  obtain ⟨C, hb, hz, hd, h0, h1, h2, h3⟩ := h.box
  exact ⟨C, hb, hz, fun i h => absurd h (by simp), fun i h _ => hd i h, h0, h1, h2, by simpa using h3⟩
theorem Pt.d {w : World} {R p : Nat} {X l : List Nat} {r : Nat} {dp : Int} {neg tr : Bool} (h : Pt w R p X l r dp neg tr) (i : Nat) (hi : i < l.length) (hr : i < r) : w.cell? ⟨R, i, none⟩ = some (.int .u8 ((l[i] : Int) + 48)) := by
  obtain ⟨C, hb, _, _, hd, _⟩ := h.box; rw [hb.cell]; exact hd i hi hr
theorem Pt.nd {w : World} {R p : Nat} {X l : List Nat} {r : Nat} {dp : Int} {neg tr : Bool} (h : Pt w R p X l r dp neg tr) : w.cell? ⟨R, 800, none⟩ = some (.int .i64 l.length) := by
  obtain ⟨C, hb, _, _, _, h0, _⟩ := h.box; rw [hb.cell]; exact h0
theorem Pt.pt {w : World} {R p : Nat} {X l : List Nat} {r : Nat} {dp : Int} {neg tr : Bool} (h : Pt w R p X l r dp neg tr) : w.cell? ⟨R, 801, none⟩ = some (.int .i64 dp) := by
  obtain ⟨C, hb, _, _, _, _, h0, _⟩ := h.box; rw [hb.cell]; exact h0
theorem Pt.lt {w : World} {R p : Nat} {X l : List Nat} {r : Nat} {dp : Int} {neg tr : Bool} (h : Pt w R p X l r dp neg tr) : R < w.heap.size := by
  obtain ⟨C, hb, _⟩ := h.box; exact hb.lt
theorem Pt.free {w : World} {R p : Nat} {X l : List Nat} {r : Nat} {dp : Int} {neg tr : Bool} (h : Pt w R p X l r dp neg tr) (o : Nat) : w.frozen? ⟨R, o, none⟩ = false := by
  obtain ⟨C, hb, _⟩ := h.box; exact hb.f o
theorem Pt.frm {S : Nat → Prop} {w w' : World} {R p : Nat} {X l : List Nat} {r : Nat} {dp : Int} {neg tr : Bool} (h : Pt w R p X l r dp neg tr) (k : Frm S w w') (hs : ¬ S R) : Pt w' R p X l r dp neg tr := by
  obtain ⟨C, hb, hr⟩ := h.box; exact ⟨C, hb.frm k hs, hr⟩
theorem Pt.drewN {w : World} {R p : Nat} {X l : List Nat} {r : Nat} {dp : Int} {neg tr : Bool} (h : Pt w R p X l r dp neg tr) (n : Nat) : Pt (w.drewN n) R p X l r dp neg tr := ⟨h.box⟩
theorem Pt.less {w : World} {R p : Nat} {X l : List Nat} {r r' : Nat} {dp : Int} {neg tr : Bool} (h : Pt w R p X l r dp neg tr) (hr : r' ≤ r) : Pt w R p X l r' dp neg tr := by
  obtain ⟨C, hb, hz, hx, hd, hr2⟩ := h.box; exact ⟨C, hb, hz, hx, fun i h1 h2 => hd i h1 (by omega), hr2⟩
/-- One more digit is put down. -/
theorem Pt.put {w : World} {R p : Nat} {X l : List Nat} {r : Nat} {dp : Int} {neg tr : Bool} (h : Pt w R (p + 1) X l r dp neg tr) (hr : r ≤ p) (hp : p < 800) (x : Nat) (n : Int) (hn : n = (x : Int) + 48) :
    Pt (w.setCell ⟨R, p, none⟩ (.int .u8 n)) R p (x :: X) l r dp neg tr := by
  subst hn
  obtain ⟨C, hb, hz, hx, hd, h0, h1, h2, h3⟩ := h.box
  refine ⟨_, hb.set p _, by simpa using hz, fun i hi hlt => ?_, fun i hi hir => ?_, ?_, ?_, ?_, ?_⟩
  · cases i with
    | zero => rw [Nat.add_zero, Array.getElem?_setIfInBounds_self_of_lt (by omega)]; rfl
    | succ i =>
      rw [Array.getElem?_setIfInBounds_ne (by omega)]
      have := hx i (by simpa using hi) (by omega)
      rw [show p + (i + 1) = p + 1 + i by omega]
      exact this
  · rw [Array.getElem?_setIfInBounds_ne (by omega)]; exact hd i hi hir
  · rw [Array.getElem?_setIfInBounds_ne (by omega)]; exact h0
  · rw [Array.getElem?_setIfInBounds_ne (by omega)]; exact h1
  · rw [Array.getElem?_setIfInBounds_ne (by omega)]; exact h2
  · rw [Array.getElem?_setIfInBounds_ne (by omega), h3, show 800 - p = (800 - (p + 1)) + 1 by omega, List.drop_succ_cons]
theorem put_at {w : World} {R j δ : Nat} {X l : List Nat} {dp : Int} {neg tr : Bool} (h : Pt w R (j + 1 + δ) X l (j + 1) dp neg tr) (hp : j + δ < 800) (x : Nat) (n : Int) (hn : n = (x : Int) + 48) :
    Pt (w.setCell ⟨R, j + δ, none⟩ (.int .u8 n)) R (j + δ) (x :: X) l j dp neg tr := by
  rw [show j + 1 + δ = j + δ + 1 by omega] at h
  exact (h.less (by omega)).put (by omega) hp x n hn
/-- One that has no room. -/
theorem Pt.skip {w : World} {R p : Nat} {X l : List Nat} {r : Nat} {dp : Int} {neg tr : Bool} (h : Pt w R (p + 1) X l r dp neg tr) (hp : 800 ≤ p) : Pt w R p (0 :: X) l r dp neg tr := by
  obtain ⟨C, hb, hz, hx, hd, h0, h1, h2, h3⟩ := h.box
  refine ⟨C, hb, hz, fun i hi hlt => absurd hlt (by omega), hd, h0, h1, h2, ?_⟩
  rw [h3, show 800 - p = 0 by omega, show 800 - (p + 1) = 0 by omega, List.drop_zero, List.drop_zero, List.any_cons]
  rfl
theorem Pt.cut {w : World} {R p : Nat} {X l : List Nat} {r : Nat} {dp : Int} {neg tr : Bool} (h : Pt w R (p + 1) X l r dp neg tr) (hp : 800 ≤ p) (x : Nat) (hx0 : x ≠ 0) : Pt (w.setCell ⟨R, 803, none⟩ (.bool true)) R p (x :: X) l r dp neg tr := by
  obtain ⟨C, hb, hz, hx, hd, h0, h1, h2, h3⟩ := h.box
  have hl : l.length ≤ 800 ∨ True := Or.inr trivial
  by_cases hc : 803 < l.length ∧ 803 < r
  · exfalso
    have e := hd 803 hc.1 hc.2
    rw [h3] at e
    cases e
  · refine ⟨_, hb.set 803 _, by simpa using hz, fun i hi hlt => absurd hlt (by omega), fun i hi hir => ?_, ?_, ?_, ?_, ?_⟩
    · rw [Array.getElem?_setIfInBounds_ne (by omega)]; exact hd i hi hir
    · rw [Array.getElem?_setIfInBounds_ne (by decide)]; exact h0
    · rw [Array.getElem?_setIfInBounds_ne (by decide)]; exact h1
    · rw [Array.getElem?_setIfInBounds_ne (by decide)]; exact h2
    · rw [Array.getElem?_setIfInBounds_self_of_lt (by omega), show 800 - p = 0 by omega, List.drop_zero, List.any_cons]
      have : (x != 0) = true := by simpa using hx0
      rw [this]
      simp

theorem skip_at {w : World} {R j δ : Nat} {X l : List Nat} {dp : Int} {neg tr : Bool} (h : Pt w R (j + 1 + δ) X l (j + 1) dp neg tr) (hp : 800 ≤ j + δ) : Pt w R (j + δ) (0 :: X) l j dp neg tr := by
  rw [show j + 1 + δ = j + δ + 1 by omega] at h
  exact (h.less (by omega)).skip hp
theorem cut_at {w : World} {R j δ : Nat} {X l : List Nat} {dp : Int} {neg tr : Bool} (h : Pt w R (j + 1 + δ) X l (j + 1) dp neg tr) (hp : 800 ≤ j + δ) (x : Nat) (hx : x ≠ 0) : Pt (w.setCell ⟨R, 803, none⟩ (.bool true)) R (j + δ) (x :: X) l j dp neg tr := by
  rw [show j + 1 + δ = j + δ + 1 by omega] at h
  exact (h.less (by omega)).cut hp x hx
/-- All are put down: the digits, their number, the point. -/
theorem Pt.done {w : World} {R : Nat} {X l : List Nat} {r : Nat} {dp : Int} {neg tr : Bool} (h : Pt w R 0 X l r dp neg tr) (hX : X.length < 800) (n q : Int) (hn : n = (X.length : Int)) :
    Dm ((w.setCell ⟨R, 800, none⟩ (.int .i64 n)).setCell ⟨R, 801, none⟩ (.int .i64 q)) R (X.take 800) q neg (cutT tr X) := by
  subst hn
  obtain ⟨C, hb, hz, hx, hd, h0, h1, h2, h3⟩ := h.box
  have e : X.take 800 = X := List.take_of_length_le (by omega)
  rw [e]
  refine ⟨⟨_, (hb.set 800 _).set 801 _, by simpa using hz, fun i hi => ?_, ?_, ?_, ?_, ?_⟩, by omega⟩
  · rw [Array.getElem?_setIfInBounds_ne (by omega), Array.getElem?_setIfInBounds_ne (by omega)]
    have := hx i hi (by omega)
    rwa [Nat.zero_add] at this
  · rw [Array.getElem?_setIfInBounds_ne (by decide), Array.getElem?_setIfInBounds_self_of_lt (by omega)]
  · rw [Array.getElem?_setIfInBounds_self_of_lt (by simpa using by omega)]
  · rw [Array.getElem?_setIfInBounds_ne (by decide), Array.getElem?_setIfInBounds_ne (by decide)]; exact h2
  · rw [Array.getElem?_setIfInBounds_ne (by decide), Array.getElem?_setIfInBounds_ne (by decide), h3]; rfl
theorem Pt.done8 {w : World} {R : Nat} {X l : List Nat} {r : Nat} {dp : Int} {neg tr : Bool} (h : Pt w R 0 X l r dp neg tr) (hX : 800 ≤ X.length) (u : Value) (q : Int) :
    Dm (((w.setCell ⟨R, 800, none⟩ u).setCell ⟨R, 800, none⟩ (.int .i64 800)).setCell ⟨R, 801, none⟩ (.int .i64 q)) R (X.take 800) q neg (cutT tr X) := by
  obtain ⟨C, hb, hz, hx, hd, h0, h1, h2, h3⟩ := h.box
  have e : (X.take 800).length = 800 := by rw [List.length_take]; omega
  refine ⟨⟨_, ((hb.set 800 _).set 800 _).set 801 _, by simpa using hz, fun i hi => ?_, ?_, ?_, ?_, ?_⟩, by omega⟩
  · rw [Array.getElem?_setIfInBounds_ne (by omega), Array.getElem?_setIfInBounds_ne (by omega), Array.getElem?_setIfInBounds_ne (by omega)]
    have := hx i (by omega) (by omega)
    rw [Nat.zero_add] at this
    rw [this, List.getElem_take]
  · rw [Array.getElem?_setIfInBounds_ne (by decide), Array.getElem?_setIfInBounds_self_of_lt (by simpa using by omega), e]; rfl
  · rw [Array.getElem?_setIfInBounds_self_of_lt (by simpa using by omega)]
  · rw [Array.getElem?_setIfInBounds_ne (by decide), Array.getElem?_setIfInBounds_ne (by decide), Array.getElem?_setIfInBounds_ne (by decide)]; exact h2
  · rw [Array.getElem?_setIfInBounds_ne (by decide), Array.getElem?_setIfInBounds_ne (by decide), Array.getElem?_setIfInBounds_ne (by decide), h3]; rfl

theorem Pt.any {w : World} {R p : Nat} {X l : List Nat} {r : Nat} {dp : Int} {neg tr : Bool} (h : Pt w R p X l r dp neg tr) : ∃ v : Nat → Value, ∀ o, o < 804 → w.cell? ⟨R, o, none⟩ = some (v o) := by
  obtain ⟨C, hb, hz, _⟩ := h.box
  exact ⟨fun o => C[o]!, fun o ho => by rw [hb.cell, Array.getElem?_eq_getElem (by omega)]; simp [Array.getElem!_eq_getD, Array.getD, show o < C.size by omega]⟩
theorem shl_room {d k c M : Nat} (hd : d ≤ 9) (hk : k ≤ 60) (hc : c < 2 ^ k) (hM : d * 2 ^ k = M) : (c : Int) < 1152921504606846976 ∧ (M : Int) ≤ 10376293541461622784 := by
  have h1 : 2 ^ k ≤ 2 ^ 60 := Nat.pow_le_pow_right (by decide) hk
  have h2 : d * 2 ^ k ≤ 9 * 2 ^ 60 := Nat.mul_le_mul hd h1
  have e : (2 : Nat) ^ 60 = 1152921504606846976 := by decide
  omega
/-- A number's last digit, as the code finds it. -/
theorem dig_step (N : Nat) (h : (N : Int) < 18446744073709551616) : ∃ Q P x : Nat, IntKind.u64.wrap ((N : Int).tdiv 10) = (Q : Int) ∧ IntKind.u64.wrap ((N : Int) / 10) = (Q : Int) ∧ IntKind.u64.wrap (10 * (Q : Int)) = (P : Int) ∧ IntKind.u64.wrap ((N : Int) - (P : Int)) = (x : Int) ∧ Q = N / 10 ∧ x = N % 10 := by
  have e : (N : Int).tdiv 10 = ((N / 10 : Nat) : Int) := by rw [Int.tdiv_eq_ediv_of_nonneg (by omega)]; rfl
  refine ⟨N / 10, 10 * (N / 10), N % 10, ?_, ?_, ?_, ?_, rfl, rfl⟩
  · rw [e]; exact Go.IntWalk.u64_in _ ⟨by omega, by omega⟩
  · exact Go.IntWalk.u64_in _ ⟨by omega, by omega⟩
  · rw [Go.IntWalk.u64_in _ ⟨by omega, by omega⟩]; omega
  · rw [Go.IntWalk.u64_in _ ⟨by omega, by omega⟩]; omega
theorem digs_room {c δ n : Nat} {X T : List Nat} (h : T = digs c ++ X) (hT : T.length = n + δ) (hX : X.length = n) : (digs c).length = δ := by
  rw [h, List.length_append] at hT; omega
theorem cutS_small {k : Nat} (h : k ≤ 60) (hk : 1 ≤ k) : (cutS k).length ≤ 800 := by
  rw [cutS_len k hk]
  have := cutD_pos k
  omega
theorem less_call (w : World) (R : Nat) (l c : List Nat) (dp : Int) (neg tr : Bool) (s : ByteArray) (n cap : Nat) (hn : l.length = n) (hc : c.length ≤ 800) (hs : DigB s c) (h : Dm w R l dp neg tr) (b : Bool) (hb : less l c = b) :
    Calls Tryz.prog 284 #[.slice (some ⟨R, 0, none⟩) n cap, .string s] w fun e w' => e = .returned (.bool b) ∧ ∃ q, w' = w.drewN q := by
  subst hn; subst hb
  exact less_all l c R cap s w h.len hc hs h.d

set_option maxRecDepth 20000 in
set_option maxHeartbeats 1000000 in
theorem left_all (w : World) (R B : Nat) (l : List Nat) (dp : Int) (neg tr : Bool) (k : Nat) (h : Dm w R l dp neg tr) (hT : Cheat w B) (hR : R ≠ 0) (hB : R ≠ B) (hG : R ≠ 17)
    (hd : Digs l) (hl : Led l) (hne : l ≠ []) (hk : 1 ≤ k) (hk2 : k ≤ 60) (hp : dp ≤ 100000) (hp2 : -100000 ≤ dp) :
    Calls Tryz.prog 266 #[.pointer (some ⟨R, 0, none⟩), .int .u64 k] w fun e w' => e = .returned (.tuple #[]) ∧ Dm w' R (cut8 (digs (val l * 2 ^ k))) (Deci.pt (cut8 (digs (val l * 2 ^ k))) (ptS (val l * 2 ^ k) l dp)) neg (cutT tr (digs (val l * 2 ^ k))) ∧ Frm (At R) w w' := by
  have H := Lib.hid h
  have x0 := h.nd
  have hlen := h.len
  obtain ⟨o, c0, hnum, htxt⟩ := hT.ex
  have c1 := hnum k hk hk2
  obtain ⟨S, c2, hS⟩ := htxt k hk hk2
  clear hnum htxt
  have HS := Lib.hid hS
  have HD := Lib.hid hd
  have hc60 : cutD k ≤ k := cutD_le k hk
  have HL := shl_len l k hk hd hl hne
  obtain ⟨n, hn⟩ : ∃ n, l.length = n := ⟨_, rfl⟩
  have HN := Lib.hid hn
  rw [hn] at x0 hlen
  obtain ⟨D, hD⟩ : ∃ D, cutD k = D := ⟨_, rfl⟩
  have hD1 : 1 ≤ D := by rw [← hD]; exact cutD_pos k
  rw [hD] at c1 hc60 HL
  clear h hn hd hT hS hD
  go_enter Tryz.func266, Tryz.ntmps266
  have s1 : (0 : Int) ≤ (n : Int) := by omega
  have s2 : (n : Int) ≤ 800 := by omega
  have s3 : (k : Int) < 61 := by omega
  have s4 : (0 : Int) ≤ (k : Int) := by omega
  obtain ⟨b, hb⟩ : ∃ b, less l (cutS k) = b := ⟨_, rfl⟩
  rw [hb, HN.out] at HL
  have HB := Lib.hid hb
  clear hb
  obtain ⟨δ, hδ⟩ : ∃ δ : Nat, D = if b then δ + 1 else δ := ⟨if b then D - 1 else D, by cases b <;> simp; omega⟩
  subst hδ
  have HL2 := Lib.hid (show (digs (val l * 2 ^ k)).length = n + δ by cases b <;> simp at HL <;> omega)
  have hδ : δ ≤ 60 := by cases b <;> simp at hc60 <;> omega
  clear HL hc60 hD1
  have HC := Lib.hid (mulp_carry k)
  have HM := Lib.hid (mulp_all k l HD.out hl)
  cases b <;> simp at c1
  all_goals
    go_wp2
    go_quiet ((go_at_call 284; exact Calls.quiet_of (less_call _ R l _ dp neg tr _ n _ HN.out (cutS_small hk2 hk) HS.out (H.out.drewN _) _ HB.out)))
    go_wp2
    go_loopw [5, 6, 7] (fun rv pv nv wr => ∃ r : Nat, r ≤ n ∧ rv = .int .i64 ((r : Int) - 1) ∧ pv = .int .i64 ((r + δ : Nat) : Int) ∧ nv = .int .u64 ((mulp k (l.drop r)).2 : Nat) ∧ Pt wr R (r + δ) (mulp k (l.drop r)).1 l r dp neg tr ∧ Frm (At R) w wr) (fun rv _ _ _ => (intOf rv + 1).toNat)
    case atStart => exact ⟨n, Nat.le_refl _, rfl, by simp, by rw [List.drop_of_length_le (by rw [HN.out]; exact Nat.le_refl _)]; rfl, by rw [List.drop_of_length_le (by rw [HN.out]; exact Nat.le_refl _)]; have := (Pt.start H.out (n + δ)).drewN nq; rw [HN.out] at this; exact this, (Frm.refl _ _).drewN _⟩
    case round =>
      obtain ⟨r, hr, rfl, rfl, rfl, hpt, hf⟩ := hrel
      cases r with
      | zero =>
        have HPT := Lib.hid hpt
        have HF := Lib.hid hf
        have h1 := HC.out l HD.out
        have h2 := HM.out
        have h3 := mulp_len k l
        rw [HN.out] at h3
        rw [List.drop_zero] at HPT ⊢
        clear hpt hf
        obtain ⟨X, hX⟩ : ∃ X, (mulp k l).1 = X := ⟨_, rfl⟩
        obtain ⟨c, hc⟩ : ∃ c, (mulp k l).2 = c := ⟨_, rfl⟩
        rw [hX] at HPT h2 h3
        rw [hc] at h1 h2 ⊢
        have h4 := digs_room h2 HL2.out h3
        have h5 : (c : Int) < 1152921504606846976 := by
          have h6 : 2 ^ k ≤ 2 ^ 60 := Nat.pow_le_pow_right (by decide) hk2
          have e : (2 : Nat) ^ 60 = 1152921504606846976 := by decide
          omega
        obtain ⟨T6, hT6⟩ : ∃ T6 : Int, T6 = 1152921504606846976 := ⟨_, rfl⟩
        rw [← hT6] at h5
        have HT6 := Lib.hid hT6
        clear hT6
        have H5 := Lib.hid h5
        have H2 := Lib.hid h2
        have H4 := Lib.hid h4
        clear hX hc h1 h2 h3 h4 h5
        go_wp2
        go_loopw [6, 7] (fun pv nv wr2 => ∃ (q p : Nat) (Y : List Nat), (q : Int) < T6 ∧ pv = .int .i64 p ∧ nv = .int .u64 q ∧ digs (val l * 2 ^ k) = digs q ++ Y ∧ (digs q).length = p ∧ p ≤ 60 ∧ Pt wr2 R p Y l 0 dp neg tr ∧ Frm (At R) w wr2) (fun pv _ _ => (intOf pv).toNat)
        case atStart => exact ⟨c, δ, X, H5.out, by go_num, rfl, H2.out, H4.out, hδ, by have := HPT.out; rw [Nat.zero_add] at this; exact this, HF.out⟩
        case round =>
          obtain ⟨q, p, Y, hq, rfl, rfl, hT, hqp, hp60, hpt, hf⟩ := hrel
          clear HPT HF
          have HPT := Lib.hid hpt
          have HF := Lib.hid hf
          have x1 := hpt.free
          by_cases hq0 : 0 < q
          · obtain ⟨Q, P, x, e3, e3', e4, e5, hQ, hx⟩ := dig_step q (by have := HT6.out; omega)
            have hx9 : x ≤ 9 := by omega
            have hE : digs q = digs Q ++ [x] := by rw [digs_pos hq0, ← hQ, ← hx]
            obtain ⟨j, rfl⟩ : ∃ j, p = j + 1 := by
              rw [hE, List.length_append] at hqp
              exact ⟨(digs Q).length, by simpa using hqp.symm⟩
            have hT2 := Lib.hid (show digs (val l * 2 ^ k) = digs Q ++ x :: Y by rw [hT, hE]; simp)
            have hQ2 := Lib.hid (show (digs Q).length = j by rw [hE, List.length_append] at hqp; simpa using hqp)
            have hQ3 := Lib.hid (show (Q : Int) < T6 by omega)
            have f1 : (0 : Int) < (q : Int) := by omega
            have hj : (j : Int) < 60 := by omega
            obtain ⟨v0, z0⟩ := hpt.any
            have z1 := z0 j (by omega)
            clear hpt hf hq hT hqp hQ hx hE z0
            go_wp2
            go_roundw
            case rel => exact ⟨Q, j, x :: Y, hQ3.out, by go_num, rfl, hT2.out, hQ2.out, by omega, HPT.out.put (by omega) (by omega) x _ (by omega), HF.out.setCell _ _ (fun _ => rfl)⟩
            case measure => simp [intOf]
          · obtain rfl : q = 0 := by omega
            obtain rfl : p = 0 := by rw [digs_zero] at hqp; exact hqp.symm
            rw [digs_zero, List.nil_append] at hT
            subst hT
            have y0 := hpt.nd
            have y1 := hpt.pt
            rw [HN.out] at y0
            have HP2 := Lib.hid (show dp + δ = ptS (val l * 2 ^ k) l dp by unfold ptS; rw [HL2.out, HN.out]; omega)
            clear hpt hf hq hqp
            by_cases h8 : n + δ < 800
            · go_wp2_with (go_at_call 265; go_must (refine (trim_all _ R ((digs (val l * 2 ^ k)).take 800) (dp + δ) neg (cutT tr (digs (val l * 2 ^ k))) (HPT.out.done (by rw [HL2.out]; exact h8) _ _ (by rw [HL2.out]; go_num)) hR).mono ?_; rintro e w' ⟨rfl, hd2, hf2⟩))
              refine bodyPost_end (v := .tuple #[]) (by simp [results, Tryz.results266, go_sem]) rfl ⟨rfl, ?_, ?_⟩
              · rw [HP2.out] at hd2; exact hd2
              · refine Frm.trans ?_ hf2
                exact (HF.out.setCell ⟨R, 800, none⟩ _ (fun _ => rfl)).setCell ⟨R, 801, none⟩ _ (fun _ => rfl)
            · have h9 : (800 : Int) ≤ (n : Int) + δ := by omega
              go_wp2_with (go_at_call 265; go_must (refine (trim_all _ R ((digs (val l * 2 ^ k)).take 800) (dp + δ) neg (cutT tr (digs (val l * 2 ^ k))) (HPT.out.done8 (by rw [HL2.out]; omega) _ _) hR).mono ?_; rintro e w' ⟨rfl, hd2, hf2⟩))
              refine bodyPost_end (v := .tuple #[]) (by simp [results, Tryz.results266, go_sem]) rfl ⟨rfl, ?_, ?_⟩
              · rw [HP2.out] at hd2; exact hd2
              · refine Frm.trans ?_ hf2
                exact ((HF.out.setCell ⟨R, 800, none⟩ _ (fun _ => rfl)).setCell ⟨R, 800, none⟩ _ (fun _ => rfl)).setCell ⟨R, 801, none⟩ _ (fun _ => rfl)
      | succ j =>
        have hjl : j < l.length := by rw [HN.out]; omega
        have HPT := Lib.hid hpt
        have HF := Lib.hid hf
        have x0 := hpt.d j hjl (by omega)
        have x1 := hpt.free
        obtain ⟨d, hd⟩ : ∃ d, l[j] = d := ⟨_, rfl⟩
        have hd9 : d ≤ 9 := by rw [← hd]; exact HD.out _ (List.getElem_mem _)
        have hE : l.drop j = d :: l.drop (j + 1) := by rw [List.drop_eq_getElem_cons hjl, hd]
        have hC := HC.out (l.drop (j + 1)) (fun x hx => HD.out x (List.mem_of_mem_drop hx))
        have HE := Lib.hid hE
        rw [hd] at x0
        clear hpt hf hd hE
        obtain ⟨X, hX⟩ : ∃ X, (mulp k (l.drop (j + 1))).1 = X := ⟨_, rfl⟩
        obtain ⟨c, hc⟩ : ∃ c, (mulp k (l.drop (j + 1))).2 = c := ⟨_, rfl⟩
        obtain ⟨M, hM⟩ : ∃ M, d * 2 ^ k = M := ⟨_, rfl⟩
        have HQ := Lib.hid (show mulp k (l.drop j) = ((M + c) % 10 :: X, (M + c) / 10) by rw [HE.out]; simp only [mulp]; rw [hX, hc, hM])
        rw [hX] at HPT
        rw [hc] at hC ⊢
        obtain ⟨b1, b2⟩ := shl_room hd9 hk2 hC hM
        have e1 : IntKind.u64.wrap ((d : Int) * 2 ^ k) = (M : Int) := by
          have : (d : Int) * 2 ^ k = (M : Int) := by rw [← hM]; push_cast; rfl
          rw [this]
          exact Go.IntWalk.u64_in _ ⟨by omega, by omega⟩
        obtain ⟨N, hN⟩ : ∃ N, M + c = N := ⟨_, rfl⟩
        have e2 : IntKind.u64.wrap ((c : Int) + (M : Int)) = (N : Int) := by
          rw [Go.IntWalk.u64_in _ ⟨by omega, by omega⟩]; omega
        obtain ⟨Q, P, x, e3, e3', e4, e5, hq, hx⟩ := dig_step N (by omega)
        rw [hN, ← hq, ← hx] at HQ
        have hx9 : x ≤ 9 := by omega
        obtain ⟨v0, z0⟩ := HPT.out.any
        have HZ := Lib.hid z0
        clear z0
        clear hX hc hM hC HE b1 b2 hN hq hx
        by_cases hw : j + δ < 800
        · have z1 := HZ.out (j + δ) (by omega)
          go_wp2
          go_roundw
          case rel => exact ⟨j, by omega, rfl, by go_num, by rw [HQ.out], by rw [HQ.out]; exact put_at HPT.out hw x _ (by omega), HF.out.setCell _ _ (fun _ => rfl)⟩
          case measure => simp [intOf]
        · have hp2 : ((j : Int) + 1 + δ - 1) < 800 → False := by omega
          by_cases hx0 : x = 0
          · subst hx0
            go_wp2
            go_roundw
            case rel => exact ⟨j, by omega, rfl, by go_num, by rw [HQ.out], by rw [HQ.out]; exact skip_at HPT.out (by omega), HF.out⟩
            case measure => simp [intOf]
          · have f1 : ((x : Int) != 0) = true := by simpa using hx0
            have z1 := HZ.out 803 (by omega)
            go_wp2
            go_roundw
            case rel => exact ⟨j, by omega, rfl, by go_num, by rw [HQ.out], by rw [HQ.out]; exact cut_at HPT.out (by omega) x hx0, HF.out.setCell _ _ (fun _ => rfl)⟩
            case measure => simp [intOf]
end Go.Proofs.YtcjeeoadgoghfaaGreatDoor.deca
