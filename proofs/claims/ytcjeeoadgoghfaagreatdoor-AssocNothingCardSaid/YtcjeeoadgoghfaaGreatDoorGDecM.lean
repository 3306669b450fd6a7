/- Contract of strconv's RoundedInteger, where the point stands at most at nineteen. A law on scopes in which the run jumps ahead to labels behind which no jump follows: floatBits of strconv. Towards strconv's floatBits for 64 bits: the tables as they lie, Shift and RoundedInteger of a decimal, how the word is put together. Contracts of strconv's small functions about parseFloat64: log2Pow10, unmin, round, pack64. Contract of strconv's parseFloat64: the nearest float, for every word of digits and every power of the table. -/
import Derived.Test.YtcjeeoadgoghfaaGreatDoorGDecC
import Derived.Test.YtcjeeoadgoghfaaGreatDoorGDecB
import Derived.WalkMore
import Derived.Test.YtcjeeoadgoghfaaGreatDoorGTabR
import Derived.BigQuiet
import Derived.Laws.BitsAllLaws

namespace Go.Proofs.YtcjeeoadgoghfaaGreatDoor.deca
set_option linter.unusedVariables false set_option linter.unusedSimpArgs false
open Go.ChangeShapes Go.WideShapes Go.ChangeAt Go.RowKit Go.Proofs.YtcjeeoadgoghfaaGreatDoor.base Go.Proofs.YtcjeeoadgoghfaaGreatDoor.Deci Go.Proofs.YtcjeeoadgoghfaaGreatDoor.Usc

theorem whole_in {l : List Nat} {k : Nat} (h : k < l.length) : whole l (k + 1) = 10 * whole l k + l[k] := by
  unfold whole
  rw [show k + 1 - l.length = 0 by omega, show k - l.length = 0 by omega, Nat.pow_zero, Nat.mul_one, Nat.mul_one, List.take_succ_eq_append_getElem h, val_snoc]
theorem whole_out {l : List Nat} {k : Nat} (h : l.length ≤ k) : whole l (k + 1) = 10 * whole l k := by
  unfold whole
  rw [List.take_of_length_le (by omega), List.take_of_length_le (by omega), show k + 1 - l.length = (k - l.length) + 1 by omega, Nat.pow_succ]
  ac_rfl
theorem whole_lt {l : List Nat} (hd : Digs l) (k : Nat) : whole l k < 10 ^ k := by
  unfold whole
  have h := val_lt (l.take k) (fun d h => hd d (List.mem_of_mem_take h))
  rw [List.length_take] at h
  rw [show (10 : Nat) ^ k = 10 ^ min k l.length * 10 ^ (k - l.length) by rw [← Nat.pow_add]; congr 1; omega]
  exact Nat.mul_lt_mul_of_pos_right h (Nat.pow_pos (by decide))
theorem whole_int {l : List Nat} (hd : Digs l) {k m : Nat} (h : k < m) (hm : m ≤ 19) : (whole l k : Int) < 1000000000000000000 := by
  have h1 := Nat.lt_of_lt_of_le (whole_lt hd k) (Nat.pow_le_pow_right (by decide) (show k ≤ 18 by omega))
  omega
theorem whole_int2 {l : List Nat} (hd : Digs l) {k : Nat} (hm : k ≤ 19) : (whole l k : Int) < 10000000000000000000 := by
  have h1 := Nat.lt_of_lt_of_le (whole_lt hd k) (Nat.pow_le_pow_right (by decide) hm)
  omega

set_option maxHeartbeats 1000000 in
theorem round_all (w : World) (R : Nat) (l : List Nat) (m : Nat) (neg tr : Bool) (h : Dm w R l m neg tr) (hd : Digs l) (hR : R ≠ 0) (hm : m ≤ 19) :
    Calls Tryz.prog 281 #[.pointer (some ⟨R, 0, none⟩)] w fun e w' => e = .returned (.int .u64 (rInt l m tr : Nat)) ∧ Frm No w w' := by
  have H := Lib.hid h
  have x0 := h.nd
  have xp := h.pt
  have hlen := h.len
  have HD := Lib.hid hd
  obtain ⟨n, hn⟩ : ∃ n, l.length = n := ⟨_, rfl⟩
  have HN := Lib.hid hn
  rw [hn] at x0 hlen
  have HRI := Lib.hid (show rInt l m tr = whole l m + (if upR l m tr then 1 else 0) by unfold rInt; rw [if_neg (by omega), Int.toNat_natCast])
  clear h hn hd
  go_enter Tryz.func281, Tryz.ntmps281
  go_wp2
  go_loopw [3, 4] (fun iv nv wr => ∃ k : Nat, k ≤ m ∧ k ≤ n ∧ iv = .int .i64 k ∧ nv = .int .u64 (whole l k : Nat) ∧ Frm No w wr) (fun iv _ _ => n - (intOf iv).toNat)
  case atStart => exact ⟨0, Nat.zero_le _, Nat.zero_le _, rfl, by simp [whole, val_nil], Frm.refl _ _⟩
  case round =>
    obtain ⟨k, hkm, hkn, rfl, rfl, hf⟩ := hrel
    have HF := Lib.hid hf
    have y0 := cell_frm x0 hf (by simp [No])
    have yp := cell_frm xp hf (by simp [No])
    clear hf
    by_cases h1 : k < m
    · by_cases h2 : k < n
      · have hkl : k < l.length := by rw [HN.out]; exact h2
        obtain ⟨x, hx⟩ : ∃ x, l[k] = x := ⟨_, rfl⟩
        have y1 := cell_frm (H.out.d k hkl) HF.out (by simp [No])
        rw [hx] at y1
        have hx9 : x ≤ 9 := by rw [← hx]; exact HD.out _ (List.getElem_mem _)
        have hW := whole_int HD.out h1 hm
        have HX := Lib.hid (show whole l (k + 1) = 10 * whole l k + x by rw [whole_in hkl, hx])
        obtain ⟨W, hWW⟩ : ∃ W, whole l k = W := ⟨_, rfl⟩
        rw [hWW] at hW HX ⊢
        clear hx hkl hWW
        go_wp2
        go_roundw
        case rel => exact ⟨k + 1, by omega, by omega, by go_num, by rw [HX.out]; go_num, HF.out⟩
        case measure => simp [intOf]; omega
      · go_wp2
        go_loopw [3, 4] (fun iv nv wr => ∃ k : Nat, k ≤ m ∧ (k = m ∨ n ≤ k) ∧ iv = .int .i64 k ∧ nv = .int .u64 (whole l k : Nat) ∧ Frm No w wr) (fun iv _ _ => m - (intOf iv).toNat)
        case atStart => exact ⟨k, hkm, by omega, rfl, rfl, HF.out⟩
        case round =>
          obtain ⟨j, hjm, hjn, rfl, rfl, hf⟩ := hrel
          clear HF y0 yp
          have HF := Lib.hid hf
          have yp := cell_frm xp hf (by simp [No])
          clear hf
          by_cases h3 : j < m
          · have hW := whole_int HD.out h3 hm
            have HX := Lib.hid (show whole l (j + 1) = 10 * whole l j by exact whole_out (by rw [HN.out]; omega))
            obtain ⟨W, hWW⟩ : ∃ W, whole l j = W := ⟨_, rfl⟩
            rw [hWW] at hW HX ⊢
            clear hWW
            go_wp2
            go_roundw
            case rel => exact ⟨j + 1, by omega, by omega, by go_num, by rw [HX.out]; go_num, HF.out⟩
            case measure => simp [intOf]; omega
          · obtain rfl : j = m := by omega
            have hW := whole_int2 HD.out hm
            obtain ⟨W, hWW⟩ : ∃ W, whole l j = W := ⟨_, rfl⟩
            rw [hWW] at hW HRI ⊢
            clear hWW
            cases hu : upR l j tr with
            | true =>
              have HU := Lib.hid hu
              clear hu
              go_wp2_with (go_at_call 268; go_must (refine (up_all _ R l j neg tr j (by exact H.out.frm HF.out (by simp [No])) HD.out hR (by omega) (by omega)).mono ?_; rintro e w' ⟨rfl, hf2⟩; rw [if_neg (by omega), Int.toNat_natCast, HU.out]))
              go_ret
              exact ⟨ret_int (by rw [HRI.out, HU.out]; simp), HF.out.trans hf2⟩
            | false =>
              have HU := Lib.hid hu
              clear hu
              go_wp2_with (go_at_call 268; go_must (refine (up_all _ R l j neg tr j (by exact H.out.frm HF.out (by simp [No])) HD.out hR (by omega) (by omega)).mono ?_; rintro e w' ⟨rfl, hf2⟩; rw [if_neg (by omega), Int.toNat_natCast, HU.out]))
              go_ret
              exact ⟨ret_int (by rw [HRI.out, HU.out]; simp), HF.out.trans hf2⟩
    · have hkm2 : k = m := by omega
      subst hkm2
      go_wp2
      go_loopw [3, 4] (fun iv nv wr => iv = .int .i64 k ∧ nv = .int .u64 (whole l k : Nat) ∧ Frm No w wr) (fun _ _ _ => 0)
      case atStart => exact ⟨rfl, rfl, HF.out⟩
      case round =>
        obtain ⟨rfl, rfl, hf⟩ := hrel
        clear HF y0 yp
        have HF := Lib.hid hf
        have yp := cell_frm xp hf (by simp [No])
        clear hf
        have hW := whole_int2 HD.out hm
        obtain ⟨W, hWW⟩ : ∃ W, whole l k = W := ⟨_, rfl⟩
        rw [hWW] at hW HRI ⊢
        clear hWW
        cases hu : upR l k tr with
        | true =>
          have HU := Lib.hid hu
          clear hu
          go_wp2_with (go_at_call 268; go_must (refine (up_all _ R l k neg tr k (by exact H.out.frm HF.out (by simp [No])) HD.out hR (by omega) (by omega)).mono ?_; rintro e w' ⟨rfl, hf2⟩; rw [if_neg (by omega), Int.toNat_natCast, HU.out]))
          go_ret
          exact ⟨ret_int (by rw [HRI.out, HU.out]; simp), HF.out.trans hf2⟩
        | false =>
          have HU := Lib.hid hu
          clear hu
          go_wp2_with (go_at_call 268; go_must (refine (up_all _ R l k neg tr k (by exact H.out.frm HF.out (by simp [No])) HD.out hR (by omega) (by omega)).mono ?_; rintro e w' ⟨rfl, hf2⟩; rw [if_neg (by omega), Int.toNat_natCast, HU.out]))
          go_ret
          exact ⟨ret_int (by rw [HRI.out, HU.out]; simp), HF.out.trans hf2⟩

set_option maxHeartbeats 1000000 in
/-- Where the point stands ahead of the digits. -/
theorem round_neg (w : World) (R : Nat) (l : List Nat) (p : Int) (neg tr : Bool) (h : Dm w R l p neg tr) (hd : Digs l) (hR : R ≠ 0) (hp : p < 0) (hp2 : -100000 ≤ p) :
    Calls Tryz.prog 281 #[.pointer (some ⟨R, 0, none⟩)] w fun e w' => e = .returned (.int .u64 (rInt l p tr : Nat)) ∧ Frm No w w' := by
  have H := Lib.hid h
  have x0 := h.nd
  have xp := h.pt
  have hlen := h.len
  have HD := Lib.hid hd
  obtain ⟨n, hn⟩ : ∃ n, l.length = n := ⟨_, rfl⟩
  rw [hn] at x0 hlen
  have HRI := Lib.hid (show rInt l p tr = 0 by unfold rInt; rw [if_pos hp])
  clear h hn hd
  go_enter Tryz.func281, Tryz.ntmps281
  go_wp2
  go_loopw [3, 4] (fun iv nv wr => iv = .int .i64 0 ∧ nv = .int .u64 0 ∧ Frm No w wr) (fun _ _ _ => 0)
  case atStart => exact ⟨rfl, rfl, Frm.refl _ _⟩
  case round =>
    obtain ⟨rfl, rfl, hf⟩ := hrel
    have HF := Lib.hid hf
    have yp := cell_frm xp hf (by simp [No])
    clear hf
    go_wp2
    go_loopw [3, 4] (fun iv nv wr => iv = .int .i64 0 ∧ nv = .int .u64 0 ∧ Frm No w wr) (fun _ _ _ => 0)
    case atStart => exact ⟨rfl, rfl, HF.out⟩
    case round =>
      obtain ⟨rfl, rfl, hf⟩ := hrel
      clear HF yp
      have HF := Lib.hid hf
      have yp := cell_frm xp hf (by simp [No])
      clear hf
      go_wp2_with (go_at_call 268; go_must (refine (up_all _ R l p neg tr p (by exact H.out.frm HF.out (by simp [No])) HD.out hR (by omega) hp2).mono ?_; rintro e w' ⟨rfl, hf2⟩; rw [if_pos hp]))
      go_ret
      exact ⟨ret_int (by rw [HRI.out]; rfl), HF.out.trans hf2⟩
end Go.Proofs.YtcjeeoadgoghfaaGreatDoor.deca

namespace Go.Proofs.YtcjeeoadgoghfaaGreatDoor.deca
set_option linter.unusedVariables false set_option linter.unusedSimpArgs false
open Go.ChangeShapes Go.WideShapes Go.ChangeAt Go.RowKit Go.Proofs.YtcjeeoadgoghfaaGreatDoor.base

/-- As Q; by a goto: what stands behind the label is done, without any goto. -/
def LabQ (P : Program) (c : Code) (Q : Exit → Act → World → Prop) : Exit → Act → World → Prop
  | .goto l, a, w => ∃ rest, findLabel c l = some rest ∧ rest.wp P (Exit.noGoto Q) a w
  | e, a, w => Q e a w

section
variable {P : Program} {a : Act} {w : World} {c : Code} {Q : Exit → Act → World → Prop}
theorem LabQ_normal : LabQ P c Q .normal a w = Q .normal a w := rfl
theorem LabQ_ret : LabQ P c Q .ret a w = Q .ret a w := rfl
theorem LabQ_goto {l : Nat} (rest : Code) (hf : findLabel c l = some rest) (h : rest.wp P (Exit.noGoto Q) a w) : LabQ P c Q (.goto l) a w := ⟨rest, hf, h⟩

theorem wp_scope_labels (h : c.wp P (LabQ P c Q) a w) : (Code.scope c).wp P Q a w := by
  intro b k cs
  have key : ∀ l rest a w, findLabel c l = some rest → rest.wp P (Exit.noGoto Q) a w → ∃ e a' w', Q e a' w' ∧ Arrives P (lone (b.at a (.code rest :: .inScope c :: k)) cs w) b k cs e a' w' := by
    intro l rest a w hf hr
    obtain ⟨e, a₁, w₁, hq, harr⟩ := hr b (.inScope c :: k) cs
    cases e with
    | normal => exact ⟨.normal, a₁, w₁, hq, Steps.trans harr (.one step_inScope)⟩
    | exit id => exact ⟨.exit id, a₁, w₁, hq, fun k' hk => harr k' (by simp [exitTo, hk])⟩
    | goto l' => exact hq.elim
    | ret => exact ⟨_, a₁, w₁, hq, harr⟩
    | panic ch => exact ⟨_, a₁, w₁, hq, harr⟩
    | outgrown => exact ⟨_, a₁, w₁, hq, harr⟩
  obtain ⟨e, a₁, w₁, hq, harr⟩ := h b (.inScope c :: k) cs
  cases e with
  | normal => exact ⟨.normal, a₁, w₁, hq, .head step_scope (Steps.trans harr (.one step_inScope))⟩
  | exit id => exact ⟨.exit id, a₁, w₁, hq, fun k' hk => .head step_scope (harr k' (by simp [exitTo, hk]))⟩
  | goto l' =>
    obtain ⟨rest, hf, hr⟩ := hq
    have hg : gotoIn l' (.inScope c :: k) = some (.code rest :: .inScope c :: k) := by simp [gotoIn, hf]
    obtain ⟨e₂, a₂, w₂, hq₂, harr₂⟩ := key _ rest a₁ w₁ hf hr
    exact ⟨e₂, a₂, w₂, hq₂, .of_steps (.head step_scope (harr _ hg)) harr₂⟩
  | ret => exact ⟨_, a₁, w₁, hq, .of_steps (.one step_scope) harr⟩
  | panic ch => exact ⟨_, a₁, w₁, hq, .of_steps (.one step_scope) harr⟩
  | outgrown => exact ⟨_, a₁, w₁, hq, .of_steps (.one step_scope) harr⟩
end
end Go.Proofs.YtcjeeoadgoghfaaGreatDoor.deca

namespace Go.Proofs.YtcjeeoadgoghfaaGreatDoor.deca
set_option linter.unusedVariables false set_option linter.unusedSimpArgs false
open Go.ChangeShapes Go.WideShapes Go.ChangeAt Go.RowKit Go.Proofs.YtcjeeoadgoghfaaGreatDoor.base Go.Proofs.YtcjeeoadgoghfaaGreatDoor.Deci Go.Proofs.YtcjeeoadgoghfaaGreatDoor.Usc

/-- The variable float64info as it lies. -/
structure Flt (w : World) : Prop where
  m : w.cell? ⟨10, 0, none⟩ = some (.int .u64 52)
  e : w.cell? ⟨10, 1, none⟩ = some (.int .u64 11)
  b : w.cell? ⟨10, 2, none⟩ = some (.int .i64 (-1023))
theorem Flt.frm {S : Nat → Prop} {w w' : World} (h : Flt w) (k : Frm S w w') (h1 : ¬ S 10) : Flt w' :=
  ⟨cell_frm h.m k h1, cell_frm h.e k h1, cell_frm h.b k h1⟩
/-- The table powtab as it lies, in block P. -/
structure Powt (w : World) (P : Nat) : Prop where
  ex : ∃ o : Nat, w.cell? ⟨14, 0, none⟩ = some (.slice (some ⟨P, o, none⟩) 9 9) ∧ ∀ i, i < 9 → w.cell? ⟨P, o + i, none⟩ = some (.int .i64 (stepN i))
theorem Powt.frm {S : Nat → Prop} {w w' : World} {P : Nat} (h : Powt w P) (k : Frm S w w') (h1 : ¬ S P) (h2 : ¬ S 14) : Powt w' P :=
  ⟨by obtain ⟨o, a1, a2⟩ := h.ex; exact ⟨o, cell_frm a1 k h2, fun i hi => cell_frm (a2 i hi) k h1⟩⟩
/-- All tables that floatBits reads; none of them stands in block R. -/
structure Tb (w : World) (R B P : Nat) : Prop where
  ch : Cheat w B
  fl : Flt w
  pw : Powt w P
  n0 : R ≠ 0
  n1 : R ≠ B
  n2 : R ≠ 17
  n3 : R ≠ 10
  n4 : R ≠ P
  n5 : R ≠ 14
theorem Tb.frm {w w' : World} {R B P : Nat} (h : Tb w R B P) (k : Frm (At R) w w') : Tb w' R B P :=
  ⟨h.ch.frm k (fun e => h.n1 e.symm) (fun e => h.n2 e.symm), h.fl.frm k (fun e => h.n3 e.symm), h.pw.frm k (fun e => h.n4 e.symm) (fun e => h.n5 e.symm), h.n0, h.n1, h.n2, h.n3, h.n4, h.n5⟩

theorem L1.shr {a0 b0 : Nat} {e : Int} {j : Nat} {d : Dec} (h : L1 a0 b0 e j d.l d.dp d.tr) (hb0 : 0 < b0) (hg : Usc.Fair d.l) (hp : 0 < d.dp) (hx : Lt310 a0 b0) (k : Nat) (hk : 1 ≤ k) (hk2 : k ≤ 27) :
    L1 a0 b0 (e - k) (j + 1) (shr d k).l (shr d k).dp (shr d k).tr := h.step hb0 hg hp hx k hk hk2
theorem L2.shl {a0 b0 : Nat} {lo e : Int} {j : Nat} {d : Dec} (h : L2 a0 b0 lo e j d.l d.dp d.tr) (ha0 : 0 < a0) (hb0 : 0 < b0) (hg : Usc.Fair d.l) (hp : d.dp < 0 ∨ (d.dp = 0 ∧ d.l.getD 0 0 < 5)) (hx : Le331 a0 b0) (k : Nat) (hk : 1 ≤ k) (hk2 : k ≤ 27) :
    L2 a0 b0 lo (e + k) (j + 1) (shl d k).l (shl d k).dp (shl d k).tr := h.step ha0 hb0 hg hp hx k hk hk2

theorem shl_point {d : Dec} (hg : Usc.Fair d.l) (i : Nat) (hi : d.dp = -(i : Int)) (hp : 0 < i ∨ (i = 0 ∧ d.l.getD 0 0 < 5)) : d.dp ≤ (shl d (stepN i)).dp ∧ (shl d (stepN i)).dp ≤ 0 := by
  have h1 := (shl_pt hg (stepN i) 9 (Nat.le_trans (Nat.pow_le_pow_right (by decide) (stepN_le i).2) (by decide))).1
  have h2 := left_point (l := d.l) (dp := d.dp) hg (by omega)
  rw [show (-d.dp).toNat = i by omega] at h2
  exact ⟨h1, h2⟩
theorem shiftRn (w : World) (R : Nat) (d : Dec) (neg : Bool) (k : Nat) (h : DmD w R d neg) (hR : R ≠ 0)
    (hg : Usc.Fair d.l) (hk : 1 ≤ k) (hk2 : k ≤ 60) (hp : d.dp ≤ 100000) (hp2 : -100000 ≤ d.dp) (n : Int) (hn : n = -(k : Int)) :
    Calls Tryz.prog 223 #[.pointer (some ⟨R, 0, none⟩), .int .i64 n] w fun e w' => e = .returned (.tuple #[]) ∧ DmD w' R (shr d k) neg ∧ Frm (At R) w w' := by
  subst hn; exact shiftR w R d neg k h hR hg hk hk2 hp hp2
/-- The words that floatBits makes of the mantissa's length (52), behind names. -/
theorem mask52 : ∃ mb X Y Z U V W : Nat, mb = 52 ∧ IntKind.u64.wrap ((2 : Int) ^ mb) = (X : Int) ∧ IntKind.u64.wrap ((X : Int) - 1) = (Y : Int) ∧ IntKind.u64.wrap (2 * (2 : Int) ^ mb) = (Z : Int) ∧ IntKind.u64.wrap ((X : Int) * 2048) = (U : Int) ∧
    bits .and .u64 0 (Y : Int) = 0 ∧ bits .and .i64 2047 2047 = 2047 ∧ IntKind.u64.wrap (2047 * (2 : Int) ^ mb) = (V : Int) ∧ bits .or .u64 0 (V : Int) = (V : Int) ∧ bits .or .u64 (V : Int) (U : Int) = (W : Int) ∧ (X = 2 ^ 52 ∧ Y = 2 ^ 52 - 1 ∧ Z = 2 ^ 53 ∧ U = 9223372036854775808 ∧ V = 2047 * 2 ^ 52 ∧ W = 9223372036854775808 + 2047 * 2 ^ 52) :=
  ⟨52, 2 ^ 52, 2 ^ 52 - 1, 2 ^ 53, 9223372036854775808, 2047 * 2 ^ 52, 9223372036854775808 + 2047 * 2 ^ 52, rfl, by decide, by decide, by decide, by decide, by decide, by decide, by decide, by decide, by decide, rfl, rfl, rfl, rfl, rfl, rfl⟩
theorem shiftLn (w : World) (R B : Nat) (d : Dec) (neg : Bool) (k : Nat) (h : DmD w R d neg) (hT : Cheat w B) (hR : R ≠ 0) (hB : R ≠ B) (hG : R ≠ 17)
    (hg : Usc.Fair d.l) (hk : 1 ≤ k) (hk2 : k ≤ 60) (hp : d.dp ≤ 100000) (hp2 : -100000 ≤ d.dp) (n : Int) (hn : n = (k : Int)) :
    Calls Tryz.prog 223 #[.pointer (some ⟨R, 0, none⟩), .int .i64 n] w fun e w' => e = .returned (.tuple #[]) ∧ DmD w' R (shl d k) neg ∧ Frm (At R) w w' := by
  subst hn; exact shiftL w R B d neg k h hT hR hB hG hg hk hk2 hp hp2
theorem roundD (w : World) (R : Nat) (d : Dec) (neg : Bool) (h : DmD w R d neg) (hd : Digs d.l) (hR : R ≠ 0) (hp : d.dp ≤ 19) (hp2 : -100000 ≤ d.dp) (m : Nat) (hm : rInt d.l d.dp d.tr = m) :
    Calls Tryz.prog 281 #[.pointer (some ⟨R, 0, none⟩)] w fun e w' => e = .returned (.int .u64 (m : Int)) ∧ Frm No w w' := by
  subst hm
  rcases Int.lt_or_le d.dp 0 with h0 | h0
  · exact round_neg w R d.l d.dp neg d.tr h hd hR h0 hp2
  · obtain ⟨k, hk⟩ : ∃ k : Nat, d.dp = k := ⟨d.dp.toNat, by omega⟩
    have h' := h
    unfold DmD at h'
    rw [hk] at h' ⊢
    exact round_all w R d.l k neg d.tr h' hd hR (by omega)
theorem and_top {m : Nat} (h : m < 2 ^ 53) : m &&& 2 ^ 52 = if m < 2 ^ 52 then 0 else 2 ^ 52 := by
  have e : (2 : Nat) ^ 53 = 2 * 2 ^ 52 := by decide
  have hb : m.testBit 52 = decide (¬ m < 2 ^ 52) := by
    rw [Nat.testBit_eq_decide_div_mod_eq]
    rw [decide_eq_decide]
    omega
  apply Nat.eq_of_testBit_eq
  intro i
  rw [Nat.testBit_and, Nat.testBit_two_pow]
  by_cases hi : 52 = i
  · subst hi
    rw [hb]
    by_cases h1 : m < 2 ^ 52
    · rw [if_pos h1]; simp [h1]
    · rw [if_neg h1, Nat.testBit_two_pow]; simp [h1]
  · rw [decide_eq_false hi, Bool.and_false]
    by_cases h1 : m < 2 ^ 52
    · rw [if_pos h1, Nat.zero_testBit]
    · rw [if_neg h1, Nat.testBit_two_pow, decide_eq_false hi]
/-- The word out of its two parts, as the code puts it together. -/
theorem pack_eq {mb : Nat} (hmb : mb = 52) (m E : Nat) (hm : m < 2 ^ 52) (hE : E < 2048) : ∃ A V T W : Nat, bits .and .i64 (E : Int) 2047 = (E : Int) ∧ IntKind.u64.wrap (E : Int) = (A : Int) ∧ IntKind.u64.wrap ((A : Int) * (2 : Int) ^ mb) = (V : Int) ∧ bits .or .u64 (m : Int) (V : Int) = (T : Int) ∧ bits .or .u64 (T : Int) 9223372036854775808 = (W : Int) ∧ (T = m + E * 2 ^ 52 ∧ W = 9223372036854775808 + T) := by
  subst hmb
  have e52 : (2 : Nat) ^ 52 = 4503599627370496 := by decide
  have e63 : 9223372036854775808 = 2 ^ 63 := by decide
  have h1 : E * 2 ^ 52 < 2 ^ 63 := by omega
  have hor : m ||| E * 2 ^ 52 = m + E * 2 ^ 52 := by
    have := Nat.two_pow_add_eq_or_of_lt hm E
    rw [Nat.mul_comm (2 ^ 52) E] at this
    rw [Nat.or_comm, ← this]; omega
  have ht : m + E * 2 ^ 52 < 2 ^ 63 := by omega
  have hor2 : (m + E * 2 ^ 52) ||| 9223372036854775808 = 9223372036854775808 + (m + E * 2 ^ 52) := by
    have := Nat.two_pow_add_eq_or_of_lt ht 1
    rw [Nat.mul_one, ← e63] at this
    rw [Nat.or_comm, ← this]
  refine ⟨E, E * 2 ^ 52, m + E * 2 ^ 52, 9223372036854775808 + (m + E * 2 ^ 52), ?_, ?_, ?_, ?_, ?_, rfl, rfl⟩
  · have h := bits_mask .i64 63 (by decide) (fun n h0 h1 => by rw [IntKind.wrap_i64]; omega) 11 (by decide) (E : Int) (by omega) (by omega)
    have e1 : ((2 : Int) ^ 11 - 1) = 2047 := by decide
    have e2 : ((2 : Int) ^ 11) = 2048 := by decide
    rw [e1, e2] at h
    rw [h]; omega
  · exact Go.IntWalk.u64_in _ ⟨by omega, by omega⟩
  · have e : ∀ k : Nat, (E : Int) * (2 : Int) ^ k = ((E * 2 ^ k : Nat) : Int) := fun k => by rw [Int.natCast_mul, Int.natCast_pow]; rfl
    rw [e 52]; exact Go.IntWalk.u64_in _ ⟨by omega, by omega⟩
  · rw [bits_or_u64_nat _ _ (by omega) (by omega), hor]
  · have := bits_or_u64_nat (m + E * 2 ^ 52) 9223372036854775808 (by omega) (by omega)
    rw [hor2] at this
    exact this
theorem case_c {M X Y U : Nat} (hX : X = 2 ^ 52) (hY : Y = 2 ^ 52 - 1) (hU : U = 9223372036854775808) (hM : M < 2 ^ 52) : ∃ W : Nat, bits .and .u64 (M : Int) (X : Int) = 0 ∧ bits .and .u64 (M : Int) (Y : Int) = (M : Int) ∧ bits .and .i64 0 2047 = 0 ∧ bits .or .u64 (M : Int) 0 = (M : Int) ∧ bits .or .u64 (M : Int) (U : Int) = (W : Int) ∧ W = 9223372036854775808 + M := by
  subst hX; subst hY; subst hU
  have e52 : (2 : Nat) ^ 52 = 4503599627370496 := by decide
  have e53 : (2 : Nat) ^ 53 = 9007199254740992 := by decide
  have e63 : 9223372036854775808 = 2 ^ 63 := by decide
  have hM3 : M < 2 ^ 63 := by omega
  have hor2 : M ||| 9223372036854775808 = 9223372036854775808 + M := by
    have := Nat.two_pow_add_eq_or_of_lt hM3 1
    rw [Nat.mul_one, ← e63] at this
    rw [Nat.or_comm, ← this]
  refine ⟨9223372036854775808 + M, ?_, ?_, by decide, ?_, ?_, rfl⟩
  · rw [bits_and_u64_nat M (2 ^ 52) (by omega) (by omega), and_top (by omega), if_pos hM]; rfl
  · rw [bits_and_u64_nat M (2 ^ 52 - 1) (by omega) (by omega), Nat.and_two_pow_sub_one_eq_mod, Nat.mod_eq_of_lt hM]
  · have := bits_or_u64_nat M 0 (by omega) (by omega)
    rw [Nat.or_zero] at this
    exact this
  · have := bits_or_u64_nat M 9223372036854775808 (by omega) (by omega)
    rw [hor2] at this
    exact this
theorem ne_top {M Z : Nat} (hZ : Z = 2 ^ 53) (h : M < 2 ^ 53) : ((M : Int) == (Z : Int)) = false := by
  subst hZ
  rw [beq_eq_false_iff_ne]
  have e53 : (2 : Nat) ^ 53 = 9007199254740992 := by decide
  omega
theorem lt_top {M : Nat} (h : M < 2 ^ 52) : M < 2 ^ 53 := Nat.lt_trans h (by decide)
theorem case_d {M X Y : Nat} (hX : X = 2 ^ 52) (hY : Y = 2 ^ 52 - 1) (hM : 2 ^ 52 ≤ M) (hM2 : M < 2 ^ 53) : ∃ m : Nat, bits .and .u64 (M : Int) (X : Int) = (X : Int) ∧ ((X : Int) == 0) = false ∧ bits .and .u64 (M : Int) (Y : Int) = (m : Int) ∧ m = M - 2 ^ 52 ∧ m < 2 ^ 52 := by
  subst hX; subst hY
  have e52 : (2 : Nat) ^ 52 = 4503599627370496 := by decide
  have e53 : (2 : Nat) ^ 53 = 9007199254740992 := by decide
  refine ⟨M - 2 ^ 52, ?_, by decide, ?_, rfl, by omega⟩
  · rw [bits_and_u64_nat M (2 ^ 52) (by omega) (by omega), and_top hM2, if_neg (by omega)]
  · rw [bits_and_u64_nat M (2 ^ 52 - 1) (by omega) (by omega), Nat.and_two_pow_sub_one_eq_mod, show M % 2 ^ 52 = M - 2 ^ 52 by omega]
theorem case_b {X Y Z : Nat} (hX : X = 2 ^ 52) (hY : Y = 2 ^ 52 - 1) (hZ : Z = 2 ^ 53) : (Z : Int) / 2 = (X : Int) ∧ bits .and .u64 (X : Int) (X : Int) = (X : Int) ∧ ((X : Int) == 0) = false ∧ bits .and .u64 (X : Int) (Y : Int) = 0 := by
  subst hX; subst hY; subst hZ
  exact ⟨by decide, by decide, by decide, by decide⟩
/-- What the last shift and the rounding answer. -/
def Fin (a0 b0 : Nat) (d : Dec) (e : Int) : Prop := NB a0 b0 (bitsF (rInt (shl d 53).l (shl d 53).dp (shl d 53).tr) (e + 53)) ∧ rInt (shl d 53).l (shl d 53).dp (shl d 53).tr ≤ 2 ^ 53
/-- Too great: the word of infinity. -/
theorem fin_over {a0 b0 : Nat} {d : Dec} {e : Int} (h : Fin a0 b0 d e) (he : e ≤ -1025) : NB a0 b0 (2047 * 2 ^ 52) := by
  have h1 := h.1
  unfold bitsF at h1
  rwa [if_pos (by omega)] at h1
theorem not_inf {x : Nat} (h : x < 2047 * 2 ^ 52) : decide (2047 * 2 ^ 52 ≤ x) = false := decide_eq_false (by omega)
theorem low_c {M : Nat} (h : M < 2 ^ 52) : M < 2047 * 2 ^ 52 := Nat.lt_trans h (by decide)
theorem low_d {m E : Nat} (h : m < 2 ^ 52) (hE : E < 2047) : m + E * 2 ^ 52 < 2047 * 2 ^ 52 := by
  have : E * 2 ^ 52 ≤ 2046 * 2 ^ 52 := Nat.mul_le_mul_right _ (by omega)
  have e : 2047 * 2 ^ 52 = 2046 * 2 ^ 52 + 2 ^ 52 := by decide
  omega
theorem fin_c {a0 b0 M : Nat} {e : Int} (h : NB a0 b0 (bitsF M (e + 53))) (he : -1024 ≤ e) (hM : M < 2 ^ 52) : NB a0 b0 M := by
  have e53 : (2 : Nat) ^ 53 = 2 * 2 ^ 52 := by decide
  unfold bitsF at h
  rwa [if_neg (by omega), if_neg (by omega), if_pos hM] at h
theorem fin_d {a0 b0 M E : Nat} {e : Int} (h : NB a0 b0 (bitsF M (e + 53))) (he : -1024 ≤ e) (hM : 2 ^ 52 ≤ M) (hM2 : M < 2 ^ 53) (hE : (E : Int) = 1022 - e) : NB a0 b0 (M - 2 ^ 52 + E * 2 ^ 52) := by
  unfold bitsF at h
  rw [if_neg (by omega), if_neg (by omega), if_neg (by omega), show (1075 - (e + 53)).toNat = E by omega, Nat.add_comm] at h
  exact h
theorem fin_b {a0 b0 M E : Nat} {e : Int} (h : NB a0 b0 (bitsF M (e + 53))) (he : -1023 ≤ e) (hM : M = 2 ^ 53) (hE : (E : Int) = 1023 - e) : NB a0 b0 (0 + E * 2 ^ 52) := by
  unfold bitsF at h
  rw [if_neg (by omega), if_pos hM, if_neg (by omega), show (1075 - (e + 53 - 1)).toNat = E by omega] at h
  rw [Nat.zero_add]; exact h
theorem fin_b1 {a0 b0 M : Nat} {e : Int} (h : NB a0 b0 (bitsF M (e + 53))) (he : e = -1024) (hM : M = 2 ^ 53) : NB a0 b0 (2047 * 2 ^ 52) := by
  unfold bitsF at h
  rwa [if_neg (by omega), if_pos hM, if_pos (by omega)] at h
theorem fin_one {a0 b0 : Nat} {lo e : Int} {j : Nat} {d0 d : Dec} (h : L2 a0 b0 lo e j d.l d.dp d.tr) (h0 : d.dp = 0) (ha : a0 = tenN d0.val (d0.dp - d0.l.length)) (hb : b0 = tenD (d0.dp - d0.l.length)) (hD : d0.val < 10 ^ 700) (hq : -1030 ≤ d0.dp - d0.l.length)
    (ha0 : 0 < a0) (hg : Usc.Fair d.l) (h5 : 5 ≤ d.l.getD 0 0) (hx : Le331 a0 b0) (he : e ≤ 1021) : Fin a0 b0 d e := by
  subst ha; subst hb
  obtain ⟨l, dp, tr⟩ := d
  obtain rfl : dp = 0 := h0
  exact (L2.last h hD hq ha0 hg h5 hx he).2
theorem fin_two {a0 b0 : Nat} {lo e : Int} {j j' : Nat} {d0 d d2 : Dec} (h : L2 a0 b0 lo e j d.l d.dp d.tr) (h0 : d.dp = 0) (ha : a0 = tenN d0.val (d0.dp - d0.l.length)) (hb : b0 = tenD (d0.dp - d0.l.length)) (hD : d0.val < 10 ^ 700) (hq : -1030 ≤ d0.dp - d0.l.length)
    (ha0 : 0 < a0) (hg : Usc.Fair d.l) (h5 : 5 ≤ d.l.getD 0 0) (hx : Le331 a0 b0) (he : 1021 < e) (h2 : Run a0 b0 0 1130 j' 1021 (Deci.val d2.l) (d2.dp - d2.l.length) d2.tr) (hj' : j' ≤ 10000) (hg2 : Usc.Fair d2.l) : Fin a0 b0 d2 1021 := by
  subst ha; subst hb
  obtain ⟨l, dp, tr⟩ := d
  obtain rfl : dp = 0 := h0
  exact L2.last2 h hD hq ha0 hg h5 hx he h2 hj' hg2
theorem run_one {a0 b0 : Nat} {lo e : Int} {j : Nat} {d : Dec} (h : L2 a0 b0 lo e j d.l d.dp d.tr) (he : 1021 < e) (k : Nat) (hk : e - k = 1021) : Run a0 b0 0 1130 (j + 1) 1021 (Deci.val (shr d k).l) ((shr d k).dp - (shr d k).l.length) (shr d k).tr := by
  obtain ⟨hr, hlo, hlow, hge, hle, hc, hu, hro⟩ := h
  have h0 : lo = 0 := by omega
  subst h0
  have r := (hr.widen (lo' := 0) (hi' := 1130) (Int.le_refl _) (by omega)).shr k (by omega) (by omega)
  rw [hk] at r
  exact r
theorem run_two {a0 b0 : Nat} {lo e : Int} {j : Nat} {d : Dec} (h : L2 a0 b0 lo e j d.l d.dp d.tr) (he : 1021 < e) (m k : Nat) (hk : e - m - k = 1021) : Run a0 b0 0 1130 (j + 1 + 1) 1021 (Deci.val (shr (shr d m) k).l) ((shr (shr d m) k).dp - (shr (shr d m) k).l.length) (shr (shr d m) k).tr := by
  obtain ⟨hr, hlo, hlow, hge, hle, hc, hu, hro⟩ := h
  have h0 : lo = 0 := by omega
  subst h0
  have r := (hr.widen (lo' := 0) (hi' := 1130) (Int.le_refl _) (by omega)).shr m (by omega) (by omega)
  have r2 := Run.shr (l := (shr d m).l) (dp := (shr d m).dp) k r (by omega) (by omega)
  rw [hk] at r2
  exact r2
theorem great_of {a0 b0 : Nat} {d : Dec} (hg : Usc.Fair d.l) (hp : d.dp ≤ 310) (ha : a0 = tenN d.val (d.dp - d.l.length)) (hb : b0 = tenD (d.dp - d.l.length)) : Lt310 a0 b0 := by
  subst ha; subst hb; exact great_point hg hp
theorem small_of {a0 b0 : Nat} {d : Dec} (hg : Usc.Fair d.l) (hp : -330 ≤ d.dp) (ha : a0 = tenN d.val (d.dp - d.l.length)) (hb : b0 = tenD (d.dp - d.l.length)) : Le331 a0 b0 := by
  subst ha; subst hb; exact small_point hg hp

end Go.Proofs.YtcjeeoadgoghfaaGreatDoor.deca

namespace Go.Proofs.YtcjeeoadgoghfaaGreatDoor.deca
set_option linter.unusedVariables false set_option linter.unusedSimpArgs false
open Go.ChangeShapes Go.WideShapes Go.ChangeAt Go.RowKit Go.Proofs.YtcjeeoadgoghfaaGreatDoor.base Go.Proofs.YtcjeeoadgoghfaaGreatDoor.Deci Go.Proofs.YtcjeeoadgoghfaaGreatDoor.Usc

theorem lpow (w : World) (p : Int) (h1 : -1000 ≤ p) (h2 : p ≤ 1000) : Calls Tryz.prog 257 #[.int .i64 p] w fun e w' => e = .returned (.int .i64 (lpOf p)) ∧ w' = w := by
  go_enter Tryz.func257, Tryz.ntmps257
  go_wp2
  go_ret
  exact ⟨rfl, rfl⟩
theorem unmin53 : ∃ U : Nat, U = 2 ^ 55 - 2 ∧ ∀ w : World, Calls Tryz.prog 263 #[.int .u64 9007199254740992] w fun e w' => e = .returned (.int .u64 U) ∧ w' = w := by
  refine ⟨36028797018963966, by decide, fun w => ?_⟩
  obtain ⟨x, hx⟩ : ∃ x : Int, 9007199254740992 = x := ⟨_, rfl⟩
  obtain ⟨y, e1, hy⟩ : ∃ y : Int, IntKind.u64.wrap (x * 4) = y ∧ y = 36028797018963968 := ⟨_, rfl, by rw [← hx]; decide⟩
  obtain ⟨z, e2, hz⟩ : ∃ z : Int, IntKind.u64.wrap (y - 2) = z ∧ z = 36028797018963966 := ⟨_, rfl, by rw [hy]; decide⟩
  rw [hx]
  have HZ := Lib.hid hz
  clear hx hy hz
  go_enter Tryz.func263, Tryz.ntmps263
  go_wp2
  go_ret
  exact ⟨by rw [HZ.out]; rfl, rfl⟩
theorem roundU (w : World) (u : Nat) (hu : u ≤ 2 ^ 56) : Calls Tryz.prog 262 #[.int .u64 u] w fun e w' => e = .returned (.int .u64 (urnd u : Nat)) ∧ w' = w := by
  have e56 : (2 : Nat) ^ 56 = 72057594037927936 := by decide
  obtain ⟨a, e1, ha⟩ : ∃ a : Nat, IntKind.u64.wrap ((u : Int) + 1) = (a : Int) ∧ a = u + 1 := ⟨u + 1, by rw [Go.IntWalk.u64_in _ ⟨by omega, by omega⟩]; omega, rfl⟩
  obtain ⟨q, e2, hq⟩ : ∃ q : Nat, (u : Int) / 4 = (q : Int) ∧ q = u / 4 := ⟨u / 4, by omega, rfl⟩
  obtain ⟨r, e3, hr⟩ : ∃ r : Nat, bits .and .u64 (q : Int) 1 = (r : Int) ∧ r = q % 2 := by
    refine ⟨q % 2, ?_, rfl⟩
    have := bits_and_u64_nat q 1 (by omega) (by decide)
    rw [show (1 : Nat) = 2 ^ 1 - 1 by decide, Nat.and_two_pow_sub_one_eq_mod] at this
    exact this
  obtain ⟨b, e4, hb⟩ : ∃ b : Nat, IntKind.u64.wrap ((a : Int) + (r : Int)) = (b : Int) ∧ b = a + r := ⟨a + r, by rw [Go.IntWalk.u64_in _ ⟨by omega, by omega⟩]; omega, rfl⟩
  obtain ⟨c, e5, hc⟩ : ∃ c : Nat, (b : Int) / 4 = (c : Int) ∧ c = b / 4 := ⟨b / 4, by omega, rfl⟩
  have HC := Lib.hid (show c = urnd u by unfold urnd; rw [hc, hb, ha, hr, hq])
  clear hu e56 ha hq hr hb hc
  go_enter Tryz.func262, Tryz.ntmps262
  go_wp2
  go_ret
  exact ⟨ret_int (by rw [HC.out]), rfl⟩

/-- The sign's word. -/
def Sgn (S : Nat) : Prop := S = 0 ∨ S = 2 ^ 63
theorem and_pow (n i : Nat) : n &&& 2 ^ i = if n.testBit i then 2 ^ i else 0 := by
  apply Nat.eq_of_testBit_eq
  intro j
  rw [Nat.testBit_and, Nat.testBit_two_pow]
  by_cases h : i = j
  · subst h
    cases hb : n.testBit i
    · simp
    · simp [Nat.testBit_two_pow]
  · rw [decide_eq_false h, Bool.and_false]
    split
    · rw [Nat.testBit_two_pow, decide_eq_false h]
    · rw [Nat.zero_testBit]
theorem sg_or {S m : Nat} (hS : Sgn S) (hm : m < 2 ^ 63) : S ||| m = S + m := by
  rcases hS with rfl | rfl
  · rw [Nat.zero_or, Nat.zero_add]
  · have := Nat.two_pow_add_eq_or_of_lt hm 1
    rw [Nat.mul_one] at this
    exact this.symm
theorem sg_bit {S : Nat} (hS : Sgn S) {i : Nat} (hi : i ≠ 63) : S.testBit i = false := by
  rcases hS with rfl | rfl
  · exact Nat.zero_testBit i
  · rw [Nat.testBit_two_pow, decide_eq_false (fun e => hi e.symm)]
theorem sg_lt {S : Nat} (hS : Sgn S) : S ≤ 2 ^ 63 := by
  rcases hS with rfl | rfl <;> decide
theorem top_or {m : Nat} (hm : m < 2 ^ 52) : m ||| 2 ^ 52 = m + 2 ^ 52 := by
  have := Nat.two_pow_add_eq_or_of_lt hm 1
  rw [Nat.mul_one] at this
  rw [Nat.or_comm, ← this, Nat.add_comm]
theorem pack_and {S r : Nat} (hS : Sgn S) (hr : r < 2 ^ 53) : (S + r) &&& 2 ^ 52 = if r < 2 ^ 52 then 0 else 2 ^ 52 := by
  have e63 : (2 : Nat) ^ 53 ≤ 2 ^ 63 := by decide
  rw [← sg_or hS (by omega), and_pow, Nat.testBit_or, sg_bit hS (by decide), Bool.false_or]
  have e : (2 : Nat) ^ 53 = 2 * 2 ^ 52 := by decide
  have hb : r.testBit 52 = decide (¬ r < 2 ^ 52) := by
    rw [Nat.testBit_eq_decide_div_mod_eq]
    rw [decide_eq_decide]
    omega
  rw [hb]
  by_cases h : r < 2 ^ 52
  · rw [if_pos h]; simp [h]
  · rw [if_neg h]; simp [h]
theorem pack_sign {S r : Nat} (hS : Sgn S) (hr : r < 2 ^ 53) : (S + r) &&& 2 ^ 63 = S := by
  have e63 : (2 : Nat) ^ 53 ≤ 2 ^ 63 := by decide
  rw [← sg_or hS (by omega), and_pow, Nat.testBit_or, Nat.testBit_lt_two_pow (show r < 2 ^ 63 by omega), Bool.or_false]
  rcases hS with rfl | rfl
  · rw [Nat.zero_testBit]; rfl
  · rw [Nat.testBit_two_pow]; rfl
theorem pack_not {S r : Nat} (hS : Sgn S) (h1 : 2 ^ 52 ≤ r) (hr : r < 2 ^ 53) : (S + r) &&& (18446744073709551615 - 2 ^ 52) = S + (r - 2 ^ 52) := by
  have e53 : (2 : Nat) ^ 53 = 2 * 2 ^ 52 := by decide
  have e63 : (2 : Nat) ^ 53 ≤ 2 ^ 63 := by decide
  obtain ⟨m, hm⟩ : ∃ m, r - 2 ^ 52 = m := ⟨_, rfl⟩
  have hm2 : m < 2 ^ 52 := by omega
  have hr2 : r = m ||| 2 ^ 52 := by rw [top_or hm2]; omega
  rw [hm, ← sg_or hS (show r < 2 ^ 63 by omega), ← sg_or hS (show m < 2 ^ 63 by omega), hr2]
  have e : 18446744073709551615 - 2 ^ 52 = 2 ^ 64 - (2 ^ 52 + 1) := by decide
  rw [e]
  apply Nat.eq_of_testBit_eq
  intro i
  rw [Nat.testBit_and, Nat.testBit_or, Nat.testBit_or, Nat.testBit_or, Nat.testBit_two_pow, Nat.testBit_two_pow_sub_succ (by decide), Nat.testBit_two_pow]
  by_cases hi : 52 = i
  · subst hi
    rw [sg_bit hS (by decide), Nat.testBit_lt_two_pow hm2]
    simp
  · rw [decide_eq_false hi, Bool.or_false, Bool.not_false, Bool.and_true]
    by_cases h64 : i < 64
    · rw [decide_eq_true h64, Bool.and_true]
    · rw [decide_eq_false h64, Bool.and_false, sg_bit hS (by omega)]
      have hp : (2 : Nat) ^ 52 ≤ 2 ^ i := Nat.pow_le_pow_right (by decide) (by omega)
      rw [Nat.testBit_lt_two_pow (show m < 2 ^ i by omega)]
      rfl
theorem pack_join {S m E : Nat} (hS : Sgn S) (hm : m < 2 ^ 52) (hE : E < 2048) : (S + m) ||| E * 2 ^ 52 = S + (m + E * 2 ^ 52) := by
  have e63 : (2 : Nat) ^ 63 = 2048 * 2 ^ 52 := by decide
  have h1 : E * 2 ^ 52 ≤ 2047 * 2 ^ 52 := Nat.mul_le_mul_right _ (by omega)
  have e47 : 2048 * 2 ^ 52 = 2047 * 2 ^ 52 + 2 ^ 52 := by decide
  have hor : m ||| E * 2 ^ 52 = m + E * 2 ^ 52 := by
    have := Nat.two_pow_add_eq_or_of_lt hm E
    rw [Nat.mul_comm (2 ^ 52) E] at this
    rw [Nat.or_comm, ← this]; omega
  rw [← sg_or hS (show m < 2 ^ 63 by omega), Nat.or_assoc, hor, sg_or hS (by omega)]

theorem run_frombits64 (x : Nat) (W : World) : (callFunc 246 #[.int .u64 x]).run Tryz.prog W = .ok (.value (.float .f64 x)) W := by
  rw [run_callFunc_extern (e := Extern.MathFloatBits.float64frombits) Tryz.func246 (by kernel_rfl) (by kernel_rfl) (by kernel_rfl) (by kernel_rfl)]
  rfl
/-- The words of pack64, behind names. -/
theorem pack_words {S r : Nat} (hS : Sgn S) (hr : r < 2 ^ 53) : ∃ N : Nat, N = S + r ∧
    (r < 2 ^ 52 → bits .and .u64 (N : Int) 4503599627370496 = 0) ∧
    (2 ^ 52 ≤ r → bits .and .u64 (N : Int) 4503599627370496 = 4503599627370496) ∧
    (∃ S2 I : Nat, bits .and .u64 (N : Int) 9223372036854775808 = (S2 : Int) ∧ bits .or .u64 (S2 : Int) 9218868437227405312 = (I : Int) ∧ I = S + 2047 * 2 ^ 52) ∧
    (∀ E : Nat, 2 ^ 52 ≤ r → E < 2048 → ∃ K V T : Nat, bits .andNot .u64 (N : Int) 4503599627370496 = (K : Int) ∧ IntKind.u64.wrap (E : Int) = (E : Int) ∧ IntKind.u64.wrap ((E : Int) * 4503599627370496) = (V : Int) ∧ bits .or .u64 (K : Int) (V : Int) = (T : Int) ∧ T = S + (r - 2 ^ 52 + E * 2 ^ 52)) := by
  have e52 : (2 : Nat) ^ 52 = 4503599627370496 := by decide
  have e53 : (2 : Nat) ^ 53 = 9007199254740992 := by decide
  have e63 : (2 : Nat) ^ 63 = 9223372036854775808 := by decide
  have hSl := sg_lt hS
  have ha := pack_and hS hr
  have hb := bits_and_u64_nat (S + r) (2 ^ 52) (by omega) (by omega)
  rw [ha] at hb
  rw [e52] at hb
  refine ⟨S + r, rfl, fun h => ?_, fun h => ?_, ?_, fun E h hE => ?_⟩
  · rw [if_pos (by omega)] at hb; exact hb
  · rw [if_neg (by omega)] at hb; exact hb
  · refine ⟨S, S + 2047 * 2 ^ 52, ?_, ?_, rfl⟩
    · have := bits_and_u64_nat (S + r) (2 ^ 63) (by omega) (by omega)
      rw [pack_sign hS hr, e63] at this
      exact this
    · have := bits_or_u64_nat S (2047 * 2 ^ 52) (by omega) (by omega)
      rw [sg_or hS (by omega), show (2047 : Nat) * 2 ^ 52 = 9218868437227405312 by decide] at this
      rw [show (2047 : Nat) * 2 ^ 52 = 9218868437227405312 by decide]
      exact this
  · have hEm : E * 2 ^ 52 ≤ 2047 * 2 ^ 52 := Nat.mul_le_mul_right _ (by omega)
    have hm : r - 2 ^ 52 < 2 ^ 52 := by omega
    refine ⟨S + (r - 2 ^ 52), E * 2 ^ 52, S + (r - 2 ^ 52 + E * 2 ^ 52), ?_, ?_, ?_, ?_, rfl⟩
    · have := u64_andNot_nat (S + r) (2 ^ 52) (by omega) (by omega)
      rw [pack_not hS h hr, e52] at this
      rw [e52]; exact this
    · exact Go.IntWalk.u64_in _ ⟨by omega, by omega⟩
    · rw [Go.IntWalk.u64_in _ ⟨by omega, by omega⟩]; omega
    · rw [bits_or_u64_nat _ _ (by omega) (by omega), pack_join hS hm hE]

set_option maxRecDepth 20000 in
set_option maxHeartbeats 1000000 in
/-- No error, or that of a value out of range. -/
def Er (er : Value) : Prop := er = .nilIface ∨ er = .iface 181 (.int .i64 1)
theorem pack_all (w : World) (S r : Nat) (f : Int) (hS : Sgn S) (hr : r < 2 ^ 53) (hf : f ≤ 1074) (hf2 : -100000 ≤ f) (n : Nat) (hn : n = S + r) (g : Int) (hg : g = -f) :
    Calls Tryz.prog 282 #[.int .u64 n, .int .i64 g] w fun e w' => (∃ er, Er er ∧ e = .returned (.tuple #[.float .f64 (S + packF r f), er])) ∧ w' = w := by
  obtain ⟨N, hN, h1, h2, ⟨S2, I, g1, g2, hI⟩, h3⟩ := pack_words hS hr
  obtain rfl : n = N := by omega
  by_cases hlow : r < 2 ^ 52
  · have e1 := h1 hlow
    have hfb := run_frombits64 n
    have HR := Lib.hid (show n = S + packF r f by unfold packF; rw [if_pos hlow]; exact hn)
    clear h1 h2 h3 g1 g2 hI hr hlow hN hn hg
    go_enter Tryz.func282, Tryz.ntmps282
    go_wp2
    refine bodyPost_ret (v := .tuple #[.float .f64 n, .nilIface]) (by simp [results, Tryz.results282, go_sem]) rfl ⟨⟨.nilIface, Or.inl rfl, ?_⟩, rfl⟩
    rw [← HR.out]
  · have e1 := h2 (by omega)
    by_cases hinf : f < -971
    · have f1 : (972 : Int) ≤ g := by omega
      have hfb := run_frombits64 I
      have HR := Lib.hid (show I = S + packF r f by unfold packF; rw [if_neg hlow, if_pos hinf]; exact hI)
      clear h1 h2 h3 hI hr hlow hN hn hg hinf
      go_enter Tryz.func282, Tryz.ntmps282
      go_wp2
      refine bodyPost_ret (v := .tuple #[.float .f64 I, .iface 181 (.int .i64 1)]) (by simp [results, Tryz.results282, go_sem]) rfl ⟨⟨.iface 181 (.int .i64 1), Or.inr rfl, ?_⟩, rfl⟩
      rw [← HR.out]
    · have f1 : g < 972 := by omega
      obtain ⟨E, hE⟩ : ∃ E : Nat, 1075 + g = E := ⟨(1075 + g).toNat, by omega⟩
      obtain ⟨K, V, T, k1, k2, k3, k4, hT⟩ := h3 E (by omega) (by omega)
      have hfb := run_frombits64 T
      have HR := Lib.hid (show T = S + packF r f by unfold packF; rw [if_neg hlow, if_neg hinf, show (1075 - f).toNat = E by omega, hT]; omega)
      have hg2 : -1074 ≤ g := by omega
      clear h1 h2 h3 g1 g2 hI hr hlow hN hn hg hinf hT
      go_enter Tryz.func282, Tryz.ntmps282
      go_wp2
      refine bodyPost_ret (v := .tuple #[.float .f64 T, .nilIface]) (by simp [results, Tryz.results282, go_sem]) rfl ⟨⟨.nilIface, Or.inl rfl, ?_⟩, rfl⟩
      rw [← HR.out]

/-- pow10Tab as it lies. -/
def Ten (w : World) : Prop := ∀ i, i < 696 → w.cell? ⟨16, i * 2, none⟩ = some (.int .u64 (rowHi i)) ∧ w.cell? ⟨16, i * 2 + 1, none⟩ = some (.int .u64 (rowLo i))
theorem Ten.frm {S : Nat → Prop} {w w' : World} (h : Ten w) (k : Frm S w w') (h1 : ¬ S 16) : Ten w' :=
  fun i hi => ⟨cell_frm (h i hi).1 k h1, cell_frm (h i hi).2 k h1⟩

set_option maxRecDepth 20000 in
set_option maxHeartbeats 1000000 in
theorem prescale_all (w : World) (b : Nat) (v0 v1 v2 : Value) (hb : Box w b 287 #[v0, v1, v2]) (hT : Ten w) (i : Nat) (hi : i < 696) (hb0 : b ≠ 0) (hbg : b ≠ 16)
    (e p lp : Int) (hp : p + 348 = i) (h1 : -100000 ≤ e) (h2 : e ≤ 100000) (h3 : -100000 ≤ lp) (h4 : lp ≤ 100000) :
    Calls Tryz.prog 256 #[.pointer (some ⟨b, 0, none⟩), .int .i64 e, .int .i64 p, .int .i64 lp] w fun en w' => en = .returned (.tuple #[]) ∧ Box w' b 287 #[.int .u64 (rowHi i), .int .u64 (rowLo i), .int .i64 (-(e + lp + 3))] ∧ Frm (At b) w w' := by
  obtain ⟨t0, t1⟩ := hT i hi
  obtain ⟨x, hx⟩ : ∃ x, rowHi i = x := ⟨_, rfl⟩
  obtain ⟨y, hy⟩ : ∃ y, rowLo i = y := ⟨_, rfl⟩
  rw [hx] at t0 ⊢
  rw [hy] at t1 ⊢
  have b0 : w.cell? ⟨b, 0, none⟩ = some v0 := hb.cell 0
  have b1 : w.cell? ⟨b, 1, none⟩ = some v1 := hb.cell 1
  have b2 : w.cell? ⟨b, 2, none⟩ = some v2 := hb.cell 2
  have f0 := hb.f 0
  have f1 := hb.f 1
  have f2 := hb.f 2
  have HB := Lib.hid hb
  have i1 : (0 : Int) ≤ (i : Int) := by omega
  have i2 : (i : Int) < 696 := by omega
  clear hT hx hy hb
  go_enter Tryz.func256, Tryz.ntmps256
  go_wp2
  refine bodyPost_end (v := .tuple #[]) (by simp [results, Tryz.results256, go_sem]) rfl ⟨rfl, ?_, ?_⟩
  · exact ((HB.out.set 0 _).set 1 _).set 2 _
  · exact (((Frm.refl (At b) w).setCell ⟨b, 0, none⟩ _ (fun _ => rfl)).setCell ⟨b, 1, none⟩ _ (fun _ => rfl)).setCell ⟨b, 2, none⟩ _ (fun _ => rfl)

theorem lpOf_bnd {p : Int} (h1 : -348 ≤ p) (h2 : p ≤ 347) : -1160 ≤ lpOf p ∧ lpOf p ≤ 1160 := by unfold lpOf; omega
theorem len64 {d : Nat} (hd0 : d ≠ 0) (hd : W64 d) (w : World) : ∃ b : Nat, 1 ≤ b ∧ b ≤ 64 ∧ 2 ^ (b - 1) ≤ d ∧ d < 2 ^ b ∧ ∀ w : World, Calls Tryz.prog 178 #[.int .u64 d] w fun e w' => e = .returned (.int .i64 (b : Int)) ∧ w' = w := by
  have h := hd.out
  have e64 : (2 : Nat) ^ 64 = 18446744073709551616 := by decide
  have hb := Lib.bitLenAux_bounds 64 d (by omega) hd0
  have hle := Lib.bitLen_le d 64 (by omega) (by omega)
  refine ⟨Lib.bitLen d, hb.1, hle, hb.2.1, hb.2.2, fun w => ?_⟩
  have := Tryz.bits_Len64 (d : Int) w (by omega) (by omega)
  rwa [Int.toNat_natCast] at this
end Go.Proofs.YtcjeeoadgoghfaaGreatDoor.deca

namespace Go.Proofs.YtcjeeoadgoghfaaGreatDoor.deca
set_option linter.unusedVariables false set_option linter.unusedSimpArgs false
open Go.ChangeShapes Go.WideShapes Go.ChangeAt Go.RowKit Go.Proofs.YtcjeeoadgoghfaaGreatDoor.base Go.Proofs.YtcjeeoadgoghfaaGreatDoor.Deci Go.Proofs.YtcjeeoadgoghfaaGreatDoor.Usc

theorem low_bit (u : Nat) (hu : u ≤ 2 ^ 56) : ∃ r : Nat, bits .and .u64 (u : Int) 1 = (r : Int) ∧ r = u % 2 := by
  have e56 : (2 : Nat) ^ 56 = 72057594037927936 := by decide
  refine ⟨u % 2, ?_, rfl⟩
  have := bits_and_u64_nat u 1 (by omega) (by decide)
  rw [show (1 : Nat) = 2 ^ 1 - 1 by decide, Nat.and_two_pow_sub_one_eq_mod] at this
  exact this
/-- u where it isn't too great, half of it where it is. -/
theorem step_low {u : Nat} (hu : u ≤ 2 ^ 56) : ∃ r : Nat, bits .and .u64 (u : Int) 1 = (r : Int) ∧ bits .or .u64 (u : Int) (r : Int) = (u : Int) := by
  have e56 : (2 : Nat) ^ 56 = 72057594037927936 := by decide
  obtain ⟨r, h1, h2⟩ := low_bit u hu
  refine ⟨r, h1, ?_⟩
  subst h2
  rcases Nat.mod_two_eq_zero_or_one u with h | h
  · rw [h]
    have := bits_or_u64_nat u 0 (by omega) (by decide)
    rw [Nat.or_zero] at this
    exact this
  · rw [h]
    have h3 := or_orb (q := u) (show W64 u by unfold W64; omega) true
    unfold orb at h3
    rw [if_pos rfl, if_pos h] at h3
    exact h3
theorem step_high {u : Nat} (hu : u ≤ 2 ^ 56) : ∃ r q v : Nat, bits .and .u64 (u : Int) 1 = (r : Int) ∧ (u : Int) / 2 = (q : Int) ∧ bits .or .u64 (q : Int) (r : Int) = (v : Int) ∧ v = halfU u := by
  have e56 : (2 : Nat) ^ 56 = 72057594037927936 := by decide
  obtain ⟨r, h1, h2⟩ := low_bit u hu
  refine ⟨r, u / 2, halfU u, h1, by omega, ?_, rfl⟩
  subst h2
  have h3 := or_orb (q := u / 2) (show W64 (u / 2) by unfold W64; omega) (decide (u % 2 = 1))
  unfold halfU
  rw [← h3]
  rcases Nat.mod_two_eq_zero_or_one u with h | h
  · rw [h]; rfl
  · rw [h]; rfl
theorem urnd_low {u : Nat} (h : ¬ 2 ^ 55 - 2 ≤ u) : urnd u < 2 ^ 53 := by
  have e55 : (2 : Nat) ^ 55 = 36028797018963968 := by decide
  have e53 : (2 : Nat) ^ 53 = 9007199254740992 := by decide
  unfold urnd
  omega
theorem urnd_high {u : Nat} (h : u ≤ 2 ^ 56 - 7) : urnd (halfU u) < 2 ^ 53 ∧ halfU u ≤ 2 ^ 56 := by
  have e56 : (2 : Nat) ^ 56 = 72057594037927936 := by decide
  have e53 : (2 : Nat) ^ 53 = 9007199254740992 := by decide
  have h2 : halfU u ≤ u / 2 + 1 := by
    unfold halfU orb
    split
    · split <;> omega
    · omega
  have h3 : halfU u % 2 = 1 ∨ halfU u = u / 2 := by
    unfold halfU orb
    split
    · split
      · right; rfl
      · left; omega
    · right; rfl
  unfold urnd
  omega
theorem sign_or {S r : Nat} (hS : Sgn S) (hr : r < 2 ^ 53) : ∃ n : Nat, bits .or .u64 (S : Int) (r : Int) = (n : Int) ∧ n = S + r := by
  have e63 : (2 : Nat) ^ 63 = 9223372036854775808 := by decide
  have e53 : (2 : Nat) ^ 53 = 9007199254740992 := by decide
  have := sg_lt hS
  refine ⟨S + r, ?_, rfl⟩
  rw [bits_or_u64_nat S r (by omega) (by omega), sg_or hS (by omega)]
theorem shl_word {d b : Nat} (hb1 : 1 ≤ b) (hb64 : b ≤ 64) (h2 : d < 2 ^ b) (k : Nat) (hk : k = 64 - b) : ∃ x : Nat, IntKind.u64.wrap ((d : Int) * 2 ^ k) = (x : Int) ∧ x = d * 2 ^ (64 - b) ∧ W64 x := by
  subst hk
  have hx2 : d * 2 ^ (64 - b) < 2 ^ 64 := by
    have e : (2 : Nat) ^ 64 = 2 ^ b * 2 ^ (64 - b) := by rw [← Nat.pow_add]; congr 1; omega
    rw [e]
    exact Nat.mul_lt_mul_of_pos_right h2 (Nat.pow_pos (by omega))
  have e64 : (2 : Nat) ^ 64 = 18446744073709551616 := by decide
  refine ⟨d * 2 ^ (64 - b), ?_, rfl, by unfold W64; omega⟩
  have e : (d : Int) * 2 ^ (64 - b) = ((d * 2 ^ (64 - b) : Nat) : Int) := by rw [Int.natCast_mul, Int.natCast_pow]; rfl
  rw [e]; exact Go.IntWalk.u64_in _ ⟨by omega, by omega⟩
theorem hi_one {d b i : Nat} (hi6 : i < 696) (hb1 : 1 ≤ b) (hb64 : b ≤ 64) (h1 : 2 ^ (b - 1) ≤ d) : 1 ≤ hiW (d * 2 ^ (64 - b)) (rowHi i) := by
  have hx1 : 2 ^ 63 ≤ d * 2 ^ (64 - b) := by
    have e : (2 : Nat) ^ 63 = 2 ^ (b - 1) * 2 ^ (64 - b) := by rw [← Nat.pow_add]; congr 1; omega
    rw [e]
    exact Nat.mul_le_mul_right _ h1
  have h2 := Nat.mul_le_mul hx1 (row_top hi6).1
  have e : (2 : Nat) ^ 63 * 2 ^ 63 = 4611686018427387904 * 18446744073709551616 := by decide
  unfold hiW
  rw [e] at h2
  apply (Nat.le_div_iff_mul_le (by decide)).2
  refine Nat.le_trans ?_ h2
  decide

set_option maxRecDepth 20000 in
set_option maxHeartbeats 2000000 in
theorem par_all (w : World) (d S : Nat) (p : Int) (hS : Sgn S) (hd0 : d ≠ 0) (hd : W64 d) (hp1 : -348 ≤ p) (hp2 : p ≤ 347) (hT : Ten w) (hgl : 16 < w.heap.size) :
    Calls Tryz.prog 248 #[.int .u64 d, .int .i64 p, .int .u64 S] w fun e w' => (∃ (x : Nat) (er : Value), Er er ∧ NB (tenN d p) (tenD p) x ∧ e = .returned (.tuple #[.float .f64 (S + x), er])) ∧ Frm No w w' := by
  obtain ⟨b, hb1, hb64, hd1, hd2, hlen⟩ := len64 hd0 hd w
  obtain ⟨i, hi⟩ : ∃ i : Nat, p + 348 = i := ⟨(p + 348).toNat, by omega⟩
  have hi6 : i < 696 := by omega
  have hpi : (i : Int) - 348 = p := by omega
  have HNB := Lib.hid (at_table (d := d) (b := b) (p := p) i hi hi6 hb1 hb64 hd1 hd2)
  have HLEN := Lib.hid hlen
  have hlp := lpOf_bnd hp1 hp2
  obtain ⟨lp, hlpe⟩ : ∃ lp, lpOf p = lp := ⟨_, rfl⟩
  have HLP := Lib.hid hlpe
  rw [hlpe] at hlp
  obtain ⟨f, hf⟩ : ∃ f : Int, (if 53 - (b : Int) - lpOf ((i : Int) - 348) < 1074 then 53 - (b : Int) - lpOf ((i : Int) - 348) else 1074) = f := ⟨_, rfl⟩
  obtain ⟨s, hs⟩ : ∃ s : Nat, (61 - (b : Int) - lpOf ((i : Int) - 348) - f).toNat = s := ⟨_, rfl⟩
  obtain ⟨hs8, hse, hu⟩ := usc_table d b i hi6 hb1 hb64 hd1 hd2 f hf s hs
  have HPF := Lib.hid (show parF d b i (rowHi i) (rowLo i) = if 64 ≤ s then 0 else if 2 ^ 55 - 2 ≤ usc (d * 2 ^ (64 - b)) (rowHi i) (rowLo i) s then packF (urnd (halfU (usc (d * 2 ^ (64 - b)) (rowHi i) (rowLo i) s))) (f - 1) else packF (urnd (usc (d * 2 ^ (64 - b)) (rowHi i) (rowLo i) s)) f by unfold parF; simp only [hf, hs])
  rw [hpi, hlpe] at hf hse
  have hff : f ≤ 1074 ∧ -1300 ≤ f := by rw [← hf]; split <;> omega
  obtain ⟨hf1, hf2⟩ := hff
  have hmin : min 1074 (53 - (b : Int) - lp) = f := by rw [← hf]; split <;> omega
  obtain ⟨x, ex, hx, hxW⟩ := shl_word hb1 hb64 hd2 (64 - b) rfl
  have h1W := hi_one hi6 hb1 hb64 hd1
  have hHW : W64 (rowHi i) := (row_top hi6).2
  have hLW : W64 (rowLo i) := row_low i
  rw [← hx] at hu h1W HPF
  have HX := Lib.hid (And.intro hxW (And.intro h1W (And.intro hHW hLW)))
  have HT := Lib.hid hT
  have HS := Lib.hid hS
  have HI := Lib.hid (And.intro hi hi6)
  have hbs : (b : Int) ≤ 64 := by omega
  have hbs1 : (1 : Int) ≤ (b : Int) := by omega
  obtain ⟨u, huu⟩ : ∃ u, usc x (rowHi i) (rowLo i) s = u := ⟨_, rfl⟩
  have HUU := Lib.hid huu
  rw [huu] at hu HPF
  have hsq : -(f - (64 - (b : Int)) + lp + 3) = s := by omega
  have HSQ := Lib.hid hsq
  have hu56 : u ≤ 2 ^ 56 := Nat.le_trans hu (by decide)
  have HU := Lib.hid (And.intro hu hu56)
  obtain ⟨unm, hunm, hunc⟩ := unmin53
  have HUC := Lib.hid hunc
  have HUNM := Lib.hid hunm
  have hs2000 : s ≤ 4000 := by omega
  clear hlen hf hs hd1 hd2 hb64 hb1 hd hd0 hpi hlpe hx hxW h1W hHW hLW hT hS hi hi6 huu hu hu56 hsq hunm hunc
  by_cases h64 : 64 ≤ s
  · have f64 : (64 : Int) ≤ (s : Int) := by omega
    have HR := Lib.hid (show parF d b i (rowHi i) (rowLo i) = 0 by rw [HPF.out, if_pos h64])
    have hso : ∃ n : Nat, bits .or .u64 (S : Int) 0 = (n : Int) ∧ n = S + 0 := sign_or (r := 0) HS.out (by decide)
    obtain ⟨n, so, hn⟩ := hso
    have hfb := run_frombits64 n
    have HN := Lib.hid hn
    clear hn h64 hse
    go_enter Tryz.func248, Tryz.ntmps248
    go_wp2_with (first
      | (go_at_call 178; go_must (refine (HLEN.out _).mono ?_; rintro e w1 ⟨rfl, rfl⟩))
      | (go_at_call 257; go_must (refine (lpow _ p (by omega) (by omega)).mono ?_; rintro e w1 ⟨rfl, rfl⟩; rw [HLP.out]))
      | (go_at_call 256; go_must (refine (prescale_all _ _ _ _ _ (Box.new _ _ _) (HT.out.frm ((Frm.refl No _).alloc _) id) i HI.out.2 (by omega) (by omega) _ p lp HI.out.1 (by omega) (by omega) (by omega) (by omega)).mono ?_; rintro e w2 ⟨rfl, hbx, hf2⟩; rw [HSQ.out] at hbx; have HF2 := Lib.hid hf2; have c2 : w2.cell? ⟨w1.heap.size, 2, none⟩ = some (.int .i64 s) := hbx.cell 2; clear hf2 hbx)))
    refine bodyPost_ret (v := .tuple #[.float .f64 n, .nilIface]) (by simp [results, Tryz.results248, go_sem]) rfl ⟨⟨0, .nilIface, Or.inl rfl, ?_, ?_⟩, ?_⟩
    · rw [← HR.out]; exact HNB.out
    · rw [HN.out]
    · exact ((Frm.refl No w1).alloc _).then HF2.out (fun k hk e => by cases e; exact absurd hk (Nat.lt_irrefl _))
  · have f64 : (s : Int) < 64 := by omega
    have hs63 : s ≤ 63 := by omega
    have HS63 := Lib.hid hs63
    by_cases hbig : 2 ^ 55 - 2 ≤ u
    · obtain ⟨r, q, v, k1, k2, k3, hv⟩ := step_high HU.out.2
      obtain ⟨hr53, hv56⟩ := urnd_high HU.out.1
      rw [← hv] at hr53 hv56
      obtain ⟨n, so, hn⟩ := sign_or HS.out hr53
      have HR := Lib.hid (show parF d b i (rowHi i) (rowLo i) = packF (urnd v) (f - 1) by rw [HPF.out, if_neg h64, if_pos hbig, hv])
      have hcm : decide ((unm : Int) ≤ (u : Int)) = true := by have := HUNM.out; simp; omega
      have hcm2 : decide (unm ≤ u) = true := by have := HUNM.out; simp; omega
      have HV := Lib.hid (And.intro hr53 hv56)
      have HN := Lib.hid hn
      have HPK := Lib.hid (fun w => pack_all w S (urnd v) (f - 1) HS.out hr53 (by omega) (by omega) n hn (-(f - 1)) rfl)
      clear hv hr53 hv56 hn hbig h64 hse hs63
      go_enter Tryz.func248, Tryz.ntmps248
      go_wp2_with (first
        | (go_at_call 178; go_must (refine (HLEN.out _).mono ?_; rintro e w1 ⟨rfl, rfl⟩))
        | (go_at_call 257; go_must (refine (lpow _ p (by omega) (by omega)).mono ?_; rintro e w1 ⟨rfl, rfl⟩; rw [HLP.out]))
        | (go_at_call 256; go_must (refine (prescale_all _ _ _ _ _ (Box.new _ _ _) (HT.out.frm ((Frm.refl No _).alloc _) id) i HI.out.2 (by omega) (by omega) _ p lp HI.out.1 (by omega) (by omega) (by omega) (by omega)).mono ?_; rintro e w2 ⟨rfl, hbx, hf2⟩; rw [HSQ.out] at hbx; have HF2 := Lib.hid hf2; have HBX := Lib.hid hbx; have c2 : w2.cell? ⟨w1.heap.size, 2, none⟩ = some (.int .i64 s) := hbx.cell 2; clear hf2 hbx))
        | (go_at_call 258; go_must (refine (uscale_all _ _ x (rowHi i) (rowLo i) s HX.out.1 HX.out.2.2.1 HX.out.2.2.2 HS63.out HX.out.2.1 (HBX.out.cell 0) (HBX.out.cell 1) (HBX.out.cell 2) (by omega)).mono ?_; rintro e w3 ⟨rfl, q3, rfl⟩; rw [HUU.out]))
        | (go_at_call 263; go_must (refine (HUC.out _).mono ?_; rintro e w1 ⟨rfl, rfl⟩))
        | (go_at_call 180; go_must (refine (bool2i true _).mono ?_; rintro e w1 ⟨rfl, rfl⟩))
        | (go_at_call 262; go_must (refine (roundU _ v HV.out.2).mono ?_; rintro e w1 ⟨rfl, rfl⟩))
        | (go_at_call 282; go_must (refine (HPK.out _).mono ?_; rintro e w1 ⟨⟨er, her, rfl⟩, rfl⟩)))
      refine bodyPost_ret (v := .tuple #[.float .f64 (S + packF (urnd v) (f - 1)), er]) (by simp [results, Tryz.results248, go_sem]) rfl ⟨⟨_, er, her, ?_, rfl⟩, ?_⟩
      · rw [← HR.out]; exact HNB.out
      · exact ((Frm.refl No _).alloc _).then (HF2.out.drewN q3) (fun k hk e => by cases e; exact absurd hk (Nat.lt_irrefl _))
    · obtain ⟨r, k1, k3⟩ := step_low HU.out.2
      have hr53 := urnd_low hbig
      have hv56 := HU.out.2
      obtain ⟨n, so, hn⟩ := sign_or HS.out hr53
      have HR := Lib.hid (show parF d b i (rowHi i) (rowLo i) = packF (urnd u) f by rw [HPF.out, if_neg h64, if_neg hbig])
      have hcm : decide ((unm : Int) ≤ (u : Int)) = false := by have := HUNM.out; simp; omega
      have hcm2 : decide (unm ≤ u) = false := by have := HUNM.out; simp; omega
      have HV := Lib.hid (And.intro hr53 hv56)
      have HN := Lib.hid hn
      have HPK := Lib.hid (fun w => pack_all w S (urnd u) f HS.out hr53 (by omega) (by omega) n hn (-f) rfl)
      clear hr53 hv56 hn hbig h64 hse hs63
      go_enter Tryz.func248, Tryz.ntmps248
      go_wp2_with (first
        | (go_at_call 178; go_must (refine (HLEN.out _).mono ?_; rintro e w1 ⟨rfl, rfl⟩))
        | (go_at_call 257; go_must (refine (lpow _ p (by omega) (by omega)).mono ?_; rintro e w1 ⟨rfl, rfl⟩; rw [HLP.out]))
        | (go_at_call 256; go_must (refine (prescale_all _ _ _ _ _ (Box.new _ _ _) (HT.out.frm ((Frm.refl No _).alloc _) id) i HI.out.2 (by omega) (by omega) _ p lp HI.out.1 (by omega) (by omega) (by omega) (by omega)).mono ?_; rintro e w2 ⟨rfl, hbx, hf2⟩; rw [HSQ.out] at hbx; have HF2 := Lib.hid hf2; have HBX := Lib.hid hbx; have c2 : w2.cell? ⟨w1.heap.size, 2, none⟩ = some (.int .i64 s) := hbx.cell 2; clear hf2 hbx))
        | (go_at_call 258; go_must (refine (uscale_all _ _ x (rowHi i) (rowLo i) s HX.out.1 HX.out.2.2.1 HX.out.2.2.2 HS63.out HX.out.2.1 (HBX.out.cell 0) (HBX.out.cell 1) (HBX.out.cell 2) (by omega)).mono ?_; rintro e w3 ⟨rfl, q3, rfl⟩; rw [HUU.out]))
        | (go_at_call 263; go_must (refine (HUC.out _).mono ?_; rintro e w1 ⟨rfl, rfl⟩))
        | (go_at_call 180; go_must (refine (bool2i false _).mono ?_; rintro e w1 ⟨rfl, rfl⟩))
        | (go_at_call 262; go_must (refine (roundU _ u HV.out.2).mono ?_; rintro e w1 ⟨rfl, rfl⟩))
        | (go_at_call 282; go_must (refine (HPK.out _).mono ?_; rintro e w1 ⟨⟨er, her, rfl⟩, rfl⟩)))
      refine bodyPost_ret (v := .tuple #[.float .f64 (S + packF (urnd u) f), er]) (by simp [results, Tryz.results248, go_sem]) rfl ⟨⟨_, er, her, ?_, rfl⟩, ?_⟩
      · rw [← HR.out]; exact HNB.out
      · exact ((Frm.refl No _).alloc _).then (HF2.out.drewN q3) (fun k hk e => by cases e; exact absurd hk (Nat.lt_irrefl _))
end Go.Proofs.YtcjeeoadgoghfaaGreatDoor.deca
