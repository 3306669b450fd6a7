/- No run in this text: texts, and numbers, go on in their order. The law ValueRises: the walk. The law ValueRises. What the list of tables of ValueRises's row gives the walks. No run in this text: three Vals that come in as an array. -/
import Derived.Test.YtcjeeoadgoghfaaGreatDoorGVaR
import Ieee.Arith
import Derived.Lib.Bytealg
import Derived.Deep.Cut
import Derived.Deep.DeepCutAuto
import Derived.Test.YtcjeeoadgoghfaaGreatDoorLaidT
import Derived.Test.YtcjeeoadgoghfaaGreatDoorRows

namespace Go.Proofs.YtcjeeoadgoghfaaGreatDoor.vaa
set_option linter.unusedVariables false set_option linter.unusedSimpArgs false
open Go Ieee

theorem cmp_trans : ∀ (a b c : List UInt8), Lib.compareBytes a b ≤ 0 → Lib.compareBytes b c ≤ 0 → Lib.compareBytes a c ≤ 0
  | [], _, [], _, _ => by simp [Lib.compareBytes]
  | [], _, _ :: _, _, _ => by simp [Lib.compareBytes]
  | _ :: _, [], _, h, _ => by simp [Lib.compareBytes] at h
  | _ :: _, _ :: _, [], _, h => by simp [Lib.compareBytes] at h
  | x :: xs, y :: ys, z :: zs, h1, h2 => by
    unfold Lib.compareBytes at h1 h2 ⊢
    simp only [UInt8.lt_iff_toNat_lt] at h1 h2 ⊢
    by_cases e1 : x.toNat < y.toNat
    · by_cases e2 : y.toNat < z.toNat
      · rw [if_pos (by omega)]; omega
      · rw [if_neg e2] at h2
        by_cases e3 : z.toNat < y.toNat
        · rw [if_pos e3] at h2; omega
        · rw [if_pos (by omega)]; omega
    · rw [if_neg e1] at h1
      by_cases e2 : y.toNat < x.toNat
      · rw [if_pos e2] at h1; omega
      · rw [if_neg e2] at h1
        by_cases e3 : y.toNat < z.toNat
        · rw [if_pos (by omega)]; omega
        · rw [if_neg e3] at h2
          by_cases e4 : z.toNat < y.toNat
          · rw [if_pos e4] at h2; omega
          · rw [if_neg e4] at h2
            rw [if_neg (by omega), if_neg (by omega)]
            exact cmp_trans xs ys zs h1 h2

theorem signed_pow (s : Bool) (m k d : Nat) : signed s m (k + d) = signed s m k * 2 ^ d := by
  unfold signed
  have e : m <<< (k + d) = m <<< k * 2 ^ d := by rw [Nat.shiftLeft_eq, Nat.shiftLeft_eq, Nat.pow_add, Nat.mul_assoc]
  cases s
  · simp only [Bool.false_eq_true, if_false, e]; rw [Int.natCast_mul, Int.natCast_pow]; rfl
  · simp only [if_true, e]; rw [Int.natCast_mul, Int.natCast_pow, Int.neg_mul]; rfl
theorem cmp_scale (x y : Int) (d : Nat) : compare (x * 2 ^ d) (y * 2 ^ d) = compare x y := by
  have h : (0 : Int) < 2 ^ d := Int.pow_pos (by decide)
  rcases Int.lt_trichotomy x y with h1 | h1 | h1
  · rw [Int.compare_eq_lt.2 h1, Int.compare_eq_lt.2 (Int.mul_lt_mul_of_pos_right h1 h)]
  · subst h1; rw [Int.compare_eq_eq.2 rfl, Int.compare_eq_eq.2 rfl]
  · rw [Int.compare_eq_gt.2 h1, Int.compare_eq_gt.2 (Int.mul_lt_mul_of_pos_right h1 h)]
theorem order_at (s t : Bool) (m n : Nat) (i j B : Int) (hi : B ≤ i) (hj : B ≤ j) : (Datum.number s m i).order (.number t n j) = some (compare (signed s m (i - B).toNat) (signed t n (j - B).toNat)) := by
  show some (compare (signed s m (i - min i j).toNat) (signed t n (j - min i j).toNat)) = _
  obtain ⟨d, hd⟩ : ∃ d : Nat, min i j = B + d := ⟨(min i j - B).toNat, by omega⟩
  have e1 : (i - B).toNat = (i - min i j).toNat + d := by omega
  have e2 : (j - B).toNat = (j - min i j).toNat + d := by omega
  rw [e1, e2, signed_pow, signed_pow, cmp_scale]
theorem ord_trans (a b c : Datum) (ha : a.order a = some .eq) (hb : b.order b = some .eq) (hc : c.order c = some .eq) (h1 : a.order b ≠ some .gt) (h2 : b.order c ≠ some .gt) : a.order c ≠ some .gt := by
  cases a with
  | nan => cases ha
  | infinity s =>
    cases c with
    | nan => cases hc
    | infinity t =>
      cases s
      · cases b with
        | nan => cases hb
        | infinity u =>
          cases u
          · exact h2
          · exact absurd (by decide) h1
        | number u m i => exact absurd rfl h1
      · cases t <;> decide
    | number t n j =>
      cases s
      · cases b with
        | nan => cases hb
        | infinity u =>
          cases u
          · exact h2
          · exact absurd (by decide) h1
        | number u m i => exact absurd rfl h1
      · show some Ordering.lt ≠ some .gt
        decide
  | number s m i =>
    cases c with
    | nan => cases hc
    | infinity t =>
      cases t
      · show some Ordering.lt ≠ some .gt
        decide
      · cases b with
        | nan => cases hb
        | infinity u =>
          cases u
          · exact absurd (by decide) h2
          · exact h1
        | number u q k => exact absurd rfl h2
    | number t n j =>
      cases b with
      | nan => cases hb
      | infinity u =>
        cases u
        · exact absurd rfl h2
        · exact absurd rfl h1
      | number u q k =>
        rw [order_at s u m q i k (min i (min j k)) (by omega) (by omega)] at h1
        rw [order_at u t q n k j (min i (min j k)) (by omega) (by omega)] at h2
        rw [order_at s t m n i j (min i (min j k)) (by omega) (by omega)]
        generalize signed s m (i - min i (min j k)).toNat = x at *
        generalize signed u q (k - min i (min j k)).toNat = y at *
        generalize signed t n (j - min i (min j k)).toNat = z at *
        have g1 : ¬ y < x := fun h => h1 (by rw [Int.compare_eq_gt.2 h])
        have g2 : ¬ z < y := fun h => h2 (by rw [Int.compare_eq_gt.2 h])
        intro h
        have := Int.compare_eq_gt.1 (Option.some.inj h)
        omega

theorem cmpW_gt {a b : Nat} : cmpW a b ≤ 0 ↔ Ieee.double.order a b ≠ some .gt := by
  have e : ∀ o : Option Ordering, (if (o == some .lt) = true then (-1 : Int) else if (o == some .gt) = true then 1 else 0) ≤ 0 ↔ o ≠ some .gt := by
    intro o
    cases o with
    | none => simp
    | some o => cases o <;> simp
  exact e _
theorem cmpW_trans {a b c : Nat} (ha : Ieee.double.order a a = some .eq) (hb : Ieee.double.order b b = some .eq) (hc : Ieee.double.order c c = some .eq) (h1 : cmpW a b ≤ 0) (h2 : cmpW b c ≤ 0) : cmpW a c ≤ 0 :=
  cmpW_gt.2 (ord_trans _ _ _ ha hb hc (cmpW_gt.1 h1) (cmpW_gt.1 h2))
end Go.Proofs.YtcjeeoadgoghfaaGreatDoor.vaa

namespace Go.Proofs.YtcjeeoadgoghfaaGreatDoor.vaa
set_option linter.unusedVariables false set_option linter.unusedSimpArgs false
open Go.ChangeShapes Go.WideShapes Go.ChangeAt Go.RowKit Go.Proofs.YtcjeeoadgoghfaaGreatDoor.base Go.Proofs.YtcjeeoadgoghfaaGreatDoor.law02
attribute [local go_sem] run_store_float

/-- Three Vals in a row. -/
abbrev arrV (K0 : ByteArray) (B0 : Nat) (S0 K1 : ByteArray) (B1 : Nat) (S1 K2 : ByteArray) (B2 : Nat) (S2 : ByteArray) : Array Value :=
  #[.string K0, .float .f64 B0, .string S0, .string K1, .float .f64 B1, .string S1, .string K2, .float .f64 B2, .string S2]
section
variable (W : World) (K0 : ByteArray) (B0 : Nat) (S0 K1 : ByteArray) (B1 : Nat) (S1 K2 : ByteArray) (B2 : Nat) (S2 : ByteArray)
theorem idx_0 : (Instr.index 49 (.agg (arrV K0 B0 S0 K1 B1 S1 K2 B2 S2)) (.int .i64 0)).run Tryz.prog W = .ok (.agg #[.string K0, .float .f64 B0, .string S0]) W := by kernel_rfl
theorem idx_1 : (Instr.index 49 (.agg (arrV K0 B0 S0 K1 B1 S1 K2 B2 S2)) (.int .i64 1)).run Tryz.prog W = .ok (.agg #[.string K1, .float .f64 B1, .string S1]) W := by kernel_rfl
theorem idx_2 : (Instr.index 49 (.agg (arrV K0 B0 S0 K1 B1 S1 K2 B2 S2)) (.int .i64 2)).run Tryz.prog W = .ok (.agg #[.string K2, .float .f64 B2, .string S2]) W := by kernel_rfl
end
theorem info_arr : (Tryz.prog.info? 49).map (·.size) = some 9 := by kernel_rfl
/-- Three values in a block. -/
def Bx (w : World) (b : Nat) (c0 c1 c2 : Value) : Prop := w.heap[b]? = some (.cells #[c0, c1, c2] 51 (0, 0))
theorem Bx.c {w : World} {b : Nat} {c0 c1 c2 : Value} (h : Bx w b c0 c1 c2) : w.cell? ⟨b, 0, none⟩ = some c0 ∧ w.cell? ⟨b, 1, none⟩ = some c1 ∧ w.cell? ⟨b, 2, none⟩ = some c2 := by
  unfold Bx at h
  simp [World.cell?, h]
theorem Bx.froz {w : World} {b : Nat} {c0 c1 c2 : Value} (h : Bx w b c0 c1 c2) (i : Nat) : w.frozen? ⟨b, i, none⟩ = false := by
  unfold Bx at h
  simp [World.frozen?, h]
theorem Bx.lt {w : World} {b : Nat} {c0 c1 c2 : Value} (h : Bx w b c0 c1 c2) : b < w.heap.size := by
  rcases Nat.lt_or_ge b w.heap.size with h' | h'
  · exact h'
  · unfold Bx at h
    rw [Array.getElem?_eq_none h'] at h; cases h
theorem Bx.below {w w' : World} {b : Nat} {c0 c1 c2 : Value} (h : Bx w b c0 c1 c2) (hb : Below w.heap.size w w') : Bx w' b c0 c1 c2 := by
  unfold Bx
  rw [hb.block _ h.lt]; exact h
theorem Bx.alloc {w : World} {b : Nat} {c0 c1 c2 : Value} (h : Bx w b c0 c1 c2) (o : Obj) : Bx (w.alloc o) b c0 c1 c2 := h.below ((Below.refl _ _).alloc (Nat.le_refl _) _)
theorem Bx.set0 {w : World} {b : Nat} {c0 c1 c2 : Value} (h : Bx w b c0 c1 c2) (v : Value) : Bx (w.setCell ⟨b, 0, none⟩ v) b v c1 c2 := by
  unfold Bx at *
  rw [heap_setCell_same _ b 0 _ _ _ h]; rfl
theorem Bx.set1 {w : World} {b : Nat} {c0 c1 c2 : Value} (h : Bx w b c0 c1 c2) (v : Value) : Bx (w.setCell ⟨b, 1, none⟩ v) b c0 v c2 := by
  unfold Bx at *
  rw [heap_setCell_same _ b 1 _ _ _ h]; rfl
theorem Bx.set2 {w : World} {b : Nat} {c0 c1 c2 : Value} (h : Bx w b c0 c1 c2) (v : Value) : Bx (w.setCell ⟨b, 2, none⟩ v) b c0 c1 v := by
  unfold Bx at *
  rw [heap_setCell_same _ b 2 _ _ _ h]; rfl
theorem ofV_if (K : ByteArray) (B : Nat) (S : ByteArray) : ∃ T p, (ofV K B S).val = .iface T p := by
  unfold ofV
  split
  · exact ⟨_, _, rfl⟩
  · split
    · exact ⟨_, _, rfl⟩
    · split <;> exact ⟨_, _, rfl⟩
def cB (b : Bool) : Int := if b then 1 else 0
/-- What is known behind k rounds. -/
def St (a0 a1 a2 n0 n1 n2 : Bool) (v0 v1 v2 : Value) (k : Nat) (c : Int) (n : Bool) (c0 c1 c2 : Value) : Prop :=
  (k = 0 ∧ c = 0 ∧ n = false) ∨ (k = 1 ∧ c = cB a0 ∧ n = n0 ∧ c0 = v0) ∨ (k = 2 ∧ c = cB a0 + cB a1 ∧ n = (n0 || n1) ∧ c0 = v0 ∧ c1 = v1) ∨
  (k = 3 ∧ c = cB a0 + cB a1 + cB a2 ∧ n = (n0 || n1 || n2) ∧ c0 = v0 ∧ c1 = v1 ∧ c2 = v2)

set_option maxRecDepth 100000 in
set_option maxHeartbeats 8000000 in
theorem rises_body (K0 : ByteArray) (B0 : Nat) (S0 K1 : ByteArray) (B1 : Nat) (S1 K2 : ByteArray) (B2 : Nat) (S2 : ByteArray) (w : World) (h : Tbs w)
    (T0 T1 T2 : TypeId) (p0 p1 p2 : Value) (k0 k1 k2 s0 s1 s2 : ByteArray) (b0 b1 b2 : Nat) (a0 a1 a2 n0 n1 n2 : Bool)
    (hfit : ([⟨K0, B0, S0⟩, ⟨K1, B1, S1⟩, ⟨K2, B2, S2⟩] : List T3).all T3.fits = true)
    (hO0 : ∀ w, Tbs w → Calls Tryz.prog 15 #[valV K0 B0 S0] w fun e w' => e = .returned (.iface T0 p0) ∧ Below w.heap.size w w')
    (hO1 : ∀ w, Tbs w → Calls Tryz.prog 15 #[valV K1 B1 S1] w fun e w' => e = .returned (.iface T1 p1) ∧ Below w.heap.size w w')
    (hO2 : ∀ w, Tbs w → Calls Tryz.prog 15 #[valV K2 B2 S2] w fun e w' => e = .returned (.iface T2 p2) ∧ Below w.heap.size w w')
    (hP0 : ∀ w, Calls Tryz.prog 18 #[.iface T0 p0] w fun e w' => e = .returned (valV k0 b0 s0) ∧ Below w.heap.size w w')
    (hP1 : ∀ w, Calls Tryz.prog 18 #[.iface T1 p1] w fun e w' => e = .returned (valV k1 b1 s1) ∧ Below w.heap.size w w')
    (hP2 : ∀ w, Calls Tryz.prog 18 #[.iface T2 p2] w fun e w' => e = .returned (valV k2 b2 s2) ∧ Below w.heap.size w w')
    (ha0 : (k0.toList == [115, 116, 114]) = a0) (ha1 : (k1.toList == [115, 116, 114]) = a1) (ha2 : (k2.toList == [115, 116, 114]) = a2)
    (hn0 : (FloatKind.f64.format.order b0 b0 != some .eq) = n0) (hn1 : (FloatKind.f64.format.order b1 b1 != some .eq) = n1) (hn2 : (FloatKind.f64.format.order b2 b2 != some .eq) = n2)
    (hC : a0 = a1 → a1 = a2 → n0 = false → n1 = false → n2 = false → ∃ z01 z12 z02 : Int, (0 < z01 ∨ 0 < z12 ∨ z02 ≤ 0) ∧
      (∀ w, Tbs w → Calls Tryz.prog 28 #[.iface T0 p0, .iface T1 p1, .string ⟨#[37, 46, 54, 103]⟩] w fun e w' => e = .returned (.tuple #[.int .i64 z01, .bool true]) ∧ Below w.heap.size w w') ∧
      (∀ w, Tbs w → Calls Tryz.prog 28 #[.iface T1 p1, .iface T2 p2, .string ⟨#[37, 46, 54, 103]⟩] w fun e w' => e = .returned (.tuple #[.int .i64 z12, .bool true]) ∧ Below w.heap.size w w') ∧
      (∀ w, Tbs w → Calls Tryz.prog 28 #[.iface T0 p0, .iface T2 p2, .string ⟨#[37, 46, 54, 103]⟩] w fun e w' => e = .returned (.tuple #[.int .i64 z02, .bool true]) ∧ Below w.heap.size w w')) :
    Calls Tryz.prog 6 #[.agg (arrV K0 B0 S0 K1 B1 S1 K2 B2 S2)] w fun e w' => e = .returned (.bool true) ∧ Below w.heap.size w w' := by
  have H := Lib.hid h
  have HB0 := Lib.hid ((Below.refl w.heap.size w).alloc (Nat.le_refl _) (.cells (arrV K0 B0 S0 K1 B1 S1 K2 B2 S2) 49))
  have HA0 := Lib.hid (new_row w (.cells (arrV K0 B0 S0 K1 B1 S1 K2 B2 S2) 49))
  have HALT := Lib.hid (show w.heap.size < (w.alloc (.cells (arrV K0 B0 S0 K1 B1 S1 K2 B2 S2) 49)).heap.size by simp)
  have HF := Lib.hid (fun (W : World) (hr : W.heap[w.heap.size]? = some (.cells (arrV K0 B0 S0 K1 B1 S1 K2 B2 S2) 49 (0, 0))) => show Calls Tryz.prog 14 #[.slice (some ⟨w.heap.size, 0, none⟩) 3 3] W fun e w' => e = .returned (.bool true) ∧ Below W.heap.size W w' by
    have := fit_all [⟨K0, B0, S0⟩, ⟨K1, B1, S1⟩, ⟨K2, B2, S2⟩] w.heap.size 0 3 W (by
      intro i hi
      have hi3 : i < 3 := hi
      obtain h | h | h : i = 0 ∨ i = 1 ∨ i = 2 := by omega
      all_goals subst h; simp [World.cell?, hr]) (by simp)
    rw [hfit] at this
    exact this)
  have HO0 := Lib.hid hO0
  have HO1 := Lib.hid hO1
  have HO2 := Lib.hid hO2
  have HP0 := Lib.hid hP0
  have HP1 := Lib.hid hP1
  have HP2 := Lib.hid hP2
  have HC := Lib.hid hC
  have HE0 := Lib.hid ha0
  have HE1 := Lib.hid ha1
  have HE2 := Lib.hid ha2
  have HN0 := Lib.hid hn0
  have HN1 := Lib.hid hn1
  have HN2 := Lib.hid hn2
  clear h hfit hO0 hO1 hO2 hP0 hP1 hP2 hC ha0 ha1 ha2 hn0 hn1 hn2
  go_enter Tryz.func6, Tryz.ntmps6
  go_wp2_with (first | (go_at_call 13; go_must (refine (awake_all _ (H.out.below HB0.out)).mono ?_; rintro e w1 ⟨rfl, hb1⟩; have HW1 := Lib.hid (bgo HB0.out hb1); have HA1 := Lib.hid ((hb1.block _ HALT.out).trans HA0.out); have HL1 := Lib.hid (Nat.lt_of_lt_of_le HALT.out hb1.size); clear hb1)) | (go_at_call 14; go_must (refine (HF.out _ HA1.out).mono ?_; rintro e w2 ⟨rfl, hb2⟩; have HW2 := Lib.hid (bgo HW1.out hb2); have HA2 := Lib.hid ((hb2.block _ HL1.out).trans HA1.out); have HL2 := Lib.hid (Nat.lt_of_lt_of_le HL1.out hb2.size); have HA3 := Lib.hid (show (w2.alloc (.cells #[.nilIface, .nilIface, .nilIface] 51)).heap[w.heap.size]? = some (.cells (arrV K0 B0 S0 K1 B1 S1 K2 B2 S2) 49 (0, 0)) by rw [Below.heap_alloc _ _ _ HL2.out]; exact HA2.out); have HX3 : Hid (Bx (w2.alloc (.cells #[.nilIface, .nilIface, .nilIface] 51)) w2.heap.size .nilIface .nilIface .nilIface) := Lib.hid (new_row _ _); have HW3 := Lib.hid (HW2.out.alloc HW2.out.size (.cells #[.nilIface, .nilIface, .nilIface] 51)); clear hb2)) | (refine wpList_load_row rfl 49 (.tmp 1) rfl w.heap.size rfl 49 (arrV K0 B0 S0 K1 B1 S1 K2 B2 S2) (0, 0) _ HA3.out Tryz.underlying49 rfl info_arr ?_))
  go_loopw [21, 3, 4] (fun iv cv nv wr => ∃ (k : Nat) (c : Int) (n : Bool) (c0 c1 c2 : Value), iv = .int .i64 (k : Int) ∧ cv = .int .i64 c ∧ nv = .bool n ∧ Hid (Bx wr w2.heap.size c0 c1 c2) ∧ Hid (Below w.heap.size w wr) ∧ Hid (St a0 a1 a2 n0 n1 n2 (.iface T0 p0) (.iface T1 p1) (.iface T2 p2) k c n c0 c1 c2)) (fun iv _ _ _ => 3 - (intOf iv).toNat)
  case atStart => exact ⟨0, 0, false, _, _, _, rfl, rfl, rfl, HX3, HW3, Lib.hid (Or.inl ⟨rfl, rfl, rfl⟩)⟩
  case round =>
    obtain ⟨k, c, n, c0, c1, c2, rfl, rfl, rfl, HX, HW, HST⟩ := hrel
    obtain ⟨x0, x1, x2⟩ := HX.out.c
    have f0 := HX.out.froz 0
    have f1 := HX.out.froz 1
    have f2 := HX.out.froz 2
    rcases HST.out with ⟨rfl, rfl, rfl⟩ | ⟨rfl, hc, hn, rfl⟩ | ⟨rfl, hc, hn, rfl, rfl⟩ | ⟨rfl, hc, hn, rfl, rfl, rfl⟩
    · have hix := idx_0 wr K0 B0 S0 K1 B1 S1 K2 B2 S2
      have hea := HE0.out
      have hna := HN0.out
      clear x0 x1 x2 f0 f1 f2
      cases a0
      · cases n0
        · as_aux_lemma =>
          go_wp2_with (first | (go_at_call 15; go_must (refine (HO0.out _ (H.out.below (HW.out.alloc HW.out.size _))).mono ?_; rintro e w4 ⟨rfl, hb4⟩; have HX4 := Lib.hid ((HX.out.alloc _).below hb4); have HW4 := Lib.hid (bgo (HW.out.alloc HW.out.size _) hb4); obtain ⟨y0, y1, y2⟩ := HX4.out.c; have g0 := HX4.out.froz 0; have HX5 := Lib.hid (HX4.out.set0 (.iface T0 p0)); have HW5 : Hid (Below w.heap.size w (w4.setCell ⟨w2.heap.size, 0, none⟩ (.iface T0 p0))) := Lib.hid (HW4.out.setCell HW2.out.size _); clear hb4)) | (go_at_call 18; go_must (refine (HP0.out _).mono ?_; rintro e w5 ⟨rfl, hb5⟩; have HX6 := Lib.hid (HX5.out.below hb5); have HW6 := Lib.hid (bgo HW5.out hb5); clear hb5)))
          go_roundw
          case rel => exact ⟨1, _, _, _, _, _, by go_num, rfl, rfl, Lib.hid (HX6.out.alloc _), Lib.hid (HW6.out.alloc HW6.out.size _), Lib.hid (Or.inr (Or.inl ⟨rfl, by simp [cB], rfl, rfl⟩))⟩
          case measure => simp [intOf]
        · as_aux_lemma =>
          go_wp2_with (first | (go_at_call 15; go_must (refine (HO0.out _ (H.out.below (HW.out.alloc HW.out.size _))).mono ?_; rintro e w4 ⟨rfl, hb4⟩; have HX4 := Lib.hid ((HX.out.alloc _).below hb4); have HW4 := Lib.hid (bgo (HW.out.alloc HW.out.size _) hb4); obtain ⟨y0, y1, y2⟩ := HX4.out.c; have g0 := HX4.out.froz 0; have HX5 := Lib.hid (HX4.out.set0 (.iface T0 p0)); have HW5 : Hid (Below w.heap.size w (w4.setCell ⟨w2.heap.size, 0, none⟩ (.iface T0 p0))) := Lib.hid (HW4.out.setCell HW2.out.size _); clear hb4)) | (go_at_call 18; go_must (refine (HP0.out _).mono ?_; rintro e w5 ⟨rfl, hb5⟩; have HX6 := Lib.hid (HX5.out.below hb5); have HW6 := Lib.hid (bgo HW5.out hb5); clear hb5)))
          go_roundw
          case rel => exact ⟨1, _, _, _, _, _, by go_num, rfl, rfl, Lib.hid (HX6.out.alloc _), Lib.hid (HW6.out.alloc HW6.out.size _), Lib.hid (Or.inr (Or.inl ⟨rfl, by simp [cB], rfl, rfl⟩))⟩
          case measure => simp [intOf]
      · cases n0
        · as_aux_lemma =>
          go_wp2_with (first | (go_at_call 15; go_must (refine (HO0.out _ (H.out.below (HW.out.alloc HW.out.size _))).mono ?_; rintro e w4 ⟨rfl, hb4⟩; have HX4 := Lib.hid ((HX.out.alloc _).below hb4); have HW4 := Lib.hid (bgo (HW.out.alloc HW.out.size _) hb4); obtain ⟨y0, y1, y2⟩ := HX4.out.c; have g0 := HX4.out.froz 0; have HX5 := Lib.hid (HX4.out.set0 (.iface T0 p0)); have HW5 : Hid (Below w.heap.size w (w4.setCell ⟨w2.heap.size, 0, none⟩ (.iface T0 p0))) := Lib.hid (HW4.out.setCell HW2.out.size _); clear hb4)) | (go_at_call 18; go_must (refine (HP0.out _).mono ?_; rintro e w5 ⟨rfl, hb5⟩; have HX6 := Lib.hid (HX5.out.below hb5); have HW6 := Lib.hid (bgo HW5.out hb5); clear hb5)))
          go_roundw
          case rel => exact ⟨1, _, _, _, _, _, by go_num, rfl, rfl, Lib.hid (HX6.out.alloc _), Lib.hid (HW6.out.alloc HW6.out.size _), Lib.hid (Or.inr (Or.inl ⟨rfl, by simp [cB], rfl, rfl⟩))⟩
          case measure => simp [intOf]
        · as_aux_lemma =>
          go_wp2_with (first | (go_at_call 15; go_must (refine (HO0.out _ (H.out.below (HW.out.alloc HW.out.size _))).mono ?_; rintro e w4 ⟨rfl, hb4⟩; have HX4 := Lib.hid ((HX.out.alloc _).below hb4); have HW4 := Lib.hid (bgo (HW.out.alloc HW.out.size _) hb4); obtain ⟨y0, y1, y2⟩ := HX4.out.c; have g0 := HX4.out.froz 0; have HX5 := Lib.hid (HX4.out.set0 (.iface T0 p0)); have HW5 : Hid (Below w.heap.size w (w4.setCell ⟨w2.heap.size, 0, none⟩ (.iface T0 p0))) := Lib.hid (HW4.out.setCell HW2.out.size _); clear hb4)) | (go_at_call 18; go_must (refine (HP0.out _).mono ?_; rintro e w5 ⟨rfl, hb5⟩; have HX6 := Lib.hid (HX5.out.below hb5); have HW6 := Lib.hid (bgo HW5.out hb5); clear hb5)))
          go_roundw
          case rel => exact ⟨1, _, _, _, _, _, by go_num, rfl, rfl, Lib.hid (HX6.out.alloc _), Lib.hid (HW6.out.alloc HW6.out.size _), Lib.hid (Or.inr (Or.inl ⟨rfl, by simp [cB], rfl, rfl⟩))⟩
          case measure => simp [intOf]
    · have hix := idx_1 wr K0 B0 S0 K1 B1 S1 K2 B2 S2
      have hea := HE1.out
      have hna := HN1.out
      have HCC := Lib.hid hc
      have HNN := Lib.hid hn
      have hcb : 0 ≤ c ∧ c ≤ 1 := by rw [hc]; unfold cB; (repeat' split) <;> omega
      have hcb0 := hcb.1
      have hcb1 := hcb.2
      clear hc hn hcb
      clear x0 x1 x2 f0 f1 f2
      cases a1
      · cases n
        · cases n1
          · as_aux_lemma =>
            go_wp2_with (first | (go_at_call 15; go_must (refine (HO1.out _ (H.out.below (HW.out.alloc HW.out.size _))).mono ?_; rintro e w4 ⟨rfl, hb4⟩; have HX4 := Lib.hid ((HX.out.alloc _).below hb4); have HW4 := Lib.hid (bgo (HW.out.alloc HW.out.size _) hb4); obtain ⟨y0, y1, y2⟩ := HX4.out.c; have g0 := HX4.out.froz 1; have HX5 := Lib.hid (HX4.out.set1 (.iface T1 p1)); have HW5 : Hid (Below w.heap.size w (w4.setCell ⟨w2.heap.size, 1, none⟩ (.iface T1 p1))) := Lib.hid (HW4.out.setCell HW2.out.size _); clear hb4)) | (go_at_call 18; go_must (refine (HP1.out _).mono ?_; rintro e w5 ⟨rfl, hb5⟩; have HX6 := Lib.hid (HX5.out.below hb5); have HW6 := Lib.hid (bgo HW5.out hb5); clear hb5)))
            go_roundw
            case rel => exact ⟨2, _, _, _, _, _, by go_num, rfl, rfl, Lib.hid (HX6.out.alloc _), Lib.hid (HW6.out.alloc HW6.out.size _), Lib.hid (Or.inr (Or.inr (Or.inl ⟨rfl, by have := HCC.out; simp [cB] at this ⊢; omega, by rw [← HNN.out]; rfl, rfl, rfl⟩)))⟩
            case measure => simp [intOf]
          · as_aux_lemma =>
            go_wp2_with (first | (go_at_call 15; go_must (refine (HO1.out _ (H.out.below (HW.out.alloc HW.out.size _))).mono ?_; rintro e w4 ⟨rfl, hb4⟩; have HX4 := Lib.hid ((HX.out.alloc _).below hb4); have HW4 := Lib.hid (bgo (HW.out.alloc HW.out.size _) hb4); obtain ⟨y0, y1, y2⟩ := HX4.out.c; have g0 := HX4.out.froz 1; have HX5 := Lib.hid (HX4.out.set1 (.iface T1 p1)); have HW5 : Hid (Below w.heap.size w (w4.setCell ⟨w2.heap.size, 1, none⟩ (.iface T1 p1))) := Lib.hid (HW4.out.setCell HW2.out.size _); clear hb4)) | (go_at_call 18; go_must (refine (HP1.out _).mono ?_; rintro e w5 ⟨rfl, hb5⟩; have HX6 := Lib.hid (HX5.out.below hb5); have HW6 := Lib.hid (bgo HW5.out hb5); clear hb5)))
            go_roundw
            case rel => exact ⟨2, _, _, _, _, _, by go_num, rfl, rfl, Lib.hid (HX6.out.alloc _), Lib.hid (HW6.out.alloc HW6.out.size _), Lib.hid (Or.inr (Or.inr (Or.inl ⟨rfl, by have := HCC.out; simp [cB] at this ⊢; omega, by rw [← HNN.out]; rfl, rfl, rfl⟩)))⟩
            case measure => simp [intOf]
        · as_aux_lemma =>
          go_wp2_with (first | (go_at_call 15; go_must (refine (HO1.out _ (H.out.below (HW.out.alloc HW.out.size _))).mono ?_; rintro e w4 ⟨rfl, hb4⟩; have HX4 := Lib.hid ((HX.out.alloc _).below hb4); have HW4 := Lib.hid (bgo (HW.out.alloc HW.out.size _) hb4); obtain ⟨y0, y1, y2⟩ := HX4.out.c; have g0 := HX4.out.froz 1; have HX5 := Lib.hid (HX4.out.set1 (.iface T1 p1)); have HW5 : Hid (Below w.heap.size w (w4.setCell ⟨w2.heap.size, 1, none⟩ (.iface T1 p1))) := Lib.hid (HW4.out.setCell HW2.out.size _); clear hb4)) | (go_at_call 18; go_must (refine (HP1.out _).mono ?_; rintro e w5 ⟨rfl, hb5⟩; have HX6 := Lib.hid (HX5.out.below hb5); have HW6 := Lib.hid (bgo HW5.out hb5); clear hb5)))
          go_roundw
          case rel => exact ⟨2, _, _, _, _, _, by go_num, rfl, rfl, Lib.hid (HX6.out.alloc _), Lib.hid (HW6.out.alloc HW6.out.size _), Lib.hid (Or.inr (Or.inr (Or.inl ⟨rfl, by have := HCC.out; simp [cB] at this ⊢; omega, by rw [← HNN.out]; rfl, rfl, rfl⟩)))⟩
          case measure => simp [intOf]
      · cases n
        · cases n1
          · as_aux_lemma =>
            go_wp2_with (first | (go_at_call 15; go_must (refine (HO1.out _ (H.out.below (HW.out.alloc HW.out.size _))).mono ?_; rintro e w4 ⟨rfl, hb4⟩; have HX4 := Lib.hid ((HX.out.alloc _).below hb4); have HW4 := Lib.hid (bgo (HW.out.alloc HW.out.size _) hb4); obtain ⟨y0, y1, y2⟩ := HX4.out.c; have g0 := HX4.out.froz 1; have HX5 := Lib.hid (HX4.out.set1 (.iface T1 p1)); have HW5 : Hid (Below w.heap.size w (w4.setCell ⟨w2.heap.size, 1, none⟩ (.iface T1 p1))) := Lib.hid (HW4.out.setCell HW2.out.size _); clear hb4)) | (go_at_call 18; go_must (refine (HP1.out _).mono ?_; rintro e w5 ⟨rfl, hb5⟩; have HX6 := Lib.hid (HX5.out.below hb5); have HW6 := Lib.hid (bgo HW5.out hb5); clear hb5)))
            go_roundw
            case rel => exact ⟨2, _, _, _, _, _, by go_num, rfl, rfl, Lib.hid (HX6.out.alloc _), Lib.hid (HW6.out.alloc HW6.out.size _), Lib.hid (Or.inr (Or.inr (Or.inl ⟨rfl, by have := HCC.out; simp [cB] at this ⊢; omega, by rw [← HNN.out]; rfl, rfl, rfl⟩)))⟩
            case measure => simp [intOf]
          · as_aux_lemma =>
            go_wp2_with (first | (go_at_call 15; go_must (refine (HO1.out _ (H.out.below (HW.out.alloc HW.out.size _))).mono ?_; rintro e w4 ⟨rfl, hb4⟩; have HX4 := Lib.hid ((HX.out.alloc _).below hb4); have HW4 := Lib.hid (bgo (HW.out.alloc HW.out.size _) hb4); obtain ⟨y0, y1, y2⟩ := HX4.out.c; have g0 := HX4.out.froz 1; have HX5 := Lib.hid (HX4.out.set1 (.iface T1 p1)); have HW5 : Hid (Below w.heap.size w (w4.setCell ⟨w2.heap.size, 1, none⟩ (.iface T1 p1))) := Lib.hid (HW4.out.setCell HW2.out.size _); clear hb4)) | (go_at_call 18; go_must (refine (HP1.out _).mono ?_; rintro e w5 ⟨rfl, hb5⟩; have HX6 := Lib.hid (HX5.out.below hb5); have HW6 := Lib.hid (bgo HW5.out hb5); clear hb5)))
            go_roundw
            case rel => exact ⟨2, _, _, _, _, _, by go_num, rfl, rfl, Lib.hid (HX6.out.alloc _), Lib.hid (HW6.out.alloc HW6.out.size _), Lib.hid (Or.inr (Or.inr (Or.inl ⟨rfl, by have := HCC.out; simp [cB] at this ⊢; omega, by rw [← HNN.out]; rfl, rfl, rfl⟩)))⟩
            case measure => simp [intOf]
        · as_aux_lemma =>
          go_wp2_with (first | (go_at_call 15; go_must (refine (HO1.out _ (H.out.below (HW.out.alloc HW.out.size _))).mono ?_; rintro e w4 ⟨rfl, hb4⟩; have HX4 := Lib.hid ((HX.out.alloc _).below hb4); have HW4 := Lib.hid (bgo (HW.out.alloc HW.out.size _) hb4); obtain ⟨y0, y1, y2⟩ := HX4.out.c; have g0 := HX4.out.froz 1; have HX5 := Lib.hid (HX4.out.set1 (.iface T1 p1)); have HW5 : Hid (Below w.heap.size w (w4.setCell ⟨w2.heap.size, 1, none⟩ (.iface T1 p1))) := Lib.hid (HW4.out.setCell HW2.out.size _); clear hb4)) | (go_at_call 18; go_must (refine (HP1.out _).mono ?_; rintro e w5 ⟨rfl, hb5⟩; have HX6 := Lib.hid (HX5.out.below hb5); have HW6 := Lib.hid (bgo HW5.out hb5); clear hb5)))
          go_roundw
          case rel => exact ⟨2, _, _, _, _, _, by go_num, rfl, rfl, Lib.hid (HX6.out.alloc _), Lib.hid (HW6.out.alloc HW6.out.size _), Lib.hid (Or.inr (Or.inr (Or.inl ⟨rfl, by have := HCC.out; simp [cB] at this ⊢; omega, by rw [← HNN.out]; rfl, rfl, rfl⟩)))⟩
          case measure => simp [intOf]
    · have hix := idx_2 wr K0 B0 S0 K1 B1 S1 K2 B2 S2
      have hea := HE2.out
      have hna := HN2.out
      have HCC := Lib.hid hc
      have HNN := Lib.hid hn
      have hcb : 0 ≤ c ∧ c ≤ 2 := by rw [hc]; unfold cB; (repeat' split) <;> omega
      have hcb0 := hcb.1
      have hcb1 := hcb.2
      clear hc hn hcb
      clear x0 x1 x2 f0 f1 f2
      cases a2
      · cases n
        · cases n2
          · as_aux_lemma =>
            go_wp2_with (first | (go_at_call 15; go_must (refine (HO2.out _ (H.out.below (HW.out.alloc HW.out.size _))).mono ?_; rintro e w4 ⟨rfl, hb4⟩; have HX4 := Lib.hid ((HX.out.alloc _).below hb4); have HW4 := Lib.hid (bgo (HW.out.alloc HW.out.size _) hb4); obtain ⟨y0, y1, y2⟩ := HX4.out.c; have g0 := HX4.out.froz 2; have HX5 := Lib.hid (HX4.out.set2 (.iface T2 p2)); have HW5 : Hid (Below w.heap.size w (w4.setCell ⟨w2.heap.size, 2, none⟩ (.iface T2 p2))) := Lib.hid (HW4.out.setCell HW2.out.size _); clear hb4)) | (go_at_call 18; go_must (refine (HP2.out _).mono ?_; rintro e w5 ⟨rfl, hb5⟩; have HX6 := Lib.hid (HX5.out.below hb5); have HW6 := Lib.hid (bgo HW5.out hb5); clear hb5)))
            go_roundw
            case rel => exact ⟨3, _, _, _, _, _, by go_num, rfl, rfl, Lib.hid (HX6.out.alloc _), Lib.hid (HW6.out.alloc HW6.out.size _), Lib.hid (Or.inr (Or.inr (Or.inr ⟨rfl, by have := HCC.out; simp [cB] at this ⊢; omega, by rw [← HNN.out]; rfl, rfl, rfl, rfl⟩)))⟩
            case measure => simp [intOf]
          · as_aux_lemma =>
            go_wp2_with (first | (go_at_call 15; go_must (refine (HO2.out _ (H.out.below (HW.out.alloc HW.out.size _))).mono ?_; rintro e w4 ⟨rfl, hb4⟩; have HX4 := Lib.hid ((HX.out.alloc _).below hb4); have HW4 := Lib.hid (bgo (HW.out.alloc HW.out.size _) hb4); obtain ⟨y0, y1, y2⟩ := HX4.out.c; have g0 := HX4.out.froz 2; have HX5 := Lib.hid (HX4.out.set2 (.iface T2 p2)); have HW5 : Hid (Below w.heap.size w (w4.setCell ⟨w2.heap.size, 2, none⟩ (.iface T2 p2))) := Lib.hid (HW4.out.setCell HW2.out.size _); clear hb4)) | (go_at_call 18; go_must (refine (HP2.out _).mono ?_; rintro e w5 ⟨rfl, hb5⟩; have HX6 := Lib.hid (HX5.out.below hb5); have HW6 := Lib.hid (bgo HW5.out hb5); clear hb5)))
            go_roundw
            case rel => exact ⟨3, _, _, _, _, _, by go_num, rfl, rfl, Lib.hid (HX6.out.alloc _), Lib.hid (HW6.out.alloc HW6.out.size _), Lib.hid (Or.inr (Or.inr (Or.inr ⟨rfl, by have := HCC.out; simp [cB] at this ⊢; omega, by rw [← HNN.out]; rfl, rfl, rfl, rfl⟩)))⟩
            case measure => simp [intOf]
        · as_aux_lemma =>
          go_wp2_with (first | (go_at_call 15; go_must (refine (HO2.out _ (H.out.below (HW.out.alloc HW.out.size _))).mono ?_; rintro e w4 ⟨rfl, hb4⟩; have HX4 := Lib.hid ((HX.out.alloc _).below hb4); have HW4 := Lib.hid (bgo (HW.out.alloc HW.out.size _) hb4); obtain ⟨y0, y1, y2⟩ := HX4.out.c; have g0 := HX4.out.froz 2; have HX5 := Lib.hid (HX4.out.set2 (.iface T2 p2)); have HW5 : Hid (Below w.heap.size w (w4.setCell ⟨w2.heap.size, 2, none⟩ (.iface T2 p2))) := Lib.hid (HW4.out.setCell HW2.out.size _); clear hb4)) | (go_at_call 18; go_must (refine (HP2.out _).mono ?_; rintro e w5 ⟨rfl, hb5⟩; have HX6 := Lib.hid (HX5.out.below hb5); have HW6 := Lib.hid (bgo HW5.out hb5); clear hb5)))
          go_roundw
          case rel => exact ⟨3, _, _, _, _, _, by go_num, rfl, rfl, Lib.hid (HX6.out.alloc _), Lib.hid (HW6.out.alloc HW6.out.size _), Lib.hid (Or.inr (Or.inr (Or.inr ⟨rfl, by have := HCC.out; simp [cB] at this ⊢; omega, by rw [← HNN.out]; rfl, rfl, rfl, rfl⟩)))⟩
          case measure => simp [intOf]
      · cases n
        · cases n2
          · as_aux_lemma =>
            go_wp2_with (first | (go_at_call 15; go_must (refine (HO2.out _ (H.out.below (HW.out.alloc HW.out.size _))).mono ?_; rintro e w4 ⟨rfl, hb4⟩; have HX4 := Lib.hid ((HX.out.alloc _).below hb4); have HW4 := Lib.hid (bgo (HW.out.alloc HW.out.size _) hb4); obtain ⟨y0, y1, y2⟩ := HX4.out.c; have g0 := HX4.out.froz 2; have HX5 := Lib.hid (HX4.out.set2 (.iface T2 p2)); have HW5 : Hid (Below w.heap.size w (w4.setCell ⟨w2.heap.size, 2, none⟩ (.iface T2 p2))) := Lib.hid (HW4.out.setCell HW2.out.size _); clear hb4)) | (go_at_call 18; go_must (refine (HP2.out _).mono ?_; rintro e w5 ⟨rfl, hb5⟩; have HX6 := Lib.hid (HX5.out.below hb5); have HW6 := Lib.hid (bgo HW5.out hb5); clear hb5)))
            go_roundw
            case rel => exact ⟨3, _, _, _, _, _, by go_num, rfl, rfl, Lib.hid (HX6.out.alloc _), Lib.hid (HW6.out.alloc HW6.out.size _), Lib.hid (Or.inr (Or.inr (Or.inr ⟨rfl, by have := HCC.out; simp [cB] at this ⊢; omega, by rw [← HNN.out]; rfl, rfl, rfl, rfl⟩)))⟩
            case measure => simp [intOf]
          · as_aux_lemma =>
            go_wp2_with (first | (go_at_call 15; go_must (refine (HO2.out _ (H.out.below (HW.out.alloc HW.out.size _))).mono ?_; rintro e w4 ⟨rfl, hb4⟩; have HX4 := Lib.hid ((HX.out.alloc _).below hb4); have HW4 := Lib.hid (bgo (HW.out.alloc HW.out.size _) hb4); obtain ⟨y0, y1, y2⟩ := HX4.out.c; have g0 := HX4.out.froz 2; have HX5 := Lib.hid (HX4.out.set2 (.iface T2 p2)); have HW5 : Hid (Below w.heap.size w (w4.setCell ⟨w2.heap.size, 2, none⟩ (.iface T2 p2))) := Lib.hid (HW4.out.setCell HW2.out.size _); clear hb4)) | (go_at_call 18; go_must (refine (HP2.out _).mono ?_; rintro e w5 ⟨rfl, hb5⟩; have HX6 := Lib.hid (HX5.out.below hb5); have HW6 := Lib.hid (bgo HW5.out hb5); clear hb5)))
            go_roundw
            case rel => exact ⟨3, _, _, _, _, _, by go_num, rfl, rfl, Lib.hid (HX6.out.alloc _), Lib.hid (HW6.out.alloc HW6.out.size _), Lib.hid (Or.inr (Or.inr (Or.inr ⟨rfl, by have := HCC.out; simp [cB] at this ⊢; omega, by rw [← HNN.out]; rfl, rfl, rfl, rfl⟩)))⟩
            case measure => simp [intOf]
        · as_aux_lemma =>
          go_wp2_with (first | (go_at_call 15; go_must (refine (HO2.out _ (H.out.below (HW.out.alloc HW.out.size _))).mono ?_; rintro e w4 ⟨rfl, hb4⟩; have HX4 := Lib.hid ((HX.out.alloc _).below hb4); have HW4 := Lib.hid (bgo (HW.out.alloc HW.out.size _) hb4); obtain ⟨y0, y1, y2⟩ := HX4.out.c; have g0 := HX4.out.froz 2; have HX5 := Lib.hid (HX4.out.set2 (.iface T2 p2)); have HW5 : Hid (Below w.heap.size w (w4.setCell ⟨w2.heap.size, 2, none⟩ (.iface T2 p2))) := Lib.hid (HW4.out.setCell HW2.out.size _); clear hb4)) | (go_at_call 18; go_must (refine (HP2.out _).mono ?_; rintro e w5 ⟨rfl, hb5⟩; have HX6 := Lib.hid (HX5.out.below hb5); have HW6 := Lib.hid (bgo HW5.out hb5); clear hb5)))
          go_roundw
          case rel => exact ⟨3, _, _, _, _, _, by go_num, rfl, rfl, Lib.hid (HX6.out.alloc _), Lib.hid (HW6.out.alloc HW6.out.size _), Lib.hid (Or.inr (Or.inr (Or.inr ⟨rfl, by have := HCC.out; simp [cB] at this ⊢; omega, by rw [← HNN.out]; rfl, rfl, rfl, rfl⟩)))⟩
          case measure => simp [intOf]
    · have HNN := Lib.hid hn
      have hc3 : c = cB a0 + cB a1 + cB a2 := hc
      clear hc hn HST f0 f1 f2
      by_cases hall : (a0 = a1 ∧ a1 = a2) ∧ n = false
      · obtain ⟨⟨rfl, rfl⟩, rfl⟩ := hall
        have hnn : n0 = false ∧ n1 = false ∧ n2 = false := by
          have := HNN.out
          clear HNN
          revert this
          cases n0 <;> cases n1 <;> cases n2 <;> decide
        obtain ⟨z01, z12, z02, hz, h1, h2, h3⟩ := HC.out rfl rfl hnn.1 hnn.2.1 hnn.2.2
        have HC1 := Lib.hid h1
        have HC2 := Lib.hid h2
        have HC3 := Lib.hid h3
        clear hnn h1 h2 h3 HNN
        have hcc : c = 0 ∨ c = 3 := by rw [hc3]; cases a0 <;> simp [cB]
        clear hc3
        rcases hcc with rfl | rfl
        all_goals
          by_cases g1 : 0 < z01
          · as_aux_lemma =>
            go_wp2_with (first | (go_at_call 28; (with_reducible refine (HC1.out _ (H.out.below HW.out)).mono ?_); rintro e w6 ⟨rfl, hb6⟩; have HX7 := Lib.hid (HX.out.below hb6); have HW7 := Lib.hid (bgo HW.out hb6); obtain ⟨y0, y1, y2⟩ := HX7.out.c; clear hb6) | (go_at_call 28; (with_reducible refine (HC2.out _ (H.out.below HW7.out)).mono ?_); rintro e w7 ⟨rfl, hb7⟩; have HX8 := Lib.hid (HX7.out.below hb7); have HW8 := Lib.hid (bgo HW7.out hb7); obtain ⟨z0, z1, z2⟩ := HX8.out.c; clear hb7) | (go_at_call 28; (with_reducible refine (HC3.out _ (H.out.below HW8.out)).mono ?_); rintro e w8 ⟨rfl, hb8⟩; have HW9 := Lib.hid (bgo HW8.out hb8); clear hb8))
            go_ret
            exact ⟨rfl, HW9.out⟩
          · by_cases g2 : 0 < z12
            · as_aux_lemma =>
              go_wp2_with (first | (go_at_call 28; (with_reducible refine (HC1.out _ (H.out.below HW.out)).mono ?_); rintro e w6 ⟨rfl, hb6⟩; have HX7 := Lib.hid (HX.out.below hb6); have HW7 := Lib.hid (bgo HW.out hb6); obtain ⟨y0, y1, y2⟩ := HX7.out.c; clear hb6) | (go_at_call 28; (with_reducible refine (HC2.out _ (H.out.below HW7.out)).mono ?_); rintro e w7 ⟨rfl, hb7⟩; have HX8 := Lib.hid (HX7.out.below hb7); have HW8 := Lib.hid (bgo HW7.out hb7); obtain ⟨z0, z1, z2⟩ := HX8.out.c; clear hb7) | (go_at_call 28; (with_reducible refine (HC3.out _ (H.out.below HW8.out)).mono ?_); rintro e w8 ⟨rfl, hb8⟩; have HW9 := Lib.hid (bgo HW8.out hb8); clear hb8))
              go_ret
              exact ⟨rfl, HW9.out⟩
            · have g3 : z02 ≤ 0 := by omega
              as_aux_lemma =>
              go_wp2_with (first | (go_at_call 28; (with_reducible refine (HC1.out _ (H.out.below HW.out)).mono ?_); rintro e w6 ⟨rfl, hb6⟩; have HX7 := Lib.hid (HX.out.below hb6); have HW7 := Lib.hid (bgo HW.out hb6); obtain ⟨y0, y1, y2⟩ := HX7.out.c; clear hb6) | (go_at_call 28; (with_reducible refine (HC2.out _ (H.out.below HW7.out)).mono ?_); rintro e w7 ⟨rfl, hb7⟩; have HX8 := Lib.hid (HX7.out.below hb7); have HW8 := Lib.hid (bgo HW7.out hb7); obtain ⟨z0, z1, z2⟩ := HX8.out.c; clear hb7) | (go_at_call 28; (with_reducible refine (HC3.out _ (H.out.below HW8.out)).mono ?_); rintro e w8 ⟨rfl, hb8⟩; have HW9 := Lib.hid (bgo HW8.out hb8); clear hb8))
              go_ret
              exact ⟨rfl, HW9.out⟩
      · clear x0 x1 x2
        cases n
        · have hcc : c = 1 ∨ c = 2 := by
            rw [hc3]
            cases a0 <;> cases a1 <;> cases a2 <;> simp [cB] at hall ⊢
          clear hc3 hall
          rcases hcc with rfl | rfl
          all_goals
            as_aux_lemma =>
            go_wp2
            go_ret
            exact ⟨rfl, HW.out⟩
        · have hcc : c = 0 ∨ c = 3 ∨ c = 1 ∨ c = 2 := by
            rw [hc3]
            cases a0 <;> cases a1 <;> cases a2 <;> simp [cB]
          clear hc3 hall
          rcases hcc with rfl | rfl | rfl | rfl
          all_goals
            as_aux_lemma =>
            go_wp2
            go_ret
            exact ⟨rfl, HW.out⟩
end Go.Proofs.YtcjeeoadgoghfaaGreatDoor.vaa

namespace Go.Proofs.YtcjeeoadgoghfaaGreatDoor.vaa
set_option linter.unusedVariables false set_option linter.unusedSimpArgs false
open Go.ChangeShapes Go.WideShapes Go.ChangeAt Go.RowKit Go.Proofs.YtcjeeoadgoghfaaGreatDoor.base Go.Proofs.YtcjeeoadgoghfaaGreatDoor.law02

theorem alone_k (x : V) : (x.k.toList == [115, 116, 114]) = x.alone := by
  cases x with
  | nil => show ((⟨#[110, 111, 110, 101]⟩ : ByteArray).toList == [115, 116, 114]) = false; decide +kernel
  | none => show ((⟨#[110, 111, 110, 101]⟩ : ByteArray).toList == [115, 116, 114]) = false; decide +kernel
  | num b => show ((⟨#[110, 117, 109]⟩ : ByteArray).toList == [115, 116, 114]) = false; decide +kernel
  | str s => show ((⟨#[115, 116, 114]⟩ : ByteArray).toList == [115, 116, 114]) = true; decide +kernel
  | both s b => show ((⟨#[98, 111, 116, 104]⟩ : ByteArray).toList == [115, 116, 114]) = false; decide +kernel
theorem alone_no {x : V} (h : x.alone = true) : x.noNum := by
  cases x with
  | num b => cases h
  | nil => trivial
  | none => trivial
  | str s => trivial
  | both s b => trivial
theorem numW_b {x : V} (h : x.alone = false) : x.numW = x.b := by
  cases x with
  | str s => cases h
  | nil => rfl
  | none => rfl
  | num b => rfl
  | both s b => rfl
theorem ord_self {b : Nat} (h : (FloatKind.f64.format.order b b != some .eq) = false) : Ieee.double.order b b = some .eq := by
  have := bne_eq_false_iff_eq.1 h
  exact this

/-- How three values compare. -/
theorem three_cmp (x y z : V) (hx : x.Ok) (hy : y.Ok) (hz : z.Ok) (h1 : x.alone = y.alone) (h2 : y.alone = z.alone)
    (nx : (FloatKind.f64.format.order x.b x.b != some .eq) = false) (ny : (FloatKind.f64.format.order y.b y.b != some .eq) = false) (nz : (FloatKind.f64.format.order z.b z.b != some .eq) = false) :
    ∃ z01 z12 z02 : Int, (0 < z01 ∨ 0 < z12 ∨ z02 ≤ 0) ∧
      (∀ w, Tbs w → Calls Tryz.prog 28 #[x.val, y.val, .string ⟨#[37, 46, 54, 103]⟩] w fun e w' => e = .returned (.tuple #[.int .i64 z01, .bool true]) ∧ Below w.heap.size w w') ∧
      (∀ w, Tbs w → Calls Tryz.prog 28 #[y.val, z.val, .string ⟨#[37, 46, 54, 103]⟩] w fun e w' => e = .returned (.tuple #[.int .i64 z12, .bool true]) ∧ Below w.heap.size w w') ∧
      (∀ w, Tbs w → Calls Tryz.prog 28 #[x.val, z.val, .string ⟨#[37, 46, 54, 103]⟩] w fun e w' => e = .returned (.tuple #[.int .i64 z02, .bool true]) ∧ Below w.heap.size w w') := by
  cases hz' : z.alone with
  | true =>
    have ay : y.alone = true := h2.trans hz'
    have ax : x.alone = true := h1.trans ay
    refine ⟨_, _, _, ?_, fun w _ => compare_str x y (alone_no ax) (alone_no ay) ax _ w, fun w _ => compare_str y z (alone_no ay) (alone_no hz') ay _ w, fun w _ => compare_str x z (alone_no ax) (alone_no hz') ax _ w⟩
    by_cases g1 : 0 < Lib.compareBytes x.s.data.toList y.s.data.toList
    · exact Or.inl g1
    · by_cases g2 : 0 < Lib.compareBytes y.s.data.toList z.s.data.toList
      · exact Or.inr (Or.inl g2)
      · exact Or.inr (Or.inr (cmp_trans _ _ _ (Int.not_lt.1 g1) (Int.not_lt.1 g2)))
  | false =>
    have ay : y.alone = false := h2.trans hz'
    have ax : x.alone = false := h1.trans ay
    refine ⟨_, _, _, ?_, fun w h => compare_num x y hx hy ax ay _ w h, fun w h => compare_num y z hy hz ay hz' _ w h, fun w h => compare_num x z hx hz ax hz' _ w h⟩
    rw [numW_b ax, numW_b ay, numW_b hz']
    by_cases g1 : 0 < cmpW x.b y.b
    · exact Or.inl g1
    · by_cases g2 : 0 < cmpW y.b z.b
      · exact Or.inr (Or.inl g2)
      · exact Or.inr (Or.inr (cmpW_trans (ord_self nx) (ord_self ny) (ord_self nz) (Int.not_lt.1 g1) (Int.not_lt.1 g2)))

set_option maxRecDepth 100000 in
set_option maxHeartbeats 1000000 in
theorem rises_no (K0 : ByteArray) (B0 : Nat) (S0 K1 : ByteArray) (B1 : Nat) (S1 K2 : ByteArray) (B2 : Nat) (S2 : ByteArray) (w : World) (h : Tbs w)
    (hfit : ([⟨K0, B0, S0⟩, ⟨K1, B1, S1⟩, ⟨K2, B2, S2⟩] : List T3).all T3.fits = false) :
    Calls Tryz.prog 6 #[.agg (arrV K0 B0 S0 K1 B1 S1 K2 B2 S2)] w fun e w' => e = .returned (.bool true) ∧ Below w.heap.size w w' := by
  have H := Lib.hid h
  have HB0 := Lib.hid ((Below.refl w.heap.size w).alloc (Nat.le_refl _) (.cells (arrV K0 B0 S0 K1 B1 S1 K2 B2 S2) 49))
  have HA0 := Lib.hid (new_row w (.cells (arrV K0 B0 S0 K1 B1 S1 K2 B2 S2) 49))
  have HALT := Lib.hid (show w.heap.size < (w.alloc (.cells (arrV K0 B0 S0 K1 B1 S1 K2 B2 S2) 49)).heap.size by simp)
  have HF := Lib.hid (fun (W : World) (hr : W.heap[w.heap.size]? = some (.cells (arrV K0 B0 S0 K1 B1 S1 K2 B2 S2) 49 (0, 0))) => show Calls Tryz.prog 14 #[.slice (some ⟨w.heap.size, 0, none⟩) 3 3] W fun e w' => e = .returned (.bool false) ∧ Below W.heap.size W w' by
    have := fit_all [⟨K0, B0, S0⟩, ⟨K1, B1, S1⟩, ⟨K2, B2, S2⟩] w.heap.size 0 3 W (by
      intro i hi
      have hi3 : i < 3 := hi
      obtain h | h | h : i = 0 ∨ i = 1 ∨ i = 2 := by omega
      all_goals subst h; simp [World.cell?, hr]) (by simp)
    rw [hfit] at this
    exact this)
  clear h hfit
  go_enter Tryz.func6, Tryz.ntmps6
  go_wp2_with (first | (go_at_call 13; go_must (refine (awake_all _ (H.out.below HB0.out)).mono ?_; rintro e w1 ⟨rfl, hb1⟩; have HW1 := Lib.hid (bgo HB0.out hb1); have HA1 := Lib.hid ((hb1.block _ HALT.out).trans HA0.out); clear hb1)) | (go_at_call 14; go_must (refine (HF.out _ HA1.out).mono ?_; rintro e w2 ⟨rfl, hb2⟩; have HW2 := Lib.hid (bgo HW1.out hb2); clear hb2)))
  go_ret
  exact ⟨rfl, HW2.out⟩

theorem rises_law (K0 : ByteArray) (B0 : Nat) (S0 K1 : ByteArray) (B1 : Nat) (S1 K2 : ByteArray) (B2 : Nat) (S2 : ByteArray) (w : World) (h : Tbs w) :
    Calls Tryz.prog 6 #[.agg (arrV K0 B0 S0 K1 B1 S1 K2 B2 S2)] w fun e w' => e = .returned (.bool true) ∧ Below w.heap.size w w' := by
  cases hfit : ([⟨K0, B0, S0⟩, ⟨K1, B1, S1⟩, ⟨K2, B2, S2⟩] : List T3).all T3.fits with
  | false => exact rises_no K0 B0 S0 K1 B1 S1 K2 B2 S2 w h hfit
  | true =>
    have hall := List.all_eq_true.1 hfit
    have z0 : S0.size ≤ 700 := fits_le (hall ⟨K0, B0, S0⟩ (by simp))
    have z1 : S1.size ≤ 700 := fits_le (hall ⟨K1, B1, S1⟩ (by simp))
    have z2 : S2.size ≤ 700 := fits_le (hall ⟨K2, B2, S2⟩ (by simp))
    obtain ⟨T0, p0, e0⟩ := ofV_if K0 B0 S0
    obtain ⟨T1, p1, e1⟩ := ofV_if K1 B1 S1
    obtain ⟨T2, p2, e2⟩ := ofV_if K2 B2 S2
    refine rises_body K0 B0 S0 K1 B1 S1 K2 B2 S2 w h T0 T1 T2 p0 p1 p2 (ofV K0 B0 S0).k (ofV K1 B1 S1).k (ofV K2 B2 S2).k (ofV K0 B0 S0).s (ofV K1 B1 S1).s (ofV K2 B2 S2).s (ofV K0 B0 S0).b (ofV K1 B1 S1).b (ofV K2 B2 S2).b
      (ofV K0 B0 S0).alone (ofV K1 B1 S1).alone (ofV K2 B2 S2).alone _ _ _ hfit ?_ ?_ ?_ ?_ ?_ ?_ (alone_k _) (alone_k _) (alone_k _) rfl rfl rfl ?_
    · rw [← e0]; exact fun w h => of_all K0 B0 S0 z0 w h
    · rw [← e1]; exact fun w h => of_all K1 B1 S1 z1 w h
    · rw [← e2]; exact fun w h => of_all K2 B2 S2 z2 w h
    · rw [← e0]; exact fun w => plain_all (ofV K0 B0 S0) w
    · rw [← e1]; exact fun w => plain_all (ofV K1 B1 S1) w
    · rw [← e2]; exact fun w => plain_all (ofV K2 B2 S2) w
    · rw [← e0, ← e1, ← e2]
      intro h1 h2 nx ny nz
      exact three_cmp _ _ _ (ofV_ok K0 B0 S0 z0) (ofV_ok K1 B1 S1 z1) (ofV_ok K2 B2 S2 z2) h1 h2 nx ny nz
end Go.Proofs.YtcjeeoadgoghfaaGreatDoor.vaa

namespace Go.Proofs.YtcjeeoadgoghfaaGreatDoor.laidValueRises
set_option linter.unusedVariables false set_option linter.unusedSimpArgs false
open Go.ChangeShapes Go.WideShapes Go.ChangeAt Go.RowKit Go.Proofs.YtcjeeoadgoghfaaGreatDoor.laidT

theorem tbs {W : World} (hL : laidMetH Tryz.prog Rows.valueRisesRow.laid W) : vaa.Tbs W := by
  rw [MakeChecks.laidMetH_plain _ _ _ (by kernel_rfl)] at hL
  have v3 : Lib.VarReads Tryz.prog W "internal/strconv.float64info" Rows.laid_internal_strconv_float64info := Lib.laidMet.reads hL (List.mem_of_getElem? (i := 3) (by kernel_rfl))
  have v4 : Lib.VarReads Tryz.prog W "internal/strconv.optimize" Rows.laid_internal_strconv_optimize := Lib.laidMet.reads hL (List.mem_of_getElem? (i := 4) (by kernel_rfl))
  have v5 : Lib.VarReads Tryz.prog W "internal/strconv.powtab" Rows.laid_internal_strconv_powtab := Lib.laidMet.reads hL (List.mem_of_getElem? (i := 5) (by kernel_rfl))
  have v6 : Lib.VarReads Tryz.prog W "internal/strconv.float64pow10" Rows.laid_internal_strconv_float64pow10 := Lib.laidMet.reads hL (List.mem_of_getElem? (i := 6) (by kernel_rfl))
  have v8 : Lib.VarReads Tryz.prog W "internal/strconv.uint64pow10" Rows.laid_internal_strconv_uint64pow10 := Lib.laidMet.reads hL (List.mem_of_getElem? (i := 8) (by kernel_rfl))
  have v10 : Lib.VarReads Tryz.prog W "strconv.ErrRange" Rows.laid_strconv_ErrRange := Lib.laidMet.reads hL (List.mem_of_getElem? (i := 10) (by kernel_rfl))
  have v12 : Lib.VarReads Tryz.prog W "internal/strconv.leftcheats" Rows.laid_internal_strconv_leftcheats := Lib.laidMet.reads hL (List.mem_of_getElem? (i := 12) (by kernel_rfl))
  have v13 : Lib.VarReads Tryz.prog W "internal/strconv.pow10Tab" Rows.laid_internal_strconv_pow10Tab := Lib.laidMet.reads hL (List.mem_of_getElem? (i := 13) (by kernel_rfl))
  exact ⟨dw v4 v3 v5 v6 v12 v13, rg v10, tens v8⟩
end Go.Proofs.YtcjeeoadgoghfaaGreatDoor.laidValueRises

namespace Go.Proofs.YtcjeeoadgoghfaaGreatDoor.vaa
set_option linter.unusedVariables false set_option linter.unusedSimpArgs false
open Go.ChangeShapes Go.WideShapes Go.ChangeAt Go.RowKit Go.Proofs.YtcjeeoadgoghfaaGreatDoor.base

theorem cells_arr : Tryz.prog.cellsOf 49 = 9 := by kernel_rfl
theorem parts3 (cs : List Value) (a0 a1 a2 b0 b1 b2 c0 c1 c2 : Value) (h : cs.length = 9) (h0 : (cs.drop 0).take 3 = [a0, a1, a2]) (h1 : (cs.drop 3).take 3 = [b0, b1, b2]) (h2 : (cs.drop 6).take 3 = [c0, c1, c2]) : cs = [a0, a1, a2, b0, b1, b2, c0, c1, c2] := by
  match cs, h with
  | [x0, x1, x2, x3, x4, x5, x6, x7, x8], _ =>
    simp only [List.drop_zero, List.drop_succ_cons, List.take_succ_cons, List.take_zero] at h0 h1 h2
    cases h0; cases h1; cases h2; rfl
set_option maxRecDepth 100000 in
theorem arr_arg {H : Type} {enc : TypeId × Value → H} {w W : World} {base b2 : Nat} {sp : Nat → Bool} {held : Bool} {v : Value} {d : DataW H} {p : List MemPlace} (hv : Value.okWide Tryz.prog W .any b2 49 v) (h : DataW.Trod enc Tryz.prog w base sp held 49 v d p) :
    ∃ (K0 : ByteArray) (B0 : Nat) (S0 K1 : ByteArray) (B1 : Nat) (S1 K2 : ByteArray) (B2 : Nat) (S2 : ByteArray), v = .agg #[.string K0, .float .f64 B0, .string S0, .string K1, .float .f64 B1, .string S1, .string K2, .float .f64 B2, .string S2] := by
  unfold Value.okWide at hv
  rw [Tryz.underlying49] at hv
  obtain ⟨cs, rfl, _⟩ := hv
  obtain ⟨fuel, hfu⟩ := h
  obtain ⟨xs, m, _, ex, hlen, hl, hel⟩ := DataW.trod_array Tryz.underlying49 hfu
  rw [cells_arr] at hlen
  have g0 := hel 0 (by decide)
  have g1 := hel 1 (by decide)
  have g2 := hel 2 (by decide)
  rw [cells_val, List.getElem?_eq_getElem (by omega)] at g0 g1 g2
  obtain ⟨K0, B0, S0, e0⟩ := val_open g0
  obtain ⟨K1, B1, S1, e1⟩ := val_open g1
  obtain ⟨K2, B2, S2, e2⟩ := val_open g2
  refine ⟨K0, B0, S0, K1, B1, S1, K2, B2, S2, ?_⟩
  congr 1
  exact Array.toList_inj.1 (parts3 _ _ _ _ _ _ _ _ _ _ hlen e0 e1 e2)
end Go.Proofs.YtcjeeoadgoghfaaGreatDoor.vaa
