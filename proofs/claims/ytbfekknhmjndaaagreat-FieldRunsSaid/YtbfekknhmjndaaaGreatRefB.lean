/- The document's reading of expressions, apart from memory, and that it comes to Spec's. The document's reading of expressions, apart from memory, and that it comes to Spec's: repeats, pieces, branches, the whole. The document's reading of expressions, apart from memory: atoms, pieces, branches, the whole: it comes to Spec's. The document's reader of expressions: what is said of trees that are read; ranges. The document's reader of expressions: rows of trees in a slice of the call's own; where a branch ends. -/
import Derived.Test.YtbfekknhmjndaaaGreatRefA2
import Derived.Test.YtbfekknhmjndaaaGreatRefA3
import Derived.Deep.OwnRows
import Derived.Laws.Tables
import Derived.Laws.Rows
import Derived.Test.YtbfekknhmjndaaaGreatAdd2
import Derived.Deep.AppendLies

namespace Go.Proofs.YtbfekknhmjndaaaGreat.doc3
set_option linter.unusedVariables false set_option linter.unusedSimpArgs false
set_option maxRecDepth 20000
open Go.ChangeShapes Go.WideShapes Go.ChangeAt Go.RowKit Go.Proofs.YtbfekknhmjndaaaGreat.base Go.Proofs.YtbfekknhmjndaaaGreat.read Go.Proofs.YtbfekknhmjndaaaGreat.spec Go.Proofs.YtbfekknhmjndaaaGreat.set Go.Proofs.YtbfekknhmjndaaaGreat.parts

/-- The document's size of a node whose kids are n together: above 2000: 2001. -/
def szdN (op : ByteArray) (lo hi : Int) (n : Nat) : Nat :=
  if op = setW ∨ op = bolW ∨ op = eolW then 1 else if op = altW then min (n + 1) 2001
  else if op = repW then min (n * (if hi < 0 then lo + 1 else max 1 hi).toNat + 1) 2001 else min n 2001
def szdF : Forest → Nat → Nat
  | .nil, n => n
  | .cons op _ lo hi k r, n => szdF r (min (n + szdN op lo hi (szdF k 0)) 2001)
def szd (t : T) : Nat := szdN t.op t.lo t.hi (szdF t.kids 0)
theorem szdN_le (op : ByteArray) (lo hi : Int) (n : Nat) : szdN op lo hi n ≤ 2001 := by
  unfold szdN
  split
  · omega
  · split
    · omega
    · split <;> omega
theorem szd_le (t : T) : szd t ≤ 2001 := szdN_le _ _ _ _
theorem szdF_snoc (f : Forest) (t : T) : ∀ n, szdF (f.snoc t) n = min (szdF f n + szd t) 2001 := by
  induction f with
  | nil => intro n; rfl
  | cons op set lo hi k r _ ih => intro n; rw [Forest.snoc, szdF, szdF]; exact ih _
/-- The document's tree D against a part. -/
structure Rel (D : T) (p : Part) : Prop where
  le : p.n ≤ 2001
  small : p.n ≤ 2000 → p.t = D ∧ szd D = p.n
  big : 2000 < p.n → 2000 < szd D
theorem rel_leaf {D : T} (h : D.op = setW ∨ D.op = bolW ∨ D.op = eolW) : Rel D ⟨D, 1⟩ :=
  ⟨by show 1 ≤ 2001; omega, fun _ => ⟨rfl, by unfold szd szdN; rw [if_pos h]⟩, fun h => absurd h (by show ¬ 2000 < 1; omega)⟩
def repT (D : T) (lo hi : Int) : T := ⟨repW, ⟨#[]⟩, lo, hi, Forest.nil.snoc D⟩
theorem szd_rep (D : T) (lo hi : Int) : szd (repT D lo hi) = min (szd D * (if hi < 0 then lo + 1 else max 1 hi).toNat + 1) 2001 := by
  have hle := szd_le D
  have e : szdF (Forest.nil.snoc D) 0 = szd D := by
    rw [szdF_snoc]
    show min (0 + szd D) 2001 = szd D
    omega
  unfold szd repT
  simp only
  rw [e]
  unfold szdN
  rw [if_neg (by decide), if_neg (by decide), if_pos rfl]
  rfl
theorem times_eq {lo hi : Int} (h : hi = -1 ∨ 0 ≤ hi) : (if hi < 0 then lo + 1 else max 1 hi).toNat = timesOf lo hi := by
  unfold timesOf
  rcases h with h | h
  · rw [if_pos (by omega), if_pos h]
  · rw [if_neg (by omega), if_neg (by omega)]
theorem times_pos {lo hi : Int} (hlo : 0 ≤ lo) : 1 ≤ timesOf lo hi := by
  unfold timesOf
  split <;> omega
theorem rel_rep {D : T} {p : Part} {lo hi : Int} (h : Rel D p) (hlo : 0 ≤ lo) (hhi : hi = -1 ∨ 0 ≤ hi) : Rel (repT D lo hi) (repP p lo hi) := by
  have ht := times_pos (hi := hi) hlo
  unfold repP
  by_cases hb : 2000 < p.n
  · rw [if_pos hb]
    refine ⟨h.le, fun h2 => by omega, fun _ => ?_⟩
    rw [szd_rep, times_eq hhi]
    have h3 := h.big hb
    have h4 : szd D * 1 ≤ szd D * timesOf lo hi := Nat.mul_le_mul_left _ ht
    omega
  · rw [if_neg hb]
    obtain ⟨h1, h2⟩ := h.small (by omega)
    have e : szd (repT D lo hi) = min (p.n * timesOf lo hi + 1) 2001 := by rw [szd_rep, times_eq hhi, h2]
    unfold sizedP
    by_cases hc : 2000 < p.n * timesOf lo hi + 1
    · rw [if_pos hc]
      exact ⟨by show 2001 ≤ 2001; omega, fun h => absurd h (by show ¬ 2001 ≤ 2000; omega), fun _ => by rw [e]; omega⟩
    · rw [if_neg hc]
      refine ⟨by show p.n * timesOf lo hi + 1 ≤ 2001; omega, fun _ => ⟨?_, ?_⟩, fun h => absurd h hc⟩
      · rw [h1]; rfl
      · show szd _ = p.n * timesOf lo hi + 1
        rw [e]; omega
/-- The document's kids against a row. -/
structure RelR (F : Forest) (r : Row) : Prop where
  le : r.n ≤ 2001
  small : r.n ≤ 2000 → r.kids = F ∧ szdF F 0 = r.n
  big : 2000 < r.n → r.kids = .nil ∧ 2000 < szdF F 0
theorem relR_zero : RelR .nil row0 := ⟨by decide, fun _ => ⟨rfl, rfl⟩, fun h => absurd h (by decide)⟩
theorem relR_add {F : Forest} {r : Row} {D : T} {p : Part} (h : RelR F r) (k : Rel D p) : RelR (F.snoc D) (r.add p) := by
  unfold Row.add
  by_cases hc : r.n + p.n < 2001
  · rw [if_pos hc]
    obtain ⟨h1, h2⟩ := h.small (by omega)
    obtain ⟨k1, k2⟩ := k.small (by omega)
    refine ⟨by show r.n + p.n ≤ 2001; omega, fun _ => ⟨by rw [h1, k1], ?_⟩, fun h => absurd h (by show ¬ 2000 < r.n + p.n; omega)⟩
    show szdF _ 0 = r.n + p.n
    rw [szdF_snoc, h2, k2]; omega
  · rw [if_neg hc]
    refine ⟨by show 2001 ≤ 2001; omega, fun h => absurd h (by show ¬ 2001 ≤ 2000; omega), fun _ => ⟨rfl, ?_⟩⟩
    rw [szdF_snoc]
    have h5 : r.n ≤ szdF F 0 ∨ 2000 < szdF F 0 := by
      by_cases hb : 2000 < r.n
      · exact Or.inr (h.big hb).2
      · exact Or.inl (by rw [(h.small (by omega)).2]; exact Nat.le_refl _)
    have h6 : p.n ≤ szd D ∨ 2000 < szd D := by
      by_cases hb : 2000 < p.n
      · exact Or.inr (k.big hb)
      · exact Or.inl (by rw [(k.small (by omega)).2]; exact Nat.le_refl _)
    omega
/-- A row's tree. -/
def joinD (op : ByteArray) (F : Forest) : T := if F.len = 1 then F.head else ⟨op, ⟨#[]⟩, 0, 0, F⟩
theorem szdF_one {F : Forest} (h : F.len = 1) : szdF F 0 = szd F.head := by
  match F, h with
  | .cons op set lo hi k .nil, _ =>
    show min (0 + szdN op lo hi (szdF k 0)) 2001 = szdN op lo hi (szdF k 0)
    have := szdN_le op lo hi (szdF k 0)
    omega
  | .cons op set lo hi k (.cons _ _ _ _ _ _), h => simp only [Forest.len] at h; omega
theorem szdF_le (F : Forest) : ∀ n, n ≤ 2001 → szdF F n ≤ 2001 := by
  induction F with
  | nil => intro n h; exact h
  | cons op set lo hi k r _ ih => intro n h; exact ih _ (Nat.min_le_right _ _)
theorem rel_join {F : Forest} {r : Row} {op : ByteArray} {own : Nat} (h : RelR F r) (ho : (op = catW ∧ own = 0) ∨ (op = altW ∧ own = 1)) : Rel (joinD op F) (r.join op own) := by
  have hsz : ∀ (f : Forest), szd ⟨op, ⟨#[]⟩, 0, 0, f⟩ = min (szdF f 0 + own) 2001 := fun f => by
    unfold szd szdN
    rcases ho with ⟨rfl, rfl⟩ | ⟨rfl, rfl⟩
    · rw [if_neg (show ¬ (catW = setW ∨ catW = bolW ∨ catW = eolW) by decide), if_neg (show ¬ catW = altW by decide), if_neg (show ¬ catW = repW by decide)]; rfl
    · rw [if_neg (show ¬ (altW = setW ∨ altW = bolW ∨ altW = eolW) by decide), if_pos rfl]
  have hle := szdF_le F 0 (by omega)
  unfold joinD Row.join
  by_cases hb : 2000 < r.n
  · obtain ⟨h1, h2⟩ := h.big hb
    rw [h1, if_neg (show ¬ (Forest.nil.len = 1) by decide)]
    have e : sizedP ⟨op, ⟨#[]⟩, 0, 0, .nil⟩ (r.n + own) = ⟨zT, 2001⟩ := by unfold sizedP; rw [if_pos (by omega)]
    rw [e]
    refine ⟨by show 2001 ≤ 2001; omega, fun h => absurd h (by show ¬ 2001 ≤ 2000; omega), fun _ => ?_⟩
    by_cases hl : F.len = 1
    · rw [if_pos hl, ← szdF_one hl]; exact h2
    · rw [if_neg hl, hsz]; omega
  · obtain ⟨h1, h2⟩ := h.small (by omega)
    rw [h1]
    by_cases hl : F.len = 1
    · rw [if_pos hl, if_pos hl]
      exact ⟨by show r.n ≤ 2001; omega, fun _ => ⟨rfl, by rw [← szdF_one hl]; exact h2⟩, fun h => absurd h hb⟩
    · rw [if_neg hl, if_neg hl]
      unfold sizedP
      by_cases hc : 2000 < r.n + own
      · rw [if_pos hc]
        exact ⟨by show 2001 ≤ 2001; omega, fun h => absurd h (by show ¬ 2001 ≤ 2000; omega), fun _ => by rw [hsz, h2]; omega⟩
      · rw [if_neg hc]
        exact ⟨by show r.n + own ≤ 2001; omega, fun _ => ⟨rfl, by rw [hsz, h2]; show min (r.n + own) 2001 = r.n + own; omega⟩, fun h => absurd h hc⟩
end Go.Proofs.YtbfekknhmjndaaaGreat.doc3

namespace Go.Proofs.YtbfekknhmjndaaaGreat.doc3
set_option linter.unusedVariables false set_option linter.unusedSimpArgs false
set_option maxRecDepth 20000
open Go.ChangeShapes Go.WideShapes Go.ChangeAt Go.RowKit Go.Proofs.YtbfekknhmjndaaaGreat.base Go.Proofs.YtbfekknhmjndaaaGreat.read Go.Proofs.YtbfekknhmjndaaaGreat.spec Go.Proofs.YtbfekknhmjndaaaGreat.set Go.Proofs.YtbfekknhmjndaaaGreat.parts

/-- Both ways of counting digits. -/
theorem dig_iff (x : UInt8) : (x - 48).toNat < 10 ↔ (48 ≤ x.toNat ∧ x.toNat ≤ 57) := by
  have h : ∀ n : Fin 256, (UInt8.ofNat n.val - 48).toNat < 10 ↔ (48 ≤ n.val ∧ n.val ≤ 57) := by decide +kernel
  have := h ⟨x.toNat, x.toNat_lt⟩
  simpa using this
theorem cnt_cntD (l : List UInt8) : ∀ (n m : Nat) (sm : Bool), m = min n 256 → n ≤ 1000 → (cnt m sm l).1 = min (cntD n sm l).1 256 ∧ (cnt m sm l).2 = (cntD n sm l).2 := by
  induction l with
  | nil => intro n m sm h _; exact ⟨h, rfl⟩
  | cons x t ih =>
    intro n m sm h hn
    rw [cnt, cntD]
    by_cases hd : 48 ≤ x.toNat ∧ x.toNat ≤ 57
    · rw [if_pos ((dig_iff x).2 hd), if_pos hd]
      have hs := sub48 x hd.1
      exact ih _ _ true (by rw [hs]; omega) (Nat.min_le_right _ _)
    · rw [if_neg (fun h => hd ((dig_iff x).1 h)), if_neg hd]
      exact ⟨h, rfl⟩
theorem count_D (l : List UInt8) : count l = if (cntD 0 false l).2.1 && decide ((cntD 0 false l).1 ≤ 255) then some ((cntD 0 false l).1, (cntD 0 false l).2.2) else none := by
  obtain ⟨h1, h2⟩ := cnt_cntD l 0 0 false rfl (by omega)
  unfold count
  rw [h1, h2]
  have e : decide (min (cntD 0 false l).1 256 ≤ 255) = decide ((cntD 0 false l).1 ≤ 255) := by
    rw [decide_eq_decide]; omega
  rw [e]
  by_cases hc : ((cntD 0 false l).2.1 && decide ((cntD 0 false l).1 ≤ 255)) = true
  · rw [if_pos hc, if_pos hc]
    simp only [Bool.and_eq_true, decide_eq_true_eq] at hc
    rw [Nat.min_eq_left (by omega)]
  · rw [if_neg hc, if_neg hc]
theorem cntD_sm (l : List UInt8) : ∀ n, (cntD n true l).2.1 = true := by
  induction l with
  | nil => intro n; rfl
  | cons x t ih =>
    intro n
    rw [cntD]
    split
    · exact ih _
    · rfl
theorem digHd_dgt (l : List UInt8) : digHd l = (dgt 10 l).isSome := by
  cases l with
  | nil => rfl
  | cons x t =>
    unfold digHd dgt
    simp only
    by_cases h : 48 ≤ x.toNat ∧ x.toNat ≤ 57
    · rw [if_pos ((dig_iff x).2 h)]
      simp [h.1, h.2]
    · rw [if_neg (fun h2 => h ((dig_iff x).1 h2))]
      rw [← Bool.decide_and, decide_eq_false h]
      rfl
theorem digHd_sm {l : List UInt8} (h : digHd l = true) : (cntD 0 false l).2.1 = true := by
  cases l with
  | nil => cases h
  | cons x t =>
    simp only [digHd, Bool.and_eq_true, decide_eq_true_eq] at h
    rw [cntD, if_pos h]
    exact cntD_sm _ _
/-- Bounds stand here just where Spec sees some. -/
theorem repD_some (l : List UInt8) : (repD l).isSome = atRep l := by
  cases l with
  | nil => rfl
  | cons c t =>
    unfold repD atRep
    simp only [hd, List.tail_cons]
    by_cases h1 : c = 42
    · subst h1; rfl
    · rw [if_neg h1]
      by_cases h2 : c = 43
      · subst h2; rfl
      · rw [if_neg h2]
        by_cases h3 : c = 63
        · subst h3; rfl
        · rw [if_neg h3]
          have e1 : (c == 42) = false := by simpa using h1
          have e2 : (c == 43) = false := by simpa using h2
          have e3 : (c == 63) = false := by simpa using h3
          rw [e1, e2, e3]
          by_cases h4 : c = 123
          · subst h4
            rw [if_pos rfl, ← digHd_dgt]
            cases digHd t <;> rfl
          · rw [if_neg h4]
            have e4 : (c == 123) = false := by simpa using h4
            rw [e4]; rfl
/-- What a brace comes to. -/
theorem interval_D {l : List UInt8} (h : digHd l = true) : (match interval l with
    | none => (.bad 3 : Res (Int × Int))
    | some ((lo, hi), t) => .ok ((lo : Int), hi) t) = repB l := by
  have hsm := digHd_sm h
  unfold interval repB
  rw [count_D l, hsm]
  generalize (cntD 0 false l).1 = m
  generalize (cntD 0 false l).2.2 = l1
  by_cases hm : m ≤ 255
  · rw [if_pos (by simp [hm])]
    simp only
    by_cases hc : hd l1 44 = true
    · rw [if_pos hc]
      unfold upper repHi
      rw [if_pos hc]
      cases hs : (cntD 0 false l1.tail).2.1 with
      | false =>
        have e0 : (cntD 0 false l1.tail) = (0, false, l1.tail) := by
          cases hl : l1.tail with
          | nil => rfl
          | cons x t =>
            rw [hl, cntD] at hs
            rw [cntD]
            split
            · next hh =>
              rw [if_pos hh] at hs
              rw [cntD_sm] at hs
              cases hs
            · rfl
        rw [e0]
        simp only
        by_cases h5 : hd l1.tail 125 = true
        · rw [if_pos h5]
          simp only
          rw [if_pos h5]
          unfold repEnd
          rw [if_pos ⟨h5, hm, by show (-1 : Int) ≤ 255; omega, by show ¬ (0 ≤ (-1 : Int) ∧ (-1 : Int) < m); omega⟩]
          rfl
        · rw [if_neg h5, count_D, e0]
          rw [if_neg (show ¬ ((((0, false, l1.tail) : Nat × Bool × List UInt8).2.1 && decide (((0, false, l1.tail) : Nat × Bool × List UInt8).1 ≤ 255)) = true) from by simp)]
          unfold repEnd
          rw [if_neg (fun hh => h5 hh.1)]
      | true =>
        have hne : hd l1.tail 125 = false := by
          cases hl : l1.tail with
          | nil => rfl
          | cons x t =>
            rw [hl, cntD] at hs
            by_cases hh : 48 ≤ x.toNat ∧ x.toNat ≤ 57
            · show (x == 125) = false
              rw [beq_eq_false_iff_ne]
              intro e
              subst e
              exact absurd hh.2 (by decide)
            · rw [if_neg hh] at hs
              cases hs
        rw [hne, count_D, hs]
        generalize (cntD 0 false l1.tail).1 = k
        generalize (cntD 0 false l1.tail).2.2 = l2
        rw [if_neg (by decide), if_pos rfl]
        by_cases hk : k ≤ 255
        · rw [if_pos (by simp [hk])]
          simp only
          by_cases hmk : m ≤ k
          · rw [if_pos hmk]
            simp only
            by_cases h5 : hd l2 125 = true
            · rw [if_pos h5]
              unfold repEnd
              rw [if_pos ⟨h5, hm, by show (k : Int) ≤ 255; omega, by show ¬ (0 ≤ (k : Int) ∧ (k : Int) < m); omega⟩]
            · rw [if_neg h5]
              unfold repEnd
              rw [if_neg (fun hh => h5 hh.1)]
          · rw [if_neg hmk]
            unfold repEnd
            rw [if_neg (fun hh => hh.2.2.2 ⟨by show 0 ≤ (k : Int); omega, by show (k : Int) < m; omega⟩)]
        · rw [if_neg (by simp [hk])]
          unfold repEnd
          rw [if_neg (fun hh => hk (by have := hh.2.2.1; simp only at this; omega))]
    · rw [if_neg hc]
      unfold repHi
      rw [if_neg hc]
      unfold repEnd
      by_cases h5 : hd l1 125 = true
      · rw [if_pos h5, if_pos ⟨h5, hm, by show (m : Int) ≤ 255; omega, by show ¬ (0 ≤ (m : Int) ∧ (m : Int) < m); omega⟩]
      · rw [if_neg h5, if_neg (fun hh => h5 hh.1)]
  · rw [if_neg (by simp [hm])]
    unfold repEnd
    rw [if_neg (fun hh => hm hh.2.1)]
def repRes (p : Part) (r : Res (Int × Int)) : Res Part := match r with
  | .bad e => .bad e
  | .ok b l' => .ok (repP p b.1 b.2) l'
theorem repHi_ok (m : Nat) (l : List UInt8) : (repHi m l).1 = -1 ∨ 0 ≤ (repHi m l).1 := by
  unfold repHi
  by_cases h : hd l 44 = true
  · rw [if_pos h]
    cases (cntD 0 false l.tail).2.1 with
    | false => exact Or.inl rfl
    | true => exact Or.inr (Int.natCast_nonneg _)
  · rw [if_neg h]
    exact Or.inr (Int.natCast_nonneg _)
/-- What stands behind an atom: both readings. -/
theorem repeat_D (p : Part) (l : List UInt8) (r : Res (Int × Int)) (h : repD l = some r) : repeatL p l = repRes p r ∧ (∀ e, r = .bad e → e = 3) ∧ (∀ b l', r = .ok b l' → 0 ≤ b.1 ∧ (b.2 = -1 ∨ 0 ≤ b.2) ∧ l'.length < l.length) := by
  cases l with
  | nil => cases h
  | cons c t =>
    unfold repD at h
    simp only at h
    by_cases h1 : c = 42
    · rw [if_pos h1] at h
      cases h
      subst h1
      exact ⟨rfl, fun e h => (by cases h), fun b l' h => by cases h; exact ⟨by decide, Or.inl rfl, by simp⟩⟩
    · rw [if_neg h1] at h
      by_cases h2 : c = 43
      · rw [if_pos h2] at h
        cases h
        subst h2
        exact ⟨rfl, fun e h => (by cases h), fun b l' h => by cases h; exact ⟨by decide, Or.inl rfl, by simp⟩⟩
      · rw [if_neg h2] at h
        by_cases h3 : c = 63
        · rw [if_pos h3] at h
          cases h
          subst h3
          exact ⟨rfl, fun e h => (by cases h), fun b l' h => by cases h; exact ⟨by decide, Or.inr (by decide), by simp⟩⟩
        · rw [if_neg h3] at h
          by_cases h4 : c = 123
          · rw [if_pos h4] at h
            cases hd : digHd t with
            | false => rw [hd] at h; cases h
            | true =>
              rw [hd] at h
              cases h
              have hi := interval_D hd
              have hl : ∀ b l', repB t = .ok b l' → 0 ≤ b.1 ∧ (b.2 = -1 ∨ 0 ≤ b.2) ∧ l'.length < (c :: t).length := fun b l' hb => by
                have hb2 : b.2 = -1 ∨ 0 ≤ b.2 := by
                  unfold repB repEnd at hb
                  split at hb
                  · cases hb
                    exact repHi_ok _ _
                  · cases hb
                rw [← hi] at hb
                cases hv : interval t with
                | none => rw [hv] at hb; cases hb
                | some q =>
                  obtain ⟨⟨lo, hh⟩, t'⟩ := q
                  have hlen := items.interval_len hv
                  rw [hv] at hb
                  cases hb
                  exact ⟨by show (0 : Int) ≤ lo; omega, hb2, by simp only [List.length_cons]; omega⟩
              refine ⟨?_, ?_, hl⟩
              · unfold repeatL
                simp only
                rw [if_neg h1, if_neg h2, if_neg h3, ← hi]
                cases interval t with
                | none => rfl
                | some q => rfl
              · intro e he
                rw [← hi] at he
                cases hv : interval t with
                | none => rw [hv] at he; cases he; rfl
                | some q => rw [hv] at he; cases he
          · rw [if_neg h4] at h; cases h
end Go.Proofs.YtbfekknhmjndaaaGreat.doc3

namespace Go.Proofs.YtbfekknhmjndaaaGreat.doc3
set_option linter.unusedVariables false set_option linter.unusedSimpArgs false
set_option maxRecDepth 20000
open Go.ChangeShapes Go.WideShapes Go.ChangeAt Go.RowKit Go.Proofs.YtbfekknhmjndaaaGreat.base Go.Proofs.YtbfekknhmjndaaaGreat.read Go.Proofs.YtbfekknhmjndaaaGreat.spec Go.Proofs.YtbfekknhmjndaaaGreat.set Go.Proofs.YtbfekknhmjndaaaGreat.parts

/-- The text of a set, or of all that isn't in it. -/
def setN (f : Nat → Bool) (not : Bool) : T := ⟨setW, ⟨(setText fun k => f k != not).toArray⟩, 0, 0, .nil⟩
def brkD (not : Bool) (r : Res (Nat → Bool)) : Res T := match r with
  | .bad e => .bad e
  | .ok f l => .ok (setN f not) l
/-- What the document answers behind a [. -/
def brkR (l : List UInt8) : Res T := if hd l 94 then brkD true (itemsD (l.tail.length + 1) true emptyF l.tail) else brkD false (itemsD (l.length + 1) true emptyF l)
section
variable (g : List UInt8 → Res T)
def atomD (l : List UInt8) : Res T := match l with
  | [] => .bad 0
  | c :: t => if c = 40 then g t else if c = 91 then brkR t else if c = 92 then (match esc t with
      | .bad e => .bad e
      | .ok b t' => .ok (oneP b).t t')
    else if c = 46 then .ok (setP fun _ => true).t t else if c = 94 then .ok (edgeP bolW).t t else if c = 36 then .ok (edgeP eolW).t t else .ok (oneP c).t t
def repsD : Nat → T → List UInt8 → Res T
  | 0, _, _ => .bad 0
  | n + 1, D, l => match repD l with
    | none => .ok D l
    | some (.bad e) => .bad e
    | some (.ok b l') => repsD n (repT D b.1 b.2) l'
def pieceD (l : List UInt8) : Res T := if (repD l).isSome then .bad 3 else match atomD g l with
  | .bad e => .bad e
  | .ok D l' => repsD (l'.length + 1) D l'
def piecesF : Nat → Forest → List UInt8 → Res Forest
  | 0, _, _ => .bad 0
  | n + 1, F, l => if ends l then .ok F l else match pieceD g l with
    | .bad e => .bad e
    | .ok D l' => piecesF n (F.snoc D) l'
def piecesD (l : List UInt8) : Res T := match piecesF g (l.length + 1) .nil l with
  | .bad e => .bad e
  | .ok F l' => .ok (joinD catW F) l'
def branF : Nat → Forest → List UInt8 → Res Forest
  | 0, _, _ => .bad 0
  | n + 1, F, l => match piecesD g l with
    | .bad e => .bad e
    | .ok D l' => if hd l' 124 then branF n (F.snoc D) l'.tail else .ok (F.snoc D) l'
def branD (l : List UInt8) : Res T := match branF g (l.length + 1) .nil l with
  | .bad e => .bad e
  | .ok F l' => .ok (joinD altW F) l'
end
/-- What is behind a (, where d groups more may be opened. -/
def grpD : Nat → List UInt8 → Res T
  | 0 => fun _ => .bad 1
  | d + 1 => fun l => match branD (grpD d) l with
    | .bad e => .bad e
    | .ok D l' => if hd l' 41 then .ok D l'.tail else .bad 1
def parseD (l : List UInt8) : T × Nat := match branD (grpD 100) l with
  | .bad e => (zT, e)
  | .ok D l' => if !l'.isEmpty then (zT, 1) else if 2000 < szd D then (zT, 5) else (D, 0)

def RelRes (r : Res Part) (q : Res T) : Prop := match r, q with
  | .bad e, .bad e' => e = e'
  | .ok p l, .ok D l' => l = l' ∧ Rel D p
  | _, _ => False
def RelResR (r : Res Row) (q : Res Forest) : Prop := match r, q with
  | .bad e, .bad e' => e = e'
  | .ok p l, .ok F l' => l = l' ∧ RelR F p
  | _, _ => False
theorem rel_set (f : Nat → Bool) : Rel (setP f).t (setP f) := rel_leaf (Or.inl rfl)
theorem setN_false (f : Nat → Bool) : setN f false = (setP f).t := by
  unfold setN setP
  congr 2
  simp
theorem setN_true (f : Nat → Bool) : setN f true = (setP fun k => !f k).t := by
  unfold setN setP
  congr 3
  congr 1
  funext k
  cases f k <;> rfl
theorem moreD_len {f g : Nat → Bool} {l l' : List UInt8} (hl : l ≠ []) (h : moreD f (itemD f l) = .ok g l') : l'.length < l.length := by
  rcases item_more (f := f) hl with e | ⟨_, g', e, h2⟩
  · exact items.item_len (e.symm.trans h)
  · rw [e] at h
    cases h
    exact h2
theorem itemsD_fuel (n : Nat) : ∀ (m : Nat) (first : Bool) (f : Nat → Bool) (l : List UInt8), l.length < n → l.length < m → itemsD n first f l = itemsD m first f l := by
  induction n with
  | zero => intro m first f l h; omega
  | succ n ih =>
    intro m first f l h hm
    obtain ⟨m, rfl⟩ : ∃ k, m = k + 1 := ⟨m - 1, by omega⟩
    rw [itemsD, itemsD]
    by_cases hl : l = []
    · rw [if_pos hl, if_pos hl]
    · rw [if_neg hl, if_neg hl]
      by_cases hq : (!first && hd l 93) = true
      · rw [if_pos hq, if_pos hq]
      · rw [if_neg hq, if_neg hq]
        cases hi : moreD f (itemD f l) with
        | bad e => rfl
        | ok g l' =>
          have := moreD_len hl hi
          exact ih m false g l' (by omega) (by omega)
theorem rel_bracket (l : List UInt8) : RelRes (bracket l) (brkR l) := by
  unfold bracket brkR
  by_cases h : hd l 94 = true
  · rw [if_pos h, if_pos h]
    have hl : l.tail.length + 1 = l.length := by
      cases l with
      | nil => cases h
      | cons c t => rfl
    have e : items (l.length + 1) true emptyF l.tail = itemsD (l.tail.length + 1) true emptyF l.tail := by
      rw [items_eq _ _ _ _ (by omega), ← itemsD_fuel _ _ _ _ _ (Nat.lt_succ_self _) (show l.tail.length < l.length + 1 by omega)]
    rw [e]
    cases itemsD (l.tail.length + 1) true emptyF l.tail with
    | bad e => rfl
    | ok f l' => exact ⟨rfl, by rw [setN_true]; exact rel_set _⟩
  · rw [if_neg h, if_neg h, items_eq _ _ _ _ (Nat.lt_succ_self _)]
    cases itemsD (l.length + 1) true emptyF l with
    | bad e => rfl
    | ok f l' => exact ⟨rfl, by rw [setN_false]; exact rel_set _⟩
section
variable {g : List UInt8 → Res T} {gs : List UInt8 → Res Part} (hg : ∀ l, RelRes (gs l) (g l))
include hg
theorem rel_atom (l : List UInt8) (h : atRep l = false) : RelRes (atom gs l) (atomD g l) := by
  unfold atom
  rw [h, if_neg (by decide)]
  cases l with
  | nil => rfl
  | cons c t =>
    unfold atomD
    simp only
    by_cases h1 : c = 40
    · rw [if_pos h1, if_pos h1]; exact hg t
    · rw [if_neg h1, if_neg h1]
      by_cases h2 : c = 91
      · rw [if_pos h2, if_pos h2]; exact rel_bracket t
      · rw [if_neg h2, if_neg h2]
        by_cases h3 : c = 92
        · rw [if_pos h3, if_pos h3]
          cases esc t with
          | bad e => rfl
          | ok b t' => exact ⟨rfl, rel_leaf (Or.inl rfl)⟩
        · rw [if_neg h3, if_neg h3]
          by_cases h4 : c = 46
          · rw [if_pos h4, if_pos h4]; exact ⟨rfl, rel_set _⟩
          · rw [if_neg h4, if_neg h4]
            by_cases h5 : c = 94
            · rw [if_pos h5, if_pos h5]; exact ⟨rfl, rel_leaf (Or.inr (Or.inl rfl))⟩
            · rw [if_neg h5, if_neg h5]
              by_cases h6 : c = 36
              · rw [if_pos h6, if_pos h6]; exact ⟨rfl, rel_leaf (Or.inr (Or.inr rfl))⟩
              · rw [if_neg h6, if_neg h6]; exact ⟨rfl, rel_leaf (Or.inl rfl)⟩
omit hg in
theorem rel_reps (n : Nat) : ∀ (D : T) (p : Part) (l : List UInt8), Rel D p → RelRes (repsF n p l) (repsD n D l) := by
  induction n with
  | zero => intro D p l _; rfl
  | succ n ih =>
    intro D p l h
    rw [repsF, repsD]
    cases hr : repD l with
    | none =>
      have : atRep l = false := by rw [← repD_some, hr]; rfl
      rw [this, if_neg (by decide)]
      exact ⟨rfl, h⟩
    | some r =>
      have : atRep l = true := by rw [← repD_some, hr]; rfl
      rw [this, if_pos rfl]
      obtain ⟨h1, _, h3⟩ := repeat_D p l r hr
      rw [h1]
      cases r with
      | bad e => rfl
      | ok b l' =>
        obtain ⟨h4, h5, _⟩ := h3 b l' rfl
        exact ih _ _ _ (rel_rep h h4 h5)
theorem rel_piece (l : List UInt8) : RelRes (piece gs l) (pieceD g l) := by
  unfold piece pieceD
  rw [repD_some]
  cases h : atRep l with
  | true =>
    rw [if_pos rfl]
    unfold atom
    rw [h, if_pos rfl]
    rfl
  | false =>
    rw [if_neg (by decide)]
    have h2 := rel_atom hg l h
    cases ha : atom gs l with
    | bad e =>
      rw [ha] at h2
      cases hb : atomD g l with
      | bad e' => rw [hb] at h2; exact h2
      | ok D l' => rw [hb] at h2; exact h2.elim
    | ok p l' =>
      rw [ha] at h2
      cases hb : atomD g l with
      | bad e' => rw [hb] at h2; exact h2.elim
      | ok D l2 =>
        rw [hb] at h2
        obtain ⟨rfl, h3⟩ := h2
        exact rel_reps _ _ _ _ h3
theorem rel_piecesF (n : Nat) : ∀ (F : Forest) (r : Row) (l : List UInt8), RelR F r → RelResR (branchF gs n r l) (piecesF g n F l) := by
  induction n with
  | zero => intro F r l _; rfl
  | succ n ih =>
    intro F r l h
    rw [branchF, piecesF]
    cases he : ends l with
    | true => rw [if_pos rfl, if_pos rfl]; exact ⟨rfl, h⟩
    | false =>
      rw [if_neg (by decide), if_neg (by decide)]
      have h2 := rel_piece hg l
      cases ha : piece gs l with
      | bad e =>
        rw [ha] at h2
        cases hb : pieceD g l with
        | bad e' => rw [hb] at h2; exact h2
        | ok D l' => rw [hb] at h2; exact h2.elim
      | ok p l' =>
        rw [ha] at h2
        cases hb : pieceD g l with
        | bad e' => rw [hb] at h2; exact h2.elim
        | ok D l2 =>
          rw [hb] at h2
          obtain ⟨rfl, h3⟩ := h2
          exact ih _ _ _ (relR_add h h3)
theorem rel_pieces (l : List UInt8) : RelRes (branch gs l) (piecesD g l) := by
  unfold branch piecesD
  have h2 := rel_piecesF hg (l.length + 1) .nil row0 l relR_zero
  cases ha : branchF gs (l.length + 1) row0 l with
  | bad e =>
    rw [ha] at h2
    cases hb : piecesF g (l.length + 1) .nil l with
    | bad e' => rw [hb] at h2; exact h2
    | ok D l' => rw [hb] at h2; exact h2.elim
  | ok p l' =>
    rw [ha] at h2
    cases hb : piecesF g (l.length + 1) .nil l with
    | bad e' => rw [hb] at h2; exact h2.elim
    | ok D l2 =>
      rw [hb] at h2
      obtain ⟨rfl, h3⟩ := h2
      exact ⟨rfl, rel_join h3 (Or.inl ⟨rfl, rfl⟩)⟩
theorem rel_branF (n : Nat) : ∀ (F : Forest) (r : Row) (l : List UInt8), RelR F r → RelResR (exprF gs n r l) (branF g n F l) := by
  induction n with
  | zero => intro F r l _; rfl
  | succ n ih =>
    intro F r l h
    rw [exprF, branF]
    have h2 := rel_pieces hg l
    cases ha : branch gs l with
    | bad e =>
      rw [ha] at h2
      cases hb : piecesD g l with
      | bad e' => rw [hb] at h2; exact h2
      | ok D l' => rw [hb] at h2; exact h2.elim
    | ok p l' =>
      rw [ha] at h2
      cases hb : piecesD g l with
      | bad e' => rw [hb] at h2; exact h2.elim
      | ok D l2 =>
        rw [hb] at h2
        obtain ⟨rfl, h3⟩ := h2
        simp only
        cases hq : hd l' 124 with
        | true => exact ih _ _ _ (relR_add h h3)
        | false => exact ⟨rfl, relR_add h h3⟩
theorem rel_bran (l : List UInt8) : RelRes (expr gs l) (branD g l) := by
  unfold expr branD
  have h2 := rel_branF hg (l.length + 1) .nil row0 l relR_zero
  cases ha : exprF gs (l.length + 1) row0 l with
  | bad e =>
    rw [ha] at h2
    cases hb : branF g (l.length + 1) .nil l with
    | bad e' => rw [hb] at h2; exact h2
    | ok D l' => rw [hb] at h2; exact h2.elim
  | ok p l' =>
    rw [ha] at h2
    cases hb : branF g (l.length + 1) .nil l with
    | bad e' => rw [hb] at h2; exact h2.elim
    | ok D l2 =>
      rw [hb] at h2
      obtain ⟨rfl, h3⟩ := h2
      exact ⟨rfl, rel_join h3 (Or.inr ⟨rfl, rfl⟩)⟩
end
theorem rel_group (d : Nat) : ∀ l, RelRes (groupN d l) (grpD d l) := by
  induction d with
  | zero => intro l; rfl
  | succ d ih =>
    intro l
    rw [groupN, grpD]
    have h2 := rel_bran ih l
    simp only
    cases ha : expr (groupN d) l with
    | bad e =>
      rw [ha] at h2
      cases hb : branD (grpD d) l with
      | bad e' => rw [hb] at h2; exact h2
      | ok D l' => rw [hb] at h2; exact h2.elim
    | ok p l' =>
      rw [ha] at h2
      cases hb : branD (grpD d) l with
      | bad e' => rw [hb] at h2; exact h2.elim
      | ok D l2 =>
        rw [hb] at h2
        obtain ⟨rfl, h3⟩ := h2
        simp only
        cases hq : hd l' 41 with
        | true => exact ⟨rfl, h3⟩
        | false => rfl
/-- The document's reading is Spec's. -/
theorem parse_D (l : List UInt8) : parse l = parseD l := by
  unfold parse parseD
  have h2 := rel_bran (rel_group 100) l
  cases ha : expr (groupN 100) l with
  | bad e =>
    rw [ha] at h2
    cases hb : branD (grpD 100) l with
    | bad e' => rw [hb] at h2; rw [show e = e' from h2]
    | ok D l' => rw [hb] at h2; exact h2.elim
  | ok p l' =>
    rw [ha] at h2
    cases hb : branD (grpD 100) l with
    | bad e' => rw [hb] at h2; exact h2.elim
    | ok D l2 =>
      rw [hb] at h2
      obtain ⟨rfl, h3⟩ := h2
      simp only
      cases l'.isEmpty with
      | false => rfl
      | true =>
        show (if 2000 < p.n then (zT, 5) else (p.t, 0)) = (if 2000 < szd D then (zT, 5) else (D, 0))
        by_cases hn : 2000 < p.n
        · rw [if_pos hn, if_pos (h3.big hn)]
        · obtain ⟨h4, h5⟩ := h3.small (by omega)
          rw [if_neg hn, if_neg (by omega), h4]
end Go.Proofs.YtbfekknhmjndaaaGreat.doc3

namespace Go.Proofs.YtbfekknhmjndaaaGreat.doc3
set_option linter.unusedVariables false set_option linter.unusedSimpArgs false
set_option maxRecDepth 20000
open Go.ChangeShapes Go.WideShapes Go.ChangeAt Go.RowKit Go.Proofs.YtbfekknhmjndaaaGreat.base Go.Proofs.YtbfekknhmjndaaaGreat.read Go.Proofs.YtbfekknhmjndaaaGreat.spec Go.Proofs.YtbfekknhmjndaaaGreat.set Go.Proofs.YtbfekknhmjndaaaGreat.parts

theorem info_er : (Tryz.prog.info? 47).map (·.size) = some 5 := by kernel_rfl
theorem info_bl : (Tryz.prog.info? 4).map (fun i => (i.zero, i.size, i.bytes)) = some (some (.bool false), 1, 1) := by kernel_rfl
def zE : Array Value := #[.string ⟨#[]⟩, .string ⟨#[]⟩, .slice none 0 0, .int .i64 0, .int .i64 0]
/-- What a function of the reader answers that reads a tree. -/
def DPost (w : World) (R : Nat) (s : ByteArray) (d : Nat) (r : Res T) (en : Ending) (w' : World) : Prop := Frm (At R) w w' ∧ match r with
  | .ok t l' => ∃ k, en = .returned (.agg #[.string t.op, .string t.set, k, .int .i64 t.lo, .int .i64 t.hi]) ∧ KV w' (fun g => w.heap.size ≤ g) k t.kids ∧ AS w' R s d l'
  | .bad e => (∃ (op set : ByteArray) (a : Option Addr) (n c : Nat) (lo hi : Int), en = .returned (.agg #[.string op, .string set, .slice a n c, .int .i64 lo, .int .i64 hi])) ∧ AF w' R e
theorem made_bA : madeCells #[Value.bool false] 256 = bA emptyF := by
  apply Array.toList_inj.1
  rw [toList_madeCells_one]
  rfl
/-- The state of the loop over items. -/
structure BrkAt (w : World) (R : Nat) (s : ByteArray) (d : Nat) (res : Res (Nat → Bool)) (k : Nat) (fv : Value) (wr : World) (first : Bool) (f : Nat → Bool) (l : List UInt8) : Prop where
  hfv : fv = .bool first
  hl : l.length < k
  hr : itemsD k first f l = res
  has : AS wr R s d l
  hb : Box wr (w.heap.size + 1) 4 (bA f)
  hz : Box wr w.heap.size 47 zE
  hf : Frm (At R) w wr

/-- Where the loop over items begins. -/
structure BrkGo (w : World) (R : Nat) (s : ByteArray) (d : Nat) (res : Res T) (nv : Value) (wx : World) (b : Bool) (l : List UInt8) : Prop where
  hn : nv = .bool b
  hr : brkD b (itemsD (l.length + 1) true emptyF l) = res
  has : AS wx R s d l
  hz : Box wx w.heap.size 47 zE
  hb : Box wx (w.heap.size + 1) 4 (bA emptyF)
  hf : Frm (At R) w wx
theorem frm_new {w w1 w2 : World} {R G : Nat} (h : Frm (At R) w w1) (h2 : Frm (At2 R G) w1 w2) (hG : w.heap.size ≤ G) : Frm (At R) w w2 :=
  h.then h2 (fun k hk e => by
    rcases e with e | e
    · exact e
    · exact absurd hk (by have e' : k = G := e; omega))
theorem brk_bad {w w9 : World} {R : Nat} {s : ByteArray} {d e : Nat} (hR : R < w.heap.size) (hf : Frm (At R) w w9) (h : AF w9 R e) (D : Array Value) : DPost w R s d (.bad e) (.returned (.agg #[.string ⟨#[]⟩, .string ⟨#[]⟩, .slice none 0 0, .int .i64 0, .int .i64 0])) (w9.setRow w.heap.size D) :=
  ⟨frm_setRow hf _ _ (fun hk => absurd hk (Nat.lt_irrefl _)), ⟨_, _, _, _, _, _, _, rfl⟩, h.frm (frm_setRow (S := At w.heap.size) (Frm.refl _ _) w.heap.size D (fun _ => rfl)) (fun e => by have e' : R = w.heap.size := e; omega)⟩
theorem itemsD_nil (n : Nat) (first : Bool) (f : Nat → Bool) : itemsD (n + 1) first f [] = .bad 2 := by rw [itemsD, if_pos rfl]
theorem itemsD_end (n : Nat) (f : Nat → Bool) (t : List UInt8) : itemsD (n + 1) false f (93 :: t) = .ok f t := by
  rw [itemsD, if_neg (by simp), if_pos (show (!false && hd (93 :: t) 93) = true from rfl)]
  rfl
theorem itemsD_more (n : Nat) (first : Bool) (f : Nat → Bool) (c : UInt8) (t : List UInt8) (h : (!first && (c == 93)) = false) : itemsD (n + 1) first f (c :: t) = (match moreD f (itemD f (c :: t)) with
    | .bad e => .bad e
    | .ok f' l' => itemsD n false f' l') := by
  rw [itemsD, if_neg (by simp), if_neg (by rw [show hd (c :: t) 93 = (c == 93) from rfl, h]; decide)]
  rfl

theorem rngD_short {s : ByteArray} {j : Nat} (h : ¬ j + 1 < s.size) : rngD (sx s j) = false := by
  have hl : (sx s j).length ≤ 1 := by rw [sx_len]; omega
  match sx s j, hl with
  | [], _ => rfl
  | [_], _ => rfl
  | _ :: _ :: _, hl => simp at hl
theorem rngD_at2 {s : ByteArray} {j : Nat} (h : j + 1 < s.size) : rngD (sx s j) = ((s[j]'(by omega)) == 45 && (s[j + 1]'h) != 93) := by
  rw [sx_cons s j (by omega), sx_cons s (j + 1) h]
  rfl
/-- Whether a range goes on, by what the text holds. -/
theorem rng_cases (s : ByteArray) (j : Nat) : (¬ j + 1 < s.size ∧ rngD (sx s j) = false) ∨ (∃ h : j + 1 < s.size, (((s[j]'(by omega)).toNat : Int) == 45) = false ∧ rngD (sx s j) = false) ∨
    (∃ h : j + 1 < s.size, (((s[j]'(by omega)).toNat : Int) == 45) = true ∧ (((s[j + 1]'h).toNat : Int) != 93) = false ∧ rngD (sx s j) = false) ∨
    (∃ h : j + 1 < s.size, (((s[j]'(by omega)).toNat : Int) == 45) = true ∧ (((s[j + 1]'h).toNat : Int) != 93) = true ∧ rngD (sx s j) = true) := by
  by_cases h : j + 1 < s.size
  · refine Or.inr ?_
    have e := rngD_at2 h
    have e1 : (((s[j]'(by omega)).toNat : Int) == 45) = ((s[j]'(by omega)) == 45) := u8_beq _ 45
    have e2 : (((s[j + 1]'h).toNat : Int) != 93) = ((s[j + 1]'h) != 93) := by
      show (!(((s[j + 1]'h).toNat : Int) == 93)) = !((s[j + 1]'h) == 93)
      rw [show (((s[j + 1]'h).toNat : Int) == 93) = ((s[j + 1]'h) == 93) from u8_beq _ 93]
    cases h1 : ((s[j]'(by omega)) == 45) with
    | false => exact Or.inl ⟨h, by rw [e1, h1], by rw [e, h1]; rfl⟩
    | true =>
      cases h2 : ((s[j + 1]'h) != 93) with
      | false => exact Or.inr (Or.inl ⟨h, by rw [e1, h1], by rw [e2, h2], by rw [e, h1, h2]; rfl⟩)
      | true => exact Or.inr (Or.inr ⟨h, by rw [e1, h1], by rw [e2, h2], by rw [e, h1, h2]; rfl⟩)
  · exact Or.inl ⟨h, rngD_short h⟩
theorem addF_one (f : Nat → Bool) (b : UInt8) : (bA f).setIfInBounds b.toNat (.bool true) = bA (addF f b b) := by
  rw [bA_set f b.toNat true b.toNat_lt]
  refine bA_ext _ _ (fun k _ => ?_)
  show (if k = b.toNat then true else f k) = (f k || (decide (b.toNat ≤ k) && decide (k ≤ b.toNat)))
  by_cases e : k = b.toNat
  · subst e; simp
  · rw [if_neg e]
    have : (decide (b.toNat ≤ k) && decide (k ≤ b.toNat)) = false := by
      by_cases h : b.toNat ≤ k
      · rw [decide_eq_true h, decide_eq_false (show ¬ k ≤ b.toNat by omega)]; rfl
      · rw [decide_eq_false h]; rfl
    rw [this, Bool.or_false]
theorem addF_begin (f : Nat → Bool) (b : UInt8) : bA (fun k => f k || (decide (b.toNat ≤ k) && decide (k < b.toNat))) = bA f :=
  bA_ext _ _ (fun k _ => by
    by_cases h : b.toNat ≤ k
    · rw [decide_eq_false (show ¬ k < b.toNat by omega)]; simp
    · rw [decide_eq_false h]; simp)
theorem addF_step (f : Nat → Bool) (b : UInt8) (c : Nat) (hc : c < 256) (hb : b.toNat ≤ c) : (bA (fun k => f k || (decide (b.toNat ≤ k) && decide (k < c)))).setIfInBounds c (.bool true) = bA (fun k => f k || (decide (b.toNat ≤ k) && decide (k < c + 1))) := by
  rw [bA_set _ c true hc]
  refine bA_ext _ _ (fun k _ => ?_)
  show (if k = c then true else f k || (decide (b.toNat ≤ k) && decide (k < c))) = (f k || (decide (b.toNat ≤ k) && decide (k < c + 1)))
  by_cases e : k = c
  · subst e; simp [hb]
  · rw [if_neg e]
    have : decide (k < c + 1) = decide (k < c) := by
      rw [decide_eq_decide]; omega
    rw [this]
theorem addF_end (f : Nat → Bool) (b hi : UInt8) : bA (fun k => f k || (decide (b.toNat ≤ k) && decide (k < hi.toNat + 1))) = bA (addF f b hi) :=
  bA_ext _ _ (fun k _ => by
    show _ = (f k || (decide (b.toNat ≤ k) && decide (k ≤ hi.toNat)))
    rw [show decide (k < hi.toNat + 1) = decide (k ≤ hi.toNat) by rw [decide_eq_decide]; omega])
theorem af_cell {w : World} {R e : Nat} (h : AF w R e) : w.cell? ⟨R, 2, none⟩ = some (.int .i64 (e : Nat)) ∧ ¬ ((e : Nat) : Int) = 0 := by
  obtain ⟨h0, s, i, d, h1⟩ := h
  exact ⟨h1.cell 2, by omega⟩

end Go.Proofs.YtbfekknhmjndaaaGreat.doc3

namespace Go.Proofs.YtbfekknhmjndaaaGreat.doc3
set_option linter.unusedVariables false set_option linter.unusedSimpArgs false
set_option maxRecDepth 20000
open Go.ChangeShapes Go.WideShapes Go.ChangeAt Go.RowKit Go.Proofs.YtbfekknhmjndaaaGreat.base Go.Proofs.YtbfekknhmjndaaaGreat.read Go.Proofs.YtbfekknhmjndaaaGreat.spec Go.Proofs.YtbfekknhmjndaaaGreat.set Go.Proofs.YtbfekknhmjndaaaGreat.parts

theorem piecesF_end {g : List UInt8 → Res T} (n : Nat) : ∀ {F F' : Forest} {l l' : List UInt8}, piecesF g n F l = .ok F' l' → ends l' = true := by
  induction n with
  | zero => intro F F' l l' h; cases h
  | succ n ih =>
    intro F F' l l' h
    rw [piecesF] at h
    cases he : ends l with
    | true =>
      rw [he, if_pos rfl] at h
      cases h
      exact he
    | false =>
      rw [he, if_neg (by decide)] at h
      cases hp : pieceD g l with
      | bad e => rw [hp] at h; cases h
      | ok D l2 => rw [hp] at h; exact ih h
theorem piecesD_end {g : List UInt8 → Res T} {l l' : List UInt8} {D : T} (h : piecesD g l = .ok D l') : ends l' = true := by
  unfold piecesD at h
  cases hp : piecesF g (l.length + 1) .nil l with
  | bad e => rw [hp] at h; cases h
  | ok F l2 =>
    rw [hp] at h
    cases h
    exact piecesF_end _ hp
theorem branF_end {g : List UInt8 → Res T} (n : Nat) : ∀ {F F' : Forest} {l l' : List UInt8}, branF g n F l = .ok F' l' → l' = [] ∨ ∃ t, l' = 41 :: t := by
  induction n with
  | zero => intro F F' l l' h; cases h
  | succ n ih =>
    intro F F' l l' h
    rw [branF] at h
    cases hp : piecesD g l with
    | bad e => rw [hp] at h; cases h
    | ok D l2 =>
      rw [hp] at h
      simp only at h
      have he := piecesD_end hp
      cases hq : hd l2 124 with
      | true => rw [hq, if_pos rfl] at h; exact ih h
      | false =>
        rw [hq, if_neg (by decide)] at h
        cases h
        cases l' with
        | nil => exact Or.inl rfl
        | cons c t =>
          right
          unfold ends at he
          rw [hq] at he
          have : (c == 41) = true := he
          exact ⟨t, by rw [eq_of_beq this]⟩
theorem branD_end {g : List UInt8 → Res T} {l l' : List UInt8} {D : T} (h : branD g l = .ok D l') : l' = [] ∨ ∃ t, l' = 41 :: t := by
  unfold branD at h
  cases hp : branF g (l.length + 1) .nil l with
  | bad e => rw [hp] at h; cases h
  | ok F l2 =>
    rw [hp] at h
    cases h
    exact branF_end _ hp

/-- A row of trees in a slice of the call's own: its blocks lie from B on, below U. -/
def RowD (w : World) (B U : Nat) (a : Option Addr) (cap : Nat) (F : Forest) : Prop := ∃ C, w.ownsRow B 47 5 (.slice a F.len cap) F.len C ∧
  RepC w (fun k => B ≤ k ∧ k < U ∧ (Value.slice a F.len cap).ownBlock ≠ some k) F C ∧ (∀ g, (Value.slice a F.len cap).ownBlock = some g → g < U) ∧ (F.len = 0 → a = none ∧ cap = 0)
theorem RowD.nil (w : World) (B U : Nat) : RowD w B U none 0 .nil := ⟨[], World.ownsRow_nil _ _ _ _, rfl, fun g e => (by cases e), fun _ => ⟨rfl, rfl⟩⟩
theorem RowD.mono {w : World} {B U U' : Nat} {a : Option Addr} {cap : Nat} {F : Forest} (h : RowD w B U a cap F) (hU : U ≤ U') : RowD w B U' a cap F := by
  obtain ⟨C, h1, h2, h3, h4⟩ := h
  exact ⟨C, h1, h2.go (fun g cur ⟨e1, e2, e3⟩ hb => ⟨⟨e1, by omega, e3⟩, hb⟩), fun g e => Nat.lt_of_lt_of_le (h3 g e) hU, h4⟩
theorem RowD.frm {S : Nat → Prop} {w w' : World} {B U : Nat} {a : Option Addr} {cap : Nat} {F : Forest} (h : RowD w B U a cap F) (hf : Frm S w w') (hs : ∀ g, B ≤ g → g < U → ¬ S g) : RowD w' B U a cap F := by
  obtain ⟨C, h1, h2, h3, h4⟩ := h
  exact ⟨C, own_frm h1 hf (fun g cur hb e => by obtain ⟨_, _, _, hB, _⟩ := own_box h1 e; exact hs g hB (h3 g e)), h2.go (fun g cur ⟨e1, e2, e3⟩ hb => ⟨⟨e1, e2, e3⟩, hb.frm hf (hs g e1 e2)⟩), h3, h4⟩
/-- One tree more. -/
theorem RowD.push {w w0 w5 : World} {B U g gcap cap kcap : Nat} {a ka : Option Addr} {F : Forest} {t : T} {C : List Value} (hrow : RowD w B U a cap F) (hC : w0.ownsRow B 47 5 (.slice a F.len cap) F.len C) (hw : Frm No w w0)
    (hk : KV w0 (fun k => U ≤ k) (.slice ka t.kids.len kcap) t.kids) (hBU : B ≤ U)
    (hown : w5.ownsRow B 47 5 (.slice (some ⟨g, 0, none⟩) (F.len + 1) gcap) (F.len + 1) (C ++ [.string t.op, .string t.set, .slice ka t.kids.len kcap, .int .i64 t.lo, .int .i64 t.hi]))
    (hgrow : Frm (fun k => (Value.slice a F.len cap).ownBlock = some k) w0 w5) (hat : (Value.slice a F.len cap).ownBlock = some g ∨ w0.heap.size ≤ g) (hlt : g < w5.heap.size) :
    RowD w5 B w5.heap.size (some ⟨g, 0, none⟩) gcap (F.snoc t) := by
  obtain ⟨C', h1, h2, h3, h4⟩ := hrow
  have hsz := hgrow.size
  have hwz := hw.size
  obtain rfl : C' = C := by
    have e1 := own_frm h1 hw (fun _ _ _ _ => id)
    rcases e1.2 with ⟨ea, eb⟩ | ⟨g1, cap1, cur1, ea, _, eb, _, _, _, ec⟩
    · rcases hC.2 with ⟨fa, fb⟩ | ⟨g2, cap2, cur2, fa, _, fb, _, _, _, fc⟩
      · have l1 := e1.1
        have l2 := hC.1
        rw [eb] at l1 l2
        rw [List.length_eq_zero_iff.1 (show C'.length = 0 by omega), List.length_eq_zero_iff.1 (show C.length = 0 by omega)]
      · rw [ea] at fa; cases fa
    · rcases hC.2 with ⟨fa, fb⟩ | ⟨g2, cap2, cur2, fa, _, fb, _, _, _, fc⟩
      · rw [ea] at fa; cases fa
      · rw [ea] at fa
        cases fa
        rw [eb] at fb
        cases fb
        rw [← ec, ← fc]
  have hstay : ∀ k cur, (B ≤ k ∧ (Value.slice a F.len cap).ownBlock ≠ some k) → Box w0 k 47 cur → (B ≤ k ∧ k < w5.heap.size ∧ (Value.slice (some ⟨g, 0, none⟩) (F.snoc t).len gcap).ownBlock ≠ some k) ∧ Box w5 k 47 cur := by
    intro k cur ⟨e1, e2⟩ e3
    have hkl := e3.lt
    refine ⟨⟨e1, by omega, ?_⟩, e3.frm hgrow e2⟩
    intro e
    simp only [Value.ownBlock, Option.some.injEq] at e
    subst e
    rcases hat with h | h
    · exact e2 h
    · omega
  refine ⟨_, by rw [Forest.len_snoc]; exact hown, ?_, fun g' e => ?_, fun h => ?_⟩
  · refine RepC.snoc (h2.go (fun k cur ⟨e1, e2, e3⟩ hb => hstay k cur ⟨e1, e3⟩ (hb.frm hw id))) t _ (hk.go (fun k cur (e1 : U ≤ k) hb => hstay k cur ⟨by omega, fun e => ?_⟩ hb))
    have := h3 k e
    omega
  · simp only [Value.ownBlock, Option.some.injEq] at e
    omega
  · rw [Forest.len_snoc] at h; omega
/-- The row as a tree's kids. -/
theorem RowD.kv {w : World} {B U cap : Nat} {a : Option Addr} {F : Forest} (h : RowD w B U a cap F) : KV w (fun k => B ≤ k) (.slice a F.len cap) F := by
  obtain ⟨C, h1, h2, h3, h4⟩ := h
  by_cases he : F.len = 0
  · obtain ⟨rfl, rfl⟩ := h4 he
    cases F with
    | nil => exact KV.nil _ _
    | cons _ _ _ _ _ r => simp only [Forest.len] at he; omega
  · have hl := h2.len
    rcases h1.2 with ⟨ea, eb⟩ | ⟨g, cap1, cur, ea, hB, eb, _, _, _, ec⟩
    · exact absurd eb he
    · rw [ea]
      refine Or.inr ⟨g, cap1, cur, rfl, (by rintro rfl; exact he rfl), hB, eb, ?_⟩
      rw [show 5 * F.len = F.len * 5 by omega, ec]
      exact h2.go (fun k cur ⟨e1, _, _⟩ hb => ⟨e1, hb⟩)
/-- The row's only tree. -/
theorem RowD.one {w : World} {B U cap : Nat} {a : Option Addr} {F : Forest} (h : RowD w B U a cap F) (h1 : F.len = 1) :
    ∃ g ka kc, a = some ⟨g, 0, none⟩ ∧ w.cell? ⟨g, 0, none⟩ = some (.string F.head.op) ∧ w.cell? ⟨g, 1, none⟩ = some (.string F.head.set) ∧ w.cell? ⟨g, 2, none⟩ = some (.slice ka F.head.kids.len kc) ∧ w.cell? ⟨g, 3, none⟩ = some (.int .i64 F.head.lo) ∧ w.cell? ⟨g, 4, none⟩ = some (.int .i64 F.head.hi) ∧
      KV w (fun k => B ≤ k) (.slice ka F.head.kids.len kc) F.head.kids := by
  obtain ⟨C, ho, h2, h3, h4⟩ := h
  match F, h1, ho, h2 with
  | .cons op set lo hi kids .nil, _, ho, h2 =>
    obtain ⟨k, C', rfl, hk, hC'⟩ := h2
    have hC'' : C' = [] := hC'
    subst hC''
    have hkv : KV w (fun k => B ≤ k ∧ k < U ∧ (Value.slice a 1 cap).ownBlock ≠ some k) k kids := hk
    obtain ⟨ka, kc, rfl⟩ := hkv.forms
    rcases ho.2 with ⟨ea, eb⟩ | ⟨g, cap1, cur, ea, hB, eb, _, _, _, ec⟩
    · cases eb
    · obtain rfl : a = some ⟨g, 0, none⟩ := by cases ea; rfl
      refine ⟨g, ka, kc, rfl, ?_, ?_, ?_, ?_, ?_, hkv.go (fun k cur ⟨e1, _, _⟩ hb => ⟨e1, hb⟩)⟩
      · exact (ho.cellAt 0 (show 0 < (0 + 1) * 5 by omega)).trans rfl
      · exact (ho.cellAt 1 (show 1 < (0 + 1) * 5 by omega)).trans rfl
      · exact (ho.cellAt 2 (show 2 < (0 + 1) * 5 by omega)).trans rfl
      · exact (ho.cellAt 3 (show 3 < (0 + 1) * 5 by omega)).trans rfl
      · exact (ho.cellAt 4 (show 4 < (0 + 1) * 5 by omega)).trans rfl
  | .cons _ _ _ _ _ (.cons _ _ _ _ _ _), h1, _, _ => simp only [Forest.len] at h1; omega
end Go.Proofs.YtbfekknhmjndaaaGreat.doc3
