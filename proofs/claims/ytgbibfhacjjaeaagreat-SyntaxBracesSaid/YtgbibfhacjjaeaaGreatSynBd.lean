/- How deep a tree is: the law's own function. -/
import Derived.Test.YtgbibfhacjjaeaaGreatSynZm
import Derived.Lib.Hide
import Derived.Lib.MinMax
namespace Go.Proofs.YtgbibfhacjjaeaaGreat.syn
set_option maxRecDepth 20000 set_option linter.unusedVariables false set_option linter.unusedSimpArgs false
open Go.ChangeShapes Go.WideShapes Go.ChangeAt Go.RowKit Go.Proofs.YtgbibfhacjjaeaaGreat.base
open Go.Proofs.YtgbibfhacjjaeaaGreat.lexs (Tok kNl kNum kStr kEre kOp kName kFunc kWord kBuilt)

/-- The depth of the first trees. -/
def dpN : Fo → Nat → Nat
  | .nil, _ => 0
  | .cons _ _ _ _, 0 => 0
  | .cons _ _ k r, i + 1 => max (k.depth + 1) (dpN r i)
theorem dpN_zero (f : Fo) : dpN f 0 = 0 := by cases f <;> rfl
theorem dpN_succ {f : Fo} {i : Nat} {u : Nd} (h : f.nth i = some u) : dpN f (i + 1) = max (dpN f i) (u.kids.depth + 1) := by
  induction f generalizing i with
  | nil => cases h
  | cons o t k r _ ih =>
    cases i with
    | zero => cases h; simp only [dpN, dpN_zero]; omega
    | succ i => have := ih h; simp only [dpN, this]; omega
theorem dpN_len (f : Fo) : dpN f f.len = f.depth := by
  induction f with
  | nil => rfl
  | cons o t k r _ ih => simp only [Fo.len, dpN, Fo.depth, ih]
theorem dpN_le (f : Fo) (i : Nat) : dpN f i ≤ f.depth := by
  induction f generalizing i with
  | nil => exact Nat.le_refl _
  | cons o t k r _ ih =>
    cases i with
    | zero => exact Nat.zero_le _
    | succ i => have := ih i; simp only [dpN, Fo.depth]; omega

set_option maxHeartbeats 4000000 in
theorem depth_all (m : Nat) : ∀ (f : Fo) (w : World) (F : Nat → Prop) (a : Option Addr) (c : Nat) (o t : ByteArray), m ≤ 1000 → f.depth ≤ m → KV w F (.slice a f.len c) f →
    Calls Tryz.prog 13 #[.agg #[.string o, .string t, .slice a f.len c]] w fun e w' => e = .returned (.int .i64 (f.depth + 1 : Nat)) ∧ Frm No w w' := by
  induction m with
  | zero =>
    intro f w F a c o t _ hd hk
    cases f with
    | cons o t k r => simp only [Fo.depth] at hd; omega
    | nil =>
      have e1 : a = none ∧ c = 0 := by
        rcases hk with ⟨e, _⟩ | ⟨_, _, _, _, hn, _⟩
        · cases e; exact ⟨rfl, rfl⟩
        · exact absurd rfl hn.1
      obtain ⟨rfl, rfl⟩ := e1
      clear hk hd
      go_enter Tryz.func13, Tryz.ntmps13
      go_wp2
      go_rounds 1
      go_ret
      exact ⟨rfl, (Frm.refl No w).alloc _⟩
  | succ m ih =>
    intro f w F a c o t hm hd hk
    have hfew := hk.few
    unfold maxLen at hfew
    have HIH := Lib.hid (fun (u : Nd) (w' : World) (ak : Option Addr) (ck : Nat) (h1 : u.kids.depth ≤ m) (h : KV w' F (.slice ak u.kids.len ck) u.kids) => ih u.kids w' F ak ck ⟨u.op.toArray⟩ ⟨u.tx.toArray⟩ (by omega) h1 h)
    have HK := Lib.hid hk
    have HD := Lib.hid hd
    have HM := Lib.hid hm
    clear hk ih hd hm
    go_enter Tryz.func13, Tryz.ntmps13
    go_wp2
    go_loopw [3, 9] (fun dv iv wr => ∃ (i d : Nat), i ≤ f.len ∧ iv = .int .i64 (i : Int) ∧ dv = .int .i64 (d : Int) ∧ Hid (d = dpN f i) ∧ Frm No w wr) (fun _ iv _ => f.len - (intOf iv).toNat)
    case atStart => exact ⟨0, 0, by omega, rfl, rfl, Lib.hid (by rw [dpN_zero]), (Frm.refl _ w).alloc _⟩
    case round =>
      obtain ⟨i, d, hi, rfl, rfl, HN, hf⟩ := hrel
      have HF := Lib.hid hf
      clear hf
      by_cases hlt : i < f.len
      · have h0 : (0 : Int) ≤ (i : Int) := by omega
        have h2 : (i : Int) < (f.len : Int) := by omega
        obtain ⟨u, hu⟩ := Fo.nth_some hlt
        have HU := Lib.hid hu
        obtain ⟨g, kv, cur, rfl, hb, c0, c1, c2, hkv⟩ := KV.nth (HK.out.move HF.out) i u hu
        obtain ⟨ak, ck, rfl⟩ := hkv.forms
        have HKK := Lib.hid hkv
        have hdu := Fo.depth_nth hu
        have HDU := Lib.hid (show u.kids.depth ≤ m by have := HD.out; omega)
        rw [Nat.mul_comm] at c0 c1 c2
        clear hkv hb hu hdu
        have HF1 := Lib.hid ((Frm.refl No wr).alloc (.cells #[.string ⟨u.op.toArray⟩, .string ⟨u.tx.toArray⟩, .slice ak u.kids.len ck] tN))
        have HC := Lib.hid (HIH.out u (wr.alloc (.cells #[.string ⟨u.op.toArray⟩, .string ⟨u.tx.toArray⟩, .slice ak u.kids.len ck] tN)) ak ck HDU.out (HKK.out.move HF1.out))
        go_wp2_with (go_at_call 13; go_must (refine HC.out.mono ?_; rintro en w2 ⟨rfl, hf2⟩; have HF2 := Lib.hid ((HF.out.trans HF1.out).trans hf2); clear hf2))
        exact ⟨⟨i + 1, max d (u.kids.depth + 1), by omega, by go_num, by go_num, Lib.hid (by rw [dpN_succ HU.out, HN.out]), HF2.out⟩, by simp [intOf]; omega⟩
      · obtain rfl : i = f.len := by omega
        have hd2 : d = f.depth := by have := HN.out; rw [dpN_len] at this; exact this
        have hd3 : d ≤ 1000 := by have := HD.out; have := HM.out; omega
        subst hd2
        go_wp2
        go_ret
        exact ⟨by go_num, HF.out⟩
end Go.Proofs.YtgbibfhacjjaeaaGreat.syn
