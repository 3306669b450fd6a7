/- Contract of strconv's atof64exact: where it says ok, the word is the nearest float, with the sign. Contract of strconv's special: no infinity and no NaN, of a text that begins with a digit behind its sign. -/
import Derived.Test.YtcjeeoadgoghfaaGreatDoorGDecM
import Derived.Test.YtcjeeoadgoghfaaGreatDoorGDecB
import Derived.Test.YtcjeeoadgoghfaaGreatDoorGTabR
import Derived.Laws.FloatArith
import Derived.Test.YtcjeeoadgoghfaaGreatDoorDecI

namespace Go.Proofs.YtcjeeoadgoghfaaGreatDoor.deca
set_option linter.unusedVariables false set_option linter.unusedSimpArgs false
open Go.ChangeShapes Go.WideShapes Go.ChangeAt Go.RowKit Go.Proofs.YtcjeeoadgoghfaaGreatDoor.base Go.Proofs.YtcjeeoadgoghfaaGreatDoor.Deci Go.Proofs.YtcjeeoadgoghfaaGreatDoor.Usc

/-- The table float64pow10 as it lies, in block T. -/
structure Pten (w : World) (T : Nat) : Prop where
  ex : ∃ o : Nat, w.cell? ⟨15, 0, none⟩ = some (.slice (some ⟨T, o, none⟩) 23 23) ∧ ∀ i, i < 23 → w.cell? ⟨T, o + i, none⟩ = some (.float .f64 (p10 i))
theorem Pten.frm {S : Nat → Prop} {w w' : World} {T : Nat} (h : Pten w T) (k : Frm S w w') (h1 : ¬ S T) (h2 : ¬ S 15) : Pten w' T :=
  ⟨by obtain ⟨o, a1, a2⟩ := h.ex; exact ⟨o, cell_frm a1 k h2, fun i hi => cell_frm (a2 i hi) k h1⟩⟩

theorem word_sign (s : Bool) (x : Nat) : Ieee.double.word s x = (if s then 9223372036854775808 else 0) + x := by
  cases s
  · exact (d_word x).trans (Nat.zero_add x).symm
  · rfl
theorem neg_word {x : Nat} (h : x < 9218868437227405312) : Op.negFloat .f64 x = Ieee.double.word true x := by
  rw [word_sign]
  show x ^^^ 2 ^ 63 = _
  have e : (2 : Nat) ^ 63 = 9223372036854775808 := by decide
  have := Nat.two_pow_add_eq_or_of_lt (i := 63) (b := x) (by omega) 1
  rw [Nat.mul_one, e] at this
  rw [e, if_pos rfl, this]
  apply Nat.eq_of_testBit_eq
  intro i
  rw [Nat.testBit_xor, Nat.testBit_or]
  by_cases h2 : i = 63
  · subst h2
    rw [Nat.testBit_lt_two_pow (show x < 2 ^ 63 by omega)]
    simp
  · rw [← e, Nat.testBit_two_pow_of_ne (fun h => h2 h.symm)]
    simp
theorem int_word {m x : Nat} (h : ∀ s, Ieee.double.nearest s m 0 = Ieee.double.word s x) : floatOfInt .f64 (m : Int) = x := by
  show Ieee.double.nearest (decide ((m : Int) < 0)) (m : Int).natAbs 0 = x
  rw [decide_eq_false (by omega), Int.natAbs_natCast, h, d_word]

/-- What it may answer. -/
def ExPost (m : Nat) (e : Int) (s : Bool) (en : Ending) : Prop := (∃ a : Nat, en = .returned (.tuple #[.float .f64 a, .bool false])) ∨ ∃ x, NB (tenN m e) (tenD e) x ∧ en = .returned (.tuple #[.float .f64 (Ieee.double.word s x), .bool true])

theorem tenN_nat (m i : Nat) : tenN m (i : Int) = m * 10 ^ i := by unfold tenN; rw [Int.toNat_natCast]
theorem tenD_nat (i : Nat) : tenD (i : Int) = 1 := by unfold tenD; rw [show (-(i : Int)).toNat = 0 by omega]
theorem tenN_neg (m i : Nat) : tenN m (-(i : Int)) = m := by unfold tenN; rw [show (-(i : Int)).toNat = 0 by omega, Nat.pow_zero, Nat.mul_one]
theorem tenD_neg (i : Nat) : tenD (-(i : Int)) = 10 ^ i := by unfold tenD; rw [Int.neg_neg, Int.toNat_natCast]

set_option maxRecDepth 20000 in
set_option maxHeartbeats 1000000 in
theorem exact_all (w : World) (T m : Nat) (e : Int) (s : Bool) (hm : 1 ≤ m) (hm2 : W64 m) (he1 : -100000 ≤ e) (he2 : e ≤ 100000) (hF : Flt w) (hT : Pten w T) :
    Calls Tryz.prog 247 #[.int .u64 m, .int .i64 e, .bool s] w fun en w' => ExPost m e s en ∧ w' = w := by
  obtain ⟨mb, hmb⟩ : ∃ mb : Nat, mb = 52 := ⟨_, rfl⟩
  have hm60 : mb ≤ 60 := by omega
  have b2' : w.cell? ⟨10, 0, none⟩ = some (.int .u64 (mb : Int)) := by rw [hmb]; exact hF.m
  obtain ⟨q, hq, hqe⟩ : ∃ q : Nat, (m : Int) / 2 ^ mb = (q : Int) ∧ q = m / 2 ^ 52 := ⟨m / 2 ^ mb, by norm_cast, by rw [hmb]⟩
  have HMB := Lib.hid hmb
  have HF := Lib.hid hF
  have HT := Lib.hid hT
  have HM := Lib.hid (And.intro hm hm2)
  by_cases h0 : q = 0
  · have hq' : (m : Int) / 2 ^ mb = 0 := by rw [hq, h0]; rfl
    have hm53 : m < 2 ^ 52 := by
      have e52 : (2 : Nat) ^ 52 = 4503599627370496 := by decide
      rw [e52] at hqe ⊢
      omega
    obtain ⟨x, k, l, hn, hr, hk, hl, hke, hx, hxi⟩ := exa_word m hm (Nat.lt_trans hm53 (by decide))
    have hfo := int_word hn
    have hng := neg_word hxi
    obtain ⟨a, ha⟩ : ∃ a, Ieee.double.word s x = a := ⟨_, rfl⟩
    have hEx : Exa m s a := ⟨x, k, l, ha.symm, hr, hk, hl, hke⟩
    have hs1 : s = true → ∀ W, (Op.unary .neg (.float .f64 x)).run Tryz.prog W = .ok (.float .f64 a) W := fun h W => by rw [← ha, h, ← hng]; rfl
    have hs2 : s = false → x = a := fun h => by rw [← ha, h, d_word]
    have hxa : ExPost m 0 s (.returned (.tuple #[.float .f64 a, .bool true])) := Or.inr ⟨x, by rw [show (0 : Int) = ((0 : Nat) : Int) from rfl, tenN_nat, tenD_nat, Nat.pow_zero, Nat.mul_one]; exact hx, by rw [ha]⟩
    have HXA := Lib.hid hxa
    obtain ⟨g1, hg1⟩ : ∃ g1, (FloatKind.f64.format.order a 4831355200913801216 == some .gt) = g1 := ⟨_, rfl⟩
    obtain ⟨g2, hg2⟩ : ∃ g2, (FloatKind.f64.format.order a 14054727237768577024 == some .lt) = g2 := ⟨_, rfl⟩
    clear hm hm2 hmb hqe hm53 hn hr hk hl hke hx hxi hF hT ha hng hxa hq h0
    have HEX := Lib.hid hEx
    clear hEx
    rcases Int.lt_trichotomy e 0 with hneg | rfl | hpos
    · by_cases hsm : -22 ≤ e
      · obtain ⟨i, hi⟩ : ∃ i : Nat, e = -(i : Int) := ⟨(-e).toNat, by omega⟩
        subst hi
        have hi1 : 1 ≤ i := by omega
        have hi2 : i ≤ 22 := by omega
        obtain ⟨y, hy1, hy2⟩ := exa_div HEX.out (show i < 23 by omega)
        have hop := fun t W => run_float_arith (P := Tryz.prog) W .quo t .f64 a (p10 i) (Ieee.double.word s y) hy1
        obtain ⟨o, c0, hrow⟩ := HT.out.ex
        have c1 := hrow i (by omega)
        clear hrow
        have HY := Lib.hid hy2
        clear hy1 hy2 hneg hsm he1 he2 hg1 hg2
        rcases Bool.eq_false_or_eq_true s with rfl | rfl
        · have hs := hs1 rfl
          clear hs1 hs2
          go_enter Tryz.func247, Tryz.ntmps247
          go_wp2
          refine bodyPost_ret (v := .tuple #[.float .f64 (Ieee.double.word true y), .bool true]) (by simp [results, Tryz.results247, go_sem]) rfl ⟨Or.inr ⟨y, by rw [tenN_neg, tenD_neg]; exact HY.out, rfl⟩, rfl⟩
        · have hs := hs2 rfl
          subst hs
          clear hs1 hs2
          go_enter Tryz.func247, Tryz.ntmps247
          go_wp2
          refine bodyPost_ret (v := .tuple #[.float .f64 (Ieee.double.word false y), .bool true]) (by simp [results, Tryz.results247, go_sem]) rfl ⟨Or.inr ⟨y, by rw [tenN_neg, tenD_neg]; exact HY.out, rfl⟩, rfl⟩
      · clear hg1 hg2
        rcases Bool.eq_false_or_eq_true s with rfl | rfl
        · have hs := hs1 rfl
          clear hs1 hs2
          go_enter Tryz.func247, Tryz.ntmps247
          go_wp2
          refine bodyPost_ret (v := .tuple #[.float .f64 a, .bool false]) (by simp [results, Tryz.results247, go_sem]) rfl ⟨Or.inl ⟨_, rfl⟩, rfl⟩
        · have hs := hs2 rfl
          subst hs
          clear hs1 hs2
          go_enter Tryz.func247, Tryz.ntmps247
          go_wp2
          refine bodyPost_ret (v := .tuple #[.float .f64 x, .bool false]) (by simp [results, Tryz.results247, go_sem]) rfl ⟨Or.inl ⟨_, rfl⟩, rfl⟩
    · clear hg1 hg2
      rcases Bool.eq_false_or_eq_true s with rfl | rfl
      · have hs := hs1 rfl
        clear hs1 hs2
        go_enter Tryz.func247, Tryz.ntmps247
        go_wp2
        refine bodyPost_ret (v := .tuple #[.float .f64 a, .bool true]) (by simp [results, Tryz.results247, go_sem]) rfl ⟨HXA.out, rfl⟩
      · have hs := hs2 rfl
        subst hs
        clear hs1 hs2
        go_enter Tryz.func247, Tryz.ntmps247
        go_wp2
        refine bodyPost_ret (v := .tuple #[.float .f64 x, .bool true]) (by simp [results, Tryz.results247, go_sem]) rfl ⟨HXA.out, rfl⟩
    · by_cases h22 : e ≤ 22
      · obtain ⟨i, hi⟩ : ∃ i : Nat, e = (i : Int) := ⟨e.toNat, by omega⟩
        subst hi
        have hi1 : 1 ≤ i := by omega
        have hi2 : i ≤ 22 := by omega
        obtain ⟨y, hy1, hy2⟩ := exa_mul HEX.out (show i < 23 by omega)
        have hop := fun t W => run_float_arith (P := Tryz.prog) W .mul t .f64 a (p10 i) (Ieee.double.word s y) hy1
        obtain ⟨o, c0, hrow⟩ := HT.out.ex
        have c1 := hrow i (by omega)
        clear hrow
        have HY := Lib.hid hy2
        clear hy1 hy2 hpos h22 he1 he2
        cases g1
        · cases g2
          · rcases Bool.eq_false_or_eq_true s with rfl | rfl
            · have hs := hs1 rfl
              clear hs1 hs2
              go_enter Tryz.func247, Tryz.ntmps247
              go_wp2
              refine bodyPost_ret (v := .tuple #[.float .f64 (Ieee.double.word true y), .bool true]) (by simp [results, Tryz.results247, go_sem]) rfl ⟨Or.inr ⟨y, by rw [tenN_nat, tenD_nat]; exact HY.out, rfl⟩, rfl⟩
            · have hs := hs2 rfl
              subst hs
              clear hs1 hs2
              go_enter Tryz.func247, Tryz.ntmps247
              go_wp2
              refine bodyPost_ret (v := .tuple #[.float .f64 (Ieee.double.word false y), .bool true]) (by simp [results, Tryz.results247, go_sem]) rfl ⟨Or.inr ⟨y, by rw [tenN_nat, tenD_nat]; exact HY.out, rfl⟩, rfl⟩
          · rcases Bool.eq_false_or_eq_true s with rfl | rfl
            · have hs := hs1 rfl
              clear hs1 hs2
              go_enter Tryz.func247, Tryz.ntmps247
              go_wp2
              refine bodyPost_ret (v := .tuple #[.float .f64 a, .bool false]) (by simp [results, Tryz.results247, go_sem]) rfl ⟨Or.inl ⟨_, rfl⟩, rfl⟩
            · have hs := hs2 rfl
              subst hs
              clear hs1 hs2
              go_enter Tryz.func247, Tryz.ntmps247
              go_wp2
              refine bodyPost_ret (v := .tuple #[.float .f64 x, .bool false]) (by simp [results, Tryz.results247, go_sem]) rfl ⟨Or.inl ⟨_, rfl⟩, rfl⟩
        · rcases Bool.eq_false_or_eq_true s with rfl | rfl
          · have hs := hs1 rfl
            clear hs1 hs2
            go_enter Tryz.func247, Tryz.ntmps247
            go_wp2
            refine bodyPost_ret (v := .tuple #[.float .f64 a, .bool false]) (by simp [results, Tryz.results247, go_sem]) rfl ⟨Or.inl ⟨_, rfl⟩, rfl⟩
          · have hs := hs2 rfl
            subst hs
            clear hs1 hs2
            go_enter Tryz.func247, Tryz.ntmps247
            go_wp2
            refine bodyPost_ret (v := .tuple #[.float .f64 x, .bool false]) (by simp [results, Tryz.results247, go_sem]) rfl ⟨Or.inl ⟨_, rfl⟩, rfl⟩
      · by_cases h37 : e ≤ 37
        · obtain ⟨i, hi⟩ : ∃ i : Nat, e = (i : Int) + 22 := ⟨(e - 22).toNat, by omega⟩
          subst hi
          have hi1 : 1 ≤ i := by omega
          have hi2 : i ≤ 15 := by omega
          obtain ⟨y, hy1, hy2⟩ := exa_mul HEX.out (show i < 23 by omega)
          have hop := fun t W => run_float_arith (P := Tryz.prog) W .mul t .f64 a (p10 i) (Ieee.double.word s y) hy1
          obtain ⟨o, c0, hrow⟩ := HT.out.ex
          have c1 := hrow i (by omega)
          have c2 := hrow 22 (by omega)
          clear hrow
          have HY := Lib.hid hy2
          obtain ⟨b, hb⟩ : ∃ b, Ieee.double.word s y = b := ⟨_, rfl⟩
          rw [hb] at hop
          clear hy1 hy2 hpos h22 h37 he1 he2 hg1 hg2 g1 g2
          obtain ⟨g1, hg1⟩ : ∃ g1, (FloatKind.f64.format.order b 4831355200913801216 == some .gt) = g1 := ⟨_, rfl⟩
          obtain ⟨g2, hg2⟩ : ∃ g2, (FloatKind.f64.format.order b 14054727237768577024 == some .lt) = g2 := ⟨_, rfl⟩
          cases g1
          · cases g2
            · have hE : Exa (m * 10 ^ i) s b := by
                rw [← hb]
                refine exa_twice HM.out.1 HY.out ?_ ?_
                · rw [hb]; exact fun h => by rw [show FloatKind.f64.format = Ieee.double from rfl, h] at hg1; cases hg1
                · rw [hb]; exact fun h => by rw [show FloatKind.f64.format = Ieee.double from rfl, h] at hg2; cases hg2
              obtain ⟨z, hz1, hz2⟩ := exa_mul hE (show 22 < 23 by decide)
              have hop2 := fun t W => run_float_arith (P := Tryz.prog) W .mul t .f64 b (p10 22) (Ieee.double.word s z) hz1
              have HZ := Lib.hid (show NB (tenN m ((i : Int) + 22)) (tenD ((i : Int) + 22)) z by
                rw [show (i : Int) + 22 = ((i + 22 : Nat) : Int) by omega, tenN_nat, tenD_nat, Nat.pow_add, ← Nat.mul_assoc]; exact hz2)
              clear hz1 hz2 hE hb
              rcases Bool.eq_false_or_eq_true s with rfl | rfl
              · have hs := hs1 rfl
                clear hs1 hs2
                go_enter Tryz.func247, Tryz.ntmps247
                go_wp2
                refine bodyPost_ret (v := .tuple #[.float .f64 (Ieee.double.word true z), .bool true]) (by simp [results, Tryz.results247, go_sem]) rfl ⟨Or.inr ⟨z, HZ.out, rfl⟩, rfl⟩
              · have hs := hs2 rfl
                subst hs
                clear hs1 hs2
                go_enter Tryz.func247, Tryz.ntmps247
                go_wp2
                refine bodyPost_ret (v := .tuple #[.float .f64 (Ieee.double.word false z), .bool true]) (by simp [results, Tryz.results247, go_sem]) rfl ⟨Or.inr ⟨z, HZ.out, rfl⟩, rfl⟩
            · clear hb
              rcases Bool.eq_false_or_eq_true s with rfl | rfl
              · have hs := hs1 rfl
                clear hs1 hs2
                go_enter Tryz.func247, Tryz.ntmps247
                go_wp2
                refine bodyPost_ret (v := .tuple #[.float .f64 b, .bool false]) (by simp [results, Tryz.results247, go_sem]) rfl ⟨Or.inl ⟨_, rfl⟩, rfl⟩
              · have hs := hs2 rfl
                subst hs
                clear hs1 hs2
                go_enter Tryz.func247, Tryz.ntmps247
                go_wp2
                refine bodyPost_ret (v := .tuple #[.float .f64 b, .bool false]) (by simp [results, Tryz.results247, go_sem]) rfl ⟨Or.inl ⟨_, rfl⟩, rfl⟩
          · clear hb
            rcases Bool.eq_false_or_eq_true s with rfl | rfl
            · have hs := hs1 rfl
              clear hs1 hs2
              go_enter Tryz.func247, Tryz.ntmps247
              go_wp2
              refine bodyPost_ret (v := .tuple #[.float .f64 b, .bool false]) (by simp [results, Tryz.results247, go_sem]) rfl ⟨Or.inl ⟨_, rfl⟩, rfl⟩
            · have hs := hs2 rfl
              subst hs
              clear hs1 hs2
              go_enter Tryz.func247, Tryz.ntmps247
              go_wp2
              refine bodyPost_ret (v := .tuple #[.float .f64 b, .bool false]) (by simp [results, Tryz.results247, go_sem]) rfl ⟨Or.inl ⟨_, rfl⟩, rfl⟩
        · clear hg1 hg2
          rcases Bool.eq_false_or_eq_true s with rfl | rfl
          · have hs := hs1 rfl
            clear hs1 hs2
            go_enter Tryz.func247, Tryz.ntmps247
            go_wp2
            refine bodyPost_ret (v := .tuple #[.float .f64 a, .bool false]) (by simp [results, Tryz.results247, go_sem]) rfl ⟨Or.inl ⟨_, rfl⟩, rfl⟩
          · have hs := hs2 rfl
            subst hs
            clear hs1 hs2
            go_enter Tryz.func247, Tryz.ntmps247
            go_wp2
            refine bodyPost_ret (v := .tuple #[.float .f64 x, .bool false]) (by simp [results, Tryz.results247, go_sem]) rfl ⟨Or.inl ⟨_, rfl⟩, rfl⟩
  · have hq0 : ¬ (q : Int) = 0 := by omega
    clear hm hm2 hmb hqe hF hT
    go_enter Tryz.func247, Tryz.ntmps247
    go_wp2
    refine bodyPost_ret (v := .tuple #[.float .f64 0, .bool false]) (by simp [results, Tryz.results247, go_sem]) rfl ⟨Or.inl ⟨_, rfl⟩, rfl⟩
end Go.Proofs.YtcjeeoadgoghfaaGreatDoor.deca

namespace Go.Proofs.YtcjeeoadgoghfaaGreatDoor.deca
set_option linter.unusedVariables false set_option linter.unusedSimpArgs false
open Go.ChangeShapes Go.WideShapes Go.ChangeAt Go.RowKit Go.Proofs.YtcjeeoadgoghfaaGreatDoor.base Go.Proofs.YtcjeeoadgoghfaaGreatDoor.Deci Go.Proofs.YtcjeeoadgoghfaaGreatDoor.Usc

def inf8 : ByteArray := { data := #[105, 110, 102, 105, 110, 105, 116, 121] }
set_option maxHeartbeats 1000000 in
theorem common_all (w : World) (s : ByteArray) (d : Nat) (hd : d ≤ 9) (h0 : 0 < s.size) (h1 : (s[0].toNat : Int) = (d : Int) + 48) :
    Calls Tryz.prog 276 #[.string s, .string inf8] w fun e w' => e = .returned (.int .i64 0) ∧ w' = w := by
  have hi : inf8.size = 8 := rfl
  have hI0 : ∀ h : 0 < inf8.size, (inf8[0].toNat : Int) = 105 := fun _ => rfl
  go_enter Tryz.func276, Tryz.ntmps276
  go_wp2
  all_goals
    go_loopw [6] (fun iv wr => iv = .int .i64 0 ∧ w = wr) (fun _ _ => 0)
    case atStart => exact ⟨rfl, rfl⟩
    case round =>
      obtain ⟨rfl, rfl⟩ := hrel
      go_wp2
      refine bodyPost_ret (v := .int .i64 0) (by simp [results, Tryz.results276, go_sem]) rfl ⟨rfl, rfl⟩

/-- The text begins with a sign or none and a digit. -/
structure Fst (s : ByteArray) (neg : Bool) (d : Nat) : Prop where
  sz : ofs neg < s.size
  d9 : d ≤ 9
  sg : neg = true → ∀ h : 0 < s.size, (s[0].toNat : Int) = 45
  dg : ∀ h : ofs neg < s.size, (s[ofs neg].toNat : Int) = (d : Int) + 48

set_option maxHeartbeats 1000000 in
theorem special_all (w : World) (s : ByteArray) (neg : Bool) (d : Nat) (h : Fst s neg d) :
    Calls Tryz.prog 236 #[.string s] w fun e w' => e = .returned (.tuple #[.float .f64 0, .int .i64 0, .bool false]) ∧ w' = w := by
  obtain ⟨hz, hd, hg, h1⟩ := h
  cases neg
  · have h0 : 0 < s.size := hz
    have hb : (s[0].toNat : Int) = (d : Int) + 48 := h1 hz
    clear hz hg h1
    go_enter Tryz.func236, Tryz.ntmps236
    go_wp2
    refine bodyPost_ret (v := .tuple #[.float .f64 0, .int .i64 0, .bool false]) (by simp [results, Tryz.results236, go_sem]) rfl ⟨rfl, rfl⟩
  · have h2 : 1 < s.size := hz
    have h0 : 0 < s.size := by omega
    have hb : (s[0].toNat : Int) = 45 := hg rfl h0
    obtain ⟨t, ht⟩ : ∃ t, s.extract 1 s.size = t := ⟨_, rfl⟩
    have hts : 0 < t.size := by rw [← ht, ByteArray.size_extract]; omega
    have htb : (t[0].toNat : Int) = (d : Int) + 48 := by
      have := h1 hz
      subst ht
      rw [ByteArray.getElem_extract]
      exact this
    have HC := Lib.hid (fun w => common_all w t d hd hts htb)
    clear hz hg h1
    go_enter Tryz.func236, Tryz.ntmps236
    go_wp2_with (go_at_call 276; go_must (refine (HC.out _).mono ?_; rintro e w1 ⟨rfl, rfl⟩))
    refine bodyPost_ret (v := .tuple #[.float .f64 0, .int .i64 0, .bool false]) (by simp [results, Tryz.results236, go_sem]) rfl ⟨rfl, rfl⟩
end Go.Proofs.YtcjeeoadgoghfaaGreatDoor.deca
