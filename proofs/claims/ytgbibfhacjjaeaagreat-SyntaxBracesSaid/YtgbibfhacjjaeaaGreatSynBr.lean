/- The law SyntaxBraces. -/
import Derived.Test.YtgbibfhacjjaeaaGreatSynBl
import Derived.Test.YtgbibfhacjjaeaaGreatSynBd
import Derived.Test.YtgbibfhacjjaeaaGreatSynBs
import Derived.Lib.Hide
import Derived.Deep.RegionHeld3
namespace Go.Proofs.YtgbibfhacjjaeaaGreat.syn
set_option maxRecDepth 20000 set_option linter.unusedVariables false set_option linter.unusedSimpArgs false
open Go.ChangeShapes Go.WideShapes Go.ChangeAt Go.RowKit Go.Proofs.YtgbibfhacjjaeaaGreat.base
open Go.Proofs.YtgbibfhacjjaeaaGreat.lexs (Tok kNl kNum kStr kEre kOp kName kFunc kWord kBuilt)

theorem parseS_depth {s : ByteArray} {f : Fo} (h : parseS s = some f) : f.depth ≤ 200 := by
  unfold parseS at h
  obtain ⟨ts, h1, h2⟩ := Option.bind_eq_some_iff.1 h
  unfold parseT at h2
  generalize items (inn 200) (start ts) = q at *
  split at h2
  · cases h2
  split at h2
  · cases h2
  rename_i hd
  cases h2
  omega
theorem PPost_any {r : Option Fo} {w : World} {e : Ending} {w' : World} (h : PPost w r e w') : ∃ (v : Value) (b : Bool), e = .returned (.tuple #[v, .bool b]) ∧ Frm No w w' := by
  obtain ⟨hf, h⟩ := h
  cases r with
  | none => exact ⟨_, _, h, hf⟩
  | some f => obtain ⟨a, c, he, _⟩ := h; exact ⟨_, _, he, hf⟩
/-- The cells of an item: a rule of a block. -/
theorem rule_cells {w : World} {F : Nat → Prop} {a : Option Addr} {c : Nat} {n : Nd} (h : KV w F (.slice a 1 c) (one (bz.ruleN n))) :
    ∃ g g2 c2 ak ck, a = some ⟨g, 0, none⟩ ∧ g < w.heap.size ∧ g2 < w.heap.size ∧ 2 ≤ c2 ∧
      w.cell? ⟨g, 0, none⟩ = some (.string ⟨#[114, 117, 108, 101]⟩) ∧ w.cell? ⟨g, 1, none⟩ = some (.string ⟨#[]⟩) ∧ w.cell? ⟨g, 2, none⟩ = some (.slice (some ⟨g2, 0, none⟩) 2 c2) ∧
      w.cell? ⟨g2, 3, none⟩ = some (.string ⟨n.op.toArray⟩) ∧ w.cell? ⟨g2, 4, none⟩ = some (.string ⟨n.tx.toArray⟩) ∧ w.cell? ⟨g2, 5, none⟩ = some (.slice ak n.kids.len ck) ∧
      KV w F (.slice ak n.kids.len ck) n.kids ∧ KV w F (.slice (some ⟨g2, 0, none⟩) 2 c2) (two noneN n) := by
  obtain ⟨g, k, cur, rfl, hb, c0, c1, c2, hk⟩ := KV.nth (f := one (bz.ruleN n)) h 0 (bz.ruleN n) rfl
  obtain ⟨a2, cc2, rfl⟩ := hk.forms
  have hk' : KV w F (.slice a2 2 cc2) (two noneN n) := hk
  obtain ⟨g2, k2, cur2, rfl, hb2, d0, d1, d2, hk2⟩ := KV.nth (f := two noneN n) hk' 1 n rfl
  obtain ⟨a3, cc3, rfl⟩ := hk2.forms
  exact ⟨g, g2, cc2, a3, cc3, rfl, hb.lt, hb2.lt, KV.room (f := two noneN n) hk', c0, c1, c2, d0, d1, d2, hk2, hk'⟩

set_option maxHeartbeats 8000000 in
theorem braces_all (s : ByteArray) (w : World) : Calls Tryz.prog 5 #[.string s] w fun e w' => e = .returned (.bool true) ∧ Frm No w w' := by
  by_cases h1 : 1500 < s.size
  · have h1' : (1500 : Int) < (s.size : Int) := by omega
    go_enter Tryz.func5, Tryz.ntmps5
    go_wp2_with (go_at_call 11; go_must (refine (awake6_all _).mono ?_; rintro e w1 ⟨rfl, hf1⟩; have HF1 := Lib.hid hf1; clear hf1))
    go_ret
    exact ⟨rfl, HF1.out⟩
  have h1' : ¬ (1500 : Int) < (s.size : Int) := by omega
  have hcs : (∃ m : Nat, ∃ hm : m < s.size, (s.size : Int) - 1 = (m : Int) ∧ (0 : Int) < s.size ∧ ((s[m].toNat : Int) == 92) = true) ∨ ((s.size : Int) = 0) ∨ (∃ m : Nat, ∃ hm : m < s.size, (s.size : Int) - 1 = (m : Int) ∧ (0 : Int) < s.size ∧ ((s[m].toNat : Int) == 92) = false) := by
    by_cases h0 : s.size = 0
    · exact Or.inr (Or.inl (by omega))
    · cases h : ((s[s.size - 1].toNat : Int) == 92) with
      | true => exact Or.inl ⟨s.size - 1, by omega, by omega, by omega, h⟩
      | false => exact Or.inr (Or.inr ⟨s.size - 1, by omega, by omega, by omega, h⟩)
  have hsl : s.size ≤ 1500 := by omega
  have z1 : (⟨#[123]⟩ : ByteArray).size = 1 := rfl
  have z2 : (⟨#[123, 123]⟩ : ByteArray).size = 2 := rfl
  have z3 : (⟨#[10, 125]⟩ : ByteArray).size = 2 := rfl
  have z4 : (⟨#[10, 125, 59, 10, 125]⟩ : ByteArray).size = 5 := rfl
  have HA := Lib.hid (fun w => parse_all ((⟨#[123]⟩ ++ s) ++ ⟨#[10, 125]⟩) w (by rw [ByteArray.size_append, ByteArray.size_append]; omega))
  have HB := Lib.hid (fun w => parse_all ((⟨#[123, 123]⟩ ++ s) ++ ⟨#[10, 125, 59, 10, 125]⟩) w (by rw [ByteArray.size_append, ByteArray.size_append]; omega))
  have HAD := Lib.hid (show ((⟨#[123]⟩ ++ s) ++ ⟨#[10, 125]⟩ : ByteArray).data.toList = 123 :: (s.data.toList ++ [10, 125]) by simp)
  have HBD := Lib.hid (show ((⟨#[123, 123]⟩ ++ s) ++ ⟨#[10, 125, 59, 10, 125]⟩ : ByteArray).data.toList = 123 :: 123 :: (s.data.toList ++ [10, 125, 59, 10, 125]) by simp)
  clear z1 z2 z3 z4
  rcases hcs with ⟨m, hm, hz, hp, hb⟩ | hcs
  · go_enter Tryz.func5, Tryz.ntmps5
    go_wp2_with (go_at_call 11; go_must (refine (awake6_all _).mono ?_; rintro e w1 ⟨rfl, hf1⟩; have HF1 := Lib.hid hf1; clear hf1))
    go_ret
    exact ⟨rfl, HF1.out⟩
  have hok : lexs.okl s.data.toList := by
    rcases hcs with h0' | ⟨m, hm, hz, hp, hb⟩
    · exact lexs.okl_nil h0'
    · exact lexs.okl_of hm hz hb
  have HOK := Lib.hid hok
  clear hok
  cases hA : parseS ((⟨#[123]⟩ ++ s) ++ ⟨#[10, 125]⟩) with
  | none =>
    rw [hA] at HA
    clear hA HOK HAD HBD
    rcases hcs with h0' | ⟨m, hm, hz, hp, hb⟩
    all_goals
      go_enter Tryz.func5, Tryz.ntmps5
      go_wp2_with (first | (go_at_call 11; go_must (refine (awake6_all _).mono ?_; rintro e w1 ⟨rfl, hf1⟩; have HF1 := Lib.hid hf1; clear hf1)) | (go_at_call 12; (with_reducible refine (HA.out _).mono ?_); rintro e w2 ⟨hf2, h2⟩; obtain rfl : e = .returned (.tuple #[.slice none 0 0, .bool false]) := h2; have HF2 := Lib.hid hf2; clear hf2) | (go_at_call 12; (with_reducible refine (HB.out _).mono ?_); intro e w3 h3; obtain ⟨v3, b3, rfl, hf3⟩ := PPost_any h3; have HF3 := Lib.hid hf3; clear hf3 h3))
      go_ret
      exact ⟨rfl, HF1.out.trans (HF2.out.trans HF3.out)⟩
  | some fa =>
    rw [hA] at HA
    by_cases hl : fa.len = 1
    · obtain ⟨F, rfl⟩ := parseS_rule hsl HOK.out HAD.out hA hl
      have hd2 : (one (bz.ruleN ⟨w_block, [], F⟩)).depth = F.depth + 2 := by simp only [one, bz.ruleN, two, noneN, Fo.depth]; omega
      have hd3 : (two noneN ⟨w_block, [], F⟩).depth + 1 = F.depth + 2 := by simp only [one, two, noneN, Fo.depth]; omega
      have hle := parseS_depth hA
      have HDP := Lib.hid (fun (w' : World) (Fp : Nat → Prop) (g2 c2 : Nat) (h : KV w' Fp (.slice (some ⟨g2, 0, none⟩) 2 c2) (two noneN ⟨w_block, [], F⟩)) => hd3 ▸ depth_all 1000 (two noneN ⟨w_block, [], F⟩) w' Fp (some ⟨g2, 0, none⟩) c2 ⟨#[114, 117, 108, 101]⟩ ⟨#[]⟩ (Nat.le_refl _) (by omega) h)
      by_cases hd : F.depth + 2 < 200
      · have hdi : ((F.depth + 2 : Nat) : Int) < 200 := by omega
        obtain ⟨F', he, hB⟩ := parseS_braces hsl HOK.out HAD.out HBD.out hA hl (by omega)
        obtain rfl : F = F' := by injection he with _ _ h _; injection h with _ _ _ h; injection h with _ _ h _
        rw [hB] at HB
        clear he hA hB HAD HBD HOK hd2 hd3 hle hl
        rcases hcs with h0' | ⟨m, hm, hz, hp, hb⟩
        all_goals
          go_enter Tryz.func5, Tryz.ntmps5
          go_upto_region 11 with (first | (go_at_call 11; go_must (refine (awake6_all _).mono ?_; rintro e w1 ⟨rfl, hf1⟩; have HF1 := Lib.hid hf1; clear hf1)) | (go_at_call 12; (with_reducible refine (HA.out _).mono ?_); rintro e w2 ⟨hf2, aa, ca, he, hra⟩; obtain rfl : e = .returned (.tuple #[.slice aa 1 ca, .bool true]) := he; have HF2 := Lib.hid hf2; have HRA := Lib.hid (show KV w2 _ (.slice aa 1 ca) (one (bz.ruleN ⟨w_block, [], F⟩)) from hra.kv); clear hf2 hra) | (go_at_call 12; (with_reducible refine (HB.out _).mono ?_); rintro e w3 ⟨hf3, ab, cb, he, hrb⟩; obtain rfl : e = .returned (.tuple #[.slice ab 1 cb, .bool true]) := he; have HF3 := Lib.hid hf3; have HRB := Lib.hid (show KV w3 _ (.slice ab 1 cb) (one (bz.ruleN ⟨w_block, [], one ⟨w_block, [], F⟩⟩)) from hrb.kv); obtain ⟨g, g2, c2, ak, ck, rfl, gl, gl2, hc2, z0, z1, z2, z3, z4, z5, hkA, hkK⟩ := rule_cells (HRA.out.move hf3); have HKA := Lib.hid hkA; have HKK := Lib.hid hkK; clear hf3 hrb hkA hkK) | (go_at_call 13; go_must (refine (HDP.out _ _ g2 c2 HKK.out).mono ?_; rintro e w4 ⟨rfl, hf4⟩; obtain ⟨p, p2, e2, am, cm, rfl, pl, pl2, hc3, y0, y1, y2, y3, y4, y5, hkB, hkL⟩ := rule_cells (HRB.out.move hf4); have fr : ∀ g o, g < w3.heap.size → w4.cell? ⟨g, o, none⟩ = w3.cell? ⟨g, o, none⟩ := fun g o h => World.cell?_of_block (hf4.block g h id); have x2 := (fr g 2 gl).trans z2; have x3 := (fr g2 3 gl2).trans z3; have x4 := (fr g2 4 gl2).trans z4; have x5 := (fr g2 5 gl2).trans z5; have y6 : w4.cell? ⟨p2, 5, none⟩ = some (.slice am 1 cm) := y5; have HKB := Lib.hid (show KV w4 _ (.slice am 1 cm) (one ⟨w_block, [], F⟩) from hkB); have HKM := Lib.hid (HKA.out.move hf4); have gl4 := Nat.lt_of_lt_of_le gl hf4.size; have gl5 := Nat.lt_of_lt_of_le gl2 hf4.size; have HF4 := Lib.hid hf4; clear fr hf4 hkB hkL)))
          have hc2n : ¬ c2 = 1 := by omega
          go_region_held3 (fun w' => w'.cell? ⟨g, 2, none⟩ = some (.slice (some ⟨g2, 0, none⟩) 2 c2) ∧ w'.cell? ⟨p, 2, none⟩ = some (.slice (some ⟨p2, 0, none⟩) 2 e2) ∧ w'.cell? ⟨p2, 5, none⟩ = some (.slice am 1 cm)) (first | assumption | (refine ⟨?_, ?_, ?_⟩ <;> first | assumption | (rw [fr3 _ _ gl4]; assumption) | (rw [fr3 _ _ pl]; assumption) | (rw [fr3 _ _ pl2]; assumption)) | (go_keep; done)) (first | (go_at_call 15; refine (same_at ⟨w_block, [], F⟩ _ _ _ am cm g2 _ ak ck (HKB.out.move ((Frm.refl No _).drew)) gl5 ((World.cell?_of_block ((Frm.refl No _).drew.block g2 gl5 id)).trans x3) ((World.cell?_of_block ((Frm.refl No _).drew.block g2 gl5 id)).trans x4) ((World.cell?_of_block ((Frm.refl No _).drew.block g2 gl5 id)).trans x5) (HKM.out.move ((Frm.refl No _).drew))).mono ?_; rintro e w5 ⟨rfl, hf5⟩; have fr3 : ∀ g o, g < w4.heap.size → w5.cell? ⟨g, o, none⟩ = w4.cell? ⟨g, o, none⟩ := fun g o h => World.cell?_of_block (hf5.block g h id)))
          all_goals go_wp2
          all_goals go_ret
          all_goals exact ⟨rfl, HF1.out.trans (HF2.out.trans (HF3.out.trans (HF4.out.drew.trans hf5)))⟩
      · have hdi : ¬ ((F.depth + 2 : Nat) : Int) < 200 := by omega
        clear hA HAD HBD HOK hd2 hd3 hle hl
        rcases hcs with h0' | ⟨m, hm, hz, hp, hb⟩
        all_goals
          go_enter Tryz.func5, Tryz.ntmps5
          go_wp2_with (first | (go_at_call 11; go_must (refine (awake6_all _).mono ?_; rintro e w1 ⟨rfl, hf1⟩; have HF1 := Lib.hid hf1; clear hf1)) | (go_at_call 12; (with_reducible refine (HA.out _).mono ?_); rintro e w2 ⟨hf2, aa, ca, he, hra⟩; obtain rfl : e = .returned (.tuple #[.slice aa 1 ca, .bool true]) := he; have HF2 := Lib.hid hf2; have HRA := Lib.hid (show KV w2 _ (.slice aa 1 ca) (one (bz.ruleN ⟨w_block, [], F⟩)) from hra.kv); clear hf2 hra) | (go_at_call 12; (with_reducible refine (HB.out _).mono ?_); intro e w3 h3; obtain ⟨v3, b3, rfl, hf3⟩ := PPost_any h3; have HF3 := Lib.hid hf3; obtain ⟨g, g2, c2, ak, ck, rfl, gl, gl2, hc2, z0, z1, z2, z3, z4, z5, hkA, hkK⟩ := rule_cells (HRA.out.move hf3); have HKK := Lib.hid hkK; clear hf3 h3 hkA hkK) | (go_at_call 13; go_must (refine (HDP.out _ _ g2 c2 HKK.out).mono ?_; rintro e w4 ⟨rfl, hf4⟩; have HF4 := Lib.hid hf4; clear hf4)))
          go_ret
          exact ⟨rfl, HF1.out.trans (HF2.out.trans (HF3.out.trans HF4.out))⟩
    · have hl' : ¬ ((fa.len : Int) = 1) := by omega
      clear hA HAD HBD HOK
      rcases hcs with h0' | ⟨m, hm, hz, hp, hb⟩
      all_goals
        go_enter Tryz.func5, Tryz.ntmps5
        go_wp2_with (first | (go_at_call 11; go_must (refine (awake6_all _).mono ?_; rintro e w1 ⟨rfl, hf1⟩; have HF1 := Lib.hid hf1; clear hf1)) | (go_at_call 12; (with_reducible refine (HA.out _).mono ?_); rintro e w2 ⟨hf2, aa, ca, rfl, hra⟩; have HF2 := Lib.hid hf2; clear hf2 hra) | (go_at_call 12; (with_reducible refine (HB.out _).mono ?_); intro e w3 h3; obtain ⟨v3, b3, rfl, hf3⟩ := PPost_any h3; have HF3 := Lib.hid hf3; clear hf3 h3))
        go_ret
        exact ⟨rfl, HF1.out.trans (HF2.out.trans HF3.out)⟩
end Go.Proofs.YtgbibfhacjjaeaaGreat.syn
