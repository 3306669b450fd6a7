/- The document's Same, of trees laid twice. -/
import Derived.Test.YtgbibfhacjjaeaaGreatSynZm
import Derived.Deep.RegionHeld3
namespace Go.Proofs.YtgbibfhacjjaeaaGreat.syn
set_option maxRecDepth 20000 set_option linter.unusedVariables false set_option linter.unusedSimpArgs false
open Go.ChangeShapes Go.WideShapes Go.ChangeAt Go.RowKit Go.Proofs.YtgbibfhacjjaeaaGreat.base
open Go.Proofs.YtgbibfhacjjaeaaGreat.lexs (Tok kNl kNum kStr kEre kOp kName kFunc kWord kBuilt)
attribute [local go_sem ↓] Go.wp_at_zero Go.wp_at_succ

set_option maxHeartbeats 8000000 in
theorem same_all (m : Nat) : ∀ (f : Fo) (w : World) (F G : Nat → Prop) (a b : Option Addr) (c d : Nat), f.depth ≤ m → KV w F (.slice a f.len c) f → KV w G (.slice b f.len d) f →
    Calls Tryz.prog 15 #[.slice a f.len c, .slice b f.len d] w fun e w' => e = .returned (.bool true) ∧ Frm No w w' := by
  induction m with
  | zero =>
    intro f w F G a b c d hd hk1 hk2
    cases f with
    | cons o t k r => simp only [Fo.depth] at hd; omega
    | nil =>
      have e1 : a = none ∧ c = 0 := by
        rcases hk1 with ⟨e, _⟩ | ⟨_, _, _, _, hn, _⟩
        · cases e; exact ⟨rfl, rfl⟩
        · exact absurd rfl hn.1
      have e2 : b = none ∧ d = 0 := by
        rcases hk2 with ⟨e, _⟩ | ⟨_, _, _, _, hn, _⟩
        · cases e; exact ⟨rfl, rfl⟩
        · exact absurd rfl hn.1
      obtain ⟨rfl, rfl⟩ := e1
      obtain ⟨rfl, rfl⟩ := e2
      clear hk1 hk2 hd
      go_enter Tryz.func15, Tryz.ntmps15
      go_wp2
      go_rounds 1
      go_ret
      exact ⟨rfl, Frm.refl _ _⟩
  | succ m ih =>
    intro f w F G a b c d hd hk1 hk2
    have IH := Lib.hid ih
    have hfew := hk1.few
    unfold maxLen at hfew
    have HK1 := Lib.hid hk1
    have HK2 := Lib.hid hk2
    have HDP := Lib.hid hd
    clear ih hk1 hk2 hd
    go_enter Tryz.func15, Tryz.ntmps15
    go_wp2
    go_loopg [5] f.len (fun gf iv wr => ∃ i : Nat, gf + i = f.len ∧ iv = .int .i64 i ∧ Frm No w wr)
    case atStart => exact ⟨0, by omega, rfl, Frm.refl _ _⟩
    case round =>
      obtain ⟨i, hi, rfl, hf⟩ := hrel
      have HF := Lib.hid hf
      clear hf
      by_cases hlt : i < f.len
      · obtain ⟨u, hu⟩ := Fo.nth_some hlt
        obtain ⟨g1, kv1, cur1, rfl, hb1, c0, c1, c2, hkv1⟩ := KV.nth (HK1.out.move HF.out) i u hu
        obtain ⟨g2, kv2, cur2, rfl, hb2, d0, d1, d2, hkv2⟩ := KV.nth (HK2.out.move HF.out) i u hu
        obtain ⟨a3, c3, rfl⟩ := hkv1.forms
        obtain ⟨a4, c4, rfl⟩ := hkv2.forms
        have HKV1 := Lib.hid hkv1
        have HKV2 := Lib.hid hkv2
        have hdu := Fo.depth_nth hu
        have hm : u.kids.depth ≤ m := by have := HDP.out; omega
        have HM := Lib.hid hm
        have hlb1 := hb1.lt
        have hlb2 := hb2.lt
        rw [Nat.mul_comm] at c0 c1 c2 d0 d1 d2
        have hx0 : (0 : Int) ≤ (i : Int) := by omega
        have hx1 : (i : Int) < (f.len : Int) := by omega
        obtain ⟨uo, ut, uk⟩ := u
        dsimp only at c0 c1 c2 d0 d1 d2 HKV1 HKV2 HM
        clear hkv1 hkv2 hb1 hb2 hu hdu hm
        go_wp2
        go_region_held3 (fun w' => w'.cell? ⟨g1, i * 3, none⟩ = some (.string ⟨uo.toArray⟩) ∧ w'.cell? ⟨g1, i * 3 + 1, none⟩ = some (.string ⟨ut.toArray⟩) ∧ w'.cell? ⟨g1, i * 3 + 2, none⟩ = some (.slice a3 uk.len c3) ∧ w'.cell? ⟨g2, i * 3, none⟩ = some (.string ⟨uo.toArray⟩) ∧ w'.cell? ⟨g2, i * 3 + 1, none⟩ = some (.string ⟨ut.toArray⟩) ∧ w'.cell? ⟨g2, i * 3 + 2, none⟩ = some (.slice a4 uk.len c4)) (first | assumption | (refine ⟨?_, ?_, ?_, ?_, ?_, ?_⟩ <;> first | assumption | (rw [fr3 _ _ hlb1]; assumption) | (rw [fr3 _ _ hlb2]; assumption)) | (go_keep; done)) (first | (go_at_call 15; refine (IH.out uk _ F G a3 a4 c3 c4 HM.out (HKV1.out.move ((Frm.refl No _).drew)) (HKV2.out.move ((Frm.refl No _).drew))).mono ?_; rintro e w3 ⟨rfl, hf3⟩; have fr3 : ∀ g o, g < wr.heap.size → w3.cell? ⟨g, o, none⟩ = wr.cell? ⟨g, o, none⟩ := fun g o h => World.cell?_of_block (hf3.block g h id)))
        all_goals go_wp2
        all_goals
          go_roundg (gk - 1)
          case measure => omega
          case rel => exact ⟨i + 1, by omega, by go_num, Frm.trans HF.out.drew hf3⟩
      · obtain rfl : i = f.len := by omega
        go_wp2
        go_ret
        exact ⟨rfl, HF.out⟩
end Go.Proofs.YtgbibfhacjjaeaaGreat.syn
