/- The document's Same at a row of one tree and at a tree that stands second in its row. -/
import Derived.Test.YtgbibfhacjjaeaaGreatSynS1
import Derived.Deep.RegionHeld3
namespace Go.Proofs.YtgbibfhacjjaeaaGreat.syn
set_option maxRecDepth 20000 set_option linter.unusedVariables false set_option linter.unusedSimpArgs false
open Go.ChangeShapes Go.WideShapes Go.ChangeAt Go.RowKit Go.Proofs.YtgbibfhacjjaeaaGreat.base
open Go.Proofs.YtgbibfhacjjaeaaGreat.lexs (Tok kNl kNum kStr kEre kOp kName kFunc kWord kBuilt)
attribute [local go_sem ↓] Go.wp_at_zero Go.wp_at_succ

set_option maxHeartbeats 8000000 in
theorem same_at (u : Nd) (w : World) (F G : Nat → Prop) (a : Option Addr) (c g2 d : Nat) (a4 : Option Addr) (c4 : Nat) (hk1 : KV w F (.slice a 1 c) (one u)) (hb2 : g2 < w.heap.size)
    (d0 : w.cell? ⟨g2, 3, none⟩ = some (.string ⟨u.op.toArray⟩)) (d1 : w.cell? ⟨g2, 4, none⟩ = some (.string ⟨u.tx.toArray⟩)) (d2 : w.cell? ⟨g2, 5, none⟩ = some (.slice a4 u.kids.len c4)) (hk2 : KV w G (.slice a4 u.kids.len c4) u.kids) :
    Calls Tryz.prog 15 #[.slice a 1 c, .slice (some ⟨g2, 3, none⟩) 1 d] w fun e w' => e = .returned (.bool true) ∧ Frm No w w' := by
  have HK1 := Lib.hid hk1
  have HK2 := Lib.hid hk2
  have HB2 := Lib.hid hb2
  have HD0 := Lib.hid d0
  have HD1 := Lib.hid d1
  have HD2 := Lib.hid d2
  clear hk1 hk2 hb2 d0 d1 d2
  go_enter Tryz.func15, Tryz.ntmps15
  go_wp2
  go_loopg [5] 1 (fun gf iv wr => ((gf = 1 ∧ iv = .int .i64 0) ∨ (gf = 0 ∧ iv = .int .i64 1)) ∧ Frm No w wr)
  case atStart => exact ⟨Or.inl ⟨rfl, rfl⟩, Frm.refl _ _⟩
  case round =>
    obtain ⟨hi, hf⟩ := hrel
    have HF := Lib.hid hf
    rcases hi with ⟨rfl, rfl⟩ | ⟨rfl, rfl⟩
    · obtain ⟨g1, kv1, cur1, rfl, hb1, e0, e1, e2, hkv1⟩ := KV.nth (f := one u) (HK1.out.move hf) 0 u rfl
      obtain ⟨a3, c3, rfl⟩ := hkv1.forms
      have frw : ∀ o, wr.cell? ⟨g2, o, none⟩ = w.cell? ⟨g2, o, none⟩ := fun o => World.cell?_of_block (hf.block g2 HB2.out id)
      have c0 : wr.cell? ⟨g1, 0, none⟩ = some (.string ⟨u.op.toArray⟩) := e0
      have c1 : wr.cell? ⟨g1, 1, none⟩ = some (.string ⟨u.tx.toArray⟩) := e1
      have c2 : wr.cell? ⟨g1, 2, none⟩ = some (.slice a3 u.kids.len c3) := e2
      have d0 : wr.cell? ⟨g2, 3, none⟩ = some (.string ⟨u.op.toArray⟩) := (frw 3).trans HD0.out
      have d1 : wr.cell? ⟨g2, 4, none⟩ = some (.string ⟨u.tx.toArray⟩) := (frw 4).trans HD1.out
      have d2 : wr.cell? ⟨g2, 5, none⟩ = some (.slice a4 u.kids.len c4) := (frw 5).trans HD2.out
      have hlb1 := hb1.lt
      have hlb2 : g2 < wr.heap.size := Nat.lt_of_lt_of_le HB2.out hf.size
      have HKV1 := Lib.hid hkv1
      have HKV2 := Lib.hid (HK2.out.move hf)
      obtain ⟨uo, ut, uk⟩ := u
      dsimp only at c0 c1 c2 d0 d1 d2 HKV1 HKV2
      clear hkv1 hb1 e0 e1 e2 frw hf
      go_wp2
      go_region_held3 (fun w' => w'.cell? ⟨g1, 0, none⟩ = some (.string ⟨uo.toArray⟩) ∧ w'.cell? ⟨g1, 1, none⟩ = some (.string ⟨ut.toArray⟩) ∧ w'.cell? ⟨g1, 2, none⟩ = some (.slice a3 uk.len c3) ∧ w'.cell? ⟨g2, 3, none⟩ = some (.string ⟨uo.toArray⟩) ∧ w'.cell? ⟨g2, 4, none⟩ = some (.string ⟨ut.toArray⟩) ∧ w'.cell? ⟨g2, 5, none⟩ = some (.slice a4 uk.len c4)) (first | assumption | (refine ⟨?_, ?_, ?_, ?_, ?_, ?_⟩ <;> first | assumption | (rw [fr3 _ _ hlb1]; assumption) | (rw [fr3 _ _ hlb2]; assumption)) | (go_keep; done)) (first | (go_at_call 15; refine (same_all uk.depth uk _ F G a3 a4 c3 c4 (Nat.le_refl _) (HKV1.out.move ((Frm.refl No _).drew)) (HKV2.out.move ((Frm.refl No _).drew))).mono ?_; rintro e w3 ⟨rfl, hf3⟩; have fr3 : ∀ g o, g < wr.heap.size → w3.cell? ⟨g, o, none⟩ = wr.cell? ⟨g, o, none⟩ := fun g o h => World.cell?_of_block (hf3.block g h id)))
      all_goals go_wp2
      all_goals
        go_roundg 0
        case measure => omega
        case rel => exact ⟨Or.inr ⟨rfl, by go_num⟩, Frm.trans HF.out.drew hf3⟩
    · go_wp2
      go_ret
      exact ⟨rfl, HF.out⟩
end Go.Proofs.YtgbibfhacjjaeaaGreat.syn
