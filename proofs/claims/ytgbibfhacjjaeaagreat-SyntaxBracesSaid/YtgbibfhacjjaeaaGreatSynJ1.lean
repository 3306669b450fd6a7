/- Two texts put together are the items of both; awake of stage 6. -/
import Derived.Test.YtgbibfhacjjaeaaGreatSynEz
import Derived.Test.YtgbibfhacjjaeaaGreatSynZn
import Derived.Test.YtgbibfhacjjaeaaGreatLexJs
namespace Go.Proofs.YtgbibfhacjjaeaaGreat.syn
set_option maxRecDepth 20000 set_option linter.unusedVariables false set_option linter.unusedSimpArgs false
open Go.ChangeShapes Go.WideShapes Go.ChangeAt Go.RowKit Go.Proofs.YtgbibfhacjjaeaaGreat.base
open Go.Proofs.YtgbibfhacjjaeaaGreat.lexs (Tok kNl kNum kStr kEre kOp kName kFunc kWord kBuilt)

theorem parseS_join {S T C : ByteArray} {t : List UInt8} (hs : S.size ≤ 2000) (ht : T.size ≤ 2000) (ho : lexs.okl S.data.toList) (hT : T.data.toList = 66 :: 69 :: 71 :: 73 :: 78 :: 32 :: t) (hC : C.data.toList = S.data.toList ++ 10 :: T.data.toList)
    {fa fb : Fo} (ha : parseS S = some fa) (hb : parseS T = some fb) : parseS C = some (fa.app fb) := by
  unfold parseS at ha hb ⊢
  obtain ⟨ta, h1, h2⟩ := Option.bind_eq_some_iff.1 ha
  obtain ⟨tb, h3, h4⟩ := Option.bind_eq_some_iff.1 hb
  rw [hC, lexs.joins_lex (by simpa using hs) (by simpa using ht) ho, h1, h3]
  have hlt : t.length ≤ 10000 := by
    have e : T.data.toList.length = T.size := by simp
    rw [hT] at e
    simp only [List.length_cons] at e
    omega
  rw [hT] at h3
  obtain ⟨B', rfl⟩ := lexs.begin_lex hlt h3
  exact ex.parse_join ta _ _ (by rw [List.dropWhile_cons, if_neg (by decide)]; rw [beq_eq_false_iff_ne]; intro e; cases e) fa fb h2 h4

theorem gap1 {l : List UInt8} (h : lexs.gp (32 :: l) = 1) (h2 : lexs.gp l = 0) : lexs.gap (32 :: l) = 1 := by
  rw [lexs.gap_eq, if_neg (by rw [h]; decide), h, show (32 :: l).drop 1 = l from rfl, lexs.gap0 h2]
theorem aw1 : lexs.lexL [36, 49, 32, 62, 32, 50, 32, 123, 32, 112, 114, 105, 110, 116, 32, 45, 50, 94, 50, 32, 125] = some [⟨kOp, [36]⟩, ⟨kNum, [49]⟩, ⟨kOp, [62]⟩, ⟨kNum, [50]⟩, ⟨kOp, [123]⟩, ⟨kWord, [112, 114, 105, 110, 116]⟩, ⟨kOp, [45]⟩, ⟨kNum, [50]⟩, ⟨kOp, [94]⟩, ⟨kNum, [50]⟩, ⟨kOp, [125]⟩] := by
  rw [lexs.lexL_id (by decide), show lexs.ug [36, 49, 32, 62, 32, 50, 32, 123, 32, 112, 114, 105, 110, 116, 32, 45, 50, 94, 50, 32, 125] = [36, 49, 32, 62, 32, 50, 32, 123, 32, 112, 114, 105, 110, 116, 32, 45, 50, 94, 50, 32, 125] from by unfold lexs.ug; rw [lexs.gap0 rfl]; rfl]
  have s0 := lexs.lexF_step (l := [36, 49, 32, 62, 32, 50, 32, 123, 32, 112, 114, 105, 110, 116, 32, 45, 50, 94, 50, 32, 125]) (l' := [49, 32, 62, 32, 50, 32, 123, 32, 112, 114, 105, 110, 116, 32, 45, 50, 94, 50, 32, 125]) (b := false) (t := ⟨kOp, [36]⟩) (k := 1) (g := 0) (by simp) (by decide +kernel) (lexs.gap0 rfl) rfl
  have s1 := lexs.lexF_step (l := [49, 32, 62, 32, 50, 32, 123, 32, 112, 114, 105, 110, 116, 32, 45, 50, 94, 50, 32, 125]) (l' := [62, 32, 50, 32, 123, 32, 112, 114, 105, 110, 116, 32, 45, 50, 94, 50, 32, 125]) (b := true) (t := ⟨kNum, [49]⟩) (k := 1) (g := 1) (by simp) (by decide +kernel) (gap1 rfl rfl) rfl
  have s2 := lexs.lexF_step (l := [62, 32, 50, 32, 123, 32, 112, 114, 105, 110, 116, 32, 45, 50, 94, 50, 32, 125]) (l' := [50, 32, 123, 32, 112, 114, 105, 110, 116, 32, 45, 50, 94, 50, 32, 125]) (b := true) (t := ⟨kOp, [62]⟩) (k := 1) (g := 1) (by simp) (by decide +kernel) (gap1 rfl rfl) rfl
  have s3 := lexs.lexF_step (l := [50, 32, 123, 32, 112, 114, 105, 110, 116, 32, 45, 50, 94, 50, 32, 125]) (l' := [123, 32, 112, 114, 105, 110, 116, 32, 45, 50, 94, 50, 32, 125]) (b := false) (t := ⟨kNum, [50]⟩) (k := 1) (g := 1) (by simp) (by decide +kernel) (gap1 rfl rfl) rfl
  have s4 := lexs.lexF_step (l := [123, 32, 112, 114, 105, 110, 116, 32, 45, 50, 94, 50, 32, 125]) (l' := [112, 114, 105, 110, 116, 32, 45, 50, 94, 50, 32, 125]) (b := true) (t := ⟨kOp, [123]⟩) (k := 1) (g := 1) (by simp) (by decide +kernel) (gap1 rfl rfl) rfl
  have s5 := lexs.lexF_step (l := [112, 114, 105, 110, 116, 32, 45, 50, 94, 50, 32, 125]) (l' := [45, 50, 94, 50, 32, 125]) (b := false) (t := ⟨kWord, [112, 114, 105, 110, 116]⟩) (k := 5) (g := 1) (by simp) (by decide +kernel) (gap1 rfl rfl) rfl
  have s6 := lexs.lexF_step (l := [45, 50, 94, 50, 32, 125]) (l' := [50, 94, 50, 32, 125]) (b := false) (t := ⟨kOp, [45]⟩) (k := 1) (g := 0) (by simp) (by decide +kernel) (lexs.gap0 rfl) rfl
  have s7 := lexs.lexF_step (l := [50, 94, 50, 32, 125]) (l' := [94, 50, 32, 125]) (b := false) (t := ⟨kNum, [50]⟩) (k := 1) (g := 0) (by simp) (by decide +kernel) (lexs.gap0 rfl) rfl
  have s8 := lexs.lexF_step (l := [94, 50, 32, 125]) (l' := [50, 32, 125]) (b := true) (t := ⟨kOp, [94]⟩) (k := 1) (g := 0) (by simp) (by decide +kernel) (lexs.gap0 rfl) rfl
  have s9 := lexs.lexF_step (l := [50, 32, 125]) (l' := [125]) (b := false) (t := ⟨kNum, [50]⟩) (k := 1) (g := 1) (by simp) (by decide +kernel) (gap1 rfl rfl) rfl
  have s10 := lexs.lexF_step (l := [125]) (l' := []) (b := true) (t := ⟨kOp, [125]⟩) (k := 1) (g := 0) (by simp) (by decide +kernel) (lexs.gap0 rfl) rfl
  rw [s0, show lexs.ends ⟨kOp, [36]⟩ = true by decide, s1, show lexs.ends ⟨kNum, [49]⟩ = true by decide, s2, show lexs.ends ⟨kOp, [62]⟩ = false by decide, s3, show lexs.ends ⟨kNum, [50]⟩ = true by decide, s4, show lexs.ends ⟨kOp, [123]⟩ = false by decide, s5, show lexs.ends ⟨kWord, [112, 114, 105, 110, 116]⟩ = false by decide, s6, show lexs.ends ⟨kOp, [45]⟩ = false by decide, s7, show lexs.ends ⟨kNum, [50]⟩ = true by decide, s8, show lexs.ends ⟨kOp, [94]⟩ = false by decide, s9, show lexs.ends ⟨kNum, [50]⟩ = true by decide, s10, lexs.lexF_nil]
  rfl
theorem aw2 : lexs.lexL [123, 32, 110, 101, 120, 116, 59, 32, 125, 32, 125] = some [⟨kOp, [123]⟩, ⟨kWord, [110, 101, 120, 116]⟩, ⟨kOp, [59]⟩, ⟨kOp, [125]⟩, ⟨kOp, [125]⟩] := by
  rw [lexs.lexL_id (by decide), show lexs.ug [123, 32, 110, 101, 120, 116, 59, 32, 125, 32, 125] = [123, 32, 110, 101, 120, 116, 59, 32, 125, 32, 125] from by unfold lexs.ug; rw [lexs.gap0 rfl]; rfl]
  have s0 := lexs.lexF_step (l := [123, 32, 110, 101, 120, 116, 59, 32, 125, 32, 125]) (l' := [110, 101, 120, 116, 59, 32, 125, 32, 125]) (b := false) (t := ⟨kOp, [123]⟩) (k := 1) (g := 1) (by simp) (by decide +kernel) (gap1 rfl rfl) rfl
  have s1 := lexs.lexF_step (l := [110, 101, 120, 116, 59, 32, 125, 32, 125]) (l' := [59, 32, 125, 32, 125]) (b := false) (t := ⟨kWord, [110, 101, 120, 116]⟩) (k := 4) (g := 0) (by simp) (by decide +kernel) (lexs.gap0 rfl) rfl
  have s2 := lexs.lexF_step (l := [59, 32, 125, 32, 125]) (l' := [125, 32, 125]) (b := false) (t := ⟨kOp, [59]⟩) (k := 1) (g := 1) (by simp) (by decide +kernel) (gap1 rfl rfl) rfl
  have s3 := lexs.lexF_step (l := [125, 32, 125]) (l' := [125]) (b := false) (t := ⟨kOp, [125]⟩) (k := 1) (g := 1) (by simp) (by decide +kernel) (gap1 rfl rfl) rfl
  have s4 := lexs.lexF_step (l := [125]) (l' := []) (b := false) (t := ⟨kOp, [125]⟩) (k := 1) (g := 0) (by simp) (by decide +kernel) (lexs.gap0 rfl) rfl
  rw [s0, show lexs.ends ⟨kOp, [123]⟩ = false by decide, s1, show lexs.ends ⟨kWord, [110, 101, 120, 116]⟩ = false by decide, s2, show lexs.ends ⟨kOp, [59]⟩ = false by decide, s3, show lexs.ends ⟨kOp, [125]⟩ = false by decide, s4, lexs.lexF_nil]
  rfl
def aw1T : Fo := .cons w_rule [] (two ⟨w_bin, [62], two ⟨w_field, [], one ⟨w_num, [49], .nil⟩⟩ ⟨w_num, [50], .nil⟩⟩ ⟨w_block, [], one ⟨w_print, [], one ⟨w_unary, [45], one ⟨w_bin, [94], two ⟨w_num, [50], .nil⟩ ⟨w_num, [50], .nil⟩⟩⟩⟩⟩) .nil
theorem aw1_parse : parseS ⟨#[36, 49, 32, 62, 32, 50, 32, 123, 32, 112, 114, 105, 110, 116, 32, 45, 50, 94, 50, 32, 125]⟩ = some aw1T := by
  unfold parseS
  rw [show (⟨#[36, 49, 32, 62, 32, 50, 32, 123, 32, 112, 114, 105, 110, 116, 32, 45, 50, 94, 50, 32, 125]⟩ : ByteArray).data.toList = [36, 49, 32, 62, 32, 50, 32, 123, 32, 112, 114, 105, 110, 116, 32, 45, 50, 94, 50, 32, 125] from rfl, aw1]
  kernel_rfl
theorem aw2_parse : parseS ⟨#[123, 32, 110, 101, 120, 116, 59, 32, 125, 32, 125]⟩ = none := by
  unfold parseS
  rw [show (⟨#[123, 32, 110, 101, 120, 116, 59, 32, 125, 32, 125]⟩ : ByteArray).data.toList = [123, 32, 110, 101, 120, 116, 59, 32, 125, 32, 125] from rfl, aw2]
  kernel_rfl

set_option maxHeartbeats 2000000 in
theorem awake6_all (w : World) : Calls Tryz.prog 11 #[] w fun e w' => e = .returned (.bool true) ∧ Frm No w w' := by
  have H1 := Lib.hid (fun w => parse_all ⟨#[36, 49, 32, 62, 32, 50, 32, 123, 32, 112, 114, 105, 110, 116, 32, 45, 50, 94, 50, 32, 125]⟩ w (by decide))
  have H2 := Lib.hid (fun w => parse_all ⟨#[123, 32, 110, 101, 120, 116, 59, 32, 125, 32, 125]⟩ w (by decide))
  rw [aw1_parse] at H1
  rw [aw2_parse] at H2
  go_enter Tryz.func11, Tryz.ntmps11
  go_wp2_with (first | (have hz := HF2; clear hz; go_at_call 12; go_must (refine (H2.out _).mono ?_; rintro e w3 ⟨hf3, h3⟩; obtain rfl : e = .returned (.tuple #[.slice none 0 0, .bool false]) := h3; obtain ⟨g, k, cur, rfl, hb, c0, c1, c2, hk⟩ := KV.nth ((RowN.kv HR2.out).move hf3) 0 _ rfl; obtain ⟨a2, cc2, rfl⟩ := hk.forms; obtain ⟨g2, k2, cur2, rfl, hb2, d0, d1, d2, hk2⟩ := KV.nth hk 0 _ rfl; have hl1 := hb.lt; have hl2 := hb2.lt; have HF3 := Lib.hid (HF2.out.trans hf3); have z0 : w3.cell? ⟨g, 0, none⟩ = some (.string ⟨#[114, 117, 108, 101]⟩) := c0; have z2 : w3.cell? ⟨g, 2, none⟩ = some (.slice (some ⟨g2, 0, none⟩) 2 cc2) := c2; have z1 : w3.cell? ⟨g2, 1, none⟩ = some (.string ⟨#[62]⟩) := d1; clear c0 c1 c2 d0 d1 d2 hk hk2 hb hb2)) | (go_at_call 12; go_must (refine (H1.out _).mono ?_; rintro e w2 ⟨hf2, h2⟩; obtain ⟨a, c, he, hr⟩ := h2; obtain rfl : e = .returned (.tuple #[.slice a 1 c, .bool true]) := he; have HF2 := Lib.hid hf2; have HR2 := Lib.hid hr; clear hf2 hr)))
  go_ret
  exact ⟨rfl, HF3.out⟩
end Go.Proofs.YtgbibfhacjjaeaaGreat.syn
