/- Contract of the document's slashes. -/
import Derived.Test.YtfgdhafpiikpjabTokA
namespace Go.Proofs.Ytfgdhafpiikpjab.lexs
set_option linter.unusedVariables false set_option linter.unusedSimpArgs false
open Go.ChangeShapes Go.WideShapes Go.ChangeAt Go.RowKit Go.Proofs.Ytfgdhafpiikpjab.base

def sxV (r : Option (List UInt8 × Nat)) : Value := match r with
  | none => .tuple #[.string ⟨#[]⟩, .int .i64 0]
  | some (x, k) => .tuple #[.string ⟨x.toArray⟩, .int .i64 (k : Int)]
def aps (out : List UInt8) (i : Nat) (r : Option (List UInt8 × Nat)) : Option (List UInt8 × Nat) := r.map (fun p => (out ++ p.1, i + p.2))
theorem aps_map (out m : List UInt8) (i n : Nat) (r : Option (List UInt8 × Nat)) : aps out i (r.map (fun p => (m ++ p.1, n + p.2))) = aps (out ++ m) (i + n) r := by
  cases r with
  | none => rfl
  | some p => simp [aps]; omega

set_option maxHeartbeats 4000000 in
set_option maxRecDepth 20000 in
theorem slashes_all (s : ByteArray) (w : World) (hs : s.size ≤ 1000000) :
    Calls Try.prog 18 #[.string s] w fun e w' => e = .returned (sxV (sxF s.data.toList)) ∧ Frm No w w' := by
  have HI := Lib.hid info_u8
  go_enter Try.func18, Try.ntmps18
  go_wp2
  go_loopw [4, 5] (fun v iv wr => ∃ (k : Nat) (out : List UInt8), k ≤ s.size ∧ iv = .int .i64 k ∧ out.length ≤ k ∧ sxF s.data.toList = aps out k (sxF (sx s k)) ∧ OwnB wr w.heap.size 5 v out ∧ Below w.heap.size w wr) (fun _ iv _ => s.size - (intOf iv).toNat)
  case atStart => exact ⟨0, [], Nat.zero_le _, rfl, Nat.le_refl _, by rw [show sx s 0 = s.data.toList from rfl]; cases sxF s.data.toList with
    | none => rfl
    | some p => simp [aps], OwnB.nil _ _ _, Below.refl _ _⟩
  case round =>
    obtain ⟨k, out, hk, rfl, hlen, hm, hown, hbel⟩ := hrel
    have hsz := hbel.size
    have HM := Lib.hid hm
    have HBEL := Lib.hid hbel
    have HOW := Lib.hid hown
    clear hm hbel hown
    by_cases hlt : k < s.size
    rotate_left
    · have HR := Lib.hid (show sxF s.data.toList = none by rw [HM.out, sx_nil s k (by omega), sxF_nil]; rfl)
      go_wp2
      exact bodyPost_ret (v := .tuple #[.string ⟨#[]⟩, .int .i64 0]) (by simp [results, Try.results18, go_sem]) rfl ⟨by rw [HR.out]; rfl, Frm.ofBelow HBEL.out (Nat.le_refl _)⟩
    have HC := Lib.hid (sx_cons s k hlt)
    rcases bool_or ((s[k].toNat : Int) == 47) with b0 | b0
    · have HR := Lib.hid (show sxF s.data.toList = some (out, k + 1) by rw [HM.out, HC.out, of_beq 47 rfl b0, sxF_cons, if_pos rfl]; simp [aps])
      have hcv := HOW.out.str (P := Try.prog) 42 9 Try.underlying42 Try.underlying5 Try.underlying9
      go_wp2
      exact bodyPost_ret (v := .tuple #[.string ⟨out.toArray⟩, .int .i64 ((k : Int) + 1)]) (by simp [results, Try.results18, go_sem]) rfl ⟨by rw [HR.out]; rfl, Frm.ofBelow HBEL.out (Nat.le_refl _)⟩
    rcases bool_or ((s[k].toNat : Int) == 10) with b1 | b1
    · have HR := Lib.hid (show sxF s.data.toList = none by rw [HM.out, HC.out, of_beq 10 rfl b1, sxF_cons]; rfl)
      go_wp2
      exact bodyPost_ret (v := .tuple #[.string ⟨#[]⟩, .int .i64 0]) (by simp [results, Try.results18, go_sem]) rfl ⟨by rw [HR.out]; rfl, Frm.ofBelow HBEL.out (Nat.le_refl _)⟩
    rcases bool_or ((s[k].toNat : Int) == 92) with b2 | b2
    rotate_left
    · have HX := Lib.hid (show sxF s.data.toList = aps (out ++ [s[k]]) (k + 1) (sxF (sx s (k + 1))) by
        rw [HM.out, HC.out, sxF_cons, if_neg (of_bne 47 rfl b0), if_neg (of_bne 10 rfl b1), if_neg (of_bne 92 rfl b2)]
        exact aps_map out [s[k]] k 1 _)
      go_wp2_with (at_builtin; refine wpList_app1 _ rfl _ _ 42 rfl w.heap.size 5 Try.underlying42 HI.out _ _ rfl HOW.out _ rfl s[k] rfl (by omega) (by omega) ?_; intro v' w1 hown' hb1)
      go_roundw
      case rel => exact ⟨k + 1, out ++ [s[k]], by omega, by go_num, by rw [List.length_append]; simp; omega, HX.out, hown', HBEL.out.trans hb1⟩
      case measure => simp [intOf]; omega
    have HB2 := Lib.hid (of_beq 92 rfl b2)
    have HM2 := Lib.hid (show sxF s.data.toList = aps out k (match sx s (k + 1) with
      | [] => none
      | d :: t' => if d = 10 then none else (sxF t').map (fun p => ((if d = 47 then [47] else [92, d]) ++ p.1, 2 + p.2))) by
      rw [HM.out, HC.out, HB2.out, sxF_cons, if_neg (by decide), if_neg (by decide), if_pos rfl]; rfl)
    by_cases h1 : k + 1 < s.size
    rotate_left
    · have HR := Lib.hid (show sxF s.data.toList = none by rw [HM2.out, sx_nil s (k + 1) (by omega)]; rfl)
      have h1' : (s.size : Int) ≤ (k : Int) + 1 := by omega
      clear h1
      go_wp2
      exact bodyPost_ret (v := .tuple #[.string ⟨#[]⟩, .int .i64 0]) (by simp [results, Try.results18, go_sem]) rfl ⟨by rw [HR.out]; rfl, Frm.ofBelow HBEL.out (Nat.le_refl _)⟩
    have h1' : ¬ (s.size : Int) ≤ (k : Int) + 1 := by omega
    have HD := Lib.hid (sx_cons s (k + 1) h1)
    rw [HD.out] at HM2
    simp only at HM2
    rcases bool_or ((s[k + 1].toNat : Int) == 10) with c1 | c1
    · have HR := Lib.hid (show sxF s.data.toList = none by rw [HM2.out, if_pos (of_beq 10 rfl c1)]; rfl)
      go_wp2
      exact bodyPost_ret (v := .tuple #[.string ⟨#[]⟩, .int .i64 0]) (by simp [results, Try.results18, go_sem]) rfl ⟨by rw [HR.out]; rfl, Frm.ofBelow HBEL.out (Nat.le_refl _)⟩
    rw [if_neg (of_bne 10 rfl c1), aps_map] at HM2
    rcases bool_or ((s[k + 1].toNat : Int) == 47) with c2 | c2
    · rw [if_pos (of_beq 47 rfl c2)] at HM2
      go_wp2_with (at_builtin; refine wpList_app1 _ rfl _ _ 42 rfl w.heap.size 5 Try.underlying42 HI.out _ _ rfl HOW.out _ rfl 47 rfl (by omega) (by omega) ?_; intro v' w1 hown' hb1)
      go_roundw
      case rel => exact ⟨k + 2, out ++ [47], by omega, by go_num, by rw [List.length_append]; simp; omega, HM2.out, hown', HBEL.out.trans hb1⟩
      case measure => simp [intOf]; omega
    · rw [if_neg (of_bne 47 rfl c2)] at HM2
      go_wp2_with (at_builtin; refine wpList_appN _ rfl _ _ 42 rfl w.heap.size 5 Try.underlying42 HI.out _ _ rfl HOW.out _ [92, s[k + 1]] rfl 2 rfl rfl (by simp; omega) (by omega) ?_; intro v' w1 hown' hb1)
      go_roundw
      case rel => exact ⟨k + 2, out ++ [92, s[k + 1]], by omega, by go_num, by rw [List.length_append]; simp; omega, HM2.out, hown', HBEL.out.trans hb1⟩
      case measure => simp [intOf]; omega
end Go.Proofs.Ytfgdhafpiikpjab.lexs
