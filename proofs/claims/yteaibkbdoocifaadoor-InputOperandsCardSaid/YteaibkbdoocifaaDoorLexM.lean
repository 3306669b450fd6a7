/- Contracts of lex's meantByStr, meantByEre. -/
import Derived.Test.YteaibkbdoocifaaDoorLexR
namespace Go.Proofs.YteaibkbdoocifaaDoor.lexs
set_option linter.unusedVariables false set_option linter.unusedSimpArgs false
open Go.ChangeShapes Go.WideShapes Go.ChangeAt Go.RowKit Go.Proofs.YteaibkbdoocifaaDoor.base

theorem pair_drop : ∀ (k : Nat) (l : List UInt8), Pair l → (∀ x ∈ l.take k, x ≠ 92) → Pair (l.drop k)
  | 0, l, h, _ => by simpa using h
  | k + 1, [], h, _ => by simpa using h
  | k + 1, c :: t, h, hx => by
    have hc : c ≠ 92 := hx c (by simp)
    cases h with
    | one _ _ _ h' => exact pair_drop k t h' (fun x hx' => hx x (by simp [hx']))
    | two d t' h' => exact absurd rfl hc
theorem pair_tl {c : UInt8} {t : List UInt8} (h : Pair (c :: t)) (hc : c ≠ 92) : Pair t := by
  cases h with
  | one _ _ _ h => exact h
  | two d t h => exact absurd rfl hc
theorem oc_o {l : List UInt8} : ∀ x ∈ oc l, x ≠ 92 := by
  intro x hx
  have := List.all_eq_true.1 (List.all_takeWhile (p := isO) (l := l.take 3)) x hx
  intro e
  subst e
  revert this
  decide
theorem oc_take (l : List UInt8) : l.take (oc l).length = oc l ∧ (oc l).length ≤ l.length := by
  have h2 := List.prefix_iff_eq_take.1 (List.takeWhile_prefix (l := l.take 3) isO)
  have h3 := tw_len isO (l.take 3)
  rw [List.length_take] at h3
  have h4 : (oc l).length = ((l.take 3).takeWhile isO).length := rfl
  constructor
  · conv => rhs; unfold oc; rw [h2]
    rw [List.take_take, Nat.min_eq_left (by omega)]
    rfl
  · omega
theorem esc_sz (d : UInt8) (t : List UInt8) : 1 ≤ (esc (d :: t)).2 ∧ (esc (d :: t)).2 ≤ (d :: t).length ∧ (esc (d :: t)).1.length ≤ 1 + (esc (d :: t)).2 := by
  unfold esc
  by_cases h : (oc (d :: t)).length ≠ 0
  · rw [if_pos h]
    have := (oc_take (d :: t)).2
    refine ⟨by simp only; omega, this, by simp⟩
  · rw [if_neg h]
    refine ⟨by simp, by simp, ?_⟩
    simp only
    repeat' split
    all_goals simp
theorem esc_pair (d : UInt8) (t : List UInt8) (h : Pair t) : Pair ((d :: t).drop (esc (d :: t)).2) := by
  by_cases h0 : (oc (d :: t)).length ≠ 0
  · have e : (esc (d :: t)).2 = (oc (d :: t)).length := by unfold esc; rw [if_pos h0]
    rw [e]
    obtain ⟨k, hk⟩ : ∃ k, (oc (d :: t)).length = k + 1 := ⟨(oc (d :: t)).length - 1, by omega⟩
    rw [hk, List.drop_succ_cons]
    refine pair_drop k t h (fun x hx => ?_)
    have := (oc_take (d :: t)).1
    rw [hk, List.take_succ_cons] at this
    exact oc_o x (by rw [← this]; simp [hx])
  · have e : (esc (d :: t)).2 = 1 := by unfold esc; rw [if_neg h0]
    rw [e]
    exact h

theorem mStr_nil : mStr [] = some [] := by rw [mStr.eq_def]
theorem mStr_ten (t : List UInt8) : mStr (10 :: t) = none := by rw [mStr.eq_def]; simp
theorem mStr_one {c : UInt8} {t : List UInt8} (h1 : c ≠ 10) (h2 : c ≠ 92) : mStr (c :: t) = (mStr t).map (fun r => c :: r) := by rw [mStr.eq_def]; simp only; rw [if_neg h1, if_neg h2]
theorem mStr_esc (t : List UInt8) : mStr (92 :: t) = (mStr (t.drop (esc t).2)).map (fun r => (esc t).1 ++ r) := by rw [mStr.eq_def]; simp

/-- What meantByStr answers. -/
def mV (r : Option (List UInt8)) : Value := match r with
  | none => .tuple #[.string ⟨#[]⟩, .bool false]
  | some l => .tuple #[.string ⟨l.toArray⟩, .bool true]
/-- The rest's answer behind what is there. -/
def app (out : List UInt8) (r : Option (List UInt8)) : Option (List UInt8) := r.map (fun x => out ++ x)

theorem info_u8 : (Tryd.prog.info? 5).map (fun i => (i.zero, i.size, i.bytes)) = some (some (.int .u8 0), 1, 1) := by kernel_rfl

set_option maxHeartbeats 2000000 in
set_option maxRecDepth 20000 in
theorem meantByStr_all (s : ByteArray) (w : World) (hs : s.size ≤ 1000000) (hp : Pair s.data.toList) :
    Calls Tryd.prog 84 #[.string s] w fun e w' => e = .returned (mV (mStr s.data.toList)) ∧ Frm No w w' := by
  have HI := Lib.hid info_u8
  have HP := Lib.hid hp
  clear hp
  go_enter Tryd.func84, Tryd.ntmps84
  go_wp2
  go_loopw [4, 5] (fun v iv wr => ∃ (k : Nat) (out : List UInt8), k ≤ s.size ∧ iv = .int .i64 k ∧ Pair (sx s k) ∧ out.length ≤ k ∧ mStr s.data.toList = app out (mStr (sx s k)) ∧ OwnB wr w.heap.size 5 v out ∧ Below w.heap.size w wr) (fun _ iv _ => s.size - (intOf iv).toNat)
  case atStart => exact ⟨0, [], Nat.zero_le _, rfl, HP.out, Nat.le_refl _, by rw [show sx s 0 = s.data.toList from rfl]; cases mStr s.data.toList <;> rfl, OwnB.nil _ _ _, Below.refl _ _⟩
  case round =>
    obtain ⟨k, out, hk, rfl, hpk, hlen, hm, hown, hbel⟩ := hrel
    have hsz := hbel.size
    have HM := Lib.hid hm
    have HPK := Lib.hid hpk
    have HBEL := Lib.hid hbel
    clear hm hpk hbel
    by_cases hlt : k < s.size
    · have HC := Lib.hid (sx_cons s k hlt)
      by_cases e1 : s[k] = 10
      · have HR := Lib.hid (show mStr s.data.toList = none by rw [HM.out, HC.out, e1, mStr_ten]; rfl)
        have b1 : ((s[k].toNat : Int) == 10) = true := beq_yes 10 rfl e1
        clear e1
        go_wp2
        exact bodyPost_ret (v := .tuple #[.string ⟨#[]⟩, .bool false]) (by simp [results, Tryd.results84, go_sem]) rfl ⟨by rw [HR.out]; rfl, Frm.ofBelow HBEL.out (Nat.le_refl _)⟩
      · have b1 : ((s[k].toNat : Int) == 10) = false := beq_no 10 rfl e1
        by_cases e2 : s[k] = 92
        · have b2 : ((s[k].toNat : Int) == 92) = true := beq_yes 92 rfl e2
          obtain ⟨d, t, hd, hpt⟩ : ∃ d t, sx s (k + 1) = d :: t ∧ Pair t := by
            have := HPK.out
            rw [HC.out, e2] at this
            generalize sx s (k + 1) = u at this
            cases this with
            | one _ _ h _ => exact absurd rfl h
            | two d t h => exact ⟨d, t, rfl, h⟩
          have hk1 : k + 1 < s.size := sx_lt hd
          have hx : (s.extract k s.size).data.toList = 92 :: d :: t := by rw [extract_drop]; show sx s k = _; rw [HC.out, e2, hd]
          have HE := Lib.hid (fun w => escape_all (s.extract k s.size) w (by simp [ByteArray.size_extract]; omega) (by simp [ByteArray.size_extract]; omega) (by rw [hx]; rfl))
          rw [hx, List.tail_cons] at HE
          unfold escV at HE
          obtain ⟨g1, g2, g3⟩ := esc_sz d t
          have g4 := esc_pair d t hpt
          have HG := Lib.hid (show mStr s.data.toList = app (out ++ (esc (d :: t)).1) (mStr ((d :: t).drop (esc (d :: t)).2)) by
            rw [HM.out, HC.out, e2, hd, mStr_esc]
            unfold app
            cases mStr ((d :: t).drop (esc (d :: t)).2) with
            | none => rfl
            | some r => simp)
          have hdl : (d :: t).length = s.size - (k + 1) := by rw [← hd, sx_len]
          generalize hG : (esc (d :: t)).2 = G at *
          generalize hO : (esc (d :: t)).1 = O at *
          have HS := Lib.hid (show sx s (k + (1 + G)) = (d :: t).drop G by rw [← hd]; unfold sx; rw [List.drop_drop]; congr 1; omega)
          have H4 := Lib.hid g4
          have HOW := Lib.hid hown
          have hol : out.length + O.length ≤ k + 1 + G := by omega
          clear e1 e2 hx hd hpt hG hO g4 hown
          go_wp2_with (first | (go_at_call 91; go_must (refine (HE.out _).mono ?_; rintro e w2 ⟨rfl, hf⟩; have hb2 := hf.below (Nat.le_refl _) (fun _ _ h => h); have HF2 := Lib.hid hf; have HOW2 := Lib.hid (HOW.out.below hb2); have hsz2 := hf.size; clear hb2 hf)) | (at_builtin; refine wpList_appS _ rfl _ _ 30 9 rfl w.heap.size 5 Tryd.underlying30 Tryd.underlying9 HI.out _ _ rfl HOW2.out _ O rfl rfl (by omega) (by omega) ?_; intro v' w1 hown' hb1))
          go_roundw
          case rel => exact ⟨k + (1 + G), out ++ O, by omega, by go_num, by rw [HS.out]; exact H4.out, by rw [List.length_append]; omega, by rw [HG.out, HS.out], hown', (HBEL.out.trans (HF2.out.below hsz (fun _ _ h => h))).trans hb1⟩
          case measure => simp [intOf]; omega
        · have b2 : ((s[k].toNat : Int) == 92) = false := beq_no 92 rfl e2
          have HX := Lib.hid (show mStr s.data.toList = app (out ++ [s[k]]) (mStr (sx s (k + 1))) by
            rw [HM.out, HC.out, mStr_one e1 e2]
            unfold app
            cases mStr (sx s (k + 1)) with
            | none => rfl
            | some r => simp)
          have HPN := Lib.hid (show Pair (sx s (k + 1)) by
            have := HPK.out
            rw [HC.out] at this
            exact pair_tl this e2)
          clear e1 e2
          go_wp2_with (at_builtin; refine wpList_app1 _ rfl _ _ 30 rfl w.heap.size 5 Tryd.underlying30 HI.out _ _ rfl hown _ rfl s[k] rfl (by omega) (by omega) ?_; intro v' w1 hown' hb1)
          go_roundw
          case rel => exact ⟨k + 1, out ++ [s[k]], by omega, by go_num, HPN.out, by rw [List.length_append]; simp; omega, HX.out, hown', HBEL.out.trans hb1⟩
          case measure => simp [intOf]; omega
    · obtain rfl : k = s.size := by omega
      have hcv := hown.str (P := Tryd.prog) 30 9 Tryd.underlying30 Tryd.underlying5 Tryd.underlying9
      have HR := Lib.hid (show mStr s.data.toList = some out by rw [HM.out, sx_nil s _ (Nat.le_refl _), mStr_nil]; simp [app])
      go_wp2
      exact bodyPost_ret (v := .tuple #[.string ⟨out.toArray⟩, .bool true]) (by simp [results, Tryd.results84, go_sem]) rfl ⟨by rw [HR.out]; rfl, Frm.ofBelow HBEL.out (Nat.le_refl _)⟩

theorem mEre_one {c : UInt8} {t : List UInt8} (h : c ≠ 92) : mEre (c :: t) = c :: mEre t := by
  cases t <;> rw [mEre.eq_def] <;> simp [h]
theorem mEre_two (d : UInt8) (t : List UInt8) : mEre (92 :: d :: t) = if d = 47 then d :: mEre t else 92 :: d :: mEre t := by rw [mEre.eq_def]; simp

set_option maxHeartbeats 2000000 in
set_option maxRecDepth 20000 in
theorem meantByEre_all (s : ByteArray) (w : World) (hs : s.size ≤ 1000000) (hp : Pair s.data.toList) :
    Calls Tryd.prog 86 #[.string s] w fun e w' => e = .returned (.string ⟨(mEre s.data.toList).toArray⟩) ∧ Frm No w w' := by
  have HI := Lib.hid info_u8
  have HP := Lib.hid hp
  clear hp
  go_enter Tryd.func86, Tryd.ntmps86
  go_wp2
  go_loopw [3, 4] (fun v iv wr => ∃ (k : Nat) (out : List UInt8), k ≤ s.size ∧ iv = .int .i64 k ∧ Pair (sx s k) ∧ out.length ≤ k ∧ mEre s.data.toList = out ++ mEre (sx s k) ∧ OwnB wr w.heap.size 5 v out ∧ Below w.heap.size w wr) (fun _ iv _ => s.size - (intOf iv).toNat)
  case atStart => exact ⟨0, [], Nat.zero_le _, rfl, HP.out, Nat.le_refl _, rfl, OwnB.nil _ _ _, Below.refl _ _⟩
  case round =>
    obtain ⟨k, out, hk, rfl, hpk, hlen, hm, hown, hbel⟩ := hrel
    have hsz := hbel.size
    have HM := Lib.hid hm
    have HPK := Lib.hid hpk
    have HBEL := Lib.hid hbel
    have HOW := Lib.hid hown
    clear hm hpk hbel hown
    by_cases hlt : k < s.size
    · have HC := Lib.hid (sx_cons s k hlt)
      by_cases e2 : s[k] = 92
      · have b2 : ((s[k].toNat : Int) == 92) = true := beq_yes 92 rfl e2
        obtain ⟨d, t, hd, hpt⟩ : ∃ d t, sx s (k + 1) = d :: t ∧ Pair t := by
          have := HPK.out
          rw [HC.out, e2] at this
          generalize sx s (k + 1) = u at this
          cases this with
          | one _ _ h _ => exact absurd rfl h
          | two d t h => exact ⟨d, t, rfl, h⟩
        have hk1 : k + 1 < s.size := sx_lt hd
        have hsd : s[k + 1] = d := sx_hd hd
        have HT := Lib.hid (show Pair (sx s (k + 2)) by rw [sx_tl hd]; exact hpt)
        by_cases e3 : s[k + 1] = 47
        · have HX := Lib.hid (show mEre s.data.toList = (out ++ [s[k + 1]]) ++ mEre (sx s (k + 2)) by
            rw [HM.out, HC.out, e2, hd, mEre_two, if_pos (hsd.symm.trans e3), ← hsd, sx_tl hd]; simp)
          have b3 : ((s[k + 1].toNat : Int) == 47) = true := beq_yes 47 rfl e3
          clear e2 e3 hd hpt hsd
          go_wp2_with (at_builtin; refine wpList_app1 _ rfl _ _ 30 rfl w.heap.size 5 Tryd.underlying30 HI.out _ _ rfl HOW.out _ rfl s[k + 1] rfl (by omega) (by omega) ?_; intro v' w1 hown' hb1)
          go_roundw
          case rel => exact ⟨k + 2, out ++ [s[k + 1]], by omega, by go_num, HT.out, by rw [List.length_append]; simp; omega, HX.out, hown', HBEL.out.trans hb1⟩
          case measure => simp [intOf]; omega
        · have HX := Lib.hid (show mEre s.data.toList = ((out ++ [92]) ++ [s[k + 1]]) ++ mEre (sx s (k + 2)) by
            rw [HM.out, HC.out, e2, hd, mEre_two, if_neg (fun e => e3 (hsd.trans e)), ← hsd, sx_tl hd]; simp)
          have b3 : ((s[k + 1].toNat : Int) == 47) = false := beq_no 47 rfl e3
          clear e2 e3 hd hpt hsd
          go_wp2_with (first | (at_builtin; refine wpList_app1 _ rfl _ _ 30 rfl w.heap.size 5 Tryd.underlying30 HI.out _ _ rfl HOW.out _ rfl 92 rfl (by omega) (by omega) ?_; intro v' w1 hown' hb1; have HOW1 := Lib.hid hown'; have HB1 := Lib.hid hb1; have hsz1 := hb1.size; clear hown' hb1) | (at_builtin; refine wpList_app1 _ rfl _ _ 30 rfl w.heap.size 5 Tryd.underlying30 HI.out _ _ rfl HOW1.out _ rfl s[k + 1] rfl (by simp; omega) (by omega) ?_; intro v'' w2 hown'' hb2))
          go_roundw
          case rel => exact ⟨k + 2, (out ++ [92]) ++ [s[k + 1]], by omega, by go_num, HT.out, by simp; omega, HX.out, hown'', (HBEL.out.trans HB1.out).trans hb2⟩
          case measure => simp [intOf]; omega
      · have b2 : ((s[k].toNat : Int) == 92) = false := beq_no 92 rfl e2
        have HX := Lib.hid (show mEre s.data.toList = (out ++ [s[k]]) ++ mEre (sx s (k + 1)) by
          rw [HM.out, HC.out, mEre_one e2]; simp)
        have HPN := Lib.hid (show Pair (sx s (k + 1)) by
          have := HPK.out
          rw [HC.out] at this
          exact pair_tl this e2)
        clear e2
        go_wp2_with (at_builtin; refine wpList_app1 _ rfl _ _ 30 rfl w.heap.size 5 Tryd.underlying30 HI.out _ _ rfl HOW.out _ rfl s[k] rfl (by omega) (by omega) ?_; intro v' w1 hown' hb1)
        go_roundw
        case rel => exact ⟨k + 1, out ++ [s[k]], by omega, by go_num, HPN.out, by rw [List.length_append]; simp; omega, HX.out, hown', HBEL.out.trans hb1⟩
        case measure => simp [intOf]; omega
    · obtain rfl : k = s.size := by omega
      have hcv := HOW.out.str (P := Tryd.prog) 30 9 Tryd.underlying30 Tryd.underlying5 Tryd.underlying9
      have HR := Lib.hid (show mEre s.data.toList = out by rw [HM.out, sx_nil s _ (Nat.le_refl _)]; simp [mEre])
      go_wp2
      go_ret
      exact ⟨by rw [HR.out]; rfl, Frm.ofBelow HBEL.out (Nat.le_refl _)⟩
end Go.Proofs.YteaibkbdoocifaaDoor.lexs
