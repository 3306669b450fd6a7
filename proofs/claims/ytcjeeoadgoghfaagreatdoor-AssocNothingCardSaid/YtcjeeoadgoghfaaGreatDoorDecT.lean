/- Contract of dec's plainText. -/
import Derived.Test.YtcjeeoadgoghfaaGreatDoorGDecS
import Derived.Test.YtcjeeoadgoghfaaGreatDoorGPower
import Derived.Lib.AppendIntMem

namespace Go.Proofs.YtcjeeoadgoghfaaGreatDoor.deca
set_option linter.unusedVariables false set_option linter.unusedSimpArgs false
open Go.ChangeShapes Go.WideShapes Go.ChangeAt Go.RowKit Go.Proofs.YtcjeeoadgoghfaaGreatDoor.base Go.Proofs.YtcjeeoadgoghfaaGreatDoor.Deci Go.Proofs.YtcjeeoadgoghfaaGreatDoor.Usc Go.Proofs.YtcjeeoadgoghfaaGreatDoor.scan

/-- The table of powers of ten as it lies. -/
def Tens (w : World) : Prop := Lib.TabIs Tryz.prog w "internal/strconv.uint64pow10" .u64 Lib.pow10Tab
theorem Tens.frm {w w' : World} (h : Tens w) (k : Frm No w w') : Tens w' := by
  unfold Tens Lib.TabIs World.var? at h ⊢
  rw [show Tryz.prog.globalNamed "internal/strconv.uint64pow10" = some 2 by kernel_rfl] at h ⊢
  simp only [Option.bind_some] at h ⊢
  have hlt : 2 < w.heap.size := by
    rcases Nat.lt_or_ge 2 w.heap.size with h' | h'
    · exact h'
    · rw [Array.getElem?_eq_none h'] at h; cases h
  rw [k.block _ hlt id]; exact h
/-- The digits without the zeros ahead. -/
def leadL (W P : List UInt8) : List UInt8 := (W ++ P).dropWhile (· == 48)
/-- The power of ten of the first of them. -/
def firstZ (W P Q : List UInt8) : Int := (W.length : Int) - 1 - (((W ++ P).length : Int) - ((leadL W P).length : Int)) + pwZ Q
def plainL (W P Q : List UInt8) : List UInt8 := match leadL W P with
  | [] => [48]
  | c :: t => c :: 46 :: (t ++ 101 :: Lib.itoa (firstZ W P Q))

theorem drop_len (l : List UInt8) : (l.dropWhile (· == 48)).length ≤ l.length := (List.dropWhile_sublist _).length_le
theorem drop_at : ∀ (l : List UInt8), l.drop (l.length - (l.dropWhile (· == 48)).length) = l.dropWhile (· == 48)
  | [] => rfl
  | c :: t => by
    rw [List.dropWhile_cons]
    split
    · have h := drop_len t
      rw [List.length_cons, show t.length + 1 - (t.dropWhile (· == 48)).length = (t.length - (t.dropWhile (· == 48)).length) + 1 by omega, List.drop_succ_cons]
      exact drop_at t
    · rw [Nat.sub_self]; rfl
theorem pwZ_bnd (l : List UInt8) : -10995116278015 ≤ pwZ l ∧ pwZ l ≤ 10995116278015 := by
  have := pw_le (l.drop (sg l))
  unfold pwZ
  split <;> omega
theorem ba_list (l : List UInt8) : (⟨l.toArray⟩ : ByteArray).data.toList = l := rfl
theorem ba_ext {a b : ByteArray} (h : a.data.toList = b.data.toList) : a = b := by
  cases a; cases b; congr 1; exact Array.toList_inj.1 h
theorem ba_app (a b : ByteArray) : (a ++ b).data.toList = a.data.toList ++ b.data.toList := by simp [ByteArray.data_append]
theorem ba_ext2 (a : ByteArray) (i j : Nat) : (a.extract i j).data.toList = (a.data.toList.drop i).take (j - i) := by
  simp [ByteArray.data_extract]

theorem nDig_le : ∀ (k u : Nat), u < 10 ^ (k + 1) → Lib.nDigits u ≤ k + 1
  | 0, u, h => by rw [Lib.nDigits_small (by simpa using h)]; exact Nat.le_refl _
  | k + 1, u, h => by
    by_cases h10 : u < 10
    · rw [Lib.nDigits_small h10]; omega
    · rw [Lib.nDigits_big h10]
      have := nDig_le k (u / 10) (by rw [Nat.div_lt_iff_lt_mul (by decide), ← Nat.pow_succ]; exact h)
      omega
theorem itoa_len (F : Int) (h1 : -10995120278015 ≤ F) (h2 : F ≤ 10995120278015) : (Lib.itoa F).length ≤ 100 := by
  have e : (10 : Nat) ^ (19 + 1) = 100000000000000000000 := by decide
  unfold Lib.itoa
  split
  · have := nDig_le 19 F.natAbs (by rw [e]; omega)
    rw [List.length_cons, Lib.decDigits_length]; omega
  · have := nDig_le 19 F.toNat (by rw [e]; omega)
    rw [Lib.decDigits_length]; omega
theorem grow_frm {w w' : World} {k : Nat} {os : Array Obj} (h : w' = Sort.grow (w.drewN k) os) : Frm No w w' := by
  subst h
  exact ⟨rfl, rfl, rfl, by show w.heap.size ≤ (w.heap ++ os).size; rw [Array.size_append]; omega, fun i hi _ => by show (w.heap ++ os)[i]? = _; exact Array.getElem?_append_left hi⟩

set_option maxRecDepth 20000 in
set_option maxHeartbeats 6000000 in
theorem plain_all (w : World) (neg : Bool) (W P Q : ByteArray) (hW : W.size ≤ 1000000) (hP : P.size ≤ 1000000) (hQ : Q.size ≤ 1000000) (ht : Tens w) :
    Calls Tryz.prog 85 #[.agg #[.bool neg, .string W, .string P, .string Q]] w fun e w' => e = .returned (.string ⟨(plainL W.data.toList P.data.toList Q.data.toList).toArray⟩) ∧ Frm No w w' := by
  obtain ⟨D, hD⟩ : ∃ D, W ++ P = D := ⟨_, rfl⟩
  have hDl : D.data.toList = W.data.toList ++ P.data.toList := by rw [← hD, ba_app]
  have hDs : D.size = W.size + P.size := by rw [← hD, ByteArray.size_append]
  obtain ⟨R, hR⟩ : ∃ R : ByteArray, ⟨(leadL W.data.toList P.data.toList).toArray⟩ = R := ⟨_, rfl⟩
  have hRl : R.data.toList = leadL W.data.toList P.data.toList := by rw [← hR]
  have hRs : R.size = (leadL W.data.toList P.data.toList).length := by rw [← hRl]; simp
  have hRD : R.size ≤ D.size := by
    have := drop_len (W.data.toList ++ P.data.toList)
    rw [hRs, hDs]
    unfold leadL
    simpa using this
  have HTR := Lib.hid (fun w => show Calls Tryz.prog 118 #[.string D, .string ⟨#[48]⟩] w fun e w' => e = .returned (.string R) ∧ w' = w by
    have h := Tryz.strings_TrimLeft_one D 48 (by decide) w
    rw [show Lib.trimLeftB D.data.toList 48 = leadL W.data.toList P.data.toList by rw [hDl]; rfl, hR] at h
    exact h)
  have HT := Lib.hid ht
  have HBX := Lib.hid (Box.new w 78 #[.bool neg, .string W, .string P, .string Q])
  have HAL := Lib.hid ((Frm.refl No w).alloc (.cells #[.bool neg, .string W, .string P, .string Q] 78))
  have HLT := Lib.hid (show w.heap.size < (w.alloc (.cells #[.bool neg, .string W, .string P, .string Q] 78)).heap.size by simp)
  by_cases hr0 : R.size = 0
  · have hnil : leadL W.data.toList P.data.toList = [] := List.length_eq_zero_iff.1 (by rw [← hRs]; exact hr0)
    have HPL := Lib.hid (show (⟨(plainL W.data.toList P.data.toList Q.data.toList).toArray⟩ : ByteArray) = ⟨#[48]⟩ by unfold plainL; rw [hnil])
    have g1 : ((D.size : Int) - (R.size : Int) == (D.size : Int)) = true := by rw [hr0]; simp
    have hz : (D.size : Int) ≤ 3000000 := by omega
    have hz2 : (R.size : Int) ≤ (D.size : Int) := by omega
    clear ht hDl hDs hR hRl hRs hRD hr0 hnil
    go_enter Tryz.func85, Tryz.ntmps85
    go_wp2_with (go_at_call 118; go_must (refine (HTR.out _).mono ?_; rintro e w1 ⟨rfl, rfl⟩))
    refine bodyPost_ret (v := .string ⟨#[48]⟩) (by simp [results, Tryz.results85, go_sem]) rfl ⟨by rw [HPL.out], HAL.out⟩
  · obtain ⟨z, hz⟩ : ∃ z : Nat, D.size = z + R.size := ⟨D.size - R.size, by omega⟩
    have g0 : (D.size : Int) - (R.size : Int) = (z : Int) := by omega
    have g1 : ((z : Int) == (D.size : Int)) = false := by rw [beq_eq_false_iff_ne]; omega
    have hz1 : (z : Int) + 1 ≤ (D.size : Int) := by omega
    have hz3 : (D.size : Int) ≤ 2000000 := by omega
    have hz4 : (R.size : Int) ≤ (D.size : Int) := by omega
    obtain ⟨f, hf⟩ : ∃ f : Int, pwZ Q.data.toList = f := ⟨_, rfl⟩
    have hfb := pwZ_bnd Q.data.toList
    rw [hf] at hfb
    obtain ⟨hf1, hf2⟩ := hfb
    have HPW := Lib.hid (fun w => powerOf_all Q w (by omega))
    rw [hf] at HPW
    have hWi : (W.size : Int) ≤ 1000000 := by omega
    obtain ⟨F, hF⟩ : ∃ F : Int, (W.size : Int) - 1 - (z : Int) + f = F := ⟨_, rfl⟩
    obtain ⟨a1, ha1⟩ : ∃ a : Int, (W.size : Int) - 1 = a := ⟨_, rfl⟩
    obtain ⟨a2, ha2⟩ : ∃ a : Int, a1 - (z : Int) = a := ⟨_, rfl⟩
    have w1 : IntKind.i64.wrap ((W.size : Int) - 1) = a1 := by rw [Go.IntWalk.i64_in _ ⟨by omega, by omega⟩]; exact ha1
    have w2' : IntKind.i64.wrap (a1 - (z : Int)) = a2 := by rw [Go.IntWalk.i64_in _ ⟨by omega, by omega⟩]; exact ha2
    have w3' : IntKind.i64.wrap (a2 + f) = F := by rw [Go.IntWalk.i64_in _ ⟨by omega, by omega⟩]; omega
    have hF1 : -10995120278015 ≤ F := by omega
    have hF2 : F ≤ 10995120278015 := by omega
    obtain ⟨y, hy⟩ : ∃ y : Nat, y = z + 1 := ⟨_, rfl⟩
    have hy1 : IntKind.i64.wrap ((z : Int) + 1) = (y : Int) := by rw [Go.IntWalk.i64_in _ ⟨by omega, by omega⟩]; omega
    have hy2 : (z : Int) ≤ (y : Int) := by omega
    have hy3 : (y : Int) ≤ (D.size : Int) := by omega
    have hy4 : z ≤ y := by omega
    have hy5 : y ≤ D.size := by omega
    obtain ⟨A1, j1⟩ : ∃ A, D.extract z y = A := ⟨_, rfl⟩
    obtain ⟨A2, j2⟩ : ∃ A, D.extract y D.size = A := ⟨_, rfl⟩
    obtain ⟨B1, j3⟩ : ∃ A, A1 ++ ⟨#[46]⟩ = A := ⟨_, rfl⟩
    obtain ⟨B2, j4⟩ : ∃ A, B1 ++ A2 = A := ⟨_, rfl⟩
    obtain ⟨B3, j5⟩ : ∃ A, B2 ++ ⟨#[101]⟩ = A := ⟨_, rfl⟩
    obtain ⟨I, hI⟩ : ∃ I : ByteArray, ⟨(Lib.itoa F).toArray⟩ = I := ⟨_, rfl⟩
    have HIT := Lib.hid (fun w (ht : Tens w) => Tryz.strconv_Itoa F (by omega) (by omega) w ht)
    rw [hI] at HIT
    obtain ⟨X, j6⟩ : ∃ A, B3 ++ I = A := ⟨_, rfl⟩
    have HX := Lib.hid (show X = ⟨(plainL W.data.toList P.data.toList Q.data.toList).toArray⟩ by
      refine ba_ext ?_
      have e1 : D.data.toList.drop z = leadL W.data.toList P.data.toList := by
        have h := drop_at (W.data.toList ++ P.data.toList)
        have hzz : (W.data.toList ++ P.data.toList).length - ((W.data.toList ++ P.data.toList).dropWhile (· == 48)).length = z := by
          have h1 : (W.data.toList ++ P.data.toList).length = D.size := by rw [← hDl]; simp
          have h2 : ((W.data.toList ++ P.data.toList).dropWhile (· == 48)).length = R.size := hRs.symm
          rw [h1, h2]; omega
        rw [hzz] at h
        rw [hDl]; exact h
      have e2 : firstZ W.data.toList P.data.toList Q.data.toList = F := by
        have h1 : (W.data.toList ++ P.data.toList).length = D.size := by rw [← hDl]; simp
        have h2 : W.data.toList.length = W.size := by simp
        unfold firstZ
        rw [h1, ← hRs, h2, hf, ← hF]; omega
      subst hy
      rw [ba_list, ← j6, ← hI, ba_app, ← j5, ba_app, ← j4, ba_app, ← j3, ba_app, ← j1, ← j2, ba_ext2, ba_ext2]
      unfold plainL
      rw [e2]
      have hne : leadL W.data.toList P.data.toList ≠ [] := by intro h; rw [h] at hRs; exact hr0 hRs
      have hlen : D.data.toList.length = D.size := by simp
      cases hl : leadL W.data.toList P.data.toList with
      | nil => exact absurd hl hne
      | cons c t =>
        rw [hl] at e1
        have e3 : D.data.toList.drop (z + 1) = t := by rw [← List.drop_drop, e1]; rfl
        have e4 : (D.data.toList.drop (z + 1)).take (D.size - (z + 1)) = t := by
          rw [List.take_of_length_le (by rw [List.length_drop, hlen]; exact Nat.le_refl _), e3]
        rw [e4, e1, show z + 1 - z = 1 by omega]
        simp [ba_list])
    have hs1 : A1.size ≤ 2000000 := by rw [← j1, ByteArray.size_extract]; omega
    have hs2 : A2.size ≤ 2000000 := by rw [← j2, ByteArray.size_extract]; omega
    have hs3 : B1.size ≤ 2000001 := by rw [← j3, ByteArray.size_append, show (⟨#[46]⟩ : ByteArray).size = 1 from rfl]; omega
    have hs4 : B2.size ≤ 4000001 := by rw [← j4, ByteArray.size_append]; omega
    have hs5 : B3.size ≤ 4000002 := by rw [← j5, ByteArray.size_append, show (⟨#[101]⟩ : ByteArray).size = 1 from rfl]; omega
    have hs6 : I.size ≤ 100 := by
      rw [← hI]
      show (Lib.itoa F).toArray.size ≤ 100
      rw [List.size_toArray]
      exact itoa_len F hF1 hF2
    have hs7 : (⟨#[46]⟩ : ByteArray).size = 1 := rfl
    have hs8 : (⟨#[101]⟩ : ByteArray).size = 1 := rfl
    clear ht hDl hDs hR hRl hRs hRD hr0 hI hf hy hz hF ha1 ha2
    go_enter Tryz.func85, Tryz.ntmps85
    go_wp2_with (go_at_call 118; go_must (refine (HTR.out _).mono ?_; rintro e w1 ⟨rfl, rfl⟩))
    go_region_with (go_at_call 115; go_must (refine (HPW.out _).mono ?_; rintro e w2 ⟨rfl, hb2⟩; have M := Lib.hid (Box.frm (b := w.heap.size) (T := 78) (C := #[.bool neg, .string W, .string P, .string Q]) (by exact HBX.out) (Frm.ofBelow hb2 (Nat.le_refl _)) id); have k1 : w2.cell? ⟨w.heap.size, 1, none⟩ = some (.string W) := M.out.cell 1; have k3 : w2.cell? ⟨w.heap.size, 3, none⟩ = some (.string Q) := M.out.cell 3; have HF2 := Lib.hid (Frm.trans (S := No) (a := w) (by first | exact HAL.out | exact HAL.out.drew | exact HAL.out.drewN _) (Frm.ofBelow hb2 (Nat.le_refl _))); clear hb2))
    all_goals
      go_wp2_with fail
      go_region_with (go_at_call 119; go_must (refine (HIT.out _ (HT.out.frm (by first | exact HF2.out | exact HF2.out.drew | exact HF2.out.drewN _ | exact (HF2.out.drewN _).drew | exact (HF2.out.drewN _).drewN _))).mono ?_; rintro e w3 ⟨rfl, k, os, hw3⟩; have HF3 := Lib.hid (Frm.trans (S := No) (a := w) (by first | exact HF2.out | exact HF2.out.drew | exact HF2.out.drewN _ | exact (HF2.out.drewN _).drew | exact (HF2.out.drewN _).drewN _) (grow_frm hw3)); clear hw3))
    all_goals
      go_wp2_with fail
      refine bodyPost_ret (v := .string X) (by simp [results, Tryz.results85, go_sem]) rfl ⟨by rw [HX.out], by first | exact HF3.out | exact HF3.out.drew | exact HF3.out.drewN _⟩
end Go.Proofs.YtcjeeoadgoghfaaGreatDoor.deca
