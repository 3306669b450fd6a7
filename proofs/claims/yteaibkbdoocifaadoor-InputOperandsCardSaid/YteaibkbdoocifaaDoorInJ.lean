/- Contract of the document's Operand. -/
import Derived.Test.YteaibkbdoocifaaDoorInI
import Derived.Deep.DrawnRows
namespace Go.Proofs.YteaibkbdoocifaaDoor.lexs
set_option linter.unusedVariables false set_option linter.unusedSimpArgs false
open Go.ChangeShapes Go.WideShapes Go.ChangeAt Go.RowKit Go.Proofs.YteaibkbdoocifaaDoor.base Go.Proofs.YteaibkbdoocifaaDoor.wrd Go.Proofs.YteaibkbdoocifaaDoor.inps

theorem opd_no {s : ByteArray} (h : ∀ (i : Nat) (hi : i < s.size), s[i] ≠ 61) : opd s = none := by
  rcases cut_one s 61 with ⟨_, _, h3, _⟩ | ⟨i, hi, _, _, _, h4, _⟩
  · exact opd_none h3
  · refine absurd ?_ (h i hi)
    have h5 := get_list s i hi
    have hl : (s.data.toList.take i).length = i := by rw [List.length_take, len_list]; omega
    rw [h4, List.getElem?_append_right (by omega), hl, Nat.sub_self] at h5
    exact (Option.some.inj h5).symm
theorem cut_at {s : ByteArray} {k : Nat} (hk : k < s.size) (hc : s[k] = 61) (h : ∀ (i : Nat) (hi : i < s.size), i < k → s[i] ≠ 61) :
    (⟨(Lib.cut s.data.toList [61]).1.toArray⟩ : ByteArray) = s.extract 0 k ∧ (⟨(Lib.cut s.data.toList [61]).2.1.toArray⟩ : ByteArray) = s.extract (k + 1) s.size ∧ (Lib.cut s.data.toList [61]).2.2 = true := by
  rcases cut_one s 61 with ⟨_, _, _, h4⟩ | ⟨i, hi, h1, h2, h3, h4, h5⟩
  · exact absurd hc (h4 _ (List.mem_of_getElem? (get_list s k hk)))
  · have h6 := get_list s i hi
    have hl : (s.data.toList.take i).length = i := by rw [List.length_take, len_list]; omega
    rw [h4, List.getElem?_append_right (by omega), hl, Nat.sub_self] at h6
    have h7 : s[i] = 61 := (Option.some.inj h6).symm
    have hki : i = k := by
      rcases Nat.lt_trichotomy i k with e | e | e
      · exact absurd h7 (h i hi e)
      · exact e
      · refine absurd hc (h5 _ (List.mem_of_getElem? (i := k) ?_))
        rw [List.getElem?_take, if_pos e]
        exact get_list s k hk
    subst hki
    exact ⟨h1, h2, h3⟩
theorem lst_of {l : List UInt8} {s : ByteArray} (h : (⟨l.toArray⟩ : ByteArray) = s) : l = s.data.toList := by rw [← h]
theorem opd_zero {s : ByteArray} (h0 : 0 < s.size) (hc : s[0] = 61) : opd s = none := by
  obtain ⟨h1, _, _⟩ := cut_at h0 hc (fun i _ h => by omega)
  refine opd_bad ?_
  rw [lst_of h1, ext_take]
  rfl
theorem opd_bad_at {s : ByteArray} {k : Nat} (hk : k < s.size) (h : ∀ (i : Nat) (hi : i < s.size), i < k → s[i] ≠ 61) (hc : s[k] ≠ 61) (h1 : isL s[k] = false) (h2 : k = 0 ∨ isD s[k] = false) : opd s = none := by
  rcases cut_one s 61 with ⟨_, _, h3, _⟩ | ⟨i, hi, h3, _, _, h4, _⟩
  · exact opd_none h3
  · refine opd_bad ?_
    have h6 := get_list s i hi
    have hl : (s.data.toList.take i).length = i := by rw [List.length_take, len_list]; omega
    rw [h4, List.getElem?_append_right (by omega), hl, Nat.sub_self] at h6
    have h7 : s[i] = 61 := (Option.some.inj h6).symm
    have hki : k < i := by
      rcases Nat.lt_trichotomy k i with e | e | e
      · exact e
      · subst e; exact absurd h7 hc
      · exact absurd h7 (h i hi e)
    rw [lst_of h3, ext_take]
    exact nmk_no (i := k) (by rw [List.getElem?_take, if_pos hki]; exact get_list s k hk) h1 h2
theorem opd_at {s : ByteArray} {k : Nat} (h0 : 0 < k) (hk : k < s.size) (hc : s[k] = 61) (h : ∀ (i : Nat) (hi : i < s.size), i < k → s[i] ≠ 61) (hg : ∀ (i : Nat) (hi : i < s.size), i < k → isL s[i] = true ∨ (0 < i ∧ isD s[i] = true)) : opd s = some (s.extract 0 k, mnt (s.extract (k + 1) s.size).data.toList) := by
  obtain ⟨h1, h2, h3⟩ := cut_at hk hc h
  rw [opd_some h3, h1, lst_of h2]
  rw [lst_of h1, ext_take]
  refine nmk_yes (fun e => ?_) (fun i c hi => ?_)
  · have := congrArg List.length e
    rw [List.length_take, len_list, List.length_nil] at this
    omega
  · rw [List.getElem?_take] at hi
    split at hi
    · rename_i hik
      obtain ⟨h4, h5⟩ := get_at s hi
      have := hg i h4 hik
      rw [h5] at this
      exact this
    · cases hi

theorem e8_num (c : UInt8) : (IntKind.u8.wrap (48 + IntKind.u8.wrap ((c.toNat : Int) / 64)) = ((48 + c / 64).toNat : Int)) ∧ (IntKind.u8.wrap (48 + (IntKind.u8.wrap ((c.toNat : Int) / 8)).tmod 8) = ((48 + c / 8 % 8).toNat : Int)) ∧ (IntKind.u8.wrap (48 + ((c.toNat : Int)).tmod 8) = ((48 + c % 8).toNat : Int)) := by
  have h : ∀ n : Fin 256, (IntKind.u8.wrap (48 + IntKind.u8.wrap ((n.val : Int) / 64)) = ((48 + UInt8.ofNat n.val / 64).toNat : Int)) ∧ (IntKind.u8.wrap (48 + (IntKind.u8.wrap ((n.val : Int) / 8)).tmod 8) = ((48 + UInt8.ofNat n.val / 8 % 8).toNat : Int)) ∧ (IntKind.u8.wrap (48 + ((n.val : Int)).tmod 8) = ((48 + UInt8.ofNat n.val % 8).toNat : Int)) := by decide +kernel
  have := h ⟨c.toNat, c.toNat_lt⟩
  simp only [UInt8.ofNat_toNat] at this
  exact this
theorem e8_C (c : UInt8) : (#[.int .u8 92, .int .u8 ((48 + (c.toNat : Int) / 64) % 256), .int .u8 (48 + (c.toNat : Int) / 8 % 8), .int .u8 (48 + (c.toNat : Int) % 8)] : Array Value) = ((e8 c).map bV).toArray := by
  have h : ∀ n : Fin 256, ((e8 (UInt8.ofNat n.val)).map (fun b => (b.toNat : Int))) = [92, (48 + (n.val : Int) / 64) % 256, 48 + (n.val : Int) / 8 % 8, 48 + (n.val : Int) % 8] := by decide +kernel
  have := h ⟨c.toNat, c.toNat_lt⟩
  simp only [UInt8.ofNat_toNat] at this
  have e : (e8 c).map bV = ((e8 c).map (fun b => (b.toNat : Int))).map (Value.int .u8) := by simp [bV]
  rw [e, this]
  rfl
theorem own_byte (w : World) (c : UInt8) (n : Int) (hn : n = (c.toNat : Int)) : OwnB (w.alloc (.cells #[.int .u8 n] 5)) w.heap.size 5 (.slice (some ⟨w.heap.size, 0, none⟩) 1 1) [c] := by
  subst hn
  exact World.ownsRow_lit w #[.int .u8 (c.toNat : Int)] 1 (Nat.le_refl _) (by unfold maxLen; omega) rfl

set_option maxHeartbeats 8000000 in
set_option maxRecDepth 20000 in
theorem doperand_all (s : ByteArray) (w : World) (hs : s.size ≤ 1000) :
    Calls Tryd.prog 13 #[.string s] w fun e w' => e = .returned (opV (opd s)) ∧ Frm No w w' := by
  go_enter Tryd.func13, Tryd.ntmps13
  go_wp2
  go_loopw [5] (fun kv wr => ∃ k : Nat, k ≤ s.size ∧ kv = .int .i64 k ∧ (∀ (i : Nat) (hi : i < s.size), i < k → s[i] ≠ 61) ∧ (∀ (i : Nat) (hi : i < s.size), i < k → isL s[i] = true ∨ (0 < i ∧ isD s[i] = true)) ∧ w = wr) (fun kv _ => s.size - (intOf kv).toNat)
  case atStart => exact ⟨0, Nat.zero_le _, rfl, fun i _ h => by omega, fun i _ h => by omega, rfl⟩
  case round =>
    obtain ⟨k, hk, rfl, hne, hgd, hw⟩ := hrel
    subst hw
    have HNE := Lib.hid hne
    have HGD := Lib.hid hgd
    clear hne hgd
    have hk0 : (0 : Int) ≤ (k : Int) := by omega
    by_cases hlt : k < s.size
    rotate_left
    · as_aux_lemma =>
      have HR := Lib.hid (opd_no (s := s) (fun i hi => HNE.out i hi (by omega)))
      have hk1 : (s.size : Int) ≤ (k : Int) := by omega
      have hk2 : ((k : Int) == (s.size : Int)) = true := by rw [beq_iff_eq]; omega
      go_wp2
      all_goals exact bodyPost_ret (v := .tuple #[.string ⟨#[]⟩, .string ⟨#[]⟩, .bool false]) (by simp [results, Tryd.results13, go_sem]) rfl ⟨by rw [HR.out]; rfl, Frm.refl _ _⟩
    have hk1 : (k : Int) < (s.size : Int) := by omega
    rcases bool_or ((s[k].toNat : Int) == 61) with hc | hc
    rotate_left
    · -- another byte
      have HC := Lib.hid (of_bne 61 rfl hc)
      have hli := isL_int s[k]
      have hdi := isD_int s[k]
      cases hL : isL s[k] with
      | true =>
        as_aux_lemma =>
        rw [hL] at hli
        have HN1 := Lib.hid (show ∀ (i : Nat) (hi : i < s.size), i < k + 1 → s[i] ≠ 61 by
          intro i hi hik
          by_cases e : i = k
          · subst e; exact HC.out
          · exact HNE.out i hi (by omega))
        have HN2 := Lib.hid (show ∀ (i : Nat) (hi : i < s.size), i < k + 1 → isL s[i] = true ∨ (0 < i ∧ isD s[i] = true) by
          intro i hi hik
          by_cases e : i = k
          · subst e; exact Or.inl hL
          · exact HGD.out i hi (by omega))
        have hl := of_decide_eq_true hli.symm
        clear hli hdi hL
        rcases hl with ⟨l1, l2⟩ | ⟨l1, l2⟩ | l1
        all_goals
          go_wp2
          go_roundw
          case rel => exact ⟨k + 1, by omega, by go_num, HN1.out, HN2.out, trivial⟩
          case measure => simp [intOf]; omega
      | false =>
        rw [hL] at hli
        have hl := of_decide_eq_false hli.symm
        cases hD : isD s[k] with
        | true =>
          rw [hD] at hdi
          have hd := of_decide_eq_true hdi.symm
          by_cases hk00 : k = 0
          · as_aux_lemma =>
            have HR := Lib.hid (opd_bad_at hlt HNE.out HC.out hL (Or.inl hk00))
            subst hk00
            obtain ⟨d1, d2⟩ := hd
            have l1 : ¬ 97 ≤ (s[0].toNat : Int) := by omega
            have l2 : ¬ 65 ≤ (s[0].toNat : Int) := by omega
            have l3 : ((s[0].toNat : Int) == 95) = false := by rw [beq_eq_false_iff_ne]; omega
            clear hli hdi hL hD hl
            go_wp2
            exact bodyPost_ret (v := .tuple #[.string ⟨#[]⟩, .string ⟨#[]⟩, .bool false]) (by simp [results, Tryd.results13, go_sem]) rfl ⟨by rw [HR.out]; rfl, Frm.refl _ _⟩
          · as_aux_lemma =>
            have HN1 := Lib.hid (show ∀ (i : Nat) (hi : i < s.size), i < k + 1 → s[i] ≠ 61 by
              intro i hi hik
              by_cases e : i = k
              · subst e; exact HC.out
              · exact HNE.out i hi (by omega))
            have HN2 := Lib.hid (show ∀ (i : Nat) (hi : i < s.size), i < k + 1 → isL s[i] = true ∨ (0 < i ∧ isD s[i] = true) by
              intro i hi hik
              by_cases e : i = k
              · subst e; exact Or.inr ⟨by omega, hD⟩
              · exact HGD.out i hi (by omega))
            obtain ⟨d1, d2⟩ := hd
            have l1 : ¬ 97 ≤ (s[k].toNat : Int) := by omega
            have l2 : ¬ 65 ≤ (s[k].toNat : Int) := by omega
            have l3 : ((s[k].toNat : Int) == 95) = false := by rw [beq_eq_false_iff_ne]; omega
            have hkp : (0 : Int) < (k : Int) := by omega
            clear hli hdi hL hD hl
            go_wp2
            go_roundw
            case rel => exact ⟨k + 1, by omega, by go_num, HN1.out, HN2.out, trivial⟩
            case measure => simp [intOf]; omega
        | false =>
          rw [hD] at hdi
          have hd := of_decide_eq_false hdi.symm
          have HR := Lib.hid (opd_bad_at hlt HNE.out HC.out hL (Or.inr hD))
          have l3 : ((s[k].toNat : Int) == 95) = false := by rw [beq_eq_false_iff_ne]; omega
          have hrange : ((s[k].toNat : Int) < 97 ∧ (s[k].toNat : Int) < 65 ∧ (s[k].toNat : Int) < 48) ∨ ((s[k].toNat : Int) < 97 ∧ (s[k].toNat : Int) < 65 ∧ 48 ≤ (s[k].toNat : Int) ∧ 57 < (s[k].toNat : Int)) ∨ ((s[k].toNat : Int) < 97 ∧ 65 ≤ (s[k].toNat : Int) ∧ 90 < (s[k].toNat : Int) ∧ 48 ≤ (s[k].toNat : Int) ∧ 57 < (s[k].toNat : Int)) ∨ (97 ≤ (s[k].toNat : Int) ∧ 122 < (s[k].toNat : Int) ∧ 65 ≤ (s[k].toNat : Int) ∧ 90 < (s[k].toNat : Int) ∧ 48 ≤ (s[k].toNat : Int) ∧ 57 < (s[k].toNat : Int)) := by omega
          have d57 : 57 < (s[k].toNat : Int) → decide ((s[k].toNat : Int) ≤ 57) = false := fun h => decide_eq_false (by omega)
          have d90 : 90 < (s[k].toNat : Int) → decide ((s[k].toNat : Int) ≤ 90) = false := fun h => decide_eq_false (by omega)
          have d122 : 122 < (s[k].toNat : Int) → decide ((s[k].toNat : Int) ≤ 122) = false := fun h => decide_eq_false (by omega)
          have D57 := Lib.hid d57
          have D90 := Lib.hid d90
          have D122 := Lib.hid d122
          clear d57 d90 d122
          have hkc : k = 0 ∨ (0 : Int) < (k : Int) := by omega
          clear hli hdi hL hD hl hd HNE HGD HC
          rcases hkc with hkc | hkc
          · subst hkc
            rcases hrange with ⟨r1, r2, r3⟩ | ⟨r1, r2, r3, r4⟩ | ⟨r1, r2, r3, r4, r5⟩ | ⟨r1, r2, r3, r4, r5, r6⟩
            all_goals
              as_aux_lemma =>
              try have e57 := D57.out (by assumption)
              try have e90 := D90.out (by assumption)
              try have e122 := D122.out (by assumption)
              go_wp2
              all_goals exact bodyPost_ret (v := .tuple #[.string ⟨#[]⟩, .string ⟨#[]⟩, .bool false]) (by simp [results, Tryd.results13, go_sem]) rfl ⟨by rw [HR.out]; rfl, Frm.refl _ _⟩
          · rcases hrange with ⟨r1, r2, r3⟩ | ⟨r1, r2, r3, r4⟩ | ⟨r1, r2, r3, r4, r5⟩ | ⟨r1, r2, r3, r4, r5, r6⟩
            all_goals
              as_aux_lemma =>
              try have e57 := D57.out (by assumption)
              try have e90 := D90.out (by assumption)
              try have e122 := D122.out (by assumption)
              go_wp2
              all_goals exact bodyPost_ret (v := .tuple #[.string ⟨#[]⟩, .string ⟨#[]⟩, .bool false]) (by simp [results, Tryd.results13, go_sem]) rfl ⟨by rw [HR.out]; rfl, Frm.refl _ _⟩
    · have HC := Lib.hid (of_beq 61 rfl hc)
      by_cases hk00 : k = 0
      · as_aux_lemma =>
        subst hk00
        have HR := Lib.hid (opd_zero hlt HC.out)
        go_wp2
        exact bodyPost_ret (v := .tuple #[.string ⟨#[]⟩, .string ⟨#[]⟩, .bool false]) (by simp [results, Tryd.results13, go_sem]) rfl ⟨by rw [HR.out]; rfl, Frm.refl _ _⟩
      have hkz : ((k : Int) == 0) = false := by rw [beq_eq_false_iff_ne]; omega
      have hcn : ((s[k].toNat : Int) != 61) = false := by rw [HC.out]; rfl
      have hks : ((k : Int) == (s.size : Int)) = false := by rw [beq_eq_false_iff_ne]; omega
      have HR := Lib.hid (opd_at (by omega) hlt HC.out HNE.out HGD.out)
      obtain ⟨T, hT⟩ : ∃ T, s.extract (k + 1) s.size = T := ⟨_, rfl⟩
      have hTz : T.size ≤ 1000 := by rw [← hT]; simp [ByteArray.size_extract]; omega
      have hk2 : (k : Int) + 1 ≤ (s.size : Int) := by omega
      have HO0 := Lib.hid (own_byte w 34 34 rfl)
      have HI := Lib.hid info_u8
      go_wp2
      rw [hT] at HR
      clear hT
      go_loopw [8, 10] (fun bv iv wr => ∃ (i : Nat) (out : List UInt8), i ≤ T.size ∧ iv = .int .i64 i ∧ out.length ≤ 1 + 4 * i ∧ 34 :: enc T.data.toList = out ++ enc (sx T i) ∧ OwnB wr w.heap.size 5 bv out ∧ Below w.heap.size w wr) (fun _ iv _ => T.size - (intOf iv).toNat)
      case atStart => exact ⟨0, [34], Nat.zero_le _, rfl, by simp, rfl, HO0.out, (Below.refl _ _).alloc (Nat.le_refl _) _⟩
      case round =>
        clear HO0
        obtain ⟨i, out, hi, rfl, hol, hen, hown, hbel⟩ := hrel
        have hsz := hbel.size
        have HBEL := Lib.hid hbel
        have HOW := Lib.hid hown
        have HEN := Lib.hid hen
        clear hbel hown hen
        have hi0 : (0 : Int) ≤ (i : Int) := by omega
        by_cases hit : i < T.size
        · have hi1 : (i : Int) < (T.size : Int) := by omega
          have HSX := Lib.hid (sx_cons T i hit)
          rcases (show (((T[i].toNat : Int) == 92) = true ∧ ∃ h : i + 1 < T.size, ((T[i + 1].toNat : Int) == 10) = false) ∨ (((T[i].toNat : Int) == 92) = true ∧ ∃ h : i + 1 < T.size, ((T[i + 1].toNat : Int) == 10) = true) ∨ (((T[i].toNat : Int) == 92) = true ∧ i + 1 = T.size) ∨ ((T[i].toNat : Int) == 92) = false by
            rcases bool_or ((T[i].toNat : Int) == 92) with h | h
            · rcases Nat.lt_or_ge (i + 1) T.size with h1 | h1
              · rcases bool_or ((T[i + 1].toNat : Int) == 10) with h2 | h2
                · exact Or.inr (Or.inl ⟨h, h1, h2⟩)
                · exact Or.inl ⟨h, h1, h2⟩
              · exact Or.inr (Or.inr (Or.inl ⟨h, by omega⟩))
            · exact Or.inr (Or.inr (Or.inr h))) with ⟨a1, h1, a2⟩ | ⟨a1, h1, a2⟩ | ⟨a1, h1⟩ | a1
          · as_aux_lemma =>
            have h1i : (i : Int) + 1 < (T.size : Int) := by omega
            have HEX := Lib.hid (show 34 :: enc T.data.toList = (out ++ [T[i], T[i + 1]]) ++ enc (sx T (i + 2)) by
              rw [HEN.out, HSX.out, sx_cons T (i + 1) h1, of_beq 92 rfl a1, enc_two _ (of_bne 10 rfl a2)]
              simp)
            go_wp2_with (at_builtin; refine wpList_appN _ rfl _ _ 30 rfl w.heap.size 5 Tryd.underlying30 HI.out _ out rfl HOW.out _ [T[i], T[i + 1]] rfl 2 rfl rfl (by simp; omega) (by omega) ?_; intro v' w1 hown' hb1; have HOW1 := Lib.hid hown'; have HB1 := Lib.hid hb1; clear hown' hb1)
            go_roundw
            case rel => exact ⟨i + 2, out ++ [T[i], T[i + 1]], by omega, by go_num, by simp; omega, HEX.out, HOW1.out, HBEL.out.trans HB1.out⟩
            case measure => simp [intOf]; omega
          · as_aux_lemma =>
            have h1i : (i : Int) + 1 < (T.size : Int) := by omega
            have a34 : ((T[i].toNat : Int) == 34) = false := by rw [of_beq 92 rfl a1]; rfl
            have a10 : ((T[i].toNat : Int) == 10) = false := by rw [of_beq 92 rfl a1]; rfl
            have HEX := Lib.hid (show 34 :: enc T.data.toList = (out ++ e8 T[i]) ++ enc (sx T (i + 1)) by
              rw [HEN.out, HSX.out, of_beq 92 rfl a1, enc_bs (Or.inr (by rw [sx_cons T (i + 1) h1, of_beq 10 rfl a2]; rfl))]
              simp)
            go_wp2_with (at_builtin; refine wpList_appN _ rfl _ _ 30 rfl w.heap.size 5 Tryd.underlying30 HI.out _ out rfl HOW.out _ (e8 T[i]) (e8_C T[i]) 4 rfl rfl (by simp [e8]; omega) (by omega) ?_; intro v' w1 hown' hb1; have HOW1 := Lib.hid hown'; have HB1 := Lib.hid hb1; clear hown' hb1)
            go_roundw
            case rel => exact ⟨i + 1, out ++ e8 T[i], by omega, by go_num, by simp [e8]; omega, HEX.out, HOW1.out, HBEL.out.trans HB1.out⟩
            case measure => simp [intOf]; omega
          · as_aux_lemma =>
            have h1i : (T.size : Int) ≤ (i : Int) + 1 := by omega
            have a34 : ((T[i].toNat : Int) == 34) = false := by rw [of_beq 92 rfl a1]; rfl
            have a10 : ((T[i].toNat : Int) == 10) = false := by rw [of_beq 92 rfl a1]; rfl
            have HEX := Lib.hid (show 34 :: enc T.data.toList = (out ++ e8 T[i]) ++ enc (sx T (i + 1)) by
              rw [HEN.out, HSX.out, of_beq 92 rfl a1, enc_bs (Or.inl (sx_nil T (i + 1) (by omega)))]
              simp)
            go_wp2_with (at_builtin; refine wpList_appN _ rfl _ _ 30 rfl w.heap.size 5 Tryd.underlying30 HI.out _ out rfl HOW.out _ (e8 T[i]) (e8_C T[i]) 4 rfl rfl (by simp [e8]; omega) (by omega) ?_; intro v' w1 hown' hb1; have HOW1 := Lib.hid hown'; have HB1 := Lib.hid hb1; clear hown' hb1)
            go_roundw
            case rel => exact ⟨i + 1, out ++ e8 T[i], by omega, by go_num, by simp [e8]; omega, HEX.out, HOW1.out, HBEL.out.trans HB1.out⟩
            case measure => simp [intOf]; omega
          · have hne92 := of_bne 92 rfl a1
            rcases (show ((T[i].toNat : Int) == 34) = true ∨ (((T[i].toNat : Int) == 34) = false ∧ ((T[i].toNat : Int) == 10) = true) ∨ (((T[i].toNat : Int) == 34) = false ∧ ((T[i].toNat : Int) == 10) = false) by
              rcases bool_or ((T[i].toNat : Int) == 34) with h | h
              · exact Or.inl h
              · rcases bool_or ((T[i].toNat : Int) == 10) with h2 | h2
                · exact Or.inr (Or.inl ⟨h, h2⟩)
                · exact Or.inr (Or.inr ⟨h, h2⟩)) with a3 | ⟨a3, a4⟩ | ⟨a3, a4⟩
            · as_aux_lemma =>
              have HEX := Lib.hid (show 34 :: enc T.data.toList = (out ++ e8 T[i]) ++ enc (sx T (i + 1)) by
                rw [HEN.out, HSX.out, enc_sp _ hne92 (Or.inl (of_beq 34 rfl a3))]
                simp)
              clear hne92
              go_wp2_with (at_builtin; go_must (refine wpList_appN _ rfl _ _ 30 rfl w.heap.size 5 Tryd.underlying30 HI.out _ out rfl HOW.out _ (e8 T[i]) (e8_C T[i]) 4 rfl rfl (by simp [e8]; omega) (by omega) ?_; intro v' w1 hown' hb1; have HOW1 := Lib.hid hown'; have HB1 := Lib.hid hb1; clear hown' hb1))
              go_roundw
              case rel => exact ⟨i + 1, out ++ e8 T[i], by omega, by go_num, by simp [e8]; omega, HEX.out, HOW1.out, HBEL.out.trans HB1.out⟩
              case measure => simp [intOf]; omega
            · as_aux_lemma =>
              have HEX := Lib.hid (show 34 :: enc T.data.toList = (out ++ e8 T[i]) ++ enc (sx T (i + 1)) by
                rw [HEN.out, HSX.out, enc_sp _ hne92 (Or.inr (of_beq 10 rfl a4))]
                simp)
              clear hne92
              go_wp2_with (at_builtin; go_must (refine wpList_appN _ rfl _ _ 30 rfl w.heap.size 5 Tryd.underlying30 HI.out _ out rfl HOW.out _ (e8 T[i]) (e8_C T[i]) 4 rfl rfl (by simp [e8]; omega) (by omega) ?_; intro v' w1 hown' hb1; have HOW1 := Lib.hid hown'; have HB1 := Lib.hid hb1; clear hown' hb1))
              go_roundw
              case rel => exact ⟨i + 1, out ++ e8 T[i], by omega, by go_num, by simp [e8]; omega, HEX.out, HOW1.out, HBEL.out.trans HB1.out⟩
              case measure => simp [intOf]; omega
            · as_aux_lemma =>
              have HEX := Lib.hid (show 34 :: enc T.data.toList = (out ++ [T[i]]) ++ enc (sx T (i + 1)) by
                rw [HEN.out, HSX.out, enc_one _ hne92 (fun e => e.elim (of_bne 34 rfl a3) (of_bne 10 rfl a4))]
                simp)
              clear hne92
              go_wp2_with (at_builtin; refine wpList_app1 _ rfl _ _ 30 rfl w.heap.size 5 Tryd.underlying30 HI.out _ _ rfl HOW.out _ rfl T[i] rfl (by omega) (by omega) ?_; intro v' w1 hown' hb1; have HOW1 := Lib.hid hown'; have HB1 := Lib.hid hb1; clear hown' hb1)
              go_roundw
              case rel => exact ⟨i + 1, out ++ [T[i]], by omega, by go_num, by simp; omega, HEX.out, HOW1.out, HBEL.out.trans HB1.out⟩
              case measure => simp [intOf]; omega
        · obtain rfl : i = T.size := by omega
          have hend : 34 :: enc T.data.toList = out := by rw [HEN.out, sx_nil T T.size (Nat.le_refl _), enc_nil, List.append_nil]
          have hel := enc_len _ T.data.toList (Nat.le_refl _)
          rw [len_list] at hel
          have HLX := Lib.hid (fun W => dlex_str ⟨(out ++ [34]).toArray⟩ (enc T.data.toList ++ [34]) (mnt T.data.toList) W (by rw [← hend]; rfl) (by rw [tx_enc _ _ (Nat.le_refl _)]; simp) (by simp; omega) (by simp))
          have HS0 := Lib.hid (show ∀ (W : World) (B : Nat) (v : Value), OwnT W B v [⟨kStr, mnt T.data.toList⟩] → ∃ g c, v = .slice (some ⟨g, 0, none⟩) 1 c ∧ W.cell? ⟨g, 1, none⟩ = some (.string ⟨(mnt T.data.toList).toArray⟩) by
            intro W B v h
            obtain ⟨g, c, hv, htg, _⟩ := h.tg (by simp)
            exact ⟨g, c, hv, (htg 0 _ rfl).2⟩)
          obtain ⟨V, hV⟩ : ∃ V, mnt T.data.toList = V := ⟨_, rfl⟩
          rw [hV] at HLX HS0 HR
          clear hend hel hV HEN
          go_wp2_with (first | (at_builtin; refine wpList_app1 _ rfl _ _ 30 rfl w.heap.size 5 Tryd.underlying30 HI.out _ _ rfl HOW.out _ rfl 34 rfl (by omega) (by omega) ?_; intro v' w1 hown' hb1; have hcv := hown'.str (P := Tryd.prog) 30 9 Tryd.underlying30 Tryd.underlying5 Tryd.underlying9; have HB1 := Lib.hid (HBEL.out.trans hb1); clear hown' hb1) | (go_at_call 20; go_must (refine (HLX.out _).mono ?_; rintro en w2 ⟨lv, rfl, hown2, hf2⟩; obtain ⟨g, c, rfl, hg2⟩ := HS0.out _ _ _ hown2; have HF2 := Lib.hid hf2; clear hown2 hf2)))
          go_quiet (fail)
          go_wp2
          exact bodyPost_ret (v := .tuple #[.string (s.extract 0 k), .string ⟨V.toArray⟩, .bool true]) (by simp [results, Tryd.results13, go_sem]) rfl ⟨by rw [HR.out]; rfl, ((Frm.ofBelow HB1.out (Nat.le_refl _)).trans HF2.out).drewN _⟩

end Go.Proofs.YteaibkbdoocifaaDoor.lexs
