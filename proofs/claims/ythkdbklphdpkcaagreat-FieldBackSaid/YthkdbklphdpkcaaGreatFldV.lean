/- The law FieldBack. -/
import Derived.Test.YthkdbklphdpkcaaGreatFldZ
namespace Go.Proofs.YthkdbklphdpkcaaGreat.flds
set_option linter.unusedVariables false set_option linter.unusedSimpArgs false
open Go.ChangeShapes Go.WideShapes Go.ChangeAt Go.RowKit Go.Proofs.YthkdbklphdpkcaaGreat.base Go.Proofs.YthkdbklphdpkcaaGreat.fldp

theorem new_empty (w : World) : Calls Tryz.prog 11 #[.string ⟨#[]⟩, .string ⟨#[58]⟩, .bool false] w fun e w' => ∃ R v, e = .returned (.tuple #[.pointer (some ⟨R, 0, none⟩), .bool true]) ∧ RecV w' w.heap.size R v ⟨#[]⟩ [] ∧ Below w.heap.size w w' :=
  new_of ⟨#[]⟩ ⟨#[58]⟩ false [] w (by decide) (fun w1 => (parted_byte ⟨#[]⟩ 58 (by decide) w1 (by decide)).mono fun e w' ⟨v, L, he, ho, hl, hn, hb⟩ => ⟨v, he, by
    obtain rfl : L = [] := lists_inj _ _ hl
    exact ho, hb⟩)

theorem one_list (L : List ByteArray) (x : ByteArray) (h : L.length = 1) (h0 : 0 < L.length) (hx : L[0] = x) : L = [x] := by
  obtain ⟨y, rfl⟩ := List.length_eq_one_iff.1 h
  subst hx
  rfl

/-- Set, one field behind the last one. -/
theorem set_next (w : World) (B R : Nat) (v : Value) (line : ByteArray) (L : List ByteArray) (h : RecV w B R v line L) (j : Nat) (hj : L.length = j) (hj2 : j < 100) (x : ByteArray) (b : UInt8) (hx : x.size ≤ 1048576) (ht : bytesS (L ++ [x]) ≤ 1000) (hB : B ≤ w.heap.size) :
    Calls Tryz.prog 14 #[.pointer (some ⟨R, 0, none⟩), .int .i64 ((j : Int) + 1), .string x, .string ⟨#[b]⟩] w fun e w' => e = .returned (.bool true) ∧ ∃ v', RecV w' B R v' (joinL (L ++ [x]) ⟨#[b]⟩) (L ++ [x]) ∧ Below B w w' := by
  have hjt : ((j : Int) + 1).toNat = j + 1 := by omega
  have hS : setL L (j + 1) x = L ++ [x] := setL_snoc L x j hj.symm
  have hm : maySet ((j : Int) + 1) L.length = true := by unfold maySet; rw [decide_eq_true_eq]; omega
  have hJ : (joinL (L ++ [x]) ⟨#[b]⟩).size ≤ 140737488355328 := by
    have := joinL_size (L ++ [x]) b
    rw [List.length_append, List.length_singleton] at this
    omega
  have hs := set_all w B R v line L h ((j : Int) + 1) (by omega) (by omega) x ⟨#[b]⟩ (by omega) (by omega) (fun _ => by rw [hjt, hS]; exact hJ)
  rw [hm, hjt, hS] at hs
  refine hs.mono fun e w' ⟨he, ha⟩ => ⟨he, ?_⟩
  have ha : After w w' B R v (joinL (L ++ [x]) ⟨#[b]⟩) (L ++ [x]) := ha
  have hb := ha.below h hB
  obtain ⟨v', hr, _, _⟩ := ha
  exact ⟨v', hr, hb⟩

theorem rds_at {w : World} {v : Value} {L : List ByteArray} (h : RdS w v L) (j : Nat) (hj : j < L.length) : ∃ g o c, v = .slice (some ⟨g, o, none⟩) L.length c ∧ w.cell? ⟨g, o + j, none⟩ = some (.string L[j]) := by
  obtain ⟨p, c, rfl, h⟩ := h
  rcases h with rfl | ⟨g, o, rfl, h⟩
  · simp at hj
  · exact ⟨g, o, c, rfl, h j _ (List.getElem?_eq_getElem hj)⟩

set_option maxHeartbeats 4000000 in
set_option maxRecDepth 20000 in
theorem back_all (v : Value) (L : List ByteArray) (b : UInt8) (w : World) (h : RdS w v L) (hz : ∀ x ∈ L, x.size ≤ 140737488355328) :
    Calls Tryz.prog 5 #[v, .int .u8 (b.toNat : Int)] w fun e w' => e = .returned (.bool true) ∧ Below w.heap.size w w' := by
  have HA := Lib.hid (awake_all w)
  obtain ⟨p, c, rfl, hp⟩ := h
  have HRD := Lib.hid (show RdS w (.slice p L.length c) L from ⟨p, c, rfl, hp⟩)
  clear hp
  by_cases h1 : 100 < L.length
  · have h1' : (100 : Int) < (L.length : Int) := by omega
    go_enter Tryz.func5, Tryz.ntmps5
    go_wp2_with (go_at_call 7; go_must (refine HA.out.mono ?_; rintro e w1 ⟨rfl, hb1⟩; have HB1 := Lib.hid hb1; clear hb1))
    go_ret
    exact ⟨rfl, HB1.out⟩
  by_cases h2 : L.length = 0
  · rw [h2]
    go_enter Tryz.func5, Tryz.ntmps5
    go_wp2_with (go_at_call 7; go_must (refine HA.out.mono ?_; rintro e w1 ⟨rfl, hb1⟩; have HB1 := Lib.hid hb1; clear hb1))
    go_ret
    exact ⟨rfl, HB1.out⟩
  have h1' : (L.length : Int) ≤ 100 := by omega
  have h2' : ((L.length : Int) == 0) = false := by rw [beq_eq_false_iff_ne]; omega
  by_cases h3 : b = 32
  · have h3' : ((b.toNat : Int) == 32) = true := by rw [h3]; rfl
    go_enter Tryz.func5, Tryz.ntmps5
    go_wp2_with (go_at_call 7; go_must (refine HA.out.mono ?_; rintro e w1 ⟨rfl, hb1⟩; have HB1 := Lib.hid hb1; clear hb1))
    go_ret
    exact ⟨rfl, HB1.out⟩
  have h3' : ((b.toNat : Int) == 32) = false := by
    rw [beq_eq_false_iff_ne]
    intro e
    exact h3 (UInt8.toNat_inj.1 (by rw [show (32 : UInt8).toNat = 32 from rfl]; omega))
  obtain ⟨n, hn⟩ : ∃ n, L.length = n := ⟨_, rfl⟩
  have HN := Lib.hid hn
  have HZ := Lib.hid hz
  have HNEW := Lib.hid new_empty
  have HB0 := Lib.hid h3
  rw [hn] at h1' h2' HRD ⊢
  have hn1 : n ≤ 100 := by omega
  have hn0 : 1 ≤ n := by omega
  clear hn hz h1 h2 h3
  go_enter Tryz.func5, Tryz.ntmps5
  go_wp2_with (first | (go_at_call 7; go_must (refine HA.out.mono ?_; rintro e w1 ⟨rfl, hb1⟩; have HB1 := Lib.hid hb1; have hz1 := hb1.size; clear hb1)) | (go_at_call 11; go_must (refine (HNEW.out _).mono ?_; rintro e w2 ⟨R, v0, rfl, hr2, hb2⟩; have HR2 := Lib.hid hr2; have HB2 := Lib.hid (HB1.out.trans (hb2.mono hz1)); clear hr2 hb2)))
  go_loopw [7, 34] (fun nv jv wr => ∃ (j t : Nat) (vr : Value), j ≤ n ∧ jv = .int .i64 j ∧ nv = .int .i64 t ∧ t = bytesS (L.take j) ∧ t ≤ 1000 ∧ (∀ x ∈ L.take j, ∀ (k : Nat) (hk : k < x.size), x[k] ≠ b) ∧ RecV wr w1.heap.size R vr (joinL (L.take j) ⟨#[b]⟩) (L.take j) ∧ Below w.heap.size w wr) (fun _ jv _ => n - (intOf jv).toNat)
  case atStart => exact ⟨0, 0, v0, Nat.zero_le _, rfl, rfl, rfl, by omega, by simp, HR2.out, HB2.out⟩
  case round =>
    obtain ⟨j, t, vr, hj, rfl, rfl, ht, ht1, hnb, hrec, hbel⟩ := hrel
    have HT := Lib.hid ht
    have HNB := Lib.hid hnb
    have HREC := Lib.hid hrec
    have HBEL := Lib.hid hbel
    have HF := Lib.hid (Frm.ofBelow hbel (Nat.le_refl _))
    clear ht hnb hrec hbel
    by_cases hlt : j < n
    · have hjl : j < L.length := by rw [HN.out]; exact hlt
      obtain ⟨g, o, c', hv, hcx⟩ := rds_at (show RdS w (.slice p L.length c) L by rw [HN.out]; exact HRD.out) j hjl
      injection hv with hv1 hv2 hv3
      subst hv1 hv3
      obtain ⟨x, hx⟩ : ∃ x, L[j] = x := ⟨_, rfl⟩
      rw [hx] at hcx
      have hcm := cell_move hcx HF.out
      have hxz : x.size ≤ 140737488355328 := HZ.out x (by rw [← hx]; exact List.getElem_mem hjl)
      have HTK := Lib.hid (show L.take (j + 1) = L.take j ++ [x] by rw [List.take_succ_eq_append_getElem hjl, hx])
      have hj0 : (0 : Int) ≤ (j : Int) := by omega
      have hj1 : (j : Int) < (n : Int) := by omega
      clear hcx hx hv2
      by_cases hgt : 1000 < t + x.size
      · have hgt' : (1000 : Int) < (t : Int) + (x.size : Int) := by omega
        go_wp2
        go_ret
        exact ⟨rfl, HBEL.out⟩
      · have hgt' : (t : Int) + (x.size : Int) ≤ 1000 := by omega
        go_wp2
        obtain ⟨wj, hwj⟩ : ∃ wj, wr = wj := ⟨_, rfl⟩
        rw [hwj] at HREC HBEL HF hcm ⊢
        clear hwj
        go_loopw [10] (fun kv wx => ∃ k : Nat, k ≤ x.size ∧ kv = .int .i64 k ∧ wj = wx ∧ ∀ (i : Nat) (hi : i < x.size), i < k → x[i] ≠ b) (fun kv _ => x.size - (intOf kv).toNat)
        case atStart => exact ⟨0, Nat.zero_le _, rfl, rfl, fun i _ h => by omega⟩
        case round =>
          obtain ⟨k, hk, rfl, hwk, hnk⟩ := hrel
          subst hwk
          by_cases hkl : k < x.size
          · have hk0 : (0 : Int) ≤ (k : Int) := by omega
            have hk1 : (k : Int) < (x.size : Int) := by omega
            by_cases hc : x[k] = b
            · have hcb : ((x[k].toNat : Int) == (b.toNat : Int)) = true := by rw [hc]; simp
              clear hc hnk
              go_wp2
              go_ret
              exact ⟨rfl, HBEL.out⟩
            · have hcb : ((x[k].toNat : Int) == (b.toNat : Int)) = false := by rw [u8_beq]; simpa using hc
              have HNK := Lib.hid (show ∀ (i : Nat) (hi : i < x.size), i < k + 1 → x[i] ≠ b from fun i hi hik => by
                by_cases e : i = k
                · subst e; exact hc
                · exact hnk i hi (by omega))
              clear hc hnk
              go_wp2
              go_roundw
              case rel => exact ⟨k + 1, by omega, by go_num, trivial, HNK.out⟩
              case measure => simp [intOf]; omega
          · have HNX := Lib.hid (show ∀ (i : Nat) (hi : i < x.size), x[i] ≠ b from fun i hi => hnk i hi (by omega))
            clear hnk
            have hlj : (L.take j).length = j := by rw [List.length_take, HN.out]; omega
            have HT2 := Lib.hid (show t + x.size = bytesS (L.take j ++ [x]) by rw [bytesS_snoc, ← HT.out])
            have HR3 := Lib.hid (HREC.out.frm ((Frm.refl No wj).alloc (.cells #[.int .u8 (b.toNat : Int)] 5)) (fun _ _ h => h))
            have HW3 := Lib.hid (HBEL.out.alloc (Below.size HBEL.out) (.cells #[.int .u8 (b.toNat : Int)] 5))
            have HSET := Lib.hid (set_next _ _ R vr _ _ HR3.out j hlj (by omega) x b (by omega) (by rw [← HT2.out]; omega) (Nat.le_trans HR3.out.2.2 (Nat.le_of_lt HR3.out.1.lt)))
            have hcv := str_lit (P := Tryz.prog) wj #[.int .u8 (b.toNat : Int)] [b] rfl 1 rfl 44 9 5 Tryz.underlying44 Tryz.underlying5 Tryz.underlying9
            clear hlj
            go_wp2_with (go_at_call 14; go_must (refine HSET.out.mono ?_; rintro e w5 ⟨rfl, v5, hr5, hb5⟩; have HR5 := Lib.hid hr5; have HB5 := Lib.hid hb5; clear hr5 hb5))
            go_roundw
            case rel =>
              refine ⟨j + 1, t + x.size, v5, by omega, by go_num, by go_num, by rw [HTK.out]; exact HT2.out, by omega, ?_, by rw [HTK.out]; exact HR5.out, ?_⟩
              · rw [HTK.out]
                intro y hy
                rcases List.mem_append.1 hy with hy | hy
                · exact HNB.out y hy
                · obtain rfl := List.mem_singleton.1 hy
                  exact HNX.out
              · exact HW3.out.trans (HB5.out.mono hz1)
            case measure => simp [intOf]; omega
    · obtain rfl : j = n := by omega
      have htk : L.take j = L := List.take_of_length_le (by rw [HN.out]; omega)
      rw [htk] at HREC HNB HT
      have hne : L ≠ [] := fun e => by have := HN.out; rw [e] at this; simp at this; omega
      have hJz : (joinL L ⟨#[b]⟩).size ≤ 1000000 := by
        have := joinL_size L b
        rw [HN.out, ← HT.out] at this
        omega
      have hbk := back_eq b L hne HNB.out
      obtain ⟨J, hJ⟩ : ∃ J, joinL L ⟨#[b]⟩ = J := ⟨_, rfl⟩
      rw [hJ] at hJz hbk HREC
      have HSPL := Lib.hid (fun W => split_byte J b HB0.out W hJz)
      rw [hbk] at HSPL
      have HLINE := Lib.hid (fun W (hW : Frm No wr W) => line_all W _ R vr _ _ (HREC.out.frm hW (fun _ _ h => h)))
      have HNF := Lib.hid (fun W (hW : Frm No wr W) => nf_all W _ R vr _ _ (HREC.out.frm hW (fun _ _ h => h)))
      rw [HN.out] at HNF
      have hcv : (convert 44 9 (.slice (some ⟨wr.heap.size, 0, none⟩) 1 1)).run Tryz.prog (wr.alloc (.cells #[.int .u8 (b.toNat : Int)] 5)).drew = .ok (.string ⟨#[b]⟩) (wr.alloc (.cells #[.int .u8 (b.toNat : Int)] 5)).drew :=
        str_lit (P := Tryz.prog) wr.drew #[.int .u8 (b.toNat : Int)] [b] rfl 1 rfl 44 9 5 Tryz.underlying44 Tryz.underlying5 Tryz.underlying9
      clear htk hJ hJz hbk hlt
      go_wp2_with (fail)
      go_region_law (first
        | (go_simp; refine (HLINE.out _ (by first | exact (Frm.refl No wr).drew | exact ((Frm.refl No wr).alloc _).drew)).mono ?_; rintro e w4 ⟨rfl, rfl⟩; dsimp only)
        | (go_simp; refine (HSPL.out _).mono ?_; rintro e w3 ⟨v3, L3, rfl, ho3, hl3, hn3, hb3⟩; obtain ⟨a3, c3, rfl⟩ := ho3.form; dsimp only; have HO3 := Lib.hid ho3.rd; have HL3 := Lib.hid hl3; have HF3 := Lib.hid (show Frm No wr w3 from (((Frm.refl No wr).alloc _).drew).trans (Frm.ofBelow hb3 (Nat.le_refl _))); clear ho3 hl3 hb3))
      all_goals
        have HF03 := Lib.hid (show Frm No w w3 from HF.out.trans HF3.out)
        have HEND := Lib.hid (show Below w.heap.size w w3 from HF03.out.below (Nat.le_refl _) (fun _ _ h => h))
        by_cases hL : L = [⟨#[]⟩]
        · have h1 : j = 1 := by rw [← HN.out, hL]; rfl
          subst h1
          have h3 := HL3.out
          rw [if_pos hL] at h3
          obtain rfl : L3 = [] := lists_inj _ _ h3
          obtain ⟨g, o, c', hv, hcx⟩ := rds_at (show RdS w (.slice p L.length c) L by rw [HN.out]; exact HRD.out) 0 (by rw [HN.out]; omega)
          injection hv with hv1 hv2 hv3
          subst hv1 hv3
          have hx0 : L[0]'(by rw [HN.out]; omega) = ⟨#[]⟩ := by subst hL; rfl
          rw [hx0, Nat.add_zero] at hcx
          have hcm := cell_move hcx HF03.out
          clear hcx hx0 h3 hL HL3 HSPL HLINE HNF hcv hv2 hne
          go_wp2
          go_ret
          exact ⟨rfl, HEND.out⟩
        · have h3 := HL3.out
          rw [if_neg hL] at h3
          obtain rfl : L3 = L := lists_inj _ _ h3
          have HSM := Lib.hid (fun W (hW : Frm No w3 W) => same_all L3 L3 _ (.slice p j c) W (HO3.out.move hW) ((HRD.out.move HF03.out).move hW) (by rw [HN.out]; omega) (by rw [HN.out]; omega))
          have HNF2 := Lib.hid (fun W (hW : Frm No w3 W) => HNF.out W (HF3.out.trans hW))
          clear hcv HSPL HLINE HNF h3 HL3
          by_cases h1 : j = 1
          · subst h1
            obtain ⟨g, o, c', hv, hcx⟩ := rds_at (show RdS w (.slice p L3.length c) L3 by rw [HN.out]; exact HRD.out) 0 (by rw [HN.out]; omega)
            injection hv with hv1 hv2 hv3
            subst hv1 hv3
            obtain ⟨x, hx⟩ : ∃ x, L3[0]'(by rw [HN.out]; omega) = x := ⟨_, rfl⟩
            rw [hx, Nat.add_zero] at hcx
            have hcm := cell_move hcx HF03.out
            have hxe : (x.toList == []) = false := by
              rw [beq_eq_false_iff_ne, Lib.toList_data]
              intro e
              refine hL ?_
              have hx2 : x = ⟨#[]⟩ := ByteArray.ext (Array.toList_inj.1 e)
              rw [one_list L3 x HN.out (by rw [HN.out]; omega) hx, hx2]
            clear hcx hx hL hv2 hne
            go_wp2_with (first | (go_at_call 10; go_must (refine (HSM.out _ (Frm.refl _ _)).mono ?_; rintro e w5 ⟨rfl, hf5⟩; have HF5 := Lib.hid hf5; clear hf5)) | (go_at_call 12; go_must (refine (HNF2.out _ HF5.out).mono ?_; rintro e w6 ⟨rfl, rfl⟩)))
            go_ret
            exact ⟨ret_bool (by simp), HEND.out.trans (Below.mono (HF5.out.below (Nat.le_refl _) (fun _ _ h => h)) HEND.out.size)⟩
          · have h1' : ((j : Int) == 1) = false := by rw [beq_eq_false_iff_ne]; omega
            clear hL h1 hne
            go_wp2_with (first | (go_at_call 10; go_must (refine (HSM.out _ (Frm.refl _ _)).mono ?_; rintro e w5 ⟨rfl, hf5⟩; have HF5 := Lib.hid hf5; clear hf5)) | (go_at_call 12; go_must (refine (HNF2.out _ HF5.out).mono ?_; rintro e w6 ⟨rfl, rfl⟩)))
            go_ret
            exact ⟨ret_bool (by simp), HEND.out.trans (Below.mono (HF5.out.below (Nat.le_refl _) (fun _ _ h => h)) HEND.out.size)⟩

end Go.Proofs.YthkdbklphdpkcaaGreat.flds
