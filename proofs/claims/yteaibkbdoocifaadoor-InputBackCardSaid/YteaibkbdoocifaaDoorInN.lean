/- The law InputBack. -/
import Derived.Test.YteaibkbdoocifaaDoorInK
namespace Go.Proofs.YteaibkbdoocifaaDoor.lexs
set_option linter.unusedVariables false set_option linter.unusedSimpArgs false
open Go.ChangeShapes Go.WideShapes Go.ChangeAt Go.RowKit Go.Proofs.YteaibkbdoocifaaDoor.base Go.Proofs.YteaibkbdoocifaaDoor.wrd Go.Proofs.YteaibkbdoocifaaDoor.inps

/-- The texts, each with the byte behind it. -/
def jb (b : UInt8) (L : List ByteArray) : List UInt8 := L.flatMap (fun x => x.data.toList ++ [b])
theorem jb_snoc (b : UInt8) (L : List ByteArray) (x : ByteArray) : jb b (L ++ [x]) = jb b L ++ (x.data.toList ++ [b]) := by simp [jb]
theorem back_spn (s : ByteArray) (b : UInt8) : ∀ (L : List ByteArray) (pre : List UInt8), s.data.toList = pre ++ jb b L → (∀ x ∈ L, ∀ (k : Nat) (hk : k < x.size), x[k] ≠ b) → (spn b (sx s pre.length) pre.length pre.length).map (fun p => s.extract p.1 p.2) = L
  | [], pre, h, _ => by
    have : sx s pre.length = [] := by unfold sx; rw [h]; simp [jb]
    rw [this]
    simp [spn]
  | x :: L, pre, h, hn => by
    have e : jb b (x :: L) = x.data.toList ++ b :: jb b L := by simp [jb]
    have hsx : sx s pre.length = x.data.toList ++ b :: jb b L := by unfold sx; rw [h, e]; simp
    have hx : x.data.toList.length = x.size := len_list x
    have h1 : (sx s pre.length)[x.size]? = some b := by rw [hsx, ← hx]; simp
    have h2 : ∀ i, i < x.size → (sx s pre.length)[i]? ≠ some b := by
      intro i hi
      rw [hsx, List.getElem?_append_left (by rw [hx]; exact hi), get_list x i hi]
      intro e
      exact hn x (by simp) i hi (Option.some.inj e)
    rw [spn_find b x.size (sx s pre.length) pre.length pre.length h1 h2, sx_drop]
    have h3 : s.data.toList = (pre ++ x.data.toList ++ [b]) ++ jb b L := by rw [h, e]; simp
    have hpl : (pre ++ x.data.toList ++ [b]).length = pre.length + x.size + 1 := by simp; omega
    have ih := back_spn s b L (pre ++ x.data.toList ++ [b]) h3 (fun y hy => hn y (by simp [hy]))
    rw [hpl] at ih
    rw [List.map_cons, show pre.length + (x.size + 1) = pre.length + x.size + 1 by omega, ih]
    congr 1
    apply ByteArray.ext
    apply Array.toList_inj.1
    simp only
    rw [extract_list, h, e]
    simp only [List.toList_toArray]
    rw [List.take_append, List.drop_append]
    simp [hx]
theorem recs_back {s rs : ByteArray} {b : UInt8} {L : List ByteArray} (h0 : 0 < rs.size) (hb : rs[0] = b) (h : s.data.toList = jb b L) (hn : ∀ x ∈ L, ∀ (k : Nat) (hk : k < x.size), x[k] ≠ b) : recs s rs = L := by
  have := back_spn s b L [] (by simpa using h) hn
  unfold recs plc
  rw [dif_pos h0, hb]
  exact this

theorem rds_at {w : World} {v : Value} {L : List ByteArray} (h : RdS w v L) (j : Nat) (hj : j < L.length) : ∃ g o c, v = .slice (some ⟨g, o, none⟩) L.length c ∧ w.cell? ⟨g, o + j, none⟩ = some (.string L[j]) := by
  obtain ⟨p, c, rfl, h⟩ := h
  rcases h with rfl | ⟨g, o, rfl, h⟩
  · simp at hj
  · exact ⟨g, o, c, rfl, h j _ (List.getElem?_eq_getElem hj)⟩
theorem bs_app (x y : ByteArray) : (x ++ y).data.toList = x.data.toList ++ y.data.toList := by simp [ByteArray.data_append]
theorem dec_self (L : List ByteArray) : decide (L = L) = true := by simp

set_option maxHeartbeats 4000000 in
set_option maxRecDepth 20000 in
theorem inputBack_all (v : Value) (L : List ByteArray) (b : UInt8) (w : World) (h : RdS w v L) (hz : ∀ x ∈ L, x.size ≤ 140737488351232) (hM : Mx w) :
    Calls Tryd.prog 4 #[v, .int .u8 (b.toNat : Int)] w fun e w' => e = .returned (.bool true) ∧ Frm No w w' := by
  have HA := Lib.hid (awake_all w hM)
  have HM := Lib.hid hM
  obtain ⟨p, c, rfl, hp⟩ := h
  have HRD := Lib.hid (show RdS w (.slice p L.length c) L from ⟨p, c, rfl, hp⟩)
  clear hp hM
  by_cases h1 : 100 < L.length
  · have h1' : (100 : Int) < (L.length : Int) := by omega
    go_enter Tryd.func4, Tryd.ntmps4
    go_wp2_with (go_at_call 6; go_must (refine HA.out.mono ?_; rintro e w1 ⟨rfl, hf1⟩; have HF1 := Lib.hid hf1; clear hf1))
    go_ret
    exact ⟨rfl, HF1.out⟩
  have h1' : (L.length : Int) ≤ 100 := by omega
  obtain ⟨n, hn⟩ : ∃ n, L.length = n := ⟨_, rfl⟩
  have HN := Lib.hid hn
  have HZ := Lib.hid hz
  rw [hn] at h1' HRD ⊢
  have hn1 : n ≤ 100 := by omega
  clear hn hz h1
  go_enter Tryd.func4, Tryd.ntmps4
  go_wp2_with (go_at_call 6; go_must (refine HA.out.mono ?_; rintro e w1 ⟨rfl, hf1⟩; have HF1 := Lib.hid hf1; clear hf1))
  go_loopw [5, 16] (fun sv jv wr => ∃ (j : Nat) (S : ByteArray), j ≤ n ∧ jv = .int .i64 j ∧ sv = .string S ∧ S.size ≤ 3000 ∧ S.data.toList = jb b (L.take j) ∧ (∀ x ∈ L.take j, ∀ (k : Nat) (hk : k < x.size), x[k] ≠ b) ∧ Frm No w wr) (fun _ jv _ => n - (intOf jv).toNat)
  case atStart => exact ⟨0, ⟨#[]⟩, Nat.zero_le _, rfl, rfl, by decide, rfl, by simp, HF1.out⟩
  case round =>
    obtain ⟨j, S, hj, rfl, rfl, hSz, hSd, hnb, hf⟩ := hrel
    have HSD := Lib.hid hSd
    have HNB := Lib.hid hnb
    have HF := Lib.hid hf
    clear hSd hnb hf
    have hj0 : (0 : Int) ≤ (j : Int) := by omega
    have hSzi : (S.size : Int) ≤ 3000 := by omega
    by_cases hlt : j < n
    · have hjl : j < L.length := by rw [HN.out]; exact hlt
      obtain ⟨g, o, c', hv, hcx⟩ := rds_at (show RdS w (.slice p L.length c) L by rw [HN.out]; exact HRD.out) j hjl
      injection hv with hv1 hv2 hv3
      subst hv1 hv3
      obtain ⟨x, hx⟩ : ∃ x, L[j] = x := ⟨_, rfl⟩
      rw [hx] at hcx
      have hcm := inps.cell_move hcx HF.out
      have hxz : x.size ≤ 140737488351232 := HZ.out x (by rw [← hx]; exact List.getElem_mem hjl)
      have HTK := Lib.hid (show L.take (j + 1) = L.take j ++ [x] by rw [List.take_succ_eq_append_getElem hjl, hx])
      have hj1 : (j : Int) < (n : Int) := by omega
      clear hcx hx hv2
      go_wp2
      obtain ⟨wj, hwj⟩ : ∃ wj, wr = wj := ⟨_, rfl⟩
      rw [hwj] at HF hcm ⊢
      clear hwj
      go_loopw [8] (fun kv wx => ∃ k : Nat, k ≤ x.size ∧ kv = .int .i64 k ∧ wj = wx ∧ ∀ (i : Nat) (hi : i < x.size), i < k → x[i] ≠ b) (fun kv _ => x.size - (intOf kv).toNat)
      case atStart => exact ⟨0, Nat.zero_le _, rfl, rfl, fun i _ h => by omega⟩
      case round =>
        obtain ⟨k, hk, rfl, hwk, hnk⟩ := hrel
        subst hwk
        by_cases hkl : k < x.size
        · have hk0 : (0 : Int) ≤ (k : Int) := by omega
          have hk1 : (k : Int) < (x.size : Int) := by omega
          by_cases hc : x[k] = b
          · have hcb : ((x[k].toNat : Int) == (b.toNat : Int)) = true := by rw [hc]; simp
            clear hc hnk
            go_wp2
            go_ret
            exact ⟨rfl, HF.out⟩
          · have hcb : ((x[k].toNat : Int) == (b.toNat : Int)) = false := by rw [u8_beq]; simpa using hc
            have HNK := Lib.hid (show ∀ (i : Nat) (hi : i < x.size), i < k + 1 → x[i] ≠ b from fun i hi hik => by
              by_cases e : i = k
              · subst e; exact hc
              · exact hnk i hi (by omega))
            clear hc hnk
            go_wp2
            go_roundw
            case rel => exact ⟨k + 1, by omega, by go_num, trivial, HNK.out⟩
            case measure => simp [intOf]; omega
        · have HNX := Lib.hid (show ∀ (i : Nat) (hi : i < x.size), x[i] ≠ b from fun i hi => hnk i hi (by omega))
          have hk1 : (x.size : Int) ≤ (k : Int) := by omega
          clear hnk
          have hcv := str_lit (P := Tryd.prog) wj #[.int .u8 (b.toNat : Int)] [b] rfl 1 rfl 30 9 5 Tryd.underlying30 Tryd.underlying5 Tryd.underlying9
          have hone : (⟨#[b]⟩ : ByteArray).size = 1 := rfl
          by_cases hgt : 3000 < S.size + (x.size + 1)
          · have hgt' : (3000 : Int) < (S.size : Int) + ((x.size : Int) + 1) := by omega
            go_wp2
            go_ret
            exact ⟨rfl, HF.out.alloc _⟩
          · have hgt' : (S.size : Int) + ((x.size : Int) + 1) ≤ 3000 := by omega
            have HS2 := Lib.hid (show (S ++ (x ++ (⟨#[b]⟩ : ByteArray))).data.toList = jb b (L.take (j + 1)) by
              rw [HTK.out, jb_snoc, bs_app, bs_app, HSD.out])
            have HS3 := Lib.hid (show (S ++ (x ++ (⟨#[b]⟩ : ByteArray))).size ≤ 3000 by
              rw [ByteArray.size_append, ByteArray.size_append, hone]; omega)
            go_wp2
            go_roundw
            case rel =>
              refine ⟨j + 1, _, by omega, by go_num, rfl, HS3.out, HS2.out, ?_, HF.out.alloc _⟩
              rw [HTK.out]
              intro y hy
              rcases List.mem_append.1 hy with hy | hy
              · exact HNB.out y hy
              · obtain rfl := List.mem_singleton.1 hy
                exact HNX.out
            case measure => simp [intOf]; omega
    · obtain rfl : j = n := by omega
      have htk : L.take j = L := List.take_of_length_le (by rw [HN.out]; omega)
      rw [htk] at HSD HNB
      have HB := Lib.hid (show recs S ((⟨#[b]⟩ : ByteArray) ++ ⟨#[120]⟩) = L from recs_back (by rw [ByteArray.size_append]; show 0 < 1 + 1; omega) (by rfl) HSD.out HNB.out)
      have HREC := Lib.hid (fun W h => records_all S ((⟨#[b]⟩ : ByteArray) ++ ⟨#[120]⟩) W hSz h)
      rw [HB.out] at HREC
      have hcv := str_lit (P := Tryd.prog) wr #[.int .u8 (b.toNat : Int)] [b] rfl 1 rfl 30 9 5 Tryd.underlying30 Tryd.underlying5 Tryd.underlying9
      have hlt' : (j : Int) ≤ (j : Int) := Int.le_refl _
      have HNL := Lib.hid (show L.length ≤ 1000000 by rw [HN.out]; omega)
      clear htk hlt
      go_wp2_with (first | (go_at_call 10; go_must (refine (HREC.out _ (HM.out.frm (HF.out.alloc _))).mono ?_; rintro e w4 ⟨v4, rfl, ho4, hf4⟩; have HO4 := Lib.hid ho4.rd; have HF4 := Lib.hid ((HF.out.alloc _).trans hf4); clear ho4 hf4)) | (go_at_call 9; go_must (refine (same_all L L _ _ _ HO4.out (by have := HRD.out.move HF4.out; exact this) HNL.out (by have := HNL.out; omega)).mono ?_; rintro e w6 ⟨rfl, hf6⟩; rw [dec_self]; have HF7 := Lib.hid (HF4.out.trans hf6); clear hf6)))
      go_ret
      exact ⟨rfl, HF7.out⟩

end Go.Proofs.YteaibkbdoocifaaDoor.lexs
