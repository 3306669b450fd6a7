/- Contracts of input's runSize, parted, paragraphs, Spans. -/
import Derived.Test.YteaibkbdoocifaaDoorShelf
import Derived.Test.YteaibkbdoocifaaDoorInC
namespace Go.Proofs.YteaibkbdoocifaaDoor.inps
set_option linter.unusedVariables false set_option linter.unusedSimpArgs false
open Go.ChangeShapes Go.WideShapes Go.ChangeAt Go.RowKit Go.Proofs.YteaibkbdoocifaaDoor.base

/-- The variable of strings' search is some number. -/
def Mx (w : World) : Prop := ∃ m : Int, w.cell? ⟨0, 0, none⟩ = some (.int .i64 m)
theorem cell_stays {w w' : World} {p : Addr} {v : Value} (h : w.cell? p = some v) (hf : Frm No w w') : w'.cell? p = some v := by
  rw [World.cell?_of_block (hf.block _ (World.block_lt_of_cell? w _ h) (fun h => h))]
  exact h
theorem Mx.frm {w w' : World} (h : Mx w) (hf : Frm No w w') : Mx w' := by
  obtain ⟨m, hm⟩ := h
  exact ⟨m, cell_stays hm hf⟩

theorem run_all (s : ByteArray) (w : World) (n : Nat) (hn : nls s.data.toList = n) (hs : s.size ≤ 1000000) :
    Calls Tryd.prog 22 #[.string s] w fun e w' => e = .returned (.int .i64 (n : Int)) ∧ w = w' := by
  have hle := nls_le s.data.toList
  rw [hn, len_list] at hle
  obtain ⟨T, hT⟩ : ∃ T : ByteArray, T = ⟨(Lib.trimLeftB s.data.toList 10).toArray⟩ := ⟨_, rfl⟩
  have hz : T.size = s.size - n := by
    rw [hT]
    show (Lib.trimLeftB s.data.toList 10).length = _
    rw [trimL_eq, hn, List.length_drop, len_list]
  have HT := Lib.hid (show Calls Tryd.prog 48 #[.string s, .string ⟨#[10]⟩] w fun e w' => e = .returned (.string T) ∧ w = w' by
    have := Tryd.strings_TrimLeft_one s 10 (by decide) w
    rw [← hT] at this
    exact this.mono fun e w' ⟨h1, h2⟩ => ⟨h1, h2.symm⟩)
  clear hT hn
  have hz' : (s.size : Int) - (T.size : Int) = (n : Int) := by omega
  go_enter Tryd.func22, Tryd.ntmps22
  go_wp2_with (go_at_call 48; go_must (refine HT.out.mono ?_; rintro e w1 ⟨rfl, rfl⟩))
  go_ret
  exact ⟨ret_int (by omega), rfl⟩

theorem ib_cases (s : ByteArray) (f : Nat) (b : UInt8) (hf : f ≤ s.size) : (Lib.indexByte (s.extract f s.size).data.toList b = -1 ∧ ∀ k, spn b (sx s f) k f = if k < s.size then [(k, s.size)] else []) ∨ (∃ j : Nat, Lib.indexByte (s.extract f s.size).data.toList b = j ∧ f + j < s.size ∧ ∀ k, spn b (sx s f) k f = (k, f + j) :: spn b (sx s (f + j + 1)) (f + j + 1) (f + j + 1)) := by
  have e : (s.extract f s.size).data.toList = sx s f := by
    rw [extract_list]
    simp [sx, List.take_of_length_le]
  rw [e]
  have hge := Lib.indexByte_ge (sx s f) b
  by_cases h : Lib.indexByte (sx s f) b = -1
  · refine Or.inl ⟨h, fun k => ?_⟩
    rw [spn_none b (sx s f) k f (Lib.indexByte_none h), sx_len, show f + (s.size - f) = s.size by omega]
  · obtain ⟨j, hj⟩ : ∃ j : Nat, Lib.indexByte (sx s f) b = j := ⟨(Lib.indexByte (sx s f) b).toNat, by omega⟩
    obtain ⟨h1, h2⟩ := Lib.indexByte_some hj
    have hl := (List.getElem?_eq_some_iff.1 h1).1
    rw [sx_len] at hl
    refine Or.inr ⟨j, hj, by omega, fun k => ?_⟩
    rw [spn_find b j (sx s f) k f h1 h2, sx_drop, Nat.add_assoc]

set_option maxHeartbeats 2000000 in
set_option maxRecDepth 20000 in
theorem parted_all (s : ByteArray) (b : UInt8) (w : World) (hs : s.size ≤ 3000) :
    Calls Tryd.prog 15 #[.string s, .int .u8 (b.toNat : Int)] w fun e w' => ∃ v, e = .returned v ∧ OwnP w' w.heap.size v (spn b (sx s 0) 0 0) ∧ Frm No w w' := by
  go_enter Tryd.func15, Tryd.ntmps15
  go_wp2
  go_loopw [5, 6] (fun v fv wr => ∃ (f : Nat) (L : List (Nat × Nat)), f ≤ s.size + 1 ∧ L.length ≤ f ∧ fv = .int .i64 f ∧ OwnP wr w.heap.size v L ∧ spn b (sx s 0) 0 0 = L ++ spn b (sx s f) f f ∧ Frm No w wr) (fun _ fv _ => s.size + 1 - (intOf fv).toNat)
  case atStart => exact ⟨0, [], Nat.zero_le _, Nat.le_refl _, rfl, OwnP.nil _ _, rfl, Frm.refl _ _⟩
  case round =>
    obtain ⟨f, L, hf, hl, rfl, hown, hsp, hfr⟩ := hrel
    have HO := Lib.hid hown
    obtain ⟨⟨va, vc, rfl⟩, _⟩ := hown
    have HSP := Lib.hid hsp
    have HF := Lib.hid hfr
    have hw := hfr.size
    clear hsp hfr
    have hf0 : (0 : Int) ≤ (f : Int) := by omega
    by_cases hlt : f < s.size
    · have hx1 : (f : Int) < (s.size : Int) := by omega
      have HIB := Lib.hid (fun W => Tryd.strings_IndexByte (s.extract f s.size) (b.toNat : Int) W)
      rw [show ((b.toNat : Int)).toNat.toUInt8 = b by simp] at HIB
      rcases ib_cases s f b (by omega) with ⟨hi, hn⟩ | ⟨j, hi, hj, hn⟩
      · rw [hi] at HIB
        have HE := Lib.hid (show spn b (sx s 0) 0 0 = (L ++ [(f, s.size)]) ++ spn b (sx s (s.size + 1)) (s.size + 1) (s.size + 1) by
          rw [HSP.out, hn f, if_pos hlt, sx_nil s (s.size + 1) (by omega)]
          simp [spn])
        have hq : (f : Int) + ((s.size : Int) - (f : Int)) = (s.size : Int) := by omega
        clear hi hn HSP
        go_wp2_with (first | (go_at_call 24; go_must (refine (HIB.out _).mono ?_; rintro e w1 ⟨rfl, rfl⟩)) | (at_builtin; refine wpList_appP _ rfl _ _ rfl w.heap.size (.slice va L.length vc) L rfl (by exact HO.out) _ _ f s.size rfl (by first | rfl | omega) _ rfl (by rfl) (by omega) (by exact hw) ?_; intro a' c' w3 ho3 hf3; have HO3 := Lib.hid ho3; have HF3 := Lib.hid (frm_app HF.out HO.out (Nat.le_refl _) hf3); clear ho3 hf3))
        go_roundw
        case rel => exact ⟨s.size + 1, L ++ [(f, s.size)], Nat.le_refl _, by simp; omega, by go_num, HO3.out, HE.out, HF3.out⟩
        case measure => simp [intOf]; omega
      · rw [hi] at HIB
        have HE := Lib.hid (show spn b (sx s 0) 0 0 = (L ++ [(f, f + j)]) ++ spn b (sx s (f + j + 1)) (f + j + 1) (f + j + 1) by
          rw [HSP.out, hn f]
          simp)
        have hj0 : (0 : Int) ≤ (j : Int) := by omega
        have hj1 : (f : Int) + (j : Int) < (s.size : Int) := by omega
        clear hi hn HSP
        go_wp2_with (first | (go_at_call 24; go_must (refine (HIB.out _).mono ?_; rintro e w1 ⟨rfl, rfl⟩)) | (at_builtin; refine wpList_appP _ rfl _ _ rfl w.heap.size (.slice va L.length vc) L rfl (by exact HO.out) _ _ f (f + j) rfl (by first | rfl | omega) _ rfl (by rfl) (by omega) (by exact hw) ?_; intro a' c' w3 ho3 hf3; have HO3 := Lib.hid ho3; have HF3 := Lib.hid (frm_app HF.out HO.out (Nat.le_refl _) hf3); clear ho3 hf3))
        go_roundw
        case rel => exact ⟨f + j + 1, L ++ [(f, f + j)], by omega, by simp; omega, by go_num, HO3.out, HE.out, HF3.out⟩
        case measure => simp [intOf]; omega
    · have hx1 : (s.size : Int) ≤ (f : Int) := by omega
      have HE := Lib.hid (show spn b (sx s 0) 0 0 = L by
        rw [HSP.out, sx_nil s f (by omega)]
        simp [spn])
      clear HSP
      go_wp2
      go_ret
      exact ⟨_, rfl, by rw [HE.out]; exact HO.out, HF.out⟩

theorem par_step {s : ByteArray} {q E : Nat} (hE : E ≤ s.size) (hq : q < E) (ht : ∀ j, E ≤ j → j < s.size → s.data.toList[j]? = some 10) (hl : 0 < E → s.data.toList[E - 1]? ≠ some 10) :
    (Lib.index (s.extract q E).data.toList [10, 10] = -1 ∧ bdy (sx s q) = E - q) ∨ (∃ m : Nat, Lib.index (s.extract q E).data.toList [10, 10] = m ∧ q + m + 1 < E ∧ bdy (sx s q) = m) := by
  have hlen : (s.extract q E).data.toList.length = E - q := by
    rw [extract_list]; simp; omega
  have hx : ∀ i, i < E - q → (s.extract q E).data.toList[i]? = (sx s q)[i]? := by
    intro i hi
    rw [extract_list]
    unfold sx
    simp only [List.getElem?_drop, List.getElem?_take]
    rw [if_pos (by omega)]
  have hg : ∀ i, (sx s q)[i]? = s.data.toList[q + i]? := by
    intro i; unfold sx; rw [List.getElem?_drop]
  have h1 : ∀ j, E - q ≤ j → j < (sx s q).length → (sx s q)[j]? = some 10 := by
    intro j hj hj2
    rw [sx_len] at hj2
    rw [hg]
    exact ht _ (by omega) (by omega)
  rcases two_spec (s.extract q E).data.toList with ⟨h, hn⟩ | ⟨m, h, hm, a, b, hn⟩
  · refine Or.inl ⟨h, bdy_none (by rw [sx_len]; omega) h1 (fun h0 => ?_) (fun i hi => ?_)⟩
    · rw [hg, show q + (E - q - 1) = E - 1 by omega]
      exact hl (by omega)
    · have := hn i
      rw [hx i (by omega), hx (i + 1) (by omega)] at this
      exact this
  · rw [hlen] at hm
    refine Or.inr ⟨m, h, by omega, bdy_some (k := E - q) (by rw [sx_len]; omega) (by omega) ?_ ?_ (fun j hj => ?_)⟩
    · rw [← hx m (by omega)]; exact a
    · rw [← hx (m + 1) (by omega)]; exact b
    · have := hn j hj
      rw [hx j (by omega), hx (j + 1) (by omega)] at this
      exact this

set_option maxHeartbeats 4000000 in
set_option maxRecDepth 20000 in
theorem paragraphs_all (s : ByteArray) (w : World) (hs : s.size ≤ 3000) (hM : Mx w) :
    Calls Tryd.prog 14 #[.string s] w fun e w' => ∃ v, e = .returned v ∧ OwnP w' w.heap.size v (par s) ∧ Frm No w w' := by
  obtain ⟨E, hE, hT, ht, hl⟩ := trimR_spec s.data.toList
  rw [len_list] at hE ht
  obtain ⟨T, hTe⟩ : ∃ T : ByteArray, T = ⟨(Lib.trimRightB s.data.toList 10).toArray⟩ := ⟨_, rfl⟩
  have hz : T.size = E := by
    rw [hTe]
    show (Lib.trimRightB s.data.toList 10).length = _
    rw [hT, List.length_take, len_list]
    omega
  have HT := Lib.hid (show Calls Tryd.prog 21 #[.string s, .string ⟨#[10]⟩] w fun e w' => e = .returned (.string T) ∧ w = w' by
    have := Tryd.strings_TrimRight_one s 10 (by decide) w (by omega)
    rw [← hTe] at this
    exact this.mono fun e w' ⟨h1, h2⟩ => ⟨h1, h2.symm⟩)
  have HTT := Lib.hid ht
  have HL := Lib.hid hl
  obtain ⟨N, hN⟩ : ∃ N, nls s.data.toList = N := ⟨_, rfl⟩
  have hNl := nls_le s.data.toList
  rw [hN, len_list] at hNl
  have HN := Lib.hid hN
  have HRN := Lib.hid (run_all s w N hN (by omega))
  have HM := Lib.hid hM
  have HNX := Lib.hid (show (sx s N)[0]? ≠ some 10 by
    have := (nls_spec s.data.toList).2
    rw [hN] at this
    unfold sx
    rw [List.getElem?_drop]
    exact this)
  clear hTe hT ht hl hN hM
  go_enter Tryd.func14, Tryd.ntmps14
  go_wp2_with (first | (go_at_call 21; go_must (refine HT.out.mono ?_; rintro e w1 ⟨rfl, rfl⟩)) | (go_at_call 22; go_must (refine HRN.out.mono ?_; rintro e w1 ⟨rfl, rfl⟩)))
  go_loopw [3, 5] (fun v fv wr => ∃ (q : Nat) (L : List (Nat × Nat)), q ≤ s.size ∧ L.length ≤ q ∧ fv = .int .i64 q ∧ OwnP wr w.heap.size v L ∧ par s = L ++ pgs (sx s q) q ∧ (sx s q)[0]? ≠ some 10 ∧ Frm No w wr) (fun _ fv _ => s.size - (intOf fv).toNat)
  case atStart => exact ⟨N, [], hNl, Nat.zero_le _, rfl, OwnP.nil _ _, by unfold par; rw [show nls (sx s 0) = N from HN.out]; rfl, HNX.out, Frm.refl _ _⟩
  case round =>
    obtain ⟨q, L, hq, hll, rfl, hown, hp, hnx, hfr⟩ := hrel
    have HO := Lib.hid hown
    obtain ⟨⟨va, vc, rfl⟩, _⟩ := hown
    have HP := Lib.hid hp
    have HF := Lib.hid hfr
    have HX := Lib.hid hnx
    have hw := hfr.size
    clear hp hfr hnx
    have hq0 : (0 : Int) ≤ (q : Int) := by omega
    by_cases hlt : q < E
    · have hx1 : (q : Int) < (E : Int) := by omega
      have hx2 : (E : Int) ≤ (s.size : Int) := by omega
      obtain ⟨m, hm⟩ : ∃ m, bdy (sx s q) = m := ⟨_, rfl⟩
      obtain ⟨n, hn⟩ : ∃ n, nls (sx s (q + m)) = n := ⟨_, rfl⟩
      have hnl := nls_le (sx s (q + m))
      rw [hn, sx_len] at hnl
      have hml := bdy_le (sx s q)
      rw [hm, sx_len] at hml
      have hpos : 0 < m + n := by
        have := adv_pos (sx_ne (s := s) (i := q) (by omega))
        unfold adv at this
        rw [hm, sx_drop, hn] at this
        exact this
      have HR := Lib.hid (show par s = (L ++ [(q, q + m)]) ++ pgs (sx s (q + m + n)) (q + m + n) by rw [HP.out, pgs_round (by omega) hm hn]; simp)
      have HNX2 := Lib.hid (show (sx s (q + m + n))[0]? ≠ some 10 by
        have := adv_next (sx s q)
        have e : adv (sx s q) = m + n := by unfold adv; rw [hm, sx_drop, hn]
        rw [e, sx_drop, ← Nat.add_assoc] at this
        exact this)
      have HRS := Lib.hid (fun W => run_all (s.extract (q + m) s.size) W n (by rw [extract_list]; simp only [List.take_of_length_le, len_list, Nat.le_refl]; exact hn) (by simp [ByteArray.size_extract]; omega))
      obtain ⟨mx, hmx⟩ := HM.out.frm HF.out
      have HIX := Lib.hid (Tryd.strings_Index (s.extract q E) ⟨#[10, 10]⟩ mx wr (by simp [ByteArray.size_extract]; omega) hmx)
      have hqm : (0 : Int) ≤ (q : Int) + (m : Int) := by omega
      have hqm1 : (q : Int) + (m : Int) ≤ (s.size : Int) := by omega
      have hst := par_step hE hlt HTT.out HL.out
      rw [show (⟨#[10, 10]⟩ : ByteArray).data.toList = [10, 10] from rfl] at HIX
      rw [hm] at hst
      clear hm hn hmx HX HNX HP HTT HL
      rcases hst with ⟨hi, hb⟩ | ⟨m', hi, hb1, hb⟩
      · rw [hi] at HIX
        have hb' : (E : Int) - (q : Int) = (m : Int) := by omega
        clear hi hb
        go_wp2_with (first | (go_at_call 23; go_must (refine HIX.out.mono ?_; rintro e w1 ⟨rfl, rfl⟩)) | (go_at_call 22; go_must (refine (HRS.out _).mono ?_; rintro e w1 ⟨rfl, rfl⟩)) | (at_builtin; refine wpList_appP _ rfl _ _ rfl w.heap.size (.slice va L.length vc) L rfl (by exact HO.out) _ _ q (q + m) rfl (by first | rfl | omega) _ rfl (by rfl) (by omega) (by exact hw) ?_; intro a' c' w3 ho3 hf3; have HO3 := Lib.hid ho3; have HF3 := Lib.hid (frm_app HF.out HO.out (Nat.le_refl _) hf3); clear ho3 hf3))
        go_roundw
        case rel => exact ⟨q + m + n, L ++ [(q, q + m)], by omega, by simp; omega, by go_num, HO3.out, HR.out, HNX2.out, HF3.out⟩
        case measure => simp [intOf]; omega
      · obtain rfl : m = m' := hb
        rw [hi] at HIX
        have hb' : ¬ ((m : Int) < 0) := by omega
        clear hi
        go_wp2_with (first | (go_at_call 23; go_must (refine HIX.out.mono ?_; rintro e w1 ⟨rfl, rfl⟩)) | (go_at_call 22; go_must (refine (HRS.out _).mono ?_; rintro e w1 ⟨rfl, rfl⟩)) | (at_builtin; refine wpList_appP _ rfl _ _ rfl w.heap.size (.slice va L.length vc) L rfl (by exact HO.out) _ _ q (q + m) rfl (by first | rfl | omega) _ rfl (by rfl) (by omega) (by exact hw) ?_; intro a' c' w3 ho3 hf3; have HO3 := Lib.hid ho3; have HF3 := Lib.hid (frm_app HF.out HO.out (Nat.le_refl _) hf3); clear ho3 hf3))
        go_roundw
        case rel => exact ⟨q + m + n, L ++ [(q, q + m)], by omega, by simp; omega, by go_num, HO3.out, HR.out, HNX2.out, HF3.out⟩
        case measure => simp [intOf]; omega
    · have hx1 : (E : Int) ≤ (q : Int) := by omega
      have HE := Lib.hid (show par s = L by
        have hqs : s.size ≤ q := by
          rcases Nat.lt_or_ge q s.size with h | h
          · refine absurd ?_ HX.out
            unfold sx
            rw [List.getElem?_drop]
            exact HTT.out q (by omega) h
          · exact h
        rw [HP.out, sx_nil s q hqs, pgs_nil, List.append_nil])
      clear HP HX HNX HTT HL
      go_wp2
      go_ret
      exact ⟨_, rfl, by rw [HE.out]; exact HO.out, HF.out⟩

/-- The places of the records. -/
def plc (s rs : ByteArray) : List (Nat × Nat) := if h : 0 < rs.size then spn rs[0] (sx s 0) 0 0 else par s

theorem spans_all (s rs : ByteArray) (w : World) (hs : s.size ≤ 3000) (hM : Mx w) :
    Calls Tryd.prog 7 #[.string s, .string rs] w fun e w' => ∃ v, e = .returned v ∧ OwnP w' w.heap.size v (plc s rs) ∧ Frm No w w' := by
  by_cases h0 : 0 < rs.size
  · have hne : (rs.toList == []) = false := by
      rw [beq_eq_false_iff_ne]
      intro e
      rw [Lib.toList_data] at e
      have := congrArg List.length e
      rw [len_list] at this
      simp only [List.length_nil] at this
      omega
    have h0' : (0 : Int) < (rs.size : Int) := by omega
    have HP := Lib.hid (fun W => parted_all s rs[0] W hs)
    have HE := Lib.hid (show plc s rs = spn rs[0] (sx s 0) 0 0 from dif_pos h0)
    go_enter Tryd.func7, Tryd.ntmps7
    go_wp2_with (go_at_call 15; go_must (refine (HP.out _).mono ?_; rintro e w1 ⟨v, rfl, ho, hf⟩))
    go_ret
    exact ⟨_, rfl, by rw [HE.out]; exact ho, hf⟩
  · obtain rfl : rs = ⟨#[]⟩ := by
      apply ByteArray.ext
      exact Array.eq_empty_of_size_eq_zero (show rs.size = 0 by omega)
    have HP := Lib.hid (fun W h => paragraphs_all s W hs h)
    have HE := Lib.hid (show plc s ⟨#[]⟩ = par s from dif_neg h0)
    have HM := Lib.hid hM
    clear h0 hM
    go_enter Tryd.func7, Tryd.ntmps7
    go_wp2_with (go_at_call 14; go_must (refine (HP.out _ HM.out).mono ?_; rintro e w1 ⟨v, rfl, ho, hf⟩))
    go_ret
    exact ⟨_, rfl, by rw [HE.out]; exact ho, hf⟩

theorem dspans_all (s rs : ByteArray) (w : World) (hs : s.size ≤ 3000) :
    Calls Tryd.prog 8 #[.string s, .string rs] w fun e w' => ∃ v, e = .returned v ∧ OwnP w' w.heap.size v (plc s rs) ∧ Frm No w w' := by
  by_cases h0 : 0 < rs.size
  · rw [show plc s rs = spn rs[0] (sx s 0) 0 0 from dif_pos h0]
    exact dspans_byte s rs h0 w hs
  · obtain rfl : rs = ⟨#[]⟩ := by
      apply ByteArray.ext
      exact Array.eq_empty_of_size_eq_zero (show rs.size = 0 by omega)
    rw [show plc s ⟨#[]⟩ = par s from dif_neg h0]
    exact dspans_par s w hs

end Go.Proofs.YteaibkbdoocifaaDoor.inps
