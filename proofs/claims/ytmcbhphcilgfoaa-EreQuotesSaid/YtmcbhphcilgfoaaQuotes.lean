/- The law EreQuotes: the walk. -/
import Derived.Test.YtmcbhphcilgfoaaAwake3
namespace Go.Proofs.Ytmcbhphcilgfoaa.law03
set_option linter.unusedVariables false set_option linter.unusedSimpArgs false
open Go.ChangeShapes Go.WideShapes Go.ChangeAt Go.RowKit Go.Proofs.Ytmcbhphcilgfoaa.base Go.Proofs.Ytmcbhphcilgfoaa.read Go.Proofs.Ytmcbhphcilgfoaa.spec Go.Proofs.Ytmcbhphcilgfoaa.set Go.Proofs.Ytmcbhphcilgfoaa.nums Go.Proofs.Ytmcbhphcilgfoaa.parts Go.Proofs.Ytmcbhphcilgfoaa.items Go.Proofs.Ytmcbhphcilgfoaa.quote

theorem aln_int (c : UInt8) : aln c = decide ((48 ≤ (c.toNat : Int) ∧ (c.toNat : Int) ≤ 57) ∨ (97 ≤ (c.toNat : Int) ∧ (c.toNat : Int) ≤ 122) ∨ (65 ≤ (c.toNat : Int) ∧ (c.toNat : Int) ≤ 90)) := by
  have h : ∀ n : Fin 256, aln (UInt8.ofNat n.val) = decide ((48 ≤ (n.val : Int) ∧ (n.val : Int) ≤ 57) ∨ (97 ≤ (n.val : Int) ∧ (n.val : Int) ≤ 122) ∨ (65 ≤ (n.val : Int) ∧ (n.val : Int) ≤ 90)) := by decide +kernel
  have := h ⟨c.toNat, c.toNat_lt⟩
  simpa using this
theorem quo_app (a : List UInt8) (c : UInt8) : quo (a ++ [c]) = quo a ++ tokq c := by
  induction a with
  | nil => simp [quo]
  | cons x t ih => simp only [List.cons_append, quo, ih, List.append_assoc]
theorem quo_len (l : List UInt8) : (quo l).length ≤ 3 * l.length := by
  induction l with
  | nil => simp [quo]
  | cons c t ih =>
    simp only [quo, List.length_append, List.length_cons]
    have : (tokq c).length ≤ 3 := by unfold tokq; split <;> simp
    omega
theorem one_ext (s : ByteArray) (k : Nat) (h : k < s.size) : s.extract k (k + 1) = ⟨#[s[k]]⟩ := by
  rw [extract_list]
  congr 1
  rw [take_snoc s k h, List.drop_append_of_le_length (by simp; omega)]
  have : List.drop k (List.take k s.data.toList) = [] := List.drop_eq_nil_of_le (by simp; omega)
  rw [this]
  rfl
theorem nth_snoc_lt (f : Forest) (t : T) (j : Nat) (h : j < f.len) : nth (f.snoc t) j = nth f j := by
  induction f generalizing j with
  | nil => simp only [Forest.len] at h; omega
  | cons op set lo hi k r _ ih =>
    cases j with
    | zero => rfl
    | succ j => exact ih j (by simp only [Forest.len] at h; omega)
theorem nth_snoc_eq (f : Forest) (t : T) : nth (f.snoc t) f.len = some t := by
  induction f with
  | nil => rfl
  | cons op set lo hi k r _ ih => exact ih
theorem nth_forest (f : Forest) (l : List UInt8) : (∀ j, j < f.len → nth (forestOf f l) j = nth f j) ∧ ∀ i (h : i < l.length), nth (forestOf f l) (f.len + i) = some (oneP l[i]).t := by
  induction l generalizing f with
  | nil => exact ⟨fun j _ => rfl, fun i h => by simp at h⟩
  | cons c t ih =>
    obtain ⟨h1, h2⟩ := ih (f.snoc (oneP c).t)
    rw [Forest.len_snoc] at h1 h2
    refine ⟨fun j hj => ?_, fun i hi => ?_⟩
    · rw [forestOf, h1 j (by omega), nth_snoc_lt f _ j hj]
    · cases i with
      | zero => rw [forestOf, Nat.add_zero, h1 f.len (by omega), nth_snoc_eq]; rfl
      | succ i =>
        have := h2 i (by simpa using hi)
        rw [forestOf, show f.len + (i + 1) = f.len + 1 + i by omega, this]
        rfl

theorem quotes_out (s : ByteArray) (w : World) (hm : Mx w) (hs : s.size < 2 ∨ 600 < s.size) : Calls Try.prog 3 #[.string s] w fun e w' => e = .returned (.bool true) ∧ Frm No w w' := by
  have HM := Lib.hid hm
  clear hm
  rcases hs with h | h
  · go_enter Try.func3, Try.ntmps3
    go_wp2_with (first | (go_at_call 6; go_must (refine (awake_all w HM.out).mono ?_; rintro e w1 ⟨rfl, hf1⟩)))
    go_ret
    exact ⟨rfl, hf1⟩
  · go_enter Try.func3, Try.ntmps3
    go_wp2_with (first | (go_at_call 6; go_must (refine (awake_all w HM.out).mono ?_; rintro e w1 ⟨rfl, hf1⟩)))
    go_ret
    exact ⟨rfl, hf1⟩

set_option maxRecDepth 100000 in
set_option maxHeartbeats 2000000 in
theorem quotes_in (s : ByteArray) (w : World) (hm : Mx w) (h2 : 2 ≤ s.size) (h600 : s.size ≤ 600) : Calls Try.prog 3 #[.string s] w fun e w' => e = .returned (.bool true) ∧ Frm No w w' := by
  have HM := Lib.hid hm
  clear hm
  go_enter Try.func3, Try.ntmps3
  go_wp2_with (first | (go_at_call 6; go_must (refine (awake_all w HM.out).mono ?_; rintro e w1 ⟨rfl, hf1⟩; have HF1 := Lib.hid hf1; clear hf1)))
  go_loop [3, 4, 5] (fun qv iv _ => ∃ (k : Nat) (q : ByteArray), k ≤ s.size ∧ iv = .int .i64 k ∧ qv = .string q ∧ q.size ≤ 1800 ∧ Hid (q = ⟨(quo (s.data.toList.take k)).toArray⟩)) (fun _ iv _ => s.size - (intOf iv).toNat)
  case atStart => exact ⟨0, ⟨#[]⟩, by omega, rfl, rfl, by decide, Lib.hid rfl⟩
  case round =>
    obtain ⟨k, q, hk, rfl, rfl, hql, HQE⟩ := hrel
    by_cases hlt : k < s.size
    · have he1 : (s.extract k (k + 1)).size = 1 := by simp; omega
      have HVA := Lib.hid (show aln s[k] = true → (q ++ ((⟨#[91]⟩ ++ s.extract k (k + 1)) ++ ⟨#[93]⟩) : ByteArray) = ⟨(quo (s.data.toList.take (k + 1))).toArray⟩ by
        intro h
        rw [HQE.out, one_ext s k hlt, take_snoc s k hlt, quo_app, show tokq s[k] = [91, s[k], 93] by rw [tokq, if_pos h]]
        exact app_list _ [91, s[k], 93])
      have HVB := Lib.hid (show aln s[k] = false → (q ++ (⟨#[92]⟩ ++ s.extract k (k + 1)) : ByteArray) = ⟨(quo (s.data.toList.take (k + 1))).toArray⟩ by
        intro h
        rw [HQE.out, one_ext s k hlt, take_snoc s k hlt, quo_app, show tokq s[k] = [92, s[k]] by rw [tokq, h]; rfl]
        exact app_list _ [92, s[k]])
      have HSZ := Lib.hid (show (⟨(quo (s.data.toList.take (k + 1))).toArray⟩ : ByteArray).size ≤ 1800 by
        show (quo (s.data.toList.take (k + 1))).toArray.size ≤ _
        have := quo_len (s.data.toList.take (k + 1))
        simp at this ⊢
        omega)
      have hb : (s[k].toNat : Int) < 256 := by have := s[k].toNat_lt; omega
      rcases (show ((s[k].toNat : Int) ≤ 47) ∨ (48 ≤ (s[k].toNat : Int) ∧ (s[k].toNat : Int) ≤ 57) ∨ (58 ≤ (s[k].toNat : Int) ∧ (s[k].toNat : Int) ≤ 64) ∨ (65 ≤ (s[k].toNat : Int) ∧ (s[k].toNat : Int) ≤ 90) ∨ (91 ≤ (s[k].toNat : Int) ∧ (s[k].toNat : Int) ≤ 96) ∨ (97 ≤ (s[k].toNat : Int) ∧ (s[k].toNat : Int) ≤ 122) ∨ (123 ≤ (s[k].toNat : Int)) by omega) with hr | hr | hr | hr | hr | hr | hr
      · have hal : aln s[k] = false := by rw [aln_int]; exact decide_eq_false (by omega)
        have HV := Lib.hid (HVB.out hal)
        clear hal
        go_wp2
        go_round
        case rel => exact ⟨k + 1, _, by omega, by go_num, rfl, by rw [HV.out]; exact HSZ.out, Lib.hid HV.out⟩
        case measure => simp [intOf]; omega
      · have hal : aln s[k] = true := by rw [aln_int]; exact decide_eq_true (by omega)
        have HV := Lib.hid (HVA.out hal)
        clear hal
        go_wp2
        go_round
        case rel => exact ⟨k + 1, _, by omega, by go_num, rfl, by rw [HV.out]; exact HSZ.out, Lib.hid HV.out⟩
        case measure => simp [intOf]; omega
      · have hal : aln s[k] = false := by rw [aln_int]; exact decide_eq_false (by omega)
        have HV := Lib.hid (HVB.out hal)
        clear hal
        go_wp2
        go_round
        case rel => exact ⟨k + 1, _, by omega, by go_num, rfl, by rw [HV.out]; exact HSZ.out, Lib.hid HV.out⟩
        case measure => simp [intOf]; omega
      · have hal : aln s[k] = true := by rw [aln_int]; exact decide_eq_true (by omega)
        have HV := Lib.hid (HVA.out hal)
        clear hal
        go_wp2
        go_round
        case rel => exact ⟨k + 1, _, by omega, by go_num, rfl, by rw [HV.out]; exact HSZ.out, Lib.hid HV.out⟩
        case measure => simp [intOf]; omega
      · have hal : aln s[k] = false := by rw [aln_int]; exact decide_eq_false (by omega)
        have HV := Lib.hid (HVB.out hal)
        clear hal
        go_wp2
        go_round
        case rel => exact ⟨k + 1, _, by omega, by go_num, rfl, by rw [HV.out]; exact HSZ.out, Lib.hid HV.out⟩
        case measure => simp [intOf]; omega
      · have hal : aln s[k] = true := by rw [aln_int]; exact decide_eq_true (by omega)
        have HV := Lib.hid (HVA.out hal)
        clear hal
        go_wp2
        go_round
        case rel => exact ⟨k + 1, _, by omega, by go_num, rfl, by rw [HV.out]; exact HSZ.out, Lib.hid HV.out⟩
        case measure => simp [intOf]; omega
      · have hal : aln s[k] = false := by rw [aln_int]; exact decide_eq_false (by omega)
        have HV := Lib.hid (HVB.out hal)
        clear hal
        go_wp2
        go_round
        case rel => exact ⟨k + 1, _, by omega, by go_num, rfl, by rw [HV.out]; exact HSZ.out, Lib.hid HV.out⟩
        case measure => simp [intOf]; omega
    · obtain rfl : k = s.size := by omega
      have HL2 := Lib.hid (show q.size ≤ 100000 by omega)
      have HPQ := Lib.hid (show parse q.data.toList = (quoT s.data.toList, 0) by
        rw [HQE.out, show s.data.toList.take s.size = s.data.toList from List.take_of_length_le (by simp)]
        show parse (quo s.data.toList).toArray.toList = _
        rw [List.toList_toArray]
        exact parse_quo _ (by simp; omega) (by simp; omega))
      have hop : (quoT s.data.toList).op = ⟨#[99, 97, 116]⟩ := rfl
      go_wp2_with (first | (go_at_call 7; go_must (refine (parse_c w1 q (HM.out.frm HF1.out id) HL2.out _ HPQ.out).mono ?_; rintro e w2 ⟨C2, rfl, ⟨a2, cap2, rfl, hk2⟩, hf2⟩; obtain ⟨g, rfl, _, hglt, hlen, hcells⟩ := kv_nth hk2 (by show 0 < (forestOf .nil s.data.toList).len; rw [forestOf_len]; simp; omega); have HCL := Lib.hid hcells; have HF2 := Lib.hid (HF1.out.trans hf2); have hkl : (quoT s.data.toList).kids.len = s.size := (by show (forestOf .nil s.data.toList).len = _; rw [forestOf_len]; show 0 + _ = _; simp); rw [hkl]; clear hk2 hf2 hcells hlen)))
      have hlt2 : g < w2.heap.size := hglt
      go_loopw [91] (fun iv wr => ∃ k : Nat, k ≤ s.size ∧ iv = .int .i64 k ∧ Frm No w2 wr) (fun iv _ => s.size - (intOf iv).toNat)
      case atStart => exact ⟨0, by omega, rfl, (Frm.refl No w2).alloc _⟩
      case round =>
        obtain ⟨k, hk, rfl, hf⟩ := hrel
        have HF := Lib.hid hf
        have hszr := hf.size
        clear hf
        by_cases hlt : k < s.size
        · have hkL : k < s.data.toList.length := by simp; omega
          have hnth : nth (quoT s.data.toList).kids k = some (oneP s[k]).t := by
            have := (nth_forest .nil s.data.toList).2 k hkL
            rw [show Forest.nil.len + k = k by show 0 + k = k; omega] at this
            exact this
          obtain ⟨a3, c3, e0, e1, e2, e3, e4, _⟩ := HCL.out k _ hnth
          have fr : ∀ o, wr.cell? ⟨g, o, none⟩ = w2.cell? ⟨g, o, none⟩ := fun o => World.cell?_of_block (HF.out.block g hlt2 id)
          have d0 : wr.cell? ⟨g, k * 5, none⟩ = some (.string ⟨#[115, 101, 116]⟩) := by rw [fr, Nat.mul_comm]; exact e0
          have d1 : wr.cell? ⟨g, k * 5 + 1, none⟩ = some (.string (s.extract k (k + 1))) := by rw [fr, Nat.mul_comm, one_ext s k hlt]; exact e1
          have d2 : wr.cell? ⟨g, k * 5 + 2, none⟩ = some (.slice a3 0 c3) := by rw [fr, Nat.mul_comm]; exact e2
          have d3 : wr.cell? ⟨g, k * 5 + 3, none⟩ = some (.int .i64 0) := by rw [fr, Nat.mul_comm]; exact e3
          have d4 : wr.cell? ⟨g, k * 5 + 4, none⟩ = some (.int .i64 0) := by rw [fr, Nat.mul_comm]; exact e4
          clear e0 e1 e2 e3 e4 fr hnth
          have hx1 : (k : Int) + 1 ≤ (s.size : Int) := by omega
          have hw1 : IntKind.i64.wrap ((k : Int) + 1) = (k : Int) + 1 := by
            rw [IntKind.wrap_i64]
            have : wrap64 ((k : Int) + 1) = (k : Int) + 1 := IntWalk.wrap64_in _ ⟨by omega, by omega⟩
            unfold wrap64 at this
            omega
          go_wp2
          go_quiet (fail)
          go_wp2
          go_roundw
          case rel => exact ⟨k + 1, by omega, by go_num, (HF.out.alloc _).drewN _⟩
          case measure => simp [intOf]; omega
        · go_wp2
          go_ret
          exact ⟨rfl, HF2.out.trans HF.out⟩
theorem quotes (s : ByteArray) (w : World) (hm : Mx w) : Calls Try.prog 3 #[.string s] w fun e w' => e = .returned (.bool true) ∧ Frm No w w' := by
  by_cases h : 2 ≤ s.size ∧ s.size ≤ 600
  · exact quotes_in s w hm h.1 h.2
  · exact quotes_out s w hm (by omega)
end Go.Proofs.Ytmcbhphcilgfoaa.law03
