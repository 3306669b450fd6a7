/- Contract of the document's Sub, where the first match alone is replaced. -/
import Derived.Test.YtacbpdnpepgngaaWdZ
namespace Go.Proofs.Ytacbpdnpepgngaa.wrd
set_option linter.unusedVariables false set_option linter.unusedSimpArgs false
open Go.ChangeShapes Go.WideShapes Go.ChangeAt Go.RowKit Go.Proofs.Ytacbpdnpepgngaa.base Go.Proofs.Ytacbpdnpepgngaa.spec Go.Proofs.Ytacbpdnpepgngaa.nfa Go.Proofs.Ytacbpdnpepgngaa.parts Go.Proofs.Ytacbpdnpepgngaa.part

set_option maxRecDepth 20000 in
set_option maxHeartbeats 800000 in
theorem dsub_first (w : World) (D : T) (a : Option Addr) (cap : Nat) (repl s : ByteArray) (most : Int) (hn : nd D ≤ 1000000) (hok : okT D) (hsz : SzT D) (hk : TK w D.kids a) (hr : repl.size ≤ 1000) (hs : s.size ≤ 1000) (H : List (Nat × Nat)) (hH : hts (fdR (some (relT D)) s.data.toList) s.size 0 0 = H) :
    Calls Try.prog 15 #[.agg (eC D a cap), .string repl, .string s, .bool false, .int .i64 most] w fun e w' => e = .returned (SubAns most (whl (fun m => byF m repl.data.toList) s.data.toList (Lst false H)) (Lst false H).length) ∧ Frm No w w' := by
  have hsl : s.data.toList.length = s.size := by simp
  have hrl : repl.data.toList.length = repl.size := by simp
  have hfit := fdR_fits (some (relT D)) s.data.toList
  have hpast := fdR_past (some (relT D)) s.data.toList
  rw [hsl] at hfit hpast
  have hrise := hits_rise (fdR_fits (some (relT D)) s.data.toList) (s.size + 2 - 0) 0 0 0 (Nat.le_refl _)
  rw [show hits (fdR (some (relT D)) s.data.toList) (s.size + 2 - 0) 0 0 = H from hH, hsl] at hrise
  have hHlen : H.length ≤ s.size + 2 := by rw [← hH]; exact hits_len _ _ _
  have hbl : ∀ m : List UInt8, m.length ≤ s.data.toList.length → (byF m repl.data.toList).length ≤ 1001000 := fun m hm => by
    have h1 := byF_len m repl.data.toList
    have h2 : repl.data.toList.length * (m.length + 1) ≤ 1000 * 1001 := Nat.mul_le_mul (by omega) (by omega)
    omega
  have htl : ∀ l : List (Nat × Nat), (∃ r, l ++ r = H) → (txt (fun m => byF m repl.data.toList) s.data.toList 0 l).length ≤ 1003003000 ∧ dn 0 l ≤ s.size ∧ l.length ≤ 1002 := fun l ⟨r, hl⟩ => by
    rw [← hl] at hrise
    have h1 := (rise_app hrise).1
    have h2 := txt_len (by_ := fun m => byF m repl.data.toList) (s := s.data.toList) (m := 1001000) hbl l 0 (by rw [hsl]; exact h1)
    have h3 := rise_dn h1 (Nat.zero_le _)
    have h4 : l.length ≤ 1002 := by
      have := congrArg List.length hl
      rw [List.length_append] at this
      omega
    have h5 : l.length * 1001000 ≤ 1002 * 1001000 := Nat.mul_le_mul_right _ h4
    omega
  have HFD := Lib.hid (fun (W : World) (hf : Frm No w W) (p : Nat) => dfind_c W D a cap s p hn hok hsz (hk.move hf) (by omega))
  have HBY := Lib.hid (fun (W : World) (found : ByteArray) (m : List UInt8) (hm : found.data.toList = m) (hf : m.length ≤ 1000) => by_c repl found W hr m hm hf)
  clear hn hok hsz hk
  go_enter Try.func15, Try.ntmps15
  go_wp2
  go_loopw [13, 14, 15, 16] (fun ov cv pv fv wr => ∃ (p : Nat) (O : ByteArray), ov = .string O ∧ pv = .int .i64 (p : Int) ∧ ((cv = .int .i64 0 ∧ fv = .int .i64 (-1) ∧ p = 0 ∧ DB w D a cap H s repl.data.toList [] p 0 O wr) ∨
      (cv = .int .i64 1 ∧ (∃ z, fv = .int .i64 z) ∧ ∃ i, Lst false H = [(i, p)] ∧ p ≤ s.size ∧ O.data.toList = txt (fun m => byF m repl.data.toList) s.data.toList 0 [(i, p)] ∧ Frm No w wr ∧ Box wr w.heap.size 33 (eC D a cap)))) (fun _ cv _ _ _ => (1 - intOf cv).toNat)
  case atStart => exact ⟨0, ⟨#[]⟩, rfl, rfl, .inl ⟨rfl, rfl, rfl, ⟨(Frm.refl No w).alloc _, Box.new _ _ _, by show [] = [] ++ mid _ 0 0; rw [mid_self]; rfl, hH, Nat.le_refl _, Nat.zero_le _, Nat.zero_le _⟩⟩⟩
  case round =>
    obtain ⟨p, O, rfl, rfl, (⟨rfl, rfl, hp00, hdb⟩ | ⟨rfl, ⟨z, rfl⟩, i, hLL, hpn, hout, hfr, hbx⟩)⟩ := hrel
    · have HDB := Lib.hid hdb
      have HP00 := Lib.hid hp00
      have hos : O.size ≤ 1000 := by
        rw [size_of hdb.out, hp00]
        show (txt _ _ 0 [] ++ mid s.data.toList 0 0).length ≤ 1000
        rw [mid_self]
        show 0 ≤ 1000
        omega
      have HFP := Lib.hid (HFD.out wr hdb.frm p)
      have hpn : p ≤ s.size := by omega
      have hle : (0 : Nat) ≤ p := Nat.zero_le _
      have hp0 : (p : Int) ≤ (s.size : Int) := by omega
      clear hdb hp00
      cases hfp : fdR (some (relT D)) s.data.toList p with
      | none =>
        have HPRE := Lib.hid (show H = [] by have h5 := HDB.out.eq; rw [hts_none hfp] at h5; exact h5.symm)
        have HLL := Lib.hid (show Lst false H = [] by rw [HPRE.out]; rfl)
        rw [hfp] at HFP
        have HWH := Lib.hid (show O.data.toList ++ sx s p = whl (fun m => byF m repl.data.toList) s.data.toList (Lst false H) by
          rw [HLL.out]
          unfold whl sx
          rw [HDB.out.out, List.append_assoc, mid_drop (a := dn 0 []) hle])
        clear hfp
        by_cases hp : p < s.size
        · have hp1 : ((p : Nat) : Int) < (s.size : Int) := by omega
          have hp2 : (0 : Int) ≤ ((p : Nat) : Int) := by omega
          have HW := Lib.hid (show (O ++ s.extract p s.size).data.toList = whl (fun m => byF m repl.data.toList) s.data.toList (Lst false H) by rw [app_data, sx_ext]; exact HWH.out)
          have hsz2 := Lib.hid (show O.size + (s.size - p) = (whl (fun m => byF m repl.data.toList) s.data.toList (Lst false H)).length by rw [← size_of HW.out]; simp)
          go_wp2_with (first | (refine wpList_load_row rfl 33 (.tmp 5) rfl w.heap.size rfl 33 (eC D a cap) (0, 0) _ HDB.out.box Try.underlying33 rfl doc3.info_er ?_) | (go_at_call 35; go_must (refine (HFP.out).mono ?_; rintro en w2 ⟨rfl, hf2⟩)))
          · rename_i hm
            go_ret3
            exact ⟨by rw [SubAns_no (by rw [← hsz2.out]; omega)]; rfl, HDB.out.frm.trans hf2⟩
          · rename_i hm
            go_ret3
            exact ⟨by rw [SubAns_yes (by rw [← hsz2.out]; omega), ← str_of HW.out, HLL.out]; rfl, HDB.out.frm.trans hf2⟩
        · have hp1 : ¬ ((p : Nat) : Int) < (s.size : Int) := by omega
          have HW := Lib.hid (show (O).data.toList = whl (fun m => byF m repl.data.toList) s.data.toList (Lst false H) by have h5 := HWH.out; rw [sx_nil s _ (by omega), List.append_nil] at h5; exact h5)
          have hsz2 := Lib.hid (show O.size = (whl (fun m => byF m repl.data.toList) s.data.toList (Lst false H)).length by rw [← size_of HW.out])
          go_wp2_with (first | (refine wpList_load_row rfl 33 (.tmp 5) rfl w.heap.size rfl 33 (eC D a cap) (0, 0) _ HDB.out.box Try.underlying33 rfl doc3.info_er ?_) | (go_at_call 35; go_must (refine (HFP.out).mono ?_; rintro en w2 ⟨rfl, hf2⟩)))
          · rename_i hm
            go_ret3
            exact ⟨by rw [SubAns_no (by rw [← hsz2.out]; omega)]; rfl, HDB.out.frm.trans hf2⟩
          · rename_i hm
            go_ret3
            exact ⟨by rw [SubAns_yes (by rw [← hsz2.out]; omega), ← str_of HW.out, HLL.out]; rfl, HDB.out.frm.trans hf2⟩
      | some x =>
        obtain ⟨i, e⟩ := x
        obtain ⟨q1, q2, q3⟩ := hfit p i e hfp
        rw [hfp] at HFP
        have hst := hts_some (la := 0) hfit hpast hfp
        have heq := HDB.out.eq
        rw [hst, if_pos (Nat.zero_le e)] at heq
        have HLL := Lib.hid (show Lst false H = [(i, e)] by rw [← heq]; rfl)
        have g1 : (0 : Int) ≤ (p : Int) := by omega
        have g2 : (p : Int) ≤ (i : Int) := by omega
        have g3 : (i : Int) ≤ (s.size : Int) := by omega
        have g4 : (0 : Int) ≤ (i : Int) := by omega
        have g5 : (i : Int) ≤ (e : Int) := by omega
        have g6 : (e : Int) ≤ (s.size : Int) := by omega
        have g7 : (i : Int) + ((e : Int) - (i : Int)) = (e : Int) := by omega
        have HO1 := Lib.hid (show (O ++ s.extract p i).data.toList = mid s.data.toList 0 i by
          rw [app_data, HDB.out.out, ext_mid]
          show ([] ++ mid s.data.toList 0 p) ++ _ = _
          rw [List.nil_append, mid_mid hle q1])
        have HBC := Lib.hid (fun W => HBY.out W (s.extract i e) _ (ext_mid s i e) (by rw [mid_len (by omega)]; omega))
        have HO2 := Lib.hid (fun (B2 : ByteArray) (hB2 : B2.data.toList = byF (mid s.data.toList i e) repl.data.toList) => show ((O ++ s.extract p i) ++ B2).data.toList = txt (fun m => byF m repl.data.toList) s.data.toList 0 [(i, e)] by
          rw [app_data, HO1.out, hB2]
          show _ = mid s.data.toList 0 i ++ (byF (mid s.data.toList i e) repl.data.toList ++ [])
          rw [List.append_nil])
        have HOV := Lib.hid (fun (O2 : ByteArray) (h : O2.data.toList = txt (fun m => byF m repl.data.toList) s.data.toList 0 [(i, e)]) (hm : most < (O2.size : Int)) => show most < ((whl (fun m => byF m repl.data.toList) s.data.toList (Lst false H)).length : Int) by
          rw [HLL.out]
          have := whl_pre (fun m => byF m repl.data.toList) s.data.toList [(i, e)] []
          rw [size_of h] at hm
          rw [List.append_nil] at this
          omega)
        by_cases hie : i < e
        · have t3 : ((e : Int) - (i : Int) == 0) = false := by rw [beq_eq_false_iff_ne]; omega
          have t4 : decide ((0 : Int) < (e : Int) - (i : Int)) = true := by rw [decide_eq_true_eq]; omega
          clear heq hst hfp hfit hpast hbl htl hrise
          go_wp2_with (first | (refine wpList_load_row rfl 33 (.tmp 5) rfl w.heap.size rfl 33 (eC D a cap) (0, 0) _ HDB.out.box Try.underlying33 rfl doc3.info_er ?_) | (go_at_call 35; go_must (refine (HFP.out).mono ?_; rintro en w2 ⟨rfl, hf2⟩)) | (go_at_call 36; go_must (refine (HBC.out _).mono ?_; rintro en w3 ⟨B2, rfl, hB2, hB2s, hf3⟩; have hB2s' : B2.size ≤ 1001000 := hB2s)))
          all_goals (
            rename_i hm
            have hO2 := HO2.out B2 hB2
            first
            | (have hov := HOV.out _ hO2 (by rw [ByteArray.size_append, ByteArray.size_append, ByteArray.size_extract]; omega)
               go_ret3
               exact ⟨by rw [SubAns_no hov]; rfl, (HDB.out.frm.trans hf2).trans hf3⟩)
            | (have HBX := HDB.out.box.frm (hf2.trans hf3) id
               go_roundw
               case rel => exact ⟨e, _, rfl, rfl, .inr ⟨rfl, ⟨_, rfl⟩, i, HLL.out, by omega, hO2, (HDB.out.frm.trans hf2).trans hf3, HBX⟩⟩
               case measure => (simp [intOf]) <;> omega))
        · obtain rfl : i = e := by omega
          have HBC := Lib.hid (fun W => HBY.out W ByteArray.empty (mid s.data.toList i i) (by rw [mid_self]; rfl) (by rw [mid_len (by omega)]; omega))
          have t3 : ((i : Int) - (i : Int) == 0) = true := by rw [beq_iff_eq]; omega
          have t4 : decide ((0 : Int) < (i : Int) - (i : Int)) = false := by rw [decide_eq_false_iff_not]; omega
          have t5 : ((i : Int) == -1) = false := by rw [beq_eq_false_iff_ne]; omega
          by_cases hin : i < s.size
          · have t6 : (i : Int) < (s.size : Int) := by omega
            clear heq hst hfp hfit hpast hbl htl hrise
            go_wp2_with (first | (refine wpList_load_row rfl 33 (.tmp 5) rfl w.heap.size rfl 33 (eC D a cap) (0, 0) _ HDB.out.box Try.underlying33 rfl doc3.info_er ?_) | (go_at_call 35; go_must (refine (HFP.out).mono ?_; rintro en w2 ⟨rfl, hf2⟩)) | (go_at_call 36; go_must (refine (HBC.out _).mono ?_; rintro en w3 ⟨B2, rfl, hB2, hB2s, hf3⟩; have hB2s' : B2.size ≤ 1001000 := hB2s)))
            all_goals (
              rename_i hm
              have hO2 := HO2.out B2 hB2
              first
              | (have hov := HOV.out _ hO2 (by rw [ByteArray.size_append, ByteArray.size_append, ByteArray.size_extract]; omega)
                 go_ret3
                 exact ⟨by rw [SubAns_no hov]; rfl, (HDB.out.frm.trans hf2).trans hf3⟩)
              | (have HBX := HDB.out.box.frm (hf2.trans hf3) id
                 go_roundw
                 case rel => exact ⟨i, _, rfl, rfl, .inr ⟨rfl, ⟨_, rfl⟩, i, HLL.out, by omega, hO2, (HDB.out.frm.trans hf2).trans hf3, HBX⟩⟩
                 case measure => (simp [intOf]) <;> omega))
          · have t6 : ¬ (i : Int) < (s.size : Int) := by omega
            clear heq hst hfp hfit hpast hbl htl hrise
            go_wp2_with (first | (refine wpList_load_row rfl 33 (.tmp 5) rfl w.heap.size rfl 33 (eC D a cap) (0, 0) _ HDB.out.box Try.underlying33 rfl doc3.info_er ?_) | (go_at_call 35; go_must (refine (HFP.out).mono ?_; rintro en w2 ⟨rfl, hf2⟩)) | (go_at_call 36; go_must (refine (HBC.out _).mono ?_; rintro en w3 ⟨B2, rfl, hB2, hB2s, hf3⟩; have hB2s' : B2.size ≤ 1001000 := hB2s)))
            all_goals (
              rename_i hm
              have hO2 := HO2.out B2 hB2
              first
              | (have hov := HOV.out _ hO2 (by rw [ByteArray.size_append, ByteArray.size_append, ByteArray.size_extract]; omega)
                 go_ret3
                 exact ⟨by rw [SubAns_no hov]; rfl, (HDB.out.frm.trans hf2).trans hf3⟩)
              | (have HBX := HDB.out.box.frm (hf2.trans hf3) id
                 go_roundw
                 case rel => exact ⟨i, _, rfl, rfl, .inr ⟨rfl, ⟨_, rfl⟩, i, HLL.out, by omega, hO2, (HDB.out.frm.trans hf2).trans hf3, HBX⟩⟩
                 case measure => (simp [intOf]) <;> omega))
    · have HLL := Lib.hid hLL
      have hos : O.size ≤ 1003004000 := by
        rw [size_of hout]
        have := htl [(i, p)] ⟨H.drop 1, by rw [← hLL]; show H.take 1 ++ H.drop 1 = H; exact List.take_append_drop 1 H⟩
        omega
      have HFP := Lib.hid (HFD.out wr hfr p)
      have HBX0 := Lib.hid hbx
      have HFR := Lib.hid hfr
      have hp0 : (p : Int) ≤ (s.size : Int) := by omega
      have HWH := Lib.hid (show O.data.toList ++ sx s p = whl (fun m => byF m repl.data.toList) s.data.toList (Lst false H) by
        rw [HLL.out, hout]
        rfl)
      clear hLL hout hbx hfr hfit hpast hbl htl hrise
      cases hfp : fdR (some (relT D)) s.data.toList p with
      | none =>
        rw [hfp] at HFP
        clear hfp
        by_cases hp : p < s.size
        · have hp1 : ((p : Nat) : Int) < (s.size : Int) := by omega
          have hp2 : (0 : Int) ≤ ((p : Nat) : Int) := by omega
          have HW := Lib.hid (show (O ++ s.extract p s.size).data.toList = whl (fun m => byF m repl.data.toList) s.data.toList (Lst false H) by rw [app_data, sx_ext]; exact HWH.out)
          have hsz2 := Lib.hid (show O.size + (s.size - p) = (whl (fun m => byF m repl.data.toList) s.data.toList (Lst false H)).length by rw [← size_of HW.out]; simp)
          go_wp2_with (first | (refine wpList_load_row rfl 33 (.tmp 5) rfl w.heap.size rfl 33 (eC D a cap) (0, 0) _ HBX0.out Try.underlying33 rfl doc3.info_er ?_) | (go_at_call 35; go_must (refine (HFP.out).mono ?_; rintro en w2 ⟨rfl, hf2⟩)))
          · rename_i hm
            go_ret3
            exact ⟨by rw [SubAns_no (by rw [← hsz2.out]; omega)]; rfl, HFR.out.trans hf2⟩
          · rename_i hm
            go_ret3
            exact ⟨by rw [SubAns_yes (by rw [← hsz2.out]; omega), ← str_of HW.out, HLL.out]; rfl, HFR.out.trans hf2⟩
        · have hp1 : ¬ ((p : Nat) : Int) < (s.size : Int) := by omega
          have HW := Lib.hid (show (O).data.toList = whl (fun m => byF m repl.data.toList) s.data.toList (Lst false H) by have h5 := HWH.out; rw [sx_nil s _ (by omega), List.append_nil] at h5; exact h5)
          have hsz2 := Lib.hid (show O.size = (whl (fun m => byF m repl.data.toList) s.data.toList (Lst false H)).length by rw [← size_of HW.out])
          go_wp2_with (first | (refine wpList_load_row rfl 33 (.tmp 5) rfl w.heap.size rfl 33 (eC D a cap) (0, 0) _ HBX0.out Try.underlying33 rfl doc3.info_er ?_) | (go_at_call 35; go_must (refine (HFP.out).mono ?_; rintro en w2 ⟨rfl, hf2⟩)))
          · rename_i hm
            go_ret3
            exact ⟨by rw [SubAns_no (by rw [← hsz2.out]; omega)]; rfl, HFR.out.trans hf2⟩
          · rename_i hm
            go_ret3
            exact ⟨by rw [SubAns_yes (by rw [← hsz2.out]; omega), ← str_of HW.out, HLL.out]; rfl, HFR.out.trans hf2⟩
      | some x =>
        obtain ⟨i2, e2⟩ := x
        rw [hfp] at HFP
        clear hfp
        by_cases hp : p < s.size
        · have hp1 : ((p : Nat) : Int) < (s.size : Int) := by omega
          have hp2 : (0 : Int) ≤ ((p : Nat) : Int) := by omega
          have HW := Lib.hid (show (O ++ s.extract p s.size).data.toList = whl (fun m => byF m repl.data.toList) s.data.toList (Lst false H) by rw [app_data, sx_ext]; exact HWH.out)
          have hsz2 := Lib.hid (show O.size + (s.size - p) = (whl (fun m => byF m repl.data.toList) s.data.toList (Lst false H)).length by rw [← size_of HW.out]; simp)
          go_wp2_with (first | (refine wpList_load_row rfl 33 (.tmp 5) rfl w.heap.size rfl 33 (eC D a cap) (0, 0) _ HBX0.out Try.underlying33 rfl doc3.info_er ?_) | (go_at_call 35; go_must (refine (HFP.out).mono ?_; rintro en w2 ⟨rfl, hf2⟩)))
          · rename_i hm
            go_ret3
            exact ⟨by rw [SubAns_no (by rw [← hsz2.out]; omega)]; rfl, HFR.out.trans hf2⟩
          · rename_i hm
            go_ret3
            exact ⟨by rw [SubAns_yes (by rw [← hsz2.out]; omega), ← str_of HW.out, HLL.out]; rfl, HFR.out.trans hf2⟩
        · have hp1 : ¬ ((p : Nat) : Int) < (s.size : Int) := by omega
          have HW := Lib.hid (show (O).data.toList = whl (fun m => byF m repl.data.toList) s.data.toList (Lst false H) by have h5 := HWH.out; rw [sx_nil s _ (by omega), List.append_nil] at h5; exact h5)
          have hsz2 := Lib.hid (show O.size = (whl (fun m => byF m repl.data.toList) s.data.toList (Lst false H)).length by rw [← size_of HW.out])
          go_wp2_with (first | (refine wpList_load_row rfl 33 (.tmp 5) rfl w.heap.size rfl 33 (eC D a cap) (0, 0) _ HBX0.out Try.underlying33 rfl doc3.info_er ?_) | (go_at_call 35; go_must (refine (HFP.out).mono ?_; rintro en w2 ⟨rfl, hf2⟩)))
          · rename_i hm
            go_ret3
            exact ⟨by rw [SubAns_no (by rw [← hsz2.out]; omega)]; rfl, HFR.out.trans hf2⟩
          · rename_i hm
            go_ret3
            exact ⟨by rw [SubAns_yes (by rw [← hsz2.out]; omega), ← str_of HW.out, HLL.out]; rfl, HFR.out.trans hf2⟩
end Go.Proofs.Ytacbpdnpepgngaa.wrd
