/- Contract of the document's Sub: what is replaced. -/
import Derived.Test.YtacbpdnpepgngaaWdI
import Derived.Test.YtacbpdnpepgngaaWdY
import Derived.Test.YtacbpdnpepgngaaWdC
namespace Go.Proofs.Ytacbpdnpepgngaa.wrd
set_option linter.unusedVariables false set_option linter.unusedSimpArgs false
open Go.ChangeShapes Go.WideShapes Go.ChangeAt Go.RowKit Go.Proofs.Ytacbpdnpepgngaa.base Go.Proofs.Ytacbpdnpepgngaa.spec Go.Proofs.Ytacbpdnpepgngaa.nfa Go.Proofs.Ytacbpdnpepgngaa.parts Go.Proofs.Ytacbpdnpepgngaa.part


/-- The cells of a tree. -/
abbrev eC (D : T) (a : Option Addr) (cap : Nat) : Array Value := #[.string D.op, .string D.set, .slice a D.kids.len cap, .int .i64 D.lo, .int .i64 D.hi]
theorem dfind_c (w : World) (D : T) (a : Option Addr) (cap : Nat) (s : ByteArray) (p : Nat) (hn : nd D ≤ 1000000) (hok : okT D) (hsz : SzT D) (hk : TK w D.kids a) (hz : s.size ≤ 100000) :
    Calls Try.prog 35 #[.agg (eC D a cap), .string s, .int .i64 (p : Int)] w fun e w' => FdAns (fdR (some (relT D)) s.data.toList p) e ∧ Frm No w w' := by
  refine (findD_all w D _ s _ hn hok hsz ⟨a, cap, rfl, hk⟩ hz).mono ?_
  rintro e w' ⟨fd, rs, re, he, hfr, hf⟩
  exact ⟨fr_ans he hfr, hf⟩
theorem by_c (repl : ByteArray) (found : ByteArray) (w : World) (hr : repl.size ≤ 1000) (m : List UInt8) (hm : found.data.toList = m) (hf : m.length ≤ 1000) :
    Calls Try.prog 36 #[.string repl, .string found] w fun e w' => ∃ B2 : ByteArray, e = .returned (.string B2) ∧ B2.data.toList = byF m repl.data.toList ∧ B2.size ≤ 1001000 ∧ Frm No w w' := by
  subst hm
  refine (by_all repl found w hr (by simpa using hf)).mono ?_
  rintro e w' ⟨rfl, h⟩
  refine ⟨_, rfl, by simp, ?_, h⟩
  have h1 := byF_len found.data.toList repl.data.toList
  have h2 : repl.data.toList.length * (found.data.toList.length + 1) ≤ 1000 * 1001 := Nat.mul_le_mul (by simpa using hr) (by omega)
  show (byF found.data.toList repl.data.toList).toArray.size ≤ _
  rw [List.size_toArray]
  omega
theorem mid_past (s : List UInt8) (a b : Nat) (h : s.length ≤ b) : mid s a b = s.drop a := by
  unfold mid
  exact List.take_of_length_le (by rw [List.length_drop]; omega)
theorem mid_next (s : List UInt8) (a i : Nat) (h : s.length ≤ i) : mid s a (i + 1) = mid s a i := by rw [mid_past s a i h, mid_past s a (i + 1) (by omega)]

/-- Between two rounds. -/
structure DB (w : World) (D : T) (a : Option Addr) (cap : Nat) (H : List (Nat × Nat)) (s : ByteArray) (repl : List UInt8) (pre : List (Nat × Nat)) (p la : Nat) (O : ByteArray) (wr : World) : Prop where
  frm : Frm No w wr
  box : Box wr w.heap.size 33 (eC D a cap)
  out : O.data.toList = txt (fun m => byF m repl) s.data.toList 0 pre ++ mid s.data.toList (dn 0 pre) p
  eq : pre ++ hts (fdR (some (relT D)) s.data.toList) s.size p la = H
  le : dn 0 pre ≤ p
  lp : p ≤ s.size + 1
  ll : la ≤ p + 1
theorem SubAns_no {most : Int} {t : List UInt8} {k : Nat} (h : most < (t.length : Int)) : SubAns most t k = .tuple #[.string ⟨#[]⟩, .int .i64 0, .bool false] := by unfold SubAns; rw [if_neg (by omega)]
theorem SubAns_yes {most : Int} {t : List UInt8} {k : Nat} (h : ¬ most < (t.length : Int)) : SubAns most t k = .tuple #[.string ⟨t.toArray⟩, .int .i64 (k : Int), .bool true] := by unfold SubAns; rw [if_pos (by omega)]
theorem str_of {B : ByteArray} {l : List UInt8} (h : B.data.toList = l) : B = ⟨l.toArray⟩ := by
  subst h
  rfl
theorem size_of {B : ByteArray} {l : List UInt8} (h : B.data.toList = l) : B.size = l.length := by
  subst h
  simp

set_option maxRecDepth 20000 in
set_option maxHeartbeats 800000 in
theorem dsub_all (w : World) (D : T) (a : Option Addr) (cap : Nat) (repl s : ByteArray) (most : Int) (hn : nd D ≤ 1000000) (hok : okT D) (hsz : SzT D) (hk : TK w D.kids a) (hr : repl.size ≤ 1000) (hs : s.size ≤ 1000) (H : List (Nat × Nat)) (hH : hts (fdR (some (relT D)) s.data.toList) s.size 0 0 = H) :
    Calls Try.prog 15 #[.agg (eC D a cap), .string repl, .string s, .bool true, .int .i64 most] w fun e w' => e = .returned (SubAns most (whl (fun m => byF m repl.data.toList) s.data.toList (Lst true H)) (Lst true H).length) ∧ Frm No w w' := by
  have hsl : s.data.toList.length = s.size := by simp
  have hrl : repl.data.toList.length = repl.size := by simp
  have hfit := fdR_fits (some (relT D)) s.data.toList
  have hpast := fdR_past (some (relT D)) s.data.toList
  rw [hsl] at hfit hpast
  have hrise := hits_rise (fdR_fits (some (relT D)) s.data.toList) (s.size + 2 - 0) 0 0 0 (Nat.le_refl _)
  rw [show hits (fdR (some (relT D)) s.data.toList) (s.size + 2 - 0) 0 0 = H from hH, hsl] at hrise
  have hHlen : H.length ≤ s.size + 2 := by rw [← hH]; exact hits_len _ _ _
  have hbl : ∀ m : List UInt8, m.length ≤ s.data.toList.length → (byF m repl.data.toList).length ≤ 1001000 := fun m hm => by
    have h1 := byF_len m repl.data.toList
    have h2 : repl.data.toList.length * (m.length + 1) ≤ 1000 * 1001 := Nat.mul_le_mul (by omega) (by omega)
    omega
  have htl : ∀ l : List (Nat × Nat), (∃ r, l ++ r = H) → (txt (fun m => byF m repl.data.toList) s.data.toList 0 l).length ≤ 1003003000 ∧ dn 0 l ≤ s.size ∧ l.length ≤ 1002 := fun l ⟨r, hl⟩ => by
    rw [← hl] at hrise
    have h1 := (rise_app hrise).1
    have h2 := txt_len (by_ := fun m => byF m repl.data.toList) (s := s.data.toList) (m := 1001000) hbl l 0 (by rw [hsl]; exact h1)
    have h3 := rise_dn h1 (Nat.zero_le _)
    have h4 : l.length ≤ 1002 := by
      have := congrArg List.length hl
      rw [List.length_append] at this
      omega
    have h5 : l.length * 1001000 ≤ 1002 * 1001000 := Nat.mul_le_mul_right _ h4
    omega
  have HFD := Lib.hid (fun (W : World) (hf : Frm No w W) (p : Nat) => dfind_c W D a cap s p hn hok hsz (hk.move hf) (by omega))
  have HBY := Lib.hid (fun (W : World) (found : ByteArray) (m : List UInt8) (hm : found.data.toList = m) (hf : m.length ≤ 1000) => by_c repl found W hr m hm hf)
  clear hn hok hsz hk
  go_enter Try.func15, Try.ntmps15
  go_wp2
  go_loopw [13, 14, 15, 16] (fun ov cv pv fv wr => ∃ (pre : List (Nat × Nat)) (p la : Nat) (O : ByteArray), ov = .string O ∧ cv = .int .i64 (pre.length : Int) ∧ pv = .int .i64 (p : Int) ∧ fv = .int .i64 ((la : Int) - 1) ∧ DB w D a cap H s repl.data.toList pre p la O wr) (fun _ _ pv _ _ => s.size + 2 - (intOf pv).toNat)
  case atStart => exact ⟨[], 0, 0, ⟨#[]⟩, rfl, rfl, rfl, rfl, ⟨(Frm.refl No w).alloc _, Box.new _ _ _, by show [] = [] ++ mid _ 0 0; rw [mid_self]; rfl, hH, Nat.le_refl _, Nat.zero_le _, Nat.zero_le _⟩⟩
  case round =>
    obtain ⟨pre, p, la, O, rfl, rfl, rfl, rfl, hdb⟩ := hrel
    have HDB := Lib.hid hdb
    have hlp := hdb.lp
    have hle := hdb.le
    have hla := hdb.ll
    have hpl := htl pre ⟨_, hdb.eq⟩
    have hos : O.size ≤ 1003004000 := by
      rw [size_of hdb.out, List.length_append]
      have : (mid s.data.toList (dn 0 pre) p).length ≤ s.data.toList.length := by unfold mid; rw [List.length_take, List.length_drop]; omega
      omega
    have HFP := Lib.hid (HFD.out wr hdb.frm p)
    have HLL := Lib.hid (show Lst true H = H from rfl)
    have hpl2 : (pre.length : Int) ≤ 1002 := by omega
    have hpl3 : (0 : Int) ≤ (pre.length : Int) := by omega
    clear hdb
    by_cases hpn : p ≤ s.size
    · have hp0 : (p : Int) ≤ (s.size : Int) := by omega
      cases hfp : fdR (some (relT D)) s.data.toList p with
      | none =>
        have HPRE := Lib.hid (show pre = H by have := HDB.out.eq; rw [hts_none hfp, List.append_nil] at this; exact this)
        rw [hfp] at HFP
        have HWH := Lib.hid (show O.data.toList ++ sx s p = whl (fun m => byF m repl.data.toList) s.data.toList (Lst true H) by
          rw [HLL.out, ← HPRE.out]
          unfold whl sx
          rw [HDB.out.out, List.append_assoc, mid_drop hle])
        clear hfp
        by_cases hp : p < s.size
        · have hp1 : ((p : Nat) : Int) < (s.size : Int) := by omega
          have hp2 : (0 : Int) ≤ ((p : Nat) : Int) := by omega
          have HW := Lib.hid (show (O ++ s.extract p s.size).data.toList = whl (fun m => byF m repl.data.toList) s.data.toList (Lst true H) by rw [app_data, sx_ext]; exact HWH.out)
          have hsz2 := Lib.hid (show O.size + (s.size - p) = (whl (fun m => byF m repl.data.toList) s.data.toList (Lst true H)).length by rw [← size_of HW.out]; simp)
          go_wp2_with (first | (refine wpList_load_row rfl 33 (.tmp 5) rfl w.heap.size rfl 33 (eC D a cap) (0, 0) _ HDB.out.box Try.underlying33 rfl doc3.info_er ?_) | (go_at_call 35; go_must (refine (HFP.out).mono ?_; rintro en w2 ⟨rfl, hf2⟩)))
          · rename_i hm
            go_ret3
            exact ⟨by rw [SubAns_no (by rw [← hsz2.out]; omega)]; rfl, HDB.out.frm.trans hf2⟩
          · rename_i hm
            go_ret3
            exact ⟨by rw [SubAns_yes (by rw [← hsz2.out]; omega), ← str_of HW.out, HLL.out, HPRE.out]; rfl, HDB.out.frm.trans hf2⟩
        · have hp1 : ¬ ((p : Nat) : Int) < (s.size : Int) := by omega
          have HW := Lib.hid (show (O).data.toList = whl (fun m => byF m repl.data.toList) s.data.toList (Lst true H) by have h5 := HWH.out; rw [sx_nil s _ (by omega), List.append_nil] at h5; exact h5)
          have hsz2 := Lib.hid (show O.size = (whl (fun m => byF m repl.data.toList) s.data.toList (Lst true H)).length by rw [← size_of HW.out])
          go_wp2_with (first | (refine wpList_load_row rfl 33 (.tmp 5) rfl w.heap.size rfl 33 (eC D a cap) (0, 0) _ HDB.out.box Try.underlying33 rfl doc3.info_er ?_) | (go_at_call 35; go_must (refine (HFP.out).mono ?_; rintro en w2 ⟨rfl, hf2⟩)))
          · rename_i hm
            go_ret3
            exact ⟨by rw [SubAns_no (by rw [← hsz2.out]; omega)]; rfl, HDB.out.frm.trans hf2⟩
          · rename_i hm
            go_ret3
            exact ⟨by rw [SubAns_yes (by rw [← hsz2.out]; omega), ← str_of HW.out, HLL.out, HPRE.out]; rfl, HDB.out.frm.trans hf2⟩
      | some x =>
        obtain ⟨i, e⟩ := x
        obtain ⟨q1, q2, q3⟩ := hfit p i e hfp
        rw [hfp] at HFP
        have hst := hts_some (la := la) hfit hpast hfp
        have heq := HDB.out.eq
        rw [hst] at heq
        have g1 : (0 : Int) ≤ (p : Int) := by omega
        have g2 : (p : Int) ≤ (i : Int) := by omega
        have g3 : (i : Int) ≤ (s.size : Int) := by omega
        have g4 : (0 : Int) ≤ (i : Int) := by omega
        have g5 : (i : Int) ≤ (e : Int) := by omega
        have g6 : (e : Int) ≤ (s.size : Int) := by omega
        have g7 : (i : Int) + ((e : Int) - (i : Int)) = (e : Int) := by omega
        have HO1 := Lib.hid (show (O ++ s.extract p i).data.toList = txt (fun m => byF m repl.data.toList) s.data.toList 0 pre ++ mid s.data.toList (dn 0 pre) i by
          rw [app_data, HDB.out.out, ext_mid, List.append_assoc, mid_mid hle q1])
        have hos1 : (O ++ s.extract p i).size ≤ 1003004000 := by
          rw [size_of HO1.out, List.length_append, mid_len (by omega)]
          omega
        by_cases hcnt : la ≤ e
        · rw [if_pos hcnt] at heq
          have t2 : (((e : Int) - (i : Int) == 0) && ((i : Int) == (la : Int) - 1)) = false := by
            rw [Bool.and_eq_false_iff, beq_eq_false_iff_ne, beq_eq_false_iff_ne]
            omega
          have HBC := Lib.hid (fun W => HBY.out W (s.extract i e) _ (ext_mid s i e) (by rw [mid_len (by omega)]; omega))
          have HO2 := Lib.hid (fun (B2 : ByteArray) (hB2 : B2.data.toList = byF (mid s.data.toList i e) repl.data.toList) => show ((O ++ s.extract p i) ++ B2).data.toList = txt (fun m => byF m repl.data.toList) s.data.toList 0 (pre ++ [(i, e)]) by
            rw [app_data, HO1.out, hB2, txt_snoc, List.append_assoc])
          have hpre2 : (pre ++ [(i, e)]) ++ hts (fdR (some (relT D)) s.data.toList) s.size (nxt i e) (lst la i e) = H := by rw [List.append_assoc]; exact heq
          have hcl : (pre ++ [(i, e)]).length = pre.length + 1 := by simp
          have HOV := Lib.hid (fun (O2 : ByteArray) (h : O2.data.toList = txt (fun m => byF m repl.data.toList) s.data.toList 0 (pre ++ [(i, e)])) (hm : most < (O2.size : Int)) => show most < ((whl (fun m => byF m repl.data.toList) s.data.toList (Lst true H)).length : Int) by
            rw [HLL.out, ← hpre2]
            have := whl_pre (fun m => byF m repl.data.toList) s.data.toList (pre ++ [(i, e)]) (hts (fdR (some (relT D)) s.data.toList) s.size (nxt i e) (lst la i e))
            rw [size_of h] at hm
            omega)
          have hl2 := (htl _ ⟨_, hpre2⟩).1
          by_cases hie : i < e
          · have t3 : ((e : Int) - (i : Int) == 0) = false := by rw [beq_eq_false_iff_ne]; omega
            have t4 : decide ((0 : Int) < (e : Int) - (i : Int)) = true := by rw [decide_eq_true_eq]; omega
            have HEQ := Lib.hid (show (pre ++ [(i, e)]) ++ hts (fdR (some (relT D)) s.data.toList) s.size e (e + 1) = H by have h5 := hpre2; rw [show nxt i e = e from if_pos hie, show lst la i e = e + 1 from if_pos hie] at h5; exact h5)
            clear t2 heq hst hpre2 hfp hfit hpast hbl htl hrise hpl
            go_wp2_with (first | (refine wpList_load_row rfl 33 (.tmp 5) rfl w.heap.size rfl 33 (eC D a cap) (0, 0) _ HDB.out.box Try.underlying33 rfl doc3.info_er ?_) | (go_at_call 35; go_must (refine (HFP.out).mono ?_; rintro en w2 ⟨rfl, hf2⟩)) | (go_at_call 36; go_must (refine (HBC.out _).mono ?_; rintro en w3 ⟨B2, rfl, hB2, hB2s, hf3⟩; have hB2s' : B2.size ≤ 1001000 := hB2s)))
            all_goals (
              rename_i hm
              have hO2 := HO2.out B2 hB2
              first
              | (have hov := HOV.out _ hO2 (by rw [ByteArray.size_append, ByteArray.size_append, ByteArray.size_extract]; omega)
                 go_ret3
                 exact ⟨by rw [SubAns_no hov]; rfl, (HDB.out.frm.trans hf2).trans hf3⟩)
              | (have HBX := HDB.out.box.frm (hf2.trans hf3) id
                 go_roundw
                 case rel => exact ⟨pre ++ [(i, e)], e, e + 1, _, rfl, by rw [hcl]; rfl, rfl, by go_num, ⟨(HDB.out.frm.trans hf2).trans hf3, HBX, by rw [hO2, dn_snoc, mid_self, List.append_nil], HEQ.out, by rw [dn_snoc]; exact Nat.le_refl _, by omega, by omega⟩⟩
                 case measure => (simp [intOf]) <;> omega))
          · obtain rfl : i = e := by omega
            have HBC := Lib.hid (fun W => HBY.out W ByteArray.empty (mid s.data.toList i i) (by rw [mid_self]; rfl) (by rw [mid_len (by omega)]; omega))
            have t3 : ((i : Int) - (i : Int) == 0) = true := by rw [beq_iff_eq]; omega
            have t4 : decide ((0 : Int) < (i : Int) - (i : Int)) = false := by rw [decide_eq_false_iff_not]; omega
            have t5 : ((i : Int) == (la : Int) - 1) = false := by rw [beq_eq_false_iff_ne]; omega
            have HEQ := Lib.hid (show (pre ++ [(i, i)]) ++ hts (fdR (some (relT D)) s.data.toList) s.size (i + 1) la = H by
              have h5 := hpre2
              rw [show nxt i i = i + 1 from if_neg (Nat.lt_irrefl i), show lst la i i = la from if_neg (Nat.lt_irrefl i)] at h5
              exact h5)
            by_cases hin : i < s.size
            · have t6 : (i : Int) < (s.size : Int) := by omega
              clear t2 heq hst hpre2 hfp hfit hpast hbl htl hrise hpl
              go_wp2_with (first | (refine wpList_load_row rfl 33 (.tmp 5) rfl w.heap.size rfl 33 (eC D a cap) (0, 0) _ HDB.out.box Try.underlying33 rfl doc3.info_er ?_) | (go_at_call 35; go_must (refine (HFP.out).mono ?_; rintro en w2 ⟨rfl, hf2⟩)) | (go_at_call 36; go_must (refine (HBC.out _).mono ?_; rintro en w3 ⟨B2, rfl, hB2, hB2s, hf3⟩; have hB2s' : B2.size ≤ 1001000 := hB2s)))
              all_goals (
                rename_i hm
                have hO2 := HO2.out B2 hB2
                first
                | (have hov := HOV.out _ hO2 (by rw [ByteArray.size_append, ByteArray.size_append, ByteArray.size_extract]; omega)
                   go_ret3
                   exact ⟨by rw [SubAns_no hov]; rfl, (HDB.out.frm.trans hf2).trans hf3⟩)
                | (have HBX := HDB.out.box.frm (hf2.trans hf3) id
                   go_roundw
                   case rel => exact ⟨pre ++ [(i, i)], i + 1, la, _, rfl, by rw [hcl]; rfl, by go_num, rfl, ⟨(HDB.out.frm.trans hf2).trans hf3, HBX, by rw [app_data, hO2, dn_snoc, ext_mid], HEQ.out, by rw [dn_snoc]; omega, by omega, by omega⟩⟩
                   case measure => (simp [intOf]) <;> omega))
            · have t6 : ¬ (i : Int) < (s.size : Int) := by omega
              clear t2 heq hst hpre2 hfp hfit hpast hbl htl hrise hpl
              go_wp2_with (first | (refine wpList_load_row rfl 33 (.tmp 5) rfl w.heap.size rfl 33 (eC D a cap) (0, 0) _ HDB.out.box Try.underlying33 rfl doc3.info_er ?_) | (go_at_call 35; go_must (refine (HFP.out).mono ?_; rintro en w2 ⟨rfl, hf2⟩)) | (go_at_call 36; go_must (refine (HBC.out _).mono ?_; rintro en w3 ⟨B2, rfl, hB2, hB2s, hf3⟩; have hB2s' : B2.size ≤ 1001000 := hB2s)))
              all_goals (
                rename_i hm
                have hO2 := HO2.out B2 hB2
                first
                | (have hov := HOV.out _ hO2 (by rw [ByteArray.size_append, ByteArray.size_append, ByteArray.size_extract]; omega)
                   go_ret3
                   exact ⟨by rw [SubAns_no hov]; rfl, (HDB.out.frm.trans hf2).trans hf3⟩)
                | (have HBX := HDB.out.box.frm (hf2.trans hf3) id
                   go_roundw
                   case rel => exact ⟨pre ++ [(i, i)], i + 1, la, _, rfl, by rw [hcl]; rfl, by go_num, rfl, ⟨(HDB.out.frm.trans hf2).trans hf3, HBX, by rw [hO2, dn_snoc, mid_next _ _ _ (by omega), mid_self, List.append_nil], HEQ.out, by rw [dn_snoc]; omega, by omega, by omega⟩⟩
                   case measure => (simp [intOf]) <;> omega))
        · obtain rfl : i = e := by omega
          rw [if_neg hcnt] at heq
          have t3 : ((i : Int) - (i : Int) == 0) = true := by rw [beq_iff_eq]; omega
          have t5 : ((i : Int) == (la : Int) - 1) = true := by rw [beq_iff_eq]; omega
          have HEQ := Lib.hid (show pre ++ hts (fdR (some (relT D)) s.data.toList) s.size (i + 1) la = H by
            have h5 := heq
            rw [show nxt i i = i + 1 from if_neg (Nat.lt_irrefl i), show lst la i i = la from if_neg (Nat.lt_irrefl i)] at h5
            exact h5)
          clear heq hst hfp hfit hpast hbl htl hrise hpl
          by_cases hin : i < s.size
          · have t6 : (i : Int) < (s.size : Int) := by omega
            go_wp2_with (first | (refine wpList_load_row rfl 33 (.tmp 5) rfl w.heap.size rfl 33 (eC D a cap) (0, 0) _ HDB.out.box Try.underlying33 rfl doc3.info_er ?_) | (go_at_call 35; go_must (refine (HFP.out).mono ?_; rintro en w2 ⟨rfl, hf2⟩)))
            all_goals (
              have HBX := HDB.out.box.frm hf2 id
              go_roundw
              case rel => exact ⟨pre, i + 1, la, _, rfl, rfl, by go_num, rfl, ⟨HDB.out.frm.trans hf2, HBX, by rw [app_data, HO1.out, ext_mid, List.append_assoc, mid_mid (by omega) (by omega)], HEQ.out, by omega, by omega, by omega⟩⟩
              case measure => (simp [intOf]) <;> omega)
          · have t6 : ¬ (i : Int) < (s.size : Int) := by omega
            go_wp2_with (first | (refine wpList_load_row rfl 33 (.tmp 5) rfl w.heap.size rfl 33 (eC D a cap) (0, 0) _ HDB.out.box Try.underlying33 rfl doc3.info_er ?_) | (go_at_call 35; go_must (refine (HFP.out).mono ?_; rintro en w2 ⟨rfl, hf2⟩)))
            all_goals (
              have HBX := HDB.out.box.frm hf2 id
              go_roundw
              case rel => exact ⟨pre, i + 1, la, _, rfl, rfl, by go_num, rfl, ⟨HDB.out.frm.trans hf2, HBX, by rw [HO1.out, mid_next _ _ _ (by omega)], HEQ.out, by omega, by omega, by omega⟩⟩
              case measure => (simp [intOf]) <;> omega)
    · obtain rfl : p = s.size + 1 := by omega
      have hp0 : ¬ ((s.size + 1 : Nat) : Int) ≤ (s.size : Int) := by omega
      have HPRE := Lib.hid (show pre = H by have h5 := HDB.out.eq; rw [hts_none (hpast _ (by omega)), List.append_nil] at h5; exact h5)
      have HWH := Lib.hid (show O.data.toList ++ sx s (s.size + 1) = whl (fun m => byF m repl.data.toList) s.data.toList (Lst true H) by
        rw [HLL.out, ← HPRE.out]
        unfold whl sx
        rw [HDB.out.out, List.append_assoc, mid_drop hle])
      have hp1 : ¬ ((s.size + 1 : Nat) : Int) < (s.size : Int) := by omega
      have HW := Lib.hid (show O.data.toList = whl (fun m => byF m repl.data.toList) s.data.toList (Lst true H) by have h5 := HWH.out; rw [sx_nil s _ (by omega), List.append_nil] at h5; exact h5)
      have hsz2 := Lib.hid (show O.size = (whl (fun m => byF m repl.data.toList) s.data.toList (Lst true H)).length by rw [← size_of HW.out])
      go_wp2
      · rename_i hm
        go_ret3
        exact ⟨by rw [SubAns_no (by rw [← hsz2.out]; omega)]; rfl, HDB.out.frm⟩
      · rename_i hm
        go_ret3
        exact ⟨by rw [SubAns_yes (by rw [← hsz2.out]; omega), ← str_of HW.out, HLL.out, HPRE.out]; rfl, HDB.out.frm⟩
end Go.Proofs.Ytacbpdnpepgngaa.wrd
