/- The law's size. The law MatchTrees. -/
import Derived.Test.YthebpkcifnndnaaDocM
import Derived.Test.YthebpkcifnndnaaEndsM
import Derived.Test.YthebpkcifnndnaaAwake4

namespace Go.Proofs.Ythebpkcifnndnaa.part
set_option linter.unusedVariables false set_option linter.unusedSimpArgs false
open Go.ChangeShapes Go.WideShapes Go.ChangeAt Go.RowKit Go.Proofs.Ythebpkcifnndnaa.base Go.Proofs.Ythebpkcifnndnaa.spec Go.Proofs.Ythebpkcifnndnaa.nfa Go.Proofs.Ythebpkcifnndnaa.set Go.Proofs.Ythebpkcifnndnaa.parts Go.Proofs.Ythebpkcifnndnaa.items

theorem szL_app (l1 l2 : List (Option Nat)) : ∀ n, szL (l1 ++ l2) n = (szL l1 n).bind (szL l2) := by
  induction l1 with
  | nil => intro n; rfl
  | cons x r ih =>
    intro n
    cases x with
    | none => rfl
    | some m =>
      rw [List.cons_append, szL, szL]
      split
      · rfl
      · exact ih _
theorem szL_take {l : List (Option Nat)} {i n m : Nat} (h : szL (l.take i) 0 = some n) (hi : l[i]? = some (some m)) (hm : n + m ≤ 2000) : szL (l.take (i + 1)) 0 = some (n + m) := by
  rw [List.take_add_one, hi, szL_app, h, Option.bind_some]
  show szL [some m] n = _
  rw [szL, if_neg (by omega), szL]
theorem szL_fail {l : List (Option Nat)} {i n : Nat} {x : Option Nat} (h : szL (l.take i) 0 = some n) (hi : l[i]? = some x) (hx : ∀ m, x = some m → 2000 < n + m) : szL l 0 = none := by
  obtain ⟨hlt, hxi⟩ := List.getElem?_eq_some_iff.1 hi
  rw [← List.take_append_drop i l, szL_app, h, Option.bind_some, List.drop_eq_getElem_cons hlt, hxi]
  cases x with
  | none => rfl
  | some m => rw [szL, if_pos (hx m rfl)]
theorem szNode_fail {op : ByteArray} {lo hi : Int} {l : List (Option Nat)} (h : szL l 0 = none) (hl : l.length ≠ 0) : szNode op lo hi l = none := by
  unfold szNode
  rw [h, if_neg hl]
  simp only [Option.bind_none, ite_self]
theorem szK_nth {f : Forest} {k : Nat} {t : T} (h : nthF f k = some t) : (szK f)[k]? = some (szT t) := by
  induction f generalizing k with
  | nil => cases h
  | cons op set lo hi kk r _ ih =>
    cases k with
    | zero => cases h; rfl
    | succ k =>
      simp only [szK, List.getElem?_cons_succ]
      exact ih h
theorem szK_len2 (f : Forest) : (szK f).length = f.len := by
  induction f with
  | nil => rfl
  | cons op set lo hi k r _ ih => simp only [szK, List.length_cons, ih, Forest.len]
theorem szT_leaf {t : T} (h : t.op = setW ∨ t.op = bolW ∨ t.op = eolW) : szT t = if t.kids.len = 0 then some 1 else none := by
  unfold szT szNode
  rw [if_pos h, szK_len2]
theorem szT_cat {t : T} (h : t.op = catW) : szT t = szL (szK t.kids) 0 := by
  unfold szT szNode
  rw [if_neg (by rw [h]; decide), if_pos h]
theorem szT_alt {t : T} (h : t.op = altW) : szT t = if t.kids.len = 0 then none else (szL (szK t.kids) 0).bind fun n => if 2000 < n + 1 then none else some (n + 1) := by
  unfold szT szNode
  rw [if_neg (by rw [h]; decide), if_neg (by rw [h]; decide), if_pos h, szK_len2]
theorem szT_rep {t : T} (h : t.op = repW) : szT t = if t.kids.len ≠ 1 ∨ bounds t.lo t.hi = false then none else (szL (szK t.kids) 0).bind fun n => if 2000 < repN t.lo t.hi n then none else some (repN t.lo t.hi n) := by
  unfold szT szNode
  rw [if_neg (by rw [h]; decide), if_neg (by rw [h]; decide), if_neg (by rw [h]; decide), if_pos h, szK_len2]
theorem szT_other {t : T} (h1 : t.op ≠ setW) (h2 : t.op ≠ bolW) (h3 : t.op ≠ eolW) (h4 : t.op ≠ catW) (h5 : t.op ≠ altW) (h6 : t.op ≠ repW) : szT t = none := by
  unfold szT szNode
  rw [if_neg (fun h => h.elim h1 (fun h => h.elim h2 h3)), if_neg h4, if_neg h5, if_neg h6]

def SizePost (w : World) (t : T) (en : Ending) (w' : World) : Prop := ∃ (n : Nat) (ok : Bool), en = .returned (.tuple #[.int .i64 (n : Int), .bool ok]) ∧ n ≤ 1000000 ∧ szT t = (if ok then some n else none) ∧ Frm No w w'
/-- The loop over the kids, and what is done with their sum. -/
theorem rep_wrap {lo hi : Int} {n : Nat} (hb : bounds lo hi = true) (hn : n ≤ 2000) : repN lo hi n ≤ 600000 := by
  have h := times_le hb
  have e : repN lo hi n = n * (timesI lo hi).toNat + 1 := rfl
  have h2 : n * (timesI lo hi).toNat ≤ 2000 * 256 := Nat.mul_le_mul hn (by omega)
  omega
set_option maxRecDepth 20000 in
set_option maxHeartbeats 8000000 in
theorem size_all (N : Nat) : ∀ (t : T) (w : World) (C : Array Value), nd t ≤ N → TAV w C t → LnT t → Calls Try.prog 28 #[.agg C] w (SizePost w t) := by
  induction N with
  | zero =>
    intro t w C hn
    unfold nd at hn
    omega
  | succ N ih =>
    rintro t w C hn ⟨a, cap, rfl, hk⟩ hln
    have hfs : fsz t.kids ≤ N := by unfold nd at hn; omega
    have hll : (t.kids.len : Int) ≤ 9223372036854775807 := by have := hln.1; omega
    have HLN := Lib.hid hln.2
    have HK := Lib.hid hk
    have HNN := Lib.hid hfs
    have HIH := Lib.hid ih
    have HBX := Lib.hid (Box.new w 26 #[.string t.op, .string t.set, .slice a t.kids.len cap, .int .i64 t.lo, .int .i64 t.hi])
    clear hn hk hln ih hfs
    go_enter Try.func28, Try.ntmps28
    go_wp2
    go_loopw [4, 12] (fun nv iv wr => ∃ (i n : Nat), i ≤ t.kids.len ∧ iv = .int .i64 (i : Int) ∧ nv = .int .i64 (n : Int) ∧ Hid (szL ((szK t.kids).take i) 0 = some n) ∧ n ≤ 2000 ∧ Hid (Box wr w.heap.size 26 #[.string t.op, .string t.set, .slice a t.kids.len cap, .int .i64 t.lo, .int .i64 t.hi]) ∧ Frm No w wr) (fun _ iv _ => t.kids.len - (intOf iv).toNat)
    case atStart => exact ⟨0, 0, by omega, rfl, rfl, Lib.hid (by rw [List.take_zero, szL]), by omega, HBX, (Frm.refl _ w).alloc _⟩
    case round =>
      obtain ⟨i, n, hi, rfl, rfl, HN, hn2, HB, hf⟩ := hrel
      have HF := Lib.hid hf
      clear hf
      by_cases hlt : i < t.kids.len
      · have h0 : (0 : Int) ≤ (i : Int) := by omega
        have h2 : (i : Int) < (t.kids.len : Int) := by omega
        obtain ⟨tk, htk⟩ := nthF_some hlt
        have HTK := Lib.hid htk
        have hK2 := HK.out.move HF.out
        rcases hK2 with hnil | ⟨g, o, rfl, hta⟩
        · rw [hnil] at hlt; cases hlt
        · obtain ⟨q3, q4, q5, q6, ak, ck, q7, htkk⟩ := hta.nth htk
          have HKK := Lib.hid htkk
          clear hta htkk htk
          have hf1 := (Frm.refl No wr).alloc (.cells #[.string tk.op, .string tk.set, .slice ak tk.kids.len ck, .int .i64 tk.lo, .int .i64 tk.hi] 26)
          have HF1 := Lib.hid hf1
          clear hf1
          have HC := Lib.hid (HIH.out tk (wr.alloc (.cells #[.string tk.op, .string tk.set, .slice ak tk.kids.len ck, .int .i64 tk.lo, .int .i64 tk.hi] 26)) #[.string tk.op, .string tk.set, .slice ak tk.kids.len ck, .int .i64 tk.lo, .int .i64 tk.hi] (Nat.le_trans (nthF_nd HTK.out) HNN.out) ⟨ak, ck, rfl, HKK.out.move HF1.out⟩ (HLN.out.nth HTK.out))
          have HLL := Lib.hid (show (szK t.kids).length ≠ 0 by rw [szK_len2]; omega)
          go_upto_region 6 with ((go_at_call 28; go_must (refine HC.out.mono ?_; rintro en w2 ⟨m, ok, rfl, hm, hmn, hf2⟩)))
          have HMN := Lib.hid hmn
          have HF2 := Lib.hid ((HF.out.trans HF1.out).trans hf2)
          have HB2 := Lib.hid ((HB.out.frm HF1.out id).frm hf2 id)
          clear hmn hf2
          have HNTH := Lib.hid (szK_nth HTK.out)
          cases ok with
          | false =>
            go_wp2
            go_ret2
            exact ⟨0, false, rfl, by omega, szNode_fail (szL_fail HN.out HNTH.out (fun m' e => by rw [HMN.out] at e; cases e)) HLL.out, HF2.out⟩
          | true =>
            by_cases hgt : 2000 < n + m
            · have h3 : (2000 : Int) < (n : Int) + (m : Int) := by omega
              go_wp2
              go_ret2
              exact ⟨0, false, rfl, by omega, szNode_fail (szL_fail HN.out HNTH.out (fun m' e => by rw [HMN.out] at e; cases e; omega)) HLL.out, HF2.out⟩
            · have h3 : (n : Int) + (m : Int) ≤ 2000 := by omega
              go_wp2
              exact ⟨⟨i + 1, n + m, by omega, by go_num, by go_num, Lib.hid (szL_take HN.out (HNTH.out.trans (congrArg some HMN.out)) (by omega)), by omega, HB2, HF2.out⟩, by simp [intOf]; omega⟩
      · obtain rfl : i = t.kids.len := by omega
        have HS := Lib.hid (show szL (szK t.kids) 0 = some n from by
          have := HN.out
          rw [List.take_of_length_le (by rw [szK_len2]; exact Nat.le_refl _)] at this
          exact this)
        have c0 : wr.cell? ⟨w.heap.size, 0, none⟩ = some (.string t.op) := HB.out.cell 0
        have c2 : wr.cell? ⟨w.heap.size, 2, none⟩ = some (.slice a t.kids.len cap) := HB.out.cell 2
        have c3 : wr.cell? ⟨w.heap.size, 3, none⟩ = some (.int .i64 t.lo) := HB.out.cell 3
        have c4 : wr.cell? ⟨w.heap.size, 4, none⟩ = some (.int .i64 t.hi) := HB.out.cell 4
        clear hlt hi
        by_cases hop : t.op = setW
        · have h_set : (t.op.toList == [115, 101, 116]) = true := by rw [hop]; decide +kernel
          have HSZ := Lib.hid (szT_leaf (Or.inl hop))
          clear hop
          by_cases hk0 : t.kids.len = 0
          · have h9 : ((t.kids.len : Int) == 0) = true := by rw [hk0]; rfl
            have HK0 := Lib.hid hk0
            clear hk0
            go_wp2
            go_quiet (fail)
            go_wp2
            go_ret2
            exact ⟨1, true, rfl, by omega, by rw [HSZ.out, if_pos HK0.out]; rfl, HF.out.drewN _⟩
          · have h9 : ((t.kids.len : Int) == 0) = false := by rw [beq_eq_false_iff_ne]; omega
            have HK0 := Lib.hid hk0
            clear hk0
            go_wp2
            go_quiet (fail)
            go_wp2
            go_ret2
            exact ⟨1, false, rfl, by omega, by rw [HSZ.out, if_neg HK0.out]; rfl, HF.out.drewN _⟩
        have n_set : (t.op.toList == [115, 101, 116]) = false := str_ne (l := [115, 101, 116]) hop
        have N_set := Lib.hid hop
        clear hop
        by_cases hop : t.op = bolW
        · have h_set : (t.op.toList == [115, 101, 116]) = false := by rw [hop]; decide +kernel
          have h_bol : (t.op.toList == [98, 111, 108]) = true := by rw [hop]; decide +kernel
          have HSZ := Lib.hid (szT_leaf (Or.inr (Or.inl hop)))
          clear hop
          by_cases hk0 : t.kids.len = 0
          · have h9 : ((t.kids.len : Int) == 0) = true := by rw [hk0]; rfl
            have HK0 := Lib.hid hk0
            clear hk0
            go_wp2
            go_quiet (fail)
            go_wp2
            go_ret2
            exact ⟨1, true, rfl, by omega, by rw [HSZ.out, if_pos HK0.out]; rfl, HF.out.drewN _⟩
          · have h9 : ((t.kids.len : Int) == 0) = false := by rw [beq_eq_false_iff_ne]; omega
            have HK0 := Lib.hid hk0
            clear hk0
            go_wp2
            go_quiet (fail)
            go_wp2
            go_ret2
            exact ⟨1, false, rfl, by omega, by rw [HSZ.out, if_neg HK0.out]; rfl, HF.out.drewN _⟩
        have n_bol : (t.op.toList == [98, 111, 108]) = false := str_ne (l := [98, 111, 108]) hop
        have N_bol := Lib.hid hop
        clear hop
        by_cases hop : t.op = eolW
        · have h_set : (t.op.toList == [115, 101, 116]) = false := by rw [hop]; decide +kernel
          have h_bol : (t.op.toList == [98, 111, 108]) = false := by rw [hop]; decide +kernel
          have h_eol : (t.op.toList == [101, 111, 108]) = true := by rw [hop]; decide +kernel
          have HSZ := Lib.hid (szT_leaf (Or.inr (Or.inr hop)))
          clear hop
          by_cases hk0 : t.kids.len = 0
          · have h9 : ((t.kids.len : Int) == 0) = true := by rw [hk0]; rfl
            have HK0 := Lib.hid hk0
            clear hk0
            go_wp2
            go_quiet (fail)
            go_wp2
            go_ret2
            exact ⟨1, true, rfl, by omega, by rw [HSZ.out, if_pos HK0.out]; rfl, HF.out.drewN _⟩
          · have h9 : ((t.kids.len : Int) == 0) = false := by rw [beq_eq_false_iff_ne]; omega
            have HK0 := Lib.hid hk0
            clear hk0
            go_wp2
            go_quiet (fail)
            go_wp2
            go_ret2
            exact ⟨1, false, rfl, by omega, by rw [HSZ.out, if_neg HK0.out]; rfl, HF.out.drewN _⟩
        have n_eol : (t.op.toList == [101, 111, 108]) = false := str_ne (l := [101, 111, 108]) hop
        have N_eol := Lib.hid hop
        clear hop
        by_cases hop : t.op = catW
        · have h_set : (t.op.toList == [115, 101, 116]) = false := by rw [hop]; decide +kernel
          have h_bol : (t.op.toList == [98, 111, 108]) = false := by rw [hop]; decide +kernel
          have h_eol : (t.op.toList == [101, 111, 108]) = false := by rw [hop]; decide +kernel
          have h_cat : (t.op.toList == [99, 97, 116]) = true := by rw [hop]; decide +kernel
          have HSZ := Lib.hid (szT_cat hop)
          clear hop
          have h9 : (n : Int) ≤ 2000 := by omega
          go_wp2
          go_ret2
          exact ⟨n, true, rfl, by omega, by rw [HSZ.out, HS.out]; rfl, HF.out⟩
        have n_cat : (t.op.toList == [99, 97, 116]) = false := str_ne (l := [99, 97, 116]) hop
        have N_cat := Lib.hid hop
        clear hop
        by_cases hop : t.op = altW
        · have h_set : (t.op.toList == [115, 101, 116]) = false := by rw [hop]; decide +kernel
          have h_bol : (t.op.toList == [98, 111, 108]) = false := by rw [hop]; decide +kernel
          have h_eol : (t.op.toList == [101, 111, 108]) = false := by rw [hop]; decide +kernel
          have h_cat : (t.op.toList == [99, 97, 116]) = false := by rw [hop]; decide +kernel
          have h_alt : (t.op.toList == [97, 108, 116]) = true := by rw [hop]; decide +kernel
          have HSZ := Lib.hid (szT_alt hop)
          clear hop
          by_cases hk0 : t.kids.len = 0
          · have h9 : ((t.kids.len : Int) == 0) = true := by rw [hk0]; rfl
            have HK0 := Lib.hid hk0
            clear hk0
            go_wp2
            go_ret2
            exact ⟨0, false, rfl, by omega, by rw [HSZ.out, if_pos HK0.out]; rfl, HF.out⟩
          · have h9 : ((t.kids.len : Int) == 0) = false := by rw [beq_eq_false_iff_ne]; omega
            have HK0 := Lib.hid hk0
            clear hk0
            by_cases hgt : 2000 < n + 1
            · have h8 : ¬ ((n : Int) + 1 ≤ 2000) := by omega
              go_wp2
              go_ret2
              exact ⟨n + 1, false, by go_num, by omega, by rw [HSZ.out, if_neg HK0.out, HS.out, Option.bind_some, if_pos hgt]; rfl, HF.out⟩
            · have h8 : (n : Int) + 1 ≤ 2000 := by omega
              go_wp2
              go_ret2
              exact ⟨n + 1, true, by go_num, by omega, by rw [HSZ.out, if_neg HK0.out, HS.out, Option.bind_some, if_neg hgt]; rfl, HF.out⟩
        have n_alt : (t.op.toList == [97, 108, 116]) = false := str_ne (l := [97, 108, 116]) hop
        have N_alt := Lib.hid hop
        clear hop
        by_cases hop : t.op = repW
        · have h_set : (t.op.toList == [115, 101, 116]) = false := by rw [hop]; decide +kernel
          have h_bol : (t.op.toList == [98, 111, 108]) = false := by rw [hop]; decide +kernel
          have h_eol : (t.op.toList == [101, 111, 108]) = false := by rw [hop]; decide +kernel
          have h_cat : (t.op.toList == [99, 97, 116]) = false := by rw [hop]; decide +kernel
          have h_alt : (t.op.toList == [97, 108, 116]) = false := by rw [hop]; decide +kernel
          have h_rep : (t.op.toList == [114, 101, 112]) = true := by rw [hop]; decide +kernel
          have HSZ := Lib.hid (szT_rep hop)
          clear hop
          by_cases hk1 : t.kids.len = 1
          · have h9 : (t.kids.len : Int) = 1 := by rw [hk1]; rfl
            have HK1 := Lib.hid hk1
            clear hk1
            by_cases hb : bounds t.lo t.hi = true
            · have HBD := Lib.hid hb
              obtain ⟨_, _, hlo1, hlo2⟩ := times_le hb
              have hb2 := hb
              unfold bounds at hb2
              simp only [Bool.and_eq_true, Bool.or_eq_true, decide_eq_true_eq] at hb2
              have hhi := hb2.2
              have HV := Lib.hid (rep_wrap hb hn2)
              have HSR : szT t = if 2000 < repN t.lo t.hi n then none else some (repN t.lo t.hi n) := by
                rw [HSZ.out, if_neg (by rw [HK1.out, hb]; simp), HS.out, Option.bind_some]
              have HSR := Lib.hid HSR
              have HRI := Lib.hid (rep_int (m := n) hb)
              clear hb hb2
              by_cases hneg : t.hi < 0
              · have hhi1 : -1 ≤ t.hi := by omega
                have hhi2 : t.hi ≤ 255 := by omega
                have HE := Lib.hid (show (n : Int) * (t.lo + 1) + 1 = (repN t.lo t.hi n : Nat) from by
                  have := HRI.out
                  unfold timesI at this
                  rw [if_pos (by omega)] at this
                  exact this)
                clear hhi
                go_upto_region 27 with fail
                have hE := HE.out
                have hV := HV.out
                have e : wrap64 (wrap64 ((n : Int) * (t.lo + 1)) + 1) = ((repN t.lo t.hi n : Nat) : Int) := by
                  generalize (n : Int) * (t.lo + 1) = P at hE
                  rw [IntWalk.wrap64_in P ⟨by omega, by omega⟩, IntWalk.wrap64_in _ ⟨by omega, by omega⟩, hE]
                rw [e]
                clear e hE hV HE HRI
                generalize repN t.lo t.hi n = R at HSR HV ⊢
                by_cases hgt : 2000 < R
                · have h8 : ¬ ((R : Int) ≤ 2000) := by omega
                  have HG := Lib.hid hgt
                  clear hgt
                  go_wp2
                  go_ret2
                  exact ⟨R, false, rfl, by have := HV.out; omega, by rw [HSR.out, if_pos HG.out]; rfl, HF.out⟩
                · have h8 : (R : Int) ≤ 2000 := by omega
                  have HG := Lib.hid hgt
                  clear hgt
                  go_wp2
                  go_ret2
                  exact ⟨R, true, rfl, by have := HV.out; omega, by rw [HSR.out, if_neg HG.out]; rfl, HF.out⟩
              · have hhi1 : 0 ≤ t.hi := by omega
                have hhi2 : t.hi ≤ 255 := by omega
                have hhi3 : t.lo ≤ t.hi := by omega
                have HE := Lib.hid (show (n : Int) * max 1 t.hi + 1 = (repN t.lo t.hi n : Nat) from by
                  have := HRI.out
                  unfold timesI at this
                  rw [if_neg (by omega)] at this
                  exact this)
                clear hhi hneg
                go_upto_region 27 with fail
                have hE := HE.out
                have hV := HV.out
                have e : wrap64 (wrap64 ((n : Int) * max 1 t.hi) + 1) = ((repN t.lo t.hi n : Nat) : Int) := by
                  generalize (n : Int) * max 1 t.hi = P at hE
                  rw [IntWalk.wrap64_in P ⟨by omega, by omega⟩, IntWalk.wrap64_in _ ⟨by omega, by omega⟩, hE]
                rw [e]
                clear e hE hV HE HRI
                generalize repN t.lo t.hi n = R at HSR HV ⊢
                by_cases hgt : 2000 < R
                · have h8 : ¬ ((R : Int) ≤ 2000) := by omega
                  have HG := Lib.hid hgt
                  clear hgt
                  go_wp2
                  go_ret2
                  exact ⟨R, false, rfl, by have := HV.out; omega, by rw [HSR.out, if_pos HG.out]; rfl, HF.out⟩
                · have h8 : (R : Int) ≤ 2000 := by omega
                  have HG := Lib.hid hgt
                  clear hgt
                  go_wp2
                  go_ret2
                  exact ⟨R, true, rfl, by have := HV.out; omega, by rw [HSR.out, if_neg HG.out]; rfl, HF.out⟩
            · have HNB : szT t = none := by
                rw [HSZ.out, if_pos (Or.inr (by simpa using hb))]
              have HNB := Lib.hid HNB
              have hb2 : t.lo < 0 ∨ 255 < t.lo ∨ t.hi < -1 ∨ 255 < t.hi ∨ (0 ≤ t.hi ∧ t.hi < t.lo) := by
                unfold bounds at hb
                simp only [Bool.and_eq_true, Bool.or_eq_true, decide_eq_true_eq] at hb
                omega
              clear hb
              have hcase : t.lo < 0 ∨ (0 ≤ t.lo ∧ 255 < t.lo) ∨ (0 ≤ t.lo ∧ t.lo ≤ 255 ∧ t.hi < -1) ∨ (0 ≤ t.lo ∧ t.lo ≤ 255 ∧ -1 ≤ t.hi ∧ 255 < t.hi) ∨ (0 ≤ t.lo ∧ t.lo ≤ 255 ∧ -1 ≤ t.hi ∧ t.hi ≤ 255 ∧ 0 ≤ t.hi ∧ t.hi < t.lo) := by omega
              clear hb2
              rcases hcase with k1 | ⟨k1, k2⟩ | ⟨k1, k2, k3⟩ | ⟨k1, k2, k3, k4⟩ | ⟨k1, k2, k3, k4, k5, k6⟩
              all_goals
                go_wp2
                go_ret2
                exact ⟨0, false, rfl, by omega, HNB.out, HF.out⟩
          · have h9 : ¬ (t.kids.len : Int) = 1 := by omega
            have HK1 := Lib.hid hk1
            clear hk1
            go_wp2
            go_ret2
            exact ⟨0, false, rfl, by omega, by rw [HSZ.out, if_pos (Or.inl HK1.out)]; rfl, HF.out⟩
        have n_rep : (t.op.toList == [114, 101, 112]) = false := str_ne (l := [114, 101, 112]) hop
        have N_rep := Lib.hid hop
        clear hop
        go_wp2
        go_ret2
        exact ⟨0, false, rfl, by omega, szT_other N_set.out N_bol.out N_eol.out N_cat.out N_alt.out N_rep.out, HF.out⟩
end Go.Proofs.Ythebpkcifnndnaa.part

namespace Go.Proofs.Ythebpkcifnndnaa.part
set_option linter.unusedVariables false set_option linter.unusedSimpArgs false
open Go.ChangeShapes Go.WideShapes Go.ChangeAt Go.RowKit Go.Proofs.Ythebpkcifnndnaa.base Go.Proofs.Ythebpkcifnndnaa.spec Go.Proofs.Ythebpkcifnndnaa.nfa Go.Proofs.Ythebpkcifnndnaa.set Go.Proofs.Ythebpkcifnndnaa.parts Go.Proofs.Ythebpkcifnndnaa.items

theorem size_some {w w' : World} {t : T} {en : Ending} (h : SizePost w t en w') : ∃ (n : Nat), en = .returned (.tuple #[.int .i64 (n : Int), .bool (szT t).isSome]) ∧ Frm No w w' := by
  obtain ⟨n, ok, rfl, _, h2, hf⟩ := h
  refine ⟨n, ?_, hf⟩
  rw [h2]
  cases ok <;> rfl
set_option maxHeartbeats 2000000 in
theorem right_all (w : World) (t : T) (C : Array Value) (hC : TAV w C t) (hl : LnT t) (b : Bool) (hb : (szT t).isSome = b) :
    Calls Try.prog 17 #[.agg C] w fun en w' => en = .returned (.bool b) ∧ Frm No w w' := by
  obtain ⟨a, cap, rfl, hk⟩ := hC
  have HF1 := Lib.hid ((Frm.refl No w).alloc (.cells #[.string t.op, .string t.set, .slice a t.kids.len cap, .int .i64 t.lo, .int .i64 t.hi] 26))
  have HS := Lib.hid ((size_all (nd t) t _ #[.string t.op, .string t.set, .slice a t.kids.len cap, .int .i64 t.lo, .int .i64 t.hi] (Nat.le_refl _) ⟨a, cap, rfl, hk.move HF1.out⟩ hl).mono (R' := fun en w' => ∃ (n : Nat), en = .returned (.tuple #[.int .i64 (n : Int), .bool b]) ∧ Frm No (w.alloc (.cells #[.string t.op, .string t.set, .slice a t.kids.len cap, .int .i64 t.lo, .int .i64 t.hi] 26)) w') (fun en w' h => hb ▸ size_some h))
  clear hk hl hb
  go_enter Try.func17, Try.ntmps17
  go_wp2_with ((go_at_call 28; go_must (refine HS.out.mono ?_; rintro en w2 ⟨n, rfl, hf2⟩)))
  go_ret
  exact ⟨rfl, HF1.out.trans hf2⟩
theorem mp_whole (w : World) (v : Value) (R : Rel) (s : ByteArray) (h : MP w v (some R)) (hz : s.size ≤ 1000000) :
    Calls Try.prog 14 #[v, .string s] w fun en w' => ∃ r : Bool, en = .returned (.bool r) ∧ (r = true ↔ R s.data.toList 0 s.size) ∧ Frm No w w' := by
  obtain ⟨MB, M, f, em, SB, cap, rfl, h2, h3, h4⟩ := h
  refine (whole_all w MB M f em SB cap s h2 h3 hz).mono ?_
  rintro en w' ⟨r, rfl, hr, hf⟩
  exact ⟨r, rfl, hr.trans (h4 _ _ _), hf⟩
theorem two_bools {r q : Bool} {P : Prop} (h : r = true ↔ P) (k : q = true ↔ P) : r = q := by
  cases r <;> cases q <;> simp_all
section
variable (w : World) (t : T) (a : Option Addr) (cap : Nat) (s : ByteArray)
def TreesPost (w : World) (e : Ending) (w' : World) : Prop := e = .returned (.bool true) ∧ Frm No w w'

set_option maxRecDepth 20000 in
set_option maxHeartbeats 4000000 in
theorem trees_big (hm : Mx w) (hk : TK w t.kids a) (hl : LnT t) (hbig : 300 < nd t ∨ 30 < s.size) :
    Calls Try.prog 5 #[.agg #[.string t.op, .string t.set, .slice a t.kids.len cap, .int .i64 t.lo, .int .i64 t.hi], .string s] w (TreesPost w) := by
  have HF1 := Lib.hid ((Frm.refl No w).alloc (.cells #[.string t.op, .string t.set, .slice a t.kids.len cap, .int .i64 t.lo, .int .i64 t.hi] 26))
  have HA := Lib.hid (awake_all (w.alloc (.cells #[.string t.op, .string t.set, .slice a t.kids.len cap, .int .i64 t.lo, .int .i64 t.hi] 26)) (hm.frm HF1.out id))
  have HB := Lib.hid (Box.new w 26 #[.string t.op, .string t.set, .slice a t.kids.len cap, .int .i64 t.lo, .int .i64 t.hi])
  have HND := Lib.hid (show ∀ w', Frm No w w' → Calls Try.prog 16 #[.agg #[.string t.op, .string t.set, .slice a t.kids.len cap, .int .i64 t.lo, .int .i64 t.hi], .int .i64 0] w' (NodesPost w' t) from fun w' hf => nodes_all 101 t w' _ 0 rfl ⟨a, cap, rfl, hk.move hf⟩ hl)
  clear hm hk hl
  by_cases h30 : 30 < s.size
  · have h30' : (30 : Int) < (s.size : Int) := by omega
    clear hbig
    go_enter Try.func5, Try.ntmps5
    go_wp2_with (first | (go_at_call 16; go_must (refine (HND.out w1 (HF1.out.trans hf1)).mono ?_; rintro en w2 ⟨n, rfl, hn, _, hf2⟩)) | (go_at_call 8; go_must (refine HA.out.mono ?_; rintro en w1 ⟨rfl, hf1⟩; have HB1 := Lib.hid (HB.out.frm hf1 id); have c0 := HB1.out.cell 0; have c1 := HB1.out.cell 1; have c2 := HB1.out.cell 2; have c3 := HB1.out.cell 3; have c4 := HB1.out.cell 4)))
    all_goals
      go_ret
      exact ⟨rfl, (HF1.out.trans hf1).trans hf2⟩
  · have HNB := Lib.hid (show 300 < nd t by omega)
    clear hbig
    go_enter Try.func5, Try.ntmps5
    go_wp2_with (first | (go_at_call 16; go_must (refine (HND.out w1 (HF1.out.trans hf1)).mono ?_; rintro en w2 ⟨n, rfl, hn, hnn, hf2⟩; have h301 : (300 : Int) < (n : Int) := (by have := HNB.out; omega); clear hnn)) | (go_at_call 8; go_must (refine HA.out.mono ?_; rintro en w1 ⟨rfl, hf1⟩; have HB1 := Lib.hid (HB.out.frm hf1 id); have c0 := HB1.out.cell 0; have c1 := HB1.out.cell 1; have c2 := HB1.out.cell 2; have c3 := HB1.out.cell 3; have c4 := HB1.out.cell 4)))
    go_ret
    exact ⟨rfl, (HF1.out.trans hf1).trans hf2⟩

set_option maxRecDepth 20000 in
set_option maxHeartbeats 8000000 in
theorem trees_nil (hm : Mx w) (hk : TK w t.kids a) (hs : SzT t) (hl : LnT t) (hnd : nd t ≤ 300) (hz : s.size ≤ 30) (hrd : rdT t 0 = none) :
    Calls Try.prog 5 #[.agg #[.string t.op, .string t.set, .slice a t.kids.len cap, .int .i64 t.lo, .int .i64 t.hi], .string s] w (TreesPost w) := by
  have HF1 := Lib.hid ((Frm.refl No w).alloc (.cells #[.string t.op, .string t.set, .slice a t.kids.len cap, .int .i64 t.lo, .int .i64 t.hi] 26))
  have HA := Lib.hid (awake_all (w.alloc (.cells #[.string t.op, .string t.set, .slice a t.kids.len cap, .int .i64 t.lo, .int .i64 t.hi] 26)) (hm.frm HF1.out id))
  have HB := Lib.hid (Box.new w 26 #[.string t.op, .string t.set, .slice a t.kids.len cap, .int .i64 t.lo, .int .i64 t.hi])
  have HND := Lib.hid (show ∀ w', Frm No w w' → Calls Try.prog 16 #[.agg #[.string t.op, .string t.set, .slice a t.kids.len cap, .int .i64 t.lo, .int .i64 t.hi], .int .i64 0] w' (NodesPost w' t) from fun w' hf => nodes_all 101 t w' _ 0 rfl ⟨a, cap, rfl, hk.move hf⟩ hl)
  have hrs := rdT_sz (t := t) (by omega)
  rw [hrd] at hrs
  have HNW := Lib.hid (show ∀ w', Frm No w w' → Calls Try.prog 11 #[.agg #[.string t.op, .string t.set, .slice a t.kids.len cap, .int .i64 t.lo, .int .i64 t.hi]] w' (fun en w'' => en = .returned (.pointer none) ∧ Frm No w' w'') from fun w' hf => (new_all t w' _ (by omega) hs ⟨a, cap, rfl, hk.move hf⟩).mono (fun en w'' h => by
    obtain ⟨h1, h2⟩ := h
    rw [hrd] at h2
    exact ⟨h2, h1⟩))
  have HR := Lib.hid (show ∀ w', Frm No w w' → Calls Try.prog 17 #[.agg #[.string t.op, .string t.set, .slice a t.kids.len cap, .int .i64 t.lo, .int .i64 t.hi]] w' (fun en w'' => en = .returned (.bool false) ∧ Frm No w' w'') from fun w' hf => right_all w' t _ ⟨a, cap, rfl, hk.move hf⟩ hl false hrs.symm)
  have h30 : (s.size : Int) ≤ 30 := by omega
  clear hm hk hl hs hrd hrs hnd hz
  go_enter Try.func5, Try.ntmps5
  go_wp2_with (first | (go_at_call 17; go_must (refine (HR.out w3 HFC.out).mono ?_; rintro en w4 ⟨rfl, hf4⟩; have HFD := Lib.hid (HFC.out.trans hf4); have HB4 := Lib.hid (HB3.out.frm hf4 id); have e0 := HB4.out.cell 0; have e1 := HB4.out.cell 1; have e2 := HB4.out.cell 2; have e3 := HB4.out.cell 3; have e4 := HB4.out.cell 4; clear hf4)) | (go_at_call 11; go_must (refine (HNW.out w2 HFB.out).mono ?_; rintro en w3 ⟨rfl, hf3⟩; have HFC := Lib.hid (HFB.out.trans hf3); have HB3 := Lib.hid (HB2.out.frm hf3 id); have d0 := HB3.out.cell 0; have d1 := HB3.out.cell 1; have d2 := HB3.out.cell 2; have d3 := HB3.out.cell 3; have d4 := HB3.out.cell 4; clear hf3)) | (go_at_call 16; go_must (refine (HND.out w1 HFA.out).mono ?_; rintro en w2 ⟨n, rfl, hn, _, hf2⟩; have HFB := Lib.hid (HFA.out.trans hf2); have HB2 := Lib.hid (HB1.out.frm hf2 id); have c0 := HB2.out.cell 0; have c1 := HB2.out.cell 1; have c2 := HB2.out.cell 2; have c3 := HB2.out.cell 3; have c4 := HB2.out.cell 4; clear hf2)) | (go_at_call 8; go_must (refine HA.out.mono ?_; rintro en w1 ⟨rfl, hf1⟩; have HFA := Lib.hid (HF1.out.trans hf1); have HB1 := Lib.hid (HB.out.frm hf1 id); have b0 := HB1.out.cell 0; have b1 := HB1.out.cell 1; have b2 := HB1.out.cell 2; have b3 := HB1.out.cell 3; have b4 := HB1.out.cell 4; clear hf1)) | (go_at_call 12; go_must (refine (find_nil _ s 0).mono ?_; rintro en w5 ⟨rfl, rfl⟩)) | (go_at_call 14; go_must (refine (whole_nil _ s).mono ?_; rintro en w6 ⟨rfl, rfl⟩)))
  · go_ret
    exact ⟨rfl, HFD.out⟩
  · go_ret
    exact ⟨rfl, HFB.out⟩

set_option maxRecDepth 20000 in
set_option maxHeartbeats 8000000 in
theorem trees_some (hm : Mx w) (hk : TK w t.kids a) (hs : SzT t) (hl : LnT t) (hnd : nd t ≤ 300) (hz : s.size ≤ 30) (x : T × Nat) (hrd : rdT t 0 = some x) :
    Calls Try.prog 5 #[.agg #[.string t.op, .string t.set, .slice a t.kids.len cap, .int .i64 t.lo, .int .i64 t.hi], .string s] w (TreesPost w) := by
  have HF1 := Lib.hid ((Frm.refl No w).alloc (.cells #[.string t.op, .string t.set, .slice a t.kids.len cap, .int .i64 t.lo, .int .i64 t.hi] 26))
  have HA := Lib.hid (awake_all (w.alloc (.cells #[.string t.op, .string t.set, .slice a t.kids.len cap, .int .i64 t.lo, .int .i64 t.hi] 26)) (hm.frm HF1.out id))
  have HB := Lib.hid (Box.new w 26 #[.string t.op, .string t.set, .slice a t.kids.len cap, .int .i64 t.lo, .int .i64 t.hi])
  have HND := Lib.hid (show ∀ w', Frm No w w' → Calls Try.prog 16 #[.agg #[.string t.op, .string t.set, .slice a t.kids.len cap, .int .i64 t.lo, .int .i64 t.hi], .int .i64 0] w' (NodesPost w' t) from fun w' hf => nodes_all 101 t w' _ 0 rfl ⟨a, cap, rfl, hk.move hf⟩ hl)
  have hrs := rdT_sz (t := t) (by omega)
  rw [hrd] at hrs
  have HNW := Lib.hid (show ∀ w', Frm No w w' → Calls Try.prog 11 #[.agg #[.string t.op, .string t.set, .slice a t.kids.len cap, .int .i64 t.lo, .int .i64 t.hi]] w' (fun en w'' => ∃ pa, en = .returned (.pointer (some pa)) ∧ MP w'' (.pointer (some pa)) (some (relT t)) ∧ Frm No w' w'') from fun w' hf => (new_all t w' _ (by omega) hs ⟨a, cap, rfl, hk.move hf⟩).mono (fun en w'' h => by
    obtain ⟨v, h1, h2, h3⟩ := mp_new h
    rw [hrd] at h2
    have h4 := h2
    obtain ⟨MB, M, f, em, SB, cp, rfl, _⟩ := h4
    exact ⟨_, h1, h2, h3⟩))
  have HR := Lib.hid (show ∀ w', Frm No w w' → Calls Try.prog 17 #[.agg #[.string t.op, .string t.set, .slice a t.kids.len cap, .int .i64 t.lo, .int .i64 t.hi]] w' (fun en w'' => en = .returned (.bool true) ∧ Frm No w' w'') from fun w' hf => right_all w' t _ ⟨a, cap, rfl, hk.move hf⟩ hl true hrs.symm)
  obtain ⟨ks, hks⟩ : ∃ ks, szT t = some ks := by
    cases h : szT t with
    | none => rw [h] at hrs; cases hrs
    | some ks => exact ⟨ks, rfl⟩
  have HWD := Lib.hid (show ∀ w', Frm No w w' → Calls Try.prog 15 #[.agg #[.string t.op, .string t.set, .slice a t.kids.len cap, .int .i64 t.lo, .int .i64 t.hi], .string s] w' (fun en w'' => ∃ b : Bool, en = .returned (.bool b) ∧ (b = true ↔ relT t s.data.toList 0 s.size) ∧ Frm No w' w'') from fun w' hf => wholeD_all w' t _ s (by omega) (szT_ok hks) hs ⟨a, cap, rfl, hk.move hf⟩ (by omega))
  have h30 : (s.size : Int) ≤ 30 := by omega
  have HZ := Lib.hid (show s.size ≤ 1000000 by omega)
  clear hm hk hl hs hrd hrs hnd hz hks
  go_enter Try.func5, Try.ntmps5
  go_wp2_with (first | (go_at_call 17; go_must (refine (HR.out w3 HFC.out).mono ?_; rintro en w4 ⟨rfl, hf4⟩; have HFD := Lib.hid (HFC.out.trans hf4); have HB4 := Lib.hid (HB3.out.frm hf4 id); have HMP := Lib.hid (HM3.out.move hf4); have e0 := HB4.out.cell 0; have e1 := HB4.out.cell 1; have e2 := HB4.out.cell 2; have e3 := HB4.out.cell 3; have e4 := HB4.out.cell 4; clear hf4)) | (go_at_call 11; go_must (refine (HNW.out w2 HFB.out).mono ?_; rintro en w3 ⟨pa, rfl, hmp, hf3⟩; have HM3 := Lib.hid hmp; clear hmp; have HFC := Lib.hid (HFB.out.trans hf3); have HB3 := Lib.hid (HB2.out.frm hf3 id); have d0 := HB3.out.cell 0; have d1 := HB3.out.cell 1; have d2 := HB3.out.cell 2; have d3 := HB3.out.cell 3; have d4 := HB3.out.cell 4; clear hf3)) | (go_at_call 16; go_must (refine (HND.out w1 HFA.out).mono ?_; rintro en w2 ⟨n, rfl, hn, _, hf2⟩; have HFB := Lib.hid (HFA.out.trans hf2); have HB2 := Lib.hid (HB1.out.frm hf2 id); have c0 := HB2.out.cell 0; have c1 := HB2.out.cell 1; have c2 := HB2.out.cell 2; have c3 := HB2.out.cell 3; have c4 := HB2.out.cell 4; clear hf2)) | (go_at_call 8; go_must (refine HA.out.mono ?_; rintro en w1 ⟨rfl, hf1⟩; have HFA := Lib.hid (HF1.out.trans hf1); have HB1 := Lib.hid (HB.out.frm hf1 id); have b0 := HB1.out.cell 0; have b1 := HB1.out.cell 1; have b2 := HB1.out.cell 2; have b3 := HB1.out.cell 3; have b4 := HB1.out.cell 4; clear hf1)))
  · have fr0 : ∀ w', Frm No w4 w' → w'.cell? ⟨w.heap.size, 0, none⟩ = some (.string t.op) ∧ w'.cell? ⟨w.heap.size, 1, none⟩ = some (.string t.set) ∧ w'.cell? ⟨w.heap.size, 2, none⟩ = some (.slice a t.kids.len cap) ∧ w'.cell? ⟨w.heap.size, 3, none⟩ = some (.int .i64 t.lo) ∧ w'.cell? ⟨w.heap.size, 4, none⟩ = some (.int .i64 t.hi) := fun w' hf => by
      have h := HB4.out.frm hf id
      exact ⟨h.cell 0, h.cell 1, h.cell 2, h.cell 3, h.cell 4⟩
    have HFR := Lib.hid fr0
    clear fr0
    go_region_held3 (fun w' => w'.cell? ⟨w.heap.size, 0, none⟩ = some (.string t.op) ∧ w'.cell? ⟨w.heap.size, 1, none⟩ = some (.string t.set) ∧ w'.cell? ⟨w.heap.size, 2, none⟩ = some (.slice a t.kids.len cap) ∧ w'.cell? ⟨w.heap.size, 3, none⟩ = some (.int .i64 t.lo) ∧ w'.cell? ⟨w.heap.size, 4, none⟩ = some (.int .i64 t.hi)) (first | with_reducible assumption | (with_reducible exact HFR.out _ hf6) | (with_reducible exact HFR.out _ hf5) | (go_keep; done) | exact ⟨e0, e1, e2, e3, e4⟩) (first | (go_at_call 15; refine (HWD.out w5 (HFD.out.trans HX5.out)).mono ?_; rintro en w6 ⟨q, rfl, hq, hf6'⟩; have hf6 := HX5.out.trans hf6'; have HX6 := Lib.hid hf6') | (go_at_call 14; refine (mp_whole _ _ (relT t) s (HMP.out.move ((Frm.refl No _).drew)) HZ.out).mono ?_; rintro en w5 ⟨r, rfl, hr, hf5'⟩; have hf5 : Frm No w4 w5 := (Frm.refl No w4).drew.trans hf5'; have HX5 := Lib.hid hf5))
    go_wp2
    go_ret
    obtain rfl := two_bools hr hq
    exact ⟨by simp, HFD.out.trans hf6⟩
  · go_ret
    exact ⟨rfl, HFB.out⟩
theorem trees_c (hm : Mx w) (hk : TK w t.kids a) (hs : SzT t) (hl : LnT t) :
    Calls Try.prog 5 #[.agg #[.string t.op, .string t.set, .slice a t.kids.len cap, .int .i64 t.lo, .int .i64 t.hi], .string s] w (TreesPost w) := by
  by_cases h1 : 300 < nd t
  · exact trees_big w t a cap s hm hk hl (Or.inl h1)
  · by_cases h2 : 30 < s.size
    · exact trees_big w t a cap s hm hk hl (Or.inr h2)
    · cases hrd : rdT t 0 with
      | none => exact trees_nil w t a cap s hm hk hs hl (by omega) (by omega) hrd
      | some x => exact trees_some w t a cap s hm hk hs hl (by omega) (by omega) x hrd
end
end Go.Proofs.Ythebpkcifnndnaa.part
