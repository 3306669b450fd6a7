/- Contract of the document's Same, of two slices of tokens. -/
import Derived.Test.YtfgdhafpiikpjabLexJ
import Derived.Laws.StructEq
namespace Go.Proofs.Ytfgdhafpiikpjab.lexs
set_option linter.unusedVariables false set_option linter.unusedSimpArgs false
open Go.ChangeShapes Go.WideShapes Go.ChangeAt Go.RowKit Go.Proofs.Ytfgdhafpiikpjab.base

theorem take_get {la lb : List Tok} {k : Nat} {x y : Tok} (h : la.take k = lb.take k) (hx : la[k]? = some x) (hy : lb[k]? = some y) (e : x = y) : la.take (k + 1) = lb.take (k + 1) := by
  rw [List.take_add_one, List.take_add_one, h, hx, hy, e]

theorem tok_guard : Try.prog.eqGuardType Try.prog.depth 30 = false := by kernel_rfl
theorem tok_neq (a b c d : ByteArray) (w : World) : (binOp .neq 30 (.agg #[.string a, .string b]) (.agg #[.string c, .string d])).run Try.prog w = .ok (.bool (!(a.toList == c.toList && b.toList == d.toList))) w := by
  rw [run_neq_struct, run_equalIn_struct w 9999 _ _ _ (by kernel_rfl) (by kernel_rfl)]
  simp only [Program.fieldsOf, Try.underlying30]
  simp [Op.eqFields, part, run_equalIn_string, Try.underlying9, go_sem]
  by_cases e1 : a.toList = c.toList <;> by_cases e2 : b.toList = d.toList <;> simp [e1, e2]

theorem tok_cmp (x y : Tok) (b : Bool) (h : decide (x ≠ y) = b) (w : World) : (binOp .neq 30 (.agg #[.string ⟨x.k.toArray⟩, .string ⟨x.t.toArray⟩]) (.agg #[.string ⟨y.k.toArray⟩, .string ⟨y.t.toArray⟩])).run Try.prog w = .ok (.bool b) w := by
  rw [tok_neq, ← h]
  congr 2
  obtain ⟨k1, t1⟩ := x
  obtain ⟨k2, t2⟩ := y
  rw [Lib.toList_data, Lib.toList_data, Lib.toList_data, Lib.toList_data]
  by_cases e1 : k1 = k2 <;> by_cases e2 : t1 = t2 <;> simp [e1, e2]

set_option maxHeartbeats 1000000 in
theorem same_all (la lb : List Tok) (va vb : Value) (w : World) (ha : TS w va la) (hb : TS w vb lb) (hl : la.length ≤ 100000) (hl2 : lb.length ≤ 100000) :
    Calls Try.prog 10 #[va, vb] w fun e w' => e = .returned (.bool (decide (la = lb))) ∧ Frm No w w' := by
  obtain ⟨pa, ca, rfl, ha⟩ := ha
  obtain ⟨pb, cb, rfl, hb⟩ := hb
  by_cases hlen : la.length = lb.length
  · have HA := Lib.hid ha
    have HB := Lib.hid hb
    clear ha hb
    obtain ⟨n, hn⟩ : ∃ n, la.length = n := ⟨_, rfl⟩
    have hn2 : lb.length = n := by omega
    have HN := Lib.hid hn
    have HN2 := Lib.hid hn2
    rw [hn, hn2]
    have hln : n ≤ 100000 := by omega
    clear hn hn2 hlen hl hl2
    go_enter Try.func10, Try.ntmps10
    go_wp2
    go_loopw [5] (fun iv wr => ∃ k : Nat, k ≤ n ∧ iv = .int .i64 k ∧ la.take k = lb.take k ∧ Frm No w wr) (fun iv _ => n - (intOf iv).toNat)
    case atStart => exact ⟨0, Nat.zero_le _, rfl, by simp, Frm.refl _ _⟩
    case round =>
      obtain ⟨k, hk, rfl, htk, hf⟩ := hrel
      have HT := Lib.hid htk
      have HF := Lib.hid hf
      clear htk hf
      by_cases hlt : k < n
      · obtain ⟨x, hx⟩ : ∃ x, la[k]? = some x := ⟨_, List.getElem?_eq_getElem (by rw [HN.out]; exact hlt)⟩
        obtain ⟨y, hy⟩ : ∃ y, lb[k]? = some y := ⟨_, List.getElem?_eq_getElem (by rw [HN2.out]; exact hlt)⟩
        obtain ⟨ga, oa, rfl, hta⟩ : ∃ g o, pa = some ⟨g, o, none⟩ ∧ TG w g o la := by
          rcases HA.out with h | h
          · subst h; cases hx
          · exact h
        obtain ⟨gb, ob, rfl, htb⟩ : ∃ g o, pb = some ⟨g, o, none⟩ ∧ TG w g o lb := by
          rcases HB.out with h | h
          · subst h; cases hy
          · exact h
        have x0 := cell_move (hta k x hx).1 HF.out
        have x1 := cell_move (hta k x hx).2 HF.out
        have y0 := cell_move (htb k y hy).1 HF.out
        have y1 := cell_move (htb k y hy).2 HF.out
        have hk0 : (0 : Int) ≤ (k : Int) := by omega
        have hk1 : (k : Int) < (n : Int) := by omega
        clear hta htb
        have hgd := tok_guard
        by_cases hxy : x = y
        · have HX := Lib.hid (take_get HT.out hx hy hxy)
          have hcmp := tok_cmp x y false (by simp [hxy])
          clear hx hy hxy
          go_wp2
          go_quiet (fail)
          go_wp2
          go_roundw
          case rel => exact ⟨k + 1, by omega, by go_num, HX.out, (HF.out.drewN _)⟩
          case measure => simp [intOf]; omega
        · have HR := Lib.hid (show decide (la = lb) = false by
            refine decide_eq_false (fun e => hxy ?_)
            subst e
            rw [hx] at hy
            exact (Option.some.inj hy))
          have hcmp := tok_cmp x y true (by simp [hxy])
          clear hx hy hxy
          go_wp2
          go_quiet (fail)
          go_wp2
          go_ret
          exact ⟨ret_bool (by rw [HR.out]), HF.out.drewN _⟩
      · obtain rfl : k = n := by omega
        have HR := Lib.hid (show decide (la = lb) = true by
          refine decide_eq_true ?_
          have := HT.out
          rwa [List.take_of_length_le (by rw [HN.out]; omega), List.take_of_length_le (by rw [HN2.out]; omega)] at this)
        go_wp2
        go_ret
        exact ⟨ret_bool (by rw [HR.out]), HF.out⟩
  · have HR := Lib.hid (show decide (la = lb) = false from decide_eq_false (fun e => hlen (by rw [e])))
    have h1 : ((la.length : Int) == (lb.length : Int)) = false := by simp; omega
    go_enter Try.func10, Try.ntmps10
    go_wp2
    go_ret
    exact ⟨ret_bool (by rw [HR.out]), Frm.refl _ _⟩
end Go.Proofs.Ytfgdhafpiikpjab.lexs
