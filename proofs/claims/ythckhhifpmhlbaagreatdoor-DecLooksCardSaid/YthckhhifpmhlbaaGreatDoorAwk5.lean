/- What awake asks of strconv.FormatFloat: the bytes of 0.1 by e and by f (package internal/strconv, fmtEFG). -/
import Derived.Test.YthckhhifpmhlbaaGreatDoorAwk4
namespace Go.Proofs.YthckhhifpmhlbaaGreatDoor.awk
set_option linter.unusedVariables false
open Go.ChangeShapes Go.WideShapes Go.ChangeAt Go.RowKit

set_option maxRecDepth 100000 in
set_option maxHeartbeats 2000000 in
theorem fmt_e (b B : Nat) (v : Value) (w : World) (hown : OwnB w B 5 v []) (hB : B ≤ w.heap.size) (hc : w.cell? ⟨b, 0, none⟩ = some (.int .u8 49)) :
    Calls Tryz.prog 116 #[v, .bool false, .slice (some ⟨b, 0, none⟩) 24 24, .int .i64 0, .int .i64 1, .int .i64 5, .int .u8 101, .bool false] w fun e w' => ∃ v', e = .returned v' ∧ OwnB w' B 5 v' [49, 46, 48, 48, 48, 48, 48, 101, 45, 48, 49] ∧ Below B w w' := by
  have HI := Lib.hid (show (Tryz.prog.info? 5).map (fun i => (i.zero, i.size, i.bytes)) = some (some (.int .u8 0), 1, 1) by kernel_rfl)
  have hmin : min (1 : Int) 6 = 1 := by decide
  go_enter Tryz.func116, Tryz.ntmps116
  go_wp2_with (first | (at_builtin; refine wpList_app1 _ rfl (.tmp 87) (.tmp 89) 60 rfl B 5 Tryz.underlying60 HI.out _ _ rfl hown _ rfl 49 (by rfl) (by simp) (by omega) ?_; intro v1 w1 hown1 hb1; have hz1 := hb1.size) | (at_builtin; refine wpList_app1 _ rfl (.tmp 93) (.tmp 94) 60 rfl B 5 Tryz.underlying60 HI.out _ _ rfl hown1 _ rfl 46 (by rfl) (by simp) (by omega) ?_; intro v2 w2 hown2 hb2; have hz2 := hb2.size))
  go_loopw [0, 114] (fun vv iv wr => ∃ k : Nat, k ≤ 5 ∧ iv = .int .i64 k ∧ OwnB wr B 5 vv ([49, 46] ++ List.replicate k 48) ∧ Below B w wr) (fun _ iv _ => 5 - (intOf iv).toNat)
  case atStart => exact ⟨0, by omega, rfl, by simpa using hown2, hb1.trans hb2⟩
  case round =>
    clear hc hown hown1 hown2 hb1 hb2 hz1 hz2
    obtain ⟨k, hk, rfl, hown, hbel⟩ := hrel
    have hsz := hbel.size
    by_cases hlt : k < 5
    · go_wp2_with (at_builtin; refine wpList_app1 _ rfl (.tmp 116) (.tmp 117) 60 rfl B 5 Tryz.underlying60 HI.out _ _ rfl hown _ rfl 48 (by rfl) (by simp; omega) (by omega) ?_; intro v' w1 hown' hb1)
      go_roundw
      case rel => exact ⟨k + 1, by omega, by go_num, by rw [List.replicate_succ', ← List.append_assoc]; exact hown', hbel.trans hb1⟩
      case measure => simp [intOf]; omega
    · obtain rfl : k = 5 := by omega
      go_wp2_with (first | (at_builtin; refine wpList_app1 _ rfl (.tmp 120) (.tmp 122) 60 rfl B 5 Tryz.underlying60 HI.out _ _ rfl hown _ rfl 101 (by rfl) (by simp) (by omega) ?_; intro v3 w3 hown3 hb3; have hz3 := hb3.size) | (at_builtin; refine wpList_app1 _ rfl (.tmp 132) (.tmp 134) 60 rfl B 5 Tryz.underlying60 HI.out _ _ rfl hown3 _ rfl 45 (by rfl) (by simp) (by omega) ?_; intro v4 w4 hown4 hb4; have hz4 := hb4.size) | (at_builtin; refine wpList_appN _ rfl (.tmp 155) (.tmp 159) 60 rfl B 5 Tryz.underlying60 HI.out _ _ rfl hown4 _ [48, 49] rfl 2 rfl rfl (by simp) (by omega) ?_; intro v5 w5 hown5 hb5))
      go_ret
      exact ⟨_, rfl, hown5, ((hbel.trans hb3).trans hb4).trans hb5⟩

/-- 'append(b, c)', where a block that isn't the slice's stays as it was. -/
theorem wpList_app1k {P : Program} (w : World) {ops : Array Oper} {rest : List Oper} {o : Oper} {a : Act} {Q : Exit → Act → World → Prop} (hgd : o.guard = none) (s x : Operand) (t : TypeId)
    (ho : o.op = .call { callee := .builtin .append, args := #[s, x], argTypes := #[t, t] })
    (B : Nat) (e : TypeId) (ht : P.underlying t = some (.slice e)) (hinf : (P.info? e).map (fun i => (i.zero, i.size, i.bytes)) = some (some (.int .u8 0), 1, 1))
    (v : Value) (l : List UInt8) (hs : a.eval s = v) (hown : OwnB w B e v l) (n : Int)
    (hx : a.eval x = .slice (some ⟨w.heap.size, 0, none⟩) 1 1) (b : UInt8) (hn : n = (b.toNat : Int)) (hl : l.length + 1 ≤ 140737488355328) (hB : B ≤ w.heap.size)
    (k : Nat) (hk : k < w.heap.size) (hko : v.ownBlock ≠ some k)
    (h : ∀ v' w', OwnB w' B e v' (l ++ [b]) → Below B w w' → v'.ownBlock ≠ some k → w'.cell? ⟨k, 0, none⟩ = w.cell? ⟨k, 0, none⟩ → wpList P ops Q rest (a.put o.dst v') w') :
    wpList P ops Q (o :: rest) a (w.alloc (.cells #[.int .u8 n] e)) := by
  obtain ⟨i0, hi, hz0, hz1, hz2⟩ := info_parts hinf
  subst hn
  refine wpList_append_own_at _ hgd s x t ho B e i0 (.int .u8 0) 1 1 ht hi hz0 hz1 hz2 rfl (by decide) v _ _ hs (World.ownsRow.alloc hown _) ⟨w.heap.size, 0, none⟩ 1 1 [bV b] hx rfl (cell_one_new _ _ _) (fun u hu => by simp at hu; subst hu; rfl) (by unfold maxLen; omega) (by omega) (by simp; omega) ?_
  intro v' w' hown' hg _ hat
  refine h v' w' ?_ ?_ ?_ ?_
  · have e2 : l.length + 1 = (l ++ [b]).length := by simp
    have e3 : l.map bV ++ [bV b] = (l ++ [b]).map bV := by simp
    unfold OwnB
    rw [← e2, ← e3]
    exact hown'
  · exact ((Below.refl _ _).alloc hB _).grown hg (by simp; omega) (fun q hq => ((World.ownsRow.lt hown) q hq).1)
  · rcases hat with e1 | e1
    · rw [e1]; exact hko
    · rw [e1]; simp; omega
  · rw [World.cell?_of_block (hg.block k (by simp; omega) (fun e1 => hko e1.symm))]
    exact World.cell?_alloc_lt w _ _ hk

set_option maxRecDepth 100000 in
set_option maxHeartbeats 2000000 in
theorem fmt_f (b B : Nat) (v : Value) (w : World) (hown : OwnB w B 5 v []) (hB : B ≤ w.heap.size) (hc : w.cell? ⟨b, 0, none⟩ = some (.int .u8 49)) (hko : v.ownBlock ≠ some b) :
    Calls Tryz.prog 116 #[v, .bool false, .slice (some ⟨b, 0, none⟩) 24 24, .int .i64 0, .int .i64 1, .int .i64 6, .int .u8 102, .bool false] w fun e w' => ∃ v', e = .returned v' ∧ OwnB w' B 5 v' [48, 46, 49, 48, 48, 48, 48, 48] ∧ Below B w w' := by
  have HI := Lib.hid (show (Tryz.prog.info? 5).map (fun i => (i.zero, i.size, i.bytes)) = some (some (.int .u8 0), 1, 1) by kernel_rfl)
  have m1 : max (0 : Int) 0 = 0 := by decide
  have m2 : min (6 : Int) 0 = 0 := by decide
  have m3 : max (0 : Int) 1 = 1 := by decide
  have m4 : min (6 : Int) 1 = 1 := by decide
  have m5 : max (0 : Int) 5 = 5 := by decide
  have hblt := World.block_lt_of_cell? w _ hc
  have hblt' : b < w.heap.size := hblt
  clear hblt
  go_enter Tryz.func116, Tryz.ntmps116
  go_wp2_with (first | (at_builtin; refine wpList_app1k _ rfl (.tmp 209) (.tmp 210) 60 rfl B 5 Tryz.underlying60 HI.out _ _ rfl hown _ rfl 48 (by rfl) (by simp) (by omega) b hblt' hko ?_; intro v1 w1 hown1 hb1 hk1 hc1; rw [hc] at hc1; have hz1 := hb1.size; have hl1 := World.block_lt_of_cell? w1 _ hc1) | (at_builtin; refine wpList_app1k _ rfl (.tmp 214) (.tmp 215) 60 rfl B 5 Tryz.underlying60 HI.out _ _ rfl hown1 _ rfl 46 (by rfl) (by simp) (by omega) b hl1 hk1 ?_; intro v2 w2 hown2 hb2 hk2 hc2; rw [hc1] at hc2; have hz2 := hb2.size; have hl2 := World.block_lt_of_cell? w2 _ hc2))
  go_rounds 1
  go_loopw [0, 30, 247] (fun vv _ iv wr => ∃ k : Nat, k ≤ 1 ∧ iv = .int .i64 k ∧ OwnB wr B 5 vv ([48, 46] ++ List.replicate k 49) ∧ Below B w wr ∧ (k = 0 → wr.cell? ⟨b, 0, none⟩ = some (.int .u8 49))) (fun _ _ iv _ => 1 - (intOf iv).toNat)
  case atStart => exact ⟨0, by omega, rfl, by simpa using hown2, hb1.trans hb2, fun _ => hc2⟩
  case round =>
    clear hc hown hown1 hown2 hb1 hb2 hz1 hz2 hk1 hk2 hl1 hl2 hc1 hc2 hko hblt'
    obtain ⟨k, hk, rfl, hown, hbel, hcc⟩ := hrel
    have hsz := hbel.size
    by_cases hlt : k < 1
    · obtain rfl : k = 0 := by omega
      have hcell := hcc rfl
      clear hcc
      go_wp2_with (at_builtin; refine wpList_app1 _ rfl (.tmp 250) (.tmp 257) 60 rfl B 5 Tryz.underlying60 HI.out _ _ rfl hown _ rfl 49 (by rfl) (by simp) (by omega) ?_; intro v' w3 hown' hb3)
      go_roundw
      case rel => exact ⟨1, by omega, rfl, hown', hbel.trans hb3, fun h => by omega⟩
      case measure => simp [intOf]
    · obtain rfl : k = 1 := by omega
      go_wp2_with fail
      clear hcc
      go_loopw [0, 261, 262, 263] (fun vv iv _ _ wr => ∃ k : Nat, k ≤ 5 ∧ iv = .int .i64 k ∧ OwnB wr B 5 vv ([48, 46, 49] ++ List.replicate k 48) ∧ Below B w wr) (fun _ iv _ _ _ => 5 - (intOf iv).toNat)
      case atStart => exact ⟨0, by omega, rfl, by simpa using hown, hbel⟩
      case round =>
        clear hown hbel hsz
        obtain ⟨k, hk, rfl, hown, hbel⟩ := hrel
        have hsz := hbel.size
        by_cases hlt : k < 5
        · go_wp2_with (at_builtin; refine wpList_app1 _ rfl (.tmp 263) (.tmp 264) 60 rfl B 5 Tryz.underlying60 HI.out _ _ rfl hown _ rfl 48 (by rfl) (by simp; omega) (by omega) ?_; intro v' w1 hown' hb1)
          go_roundw
          case rel => exact ⟨_, _, _, _, _, _, _, ⟨k + 1, by omega, by go_num, (by rw [List.replicate_succ', ← List.append_assoc]; exact hown'), hbel.trans hb1⟩, rfl⟩
          case measure => simp [intOf]; omega
        · obtain rfl : k = 5 := by omega
          go_wp2_with fail
          go_ret
          exact ⟨_, rfl, hown, hbel⟩
end Go.Proofs.YthckhhifpmhlbaaGreatDoor.awk
