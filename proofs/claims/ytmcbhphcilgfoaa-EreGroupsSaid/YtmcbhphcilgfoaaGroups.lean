/- The law EreGroups: the walk. -/
import Derived.Test.YtmcbhphcilgfoaaSame
import Derived.Deep.DrawnRows
namespace Go.Proofs.Ytmcbhphcilgfoaa.law03
set_option linter.unusedVariables false set_option linter.unusedSimpArgs false
open Go.ChangeShapes Go.WideShapes Go.ChangeAt Go.RowKit Go.Proofs.Ytmcbhphcilgfoaa.base Go.Proofs.Ytmcbhphcilgfoaa.read Go.Proofs.Ytmcbhphcilgfoaa.spec Go.Proofs.Ytmcbhphcilgfoaa.set Go.Proofs.Ytmcbhphcilgfoaa.nums Go.Proofs.Ytmcbhphcilgfoaa.parts Go.Proofs.Ytmcbhphcilgfoaa.items Go.Proofs.Ytmcbhphcilgfoaa.sim

theorem text2 (s : ByteArray) : ((⟨#[40]⟩ ++ s) ++ ⟨#[41]⟩ : ByteArray).data.toList = 40 :: (s.data.toList ++ [41]) := by
  conv => lhs; rw [← str_eta s]
  have e1 : (⟨#[40]⟩ ++ ⟨s.data.toList.toArray⟩ : ByteArray) = ⟨([40] ++ s.data.toList).toArray⟩ := app_list [40] _
  have e2 : (⟨([40] ++ s.data.toList).toArray⟩ ++ ⟨#[41]⟩ : ByteArray) = ⟨(([40] ++ s.data.toList) ++ [41]).toArray⟩ := app_list _ [41]
  rw [e1, e2]
  simp
theorem text4 (s t : ByteArray) : ((((⟨#[40]⟩ ++ s) ++ ⟨#[41, 124, 40]⟩) ++ t) ++ ⟨#[41]⟩ : ByteArray).data.toList = 40 :: (s.data.toList ++ 41 :: 124 :: 40 :: (t.data.toList ++ [41])) := by
  conv => lhs; rw [← str_eta s, ← str_eta t]
  have e1 : (⟨#[40]⟩ ++ ⟨s.data.toList.toArray⟩ : ByteArray) = ⟨([40] ++ s.data.toList).toArray⟩ := app_list [40] _
  have e2 : (⟨([40] ++ s.data.toList).toArray⟩ ++ ⟨#[41, 124, 40]⟩ : ByteArray) = ⟨(([40] ++ s.data.toList) ++ [41, 124, 40]).toArray⟩ := app_list _ [41, 124, 40]
  have e3 : (⟨(([40] ++ s.data.toList) ++ [41, 124, 40]).toArray⟩ ++ ⟨t.data.toList.toArray⟩ : ByteArray) = ⟨((([40] ++ s.data.toList) ++ [41, 124, 40]) ++ t.data.toList).toArray⟩ := app_list _ _
  have e4 : (⟨((([40] ++ s.data.toList) ++ [41, 124, 40]) ++ t.data.toList).toArray⟩ ++ ⟨#[41]⟩ : ByteArray) = ⟨(((([40] ++ s.data.toList) ++ [41, 124, 40]) ++ t.data.toList) ++ [41]).toArray⟩ := app_list _ [41]
  rw [e1, e2, e3, e4]
  simp

theorem groups_out (s t : ByteArray) (w : World) (hm : Mx w) (hs : 1000 < s.size ∨ 1000 < t.size) : Calls Try.prog 4 #[.string s, .string t] w fun e w' => e = .returned (.bool true) ∧ Frm No w w' := by
  have HM := Lib.hid hm
  clear hm
  by_cases h : 1000 < s.size
  · go_enter Try.func4, Try.ntmps4
    go_wp2_with (first | (go_at_call 6; go_must (refine (awake_all w HM.out).mono ?_; rintro e w1 ⟨rfl, hf1⟩; have HF1 := Lib.hid hf1; clear hf1)))
    go_ret
    exact ⟨rfl, HF1.out⟩
  · have h' : 1000 < t.size := by omega
    go_enter Try.func4, Try.ntmps4
    go_wp2_with (first | (go_at_call 6; go_must (refine (awake_all w HM.out).mono ?_; rintro e w1 ⟨rfl, hf1⟩; have HF1 := Lib.hid hf1; clear hf1)))
    go_ret
    exact ⟨rfl, HF1.out⟩

set_option maxHeartbeats 10000000 in
theorem groups_in (s t : ByteArray) (w : World) (hm : Mx w) (hs : s.size ≤ 1000) (ht : t.size ≤ 1000) : Calls Try.prog 4 #[.string s, .string t] w fun e w' => e = .returned (.bool true) ∧ Frm No w w' := by
  have HM := Lib.hid hm
  have HS := Lib.hid (show s.size ≤ 100000 by omega)
  have HT := Lib.hid (show t.size ≤ 100000 by omega)
  have HL2 := Lib.hid (show ((⟨#[40]⟩ ++ s) ++ ⟨#[41]⟩ : ByteArray).size ≤ 100000 by
    have := congrArg List.length (text2 s)
    simp only [List.length_cons, List.length_append, List.length_nil] at this
    rw [len_list, len_list] at this
    omega)
  have HL4 := Lib.hid (show ((((⟨#[40]⟩ ++ s) ++ ⟨#[41, 124, 40]⟩) ++ t) ++ ⟨#[41]⟩ : ByteArray).size ≤ 100000 by
    have := congrArg List.length (text4 s t)
    simp only [List.length_cons, List.length_append, List.length_nil] at this
    rw [len_list, len_list, len_list] at this
    omega)
  have hls := len_list s
  have hlt := len_list t
  clear hm
  obtain ⟨T1, f1, h1⟩ : ∃ T1 f1, parse s.data.toList = (T1, f1) := ⟨_, _, rfl⟩
  have HP1 := Lib.hid h1
  by_cases hf1 : f1 = 0
  · subst hf1
    have HND1 := Lib.hid (show nd T1 ≤ 2000 by have := nd_parse h1; omega)
    rcases parse_group h1 with h2 | h2
    · rw [← text2] at h2
      have HP2 := Lib.hid h2
      obtain ⟨T3, f3, h3⟩ : ∃ T3 f3, parse t.data.toList = (T3, f3) := ⟨_, _, rfl⟩
      have HP3 := Lib.hid h3
      by_cases hf3 : f3 = 0
      · subst hf3
        have HND3 := Lib.hid (show nd T3 ≤ 2000 by have := nd_parse h3; omega)
        rcases parse_two h1 h3 with h4 | ⟨f4, h4, hf4⟩
        · rw [← text4] at h4
          have HP4 := Lib.hid h4
          clear h1 h2 h3 h4 hls hlt
          go_enter Try.func4, Try.ntmps4
          go_wp2_with (first | (go_at_call 6; go_must (refine (awake_all w HM.out).mono ?_; rintro e w1 ⟨rfl, hf1⟩; have HF1 := Lib.hid hf1; clear hf1)) | (go_at_call 7; refine (parse_c _ _ (HM.out.frm (HF5.out.alloc _) id) HL4.out _ HP4.out).mono ?_; rintro e w6 ⟨C4, rfl, ⟨a4, cap4, rfl, hk4⟩, hf6⟩; have HF6 := Lib.hid (Frm.then (HF5.out.alloc _) hf6 (fun _ _ e => e)); have HK4 := Lib.hid hk4; have HB9 := Lib.hid (show Box w6 w5.heap.size 25 #[.string T3.op, .string T3.set, .slice a3 T3.kids.len cap3, .int .i64 T3.lo, .int .i64 T3.hi] from Box.frm (Box.new w5 _ _) hf6 id); have HB5a := Lib.hid (Box.frm (HB5''.out.alloc _) hf6 id); have HK3a := Lib.hid (KV.move (HK3.out.move (frm1 w5 _)) hf6); have HK1b := Lib.hid (KV.move (HK1a.out.move (frm1 w5 _)) hf6); clear hk4 hf6) | (go_at_call 7; refine (parse_c w4 t (HM.out.frm HF4.out id) HT.out _ HP3.out).mono ?_; rintro e w5 ⟨C3, rfl, ⟨a3, cap3, rfl, hk3⟩, hf5⟩; have HF5 := Lib.hid (HF4.out.trans hf5); have HK3 := Lib.hid hk3; have HB5'' := Lib.hid (HB5'.out.frm hf5 id); have HK1a := Lib.hid (HK1''.out.move hf5); clear hk3 hf5) | (go_at_call 7; refine (parse_c _ _ (HM.out.frm (HF2.out.alloc _) id) HL2.out _ HP2.out).mono ?_; rintro e w3 ⟨C2, rfl, ⟨a2, cap2, rfl, hk2⟩, hf3⟩; have HF3 := Lib.hid (Frm.then (HF2.out.alloc _) hf3 (fun _ _ e => e)); have HK2 := Lib.hid hk2; have HB5 := Lib.hid (show Box w3 w2.heap.size 25 #[.string T1.op, .string T1.set, .slice a1 T1.kids.len cap1, .int .i64 T1.lo, .int .i64 T1.hi] from Box.frm (Box.new w2 _ _) hf3 id); have HK1' := Lib.hid (KV.move (HK1.out.move (frm1 w2 _)) hf3); clear hk2 hf3) | (go_at_call 7; refine (parse_c w1 s (HM.out.frm HF1.out id) HS.out _ HP1.out).mono ?_; rintro e w2 ⟨C1, rfl, ⟨a1, cap1, rfl, hk1⟩, hf2⟩; have HF2 := Lib.hid (HF1.out.trans hf2); have HK1 := Lib.hid hk1; clear hk1 hf2) | (refine wpList_load_row rfl 25 (.tmp 5) rfl w2.heap.size rfl 25 _ (0, 0) _ (HB5.out.alloc _) Try.underlying25 rfl info_e5 ?_) | (refine wpList_load_row rfl 25 (.tmp 7) rfl w3.heap.size rfl 25 _ (0, 0) _ (Box.new w3 _ _) Try.underlying25 rfl info_e5 ?_) | (go_at_call 8; go_must (refine (same_all 2000 T1 _ _ _ _ _ HND1.out (by decide) ⟨a1, cap1, rfl, HK1'.out.move (frm1 w3 _)⟩ ⟨a2, cap2, rfl, HK2.out.move (frm1 w3 _)⟩).mono ?_; rintro e w4 ⟨rfl, hf4⟩; have HF4 := Lib.hid (Frm.then (HF3.out.alloc _) hf4 (fun _ _ e => e)); have HB5' := Lib.hid (show Box w4 w2.heap.size 25 #[.string T1.op, .string T1.set, .slice a1 T1.kids.len cap1, .int .i64 T1.lo, .int .i64 T1.hi] from Box.frm (HB5.out.alloc _) hf4 id); have HK1'' := Lib.hid (KV.move (HK1'.out.move (frm1 w3 _)) hf4); clear hf4)))
          obtain ⟨g, rfl, _, hlg, _, hcs⟩ := kv_nth HK4.out (Nat.zero_lt_succ 1 : 0 < (two T1 T3).kids.len)
          obtain ⟨x1, y1, p0, p1, p2, p3, p4, hq1⟩ := hcs 0 T1 rfl
          obtain ⟨x2, y2, q0, q1, q2, q3, q4, hq2⟩ := hcs 1 T3 rfl
          have L5 := Lib.hid (HB5a.out.alloc (.cells #[.string (two T1 T3).op, .string (two T1 T3).set, .slice (some ⟨g, 0, none⟩) (two T1 T3).kids.len cap4, .int .i64 (two T1 T3).lo, .int .i64 (two T1 T3).hi] 25))
          have L9 := Lib.hid (HB9.out.alloc (.cells #[.string (two T1 T3).op, .string (two T1 T3).set, .slice (some ⟨g, 0, none⟩) (two T1 T3).kids.len cap4, .int .i64 (two T1 T3).lo, .int .i64 (two T1 T3).hi] 25))
          have L11 := Lib.hid (Box.new w6 25 #[.string (two T1 T3).op, .string (two T1 T3).set, .slice (some ⟨g, 0, none⟩) (two T1 T3).kids.len cap4, .int .i64 (two T1 T3).lo, .int .i64 (two T1 T3).hi])
          have M1 := Lib.hid (HK1b.out.move (frm1 w6 (.cells #[.string (two T1 T3).op, .string (two T1 T3).set, .slice (some ⟨g, 0, none⟩) (two T1 T3).kids.len cap4, .int .i64 (two T1 T3).lo, .int .i64 (two T1 T3).hi] 25)))
          have M3 := Lib.hid (HK3a.out.move (frm1 w6 (.cells #[.string (two T1 T3).op, .string (two T1 T3).set, .slice (some ⟨g, 0, none⟩) (two T1 T3).kids.len cap4, .int .i64 (two T1 T3).lo, .int .i64 (two T1 T3).hi] 25)))
          have N1 := Lib.hid (hq1.move (frm1 w6 (.cells #[.string (two T1 T3).op, .string (two T1 T3).set, .slice (some ⟨g, 0, none⟩) (two T1 T3).kids.len cap4, .int .i64 (two T1 T3).lo, .int .i64 (two T1 T3).hi] 25)))
          have N3 := Lib.hid (hq2.move (frm1 w6 (.cells #[.string (two T1 T3).op, .string (two T1 T3).set, .slice (some ⟨g, 0, none⟩) (two T1 T3).kids.len cap4, .int .i64 (two T1 T3).lo, .int .i64 (two T1 T3).hi] 25)))
          have HF7 := Lib.hid (HF6.out.alloc (.cells #[.string (two T1 T3).op, .string (two T1 T3).set, .slice (some ⟨g, 0, none⟩) (two T1 T3).kids.len cap4, .int .i64 (two T1 T3).lo, .int .i64 (two T1 T3).hi] 25))
          have fr0 : ∀ o, (w6.alloc (.cells #[.string (two T1 T3).op, .string (two T1 T3).set, .slice (some ⟨g, 0, none⟩) (two T1 T3).kids.len cap4, .int .i64 (two T1 T3).lo, .int .i64 (two T1 T3).hi] 25)).cell? ⟨g, o, none⟩ = w6.cell? ⟨g, o, none⟩ := fun o => World.cell?_of_block ((frm1 w6 _).block g hlg id)
          have hlgr : g < (w6.alloc (.cells #[.string (two T1 T3).op, .string (two T1 T3).set, .slice (some ⟨g, 0, none⟩) (two T1 T3).kids.len cap4, .int .i64 (two T1 T3).lo, .int .i64 (two T1 T3).hi] 25)).heap.size := by rw [World.size_alloc]; omega
          have hl5 := L5.out.lt
          have hl9 := L9.out.lt
          have hl11 := L11.out.lt
          have f0 : (w6.alloc (.cells #[.string (two T1 T3).op, .string (two T1 T3).set, .slice (some ⟨g, 0, none⟩) (two T1 T3).kids.len cap4, .int .i64 (two T1 T3).lo, .int .i64 (two T1 T3).hi] 25)).cell? ⟨w6.heap.size, 0, none⟩ = some (.string ⟨#[97, 108, 116]⟩) := L11.out.cell 0
          have f1 : (w6.alloc (.cells #[.string (two T1 T3).op, .string (two T1 T3).set, .slice (some ⟨g, 0, none⟩) (two T1 T3).kids.len cap4, .int .i64 (two T1 T3).lo, .int .i64 (two T1 T3).hi] 25)).cell? ⟨w6.heap.size, 2, none⟩ = some (.slice (some ⟨g, 0, none⟩) 2 cap4) := L11.out.cell 2
          have f2 : (w6.alloc (.cells #[.string (two T1 T3).op, .string (two T1 T3).set, .slice (some ⟨g, 0, none⟩) (two T1 T3).kids.len cap4, .int .i64 (two T1 T3).lo, .int .i64 (two T1 T3).hi] 25)).cell? ⟨g, 0, none⟩ = some (.string T1.op) := (fr0 _).trans p0
          have f3 : (w6.alloc (.cells #[.string (two T1 T3).op, .string (two T1 T3).set, .slice (some ⟨g, 0, none⟩) (two T1 T3).kids.len cap4, .int .i64 (two T1 T3).lo, .int .i64 (two T1 T3).hi] 25)).cell? ⟨g, 1, none⟩ = some (.string T1.set) := (fr0 _).trans p1
          have f4 : (w6.alloc (.cells #[.string (two T1 T3).op, .string (two T1 T3).set, .slice (some ⟨g, 0, none⟩) (two T1 T3).kids.len cap4, .int .i64 (two T1 T3).lo, .int .i64 (two T1 T3).hi] 25)).cell? ⟨g, 2, none⟩ = some (.slice x1 T1.kids.len y1) := (fr0 _).trans p2
          have f5 : (w6.alloc (.cells #[.string (two T1 T3).op, .string (two T1 T3).set, .slice (some ⟨g, 0, none⟩) (two T1 T3).kids.len cap4, .int .i64 (two T1 T3).lo, .int .i64 (two T1 T3).hi] 25)).cell? ⟨g, 3, none⟩ = some (.int .i64 T1.lo) := (fr0 _).trans p3
          have f6 : (w6.alloc (.cells #[.string (two T1 T3).op, .string (two T1 T3).set, .slice (some ⟨g, 0, none⟩) (two T1 T3).kids.len cap4, .int .i64 (two T1 T3).lo, .int .i64 (two T1 T3).hi] 25)).cell? ⟨g, 4, none⟩ = some (.int .i64 T1.hi) := (fr0 _).trans p4
          have f7 : (w6.alloc (.cells #[.string (two T1 T3).op, .string (two T1 T3).set, .slice (some ⟨g, 0, none⟩) (two T1 T3).kids.len cap4, .int .i64 (two T1 T3).lo, .int .i64 (two T1 T3).hi] 25)).cell? ⟨g, 5, none⟩ = some (.string T3.op) := (fr0 _).trans q0
          have f8 : (w6.alloc (.cells #[.string (two T1 T3).op, .string (two T1 T3).set, .slice (some ⟨g, 0, none⟩) (two T1 T3).kids.len cap4, .int .i64 (two T1 T3).lo, .int .i64 (two T1 T3).hi] 25)).cell? ⟨g, 6, none⟩ = some (.string T3.set) := (fr0 _).trans q1
          have f9 : (w6.alloc (.cells #[.string (two T1 T3).op, .string (two T1 T3).set, .slice (some ⟨g, 0, none⟩) (two T1 T3).kids.len cap4, .int .i64 (two T1 T3).lo, .int .i64 (two T1 T3).hi] 25)).cell? ⟨g, 7, none⟩ = some (.slice x2 T3.kids.len y2) := (fr0 _).trans q2
          have f10 : (w6.alloc (.cells #[.string (two T1 T3).op, .string (two T1 T3).set, .slice (some ⟨g, 0, none⟩) (two T1 T3).kids.len cap4, .int .i64 (two T1 T3).lo, .int .i64 (two T1 T3).hi] 25)).cell? ⟨g, 8, none⟩ = some (.int .i64 T3.lo) := (fr0 _).trans q3
          have f11 : (w6.alloc (.cells #[.string (two T1 T3).op, .string (two T1 T3).set, .slice (some ⟨g, 0, none⟩) (two T1 T3).kids.len cap4, .int .i64 (two T1 T3).lo, .int .i64 (two T1 T3).hi] 25)).cell? ⟨g, 9, none⟩ = some (.int .i64 T3.hi) := (fr0 _).trans q4
          have f12 : (w6.alloc (.cells #[.string (two T1 T3).op, .string (two T1 T3).set, .slice (some ⟨g, 0, none⟩) (two T1 T3).kids.len cap4, .int .i64 (two T1 T3).lo, .int .i64 (two T1 T3).hi] 25)).cell? ⟨w2.heap.size, 0, none⟩ = some (.string T1.op) := L5.out.cell 0
          have f13 : (w6.alloc (.cells #[.string (two T1 T3).op, .string (two T1 T3).set, .slice (some ⟨g, 0, none⟩) (two T1 T3).kids.len cap4, .int .i64 (two T1 T3).lo, .int .i64 (two T1 T3).hi] 25)).cell? ⟨w2.heap.size, 1, none⟩ = some (.string T1.set) := L5.out.cell 1
          have f14 : (w6.alloc (.cells #[.string (two T1 T3).op, .string (two T1 T3).set, .slice (some ⟨g, 0, none⟩) (two T1 T3).kids.len cap4, .int .i64 (two T1 T3).lo, .int .i64 (two T1 T3).hi] 25)).cell? ⟨w2.heap.size, 2, none⟩ = some (.slice a1 T1.kids.len cap1) := L5.out.cell 2
          have f15 : (w6.alloc (.cells #[.string (two T1 T3).op, .string (two T1 T3).set, .slice (some ⟨g, 0, none⟩) (two T1 T3).kids.len cap4, .int .i64 (two T1 T3).lo, .int .i64 (two T1 T3).hi] 25)).cell? ⟨w2.heap.size, 3, none⟩ = some (.int .i64 T1.lo) := L5.out.cell 3
          have f16 : (w6.alloc (.cells #[.string (two T1 T3).op, .string (two T1 T3).set, .slice (some ⟨g, 0, none⟩) (two T1 T3).kids.len cap4, .int .i64 (two T1 T3).lo, .int .i64 (two T1 T3).hi] 25)).cell? ⟨w2.heap.size, 4, none⟩ = some (.int .i64 T1.hi) := L5.out.cell 4
          have f17 : (w6.alloc (.cells #[.string (two T1 T3).op, .string (two T1 T3).set, .slice (some ⟨g, 0, none⟩) (two T1 T3).kids.len cap4, .int .i64 (two T1 T3).lo, .int .i64 (two T1 T3).hi] 25)).cell? ⟨w5.heap.size, 0, none⟩ = some (.string T3.op) := L9.out.cell 0
          have f18 : (w6.alloc (.cells #[.string (two T1 T3).op, .string (two T1 T3).set, .slice (some ⟨g, 0, none⟩) (two T1 T3).kids.len cap4, .int .i64 (two T1 T3).lo, .int .i64 (two T1 T3).hi] 25)).cell? ⟨w5.heap.size, 1, none⟩ = some (.string T3.set) := L9.out.cell 1
          have f19 : (w6.alloc (.cells #[.string (two T1 T3).op, .string (two T1 T3).set, .slice (some ⟨g, 0, none⟩) (two T1 T3).kids.len cap4, .int .i64 (two T1 T3).lo, .int .i64 (two T1 T3).hi] 25)).cell? ⟨w5.heap.size, 2, none⟩ = some (.slice a3 T3.kids.len cap3) := L9.out.cell 2
          have f20 : (w6.alloc (.cells #[.string (two T1 T3).op, .string (two T1 T3).set, .slice (some ⟨g, 0, none⟩) (two T1 T3).kids.len cap4, .int .i64 (two T1 T3).lo, .int .i64 (two T1 T3).hi] 25)).cell? ⟨w5.heap.size, 3, none⟩ = some (.int .i64 T3.lo) := L9.out.cell 3
          have f21 : (w6.alloc (.cells #[.string (two T1 T3).op, .string (two T1 T3).set, .slice (some ⟨g, 0, none⟩) (two T1 T3).kids.len cap4, .int .i64 (two T1 T3).lo, .int .i64 (two T1 T3).hi] 25)).cell? ⟨w5.heap.size, 4, none⟩ = some (.int .i64 T3.hi) := L9.out.cell 4
          clear p0 p1 p2 p3 p4 q0 q1 q2 q3 q4 fr0 hlg hq1 hq2 hcs HK1 HK2 HB5 HK1' HB5' HK1'' HK3 HB5'' HK1a HB9 HB5a HK3a HK1b HK4
          generalize (w6.alloc (.cells #[.string (two T1 T3).op, .string (two T1 T3).set, .slice (some ⟨g, 0, none⟩) (two T1 T3).kids.len cap4, .int .i64 (two T1 T3).lo, .int .i64 (two T1 T3).hi] 25)) = wr at *
          go_region_held3 (fun w' => w'.cell? ⟨w6.heap.size, 0, none⟩ = some (.string ⟨#[97, 108, 116]⟩) ∧ w'.cell? ⟨w6.heap.size, 2, none⟩ = some (.slice (some ⟨g, 0, none⟩) 2 cap4) ∧ w'.cell? ⟨g, 0, none⟩ = some (.string T1.op) ∧ w'.cell? ⟨g, 1, none⟩ = some (.string T1.set) ∧ w'.cell? ⟨g, 2, none⟩ = some (.slice x1 T1.kids.len y1) ∧ w'.cell? ⟨g, 3, none⟩ = some (.int .i64 T1.lo) ∧ w'.cell? ⟨g, 4, none⟩ = some (.int .i64 T1.hi) ∧ w'.cell? ⟨g, 5, none⟩ = some (.string T3.op) ∧ w'.cell? ⟨g, 6, none⟩ = some (.string T3.set) ∧ w'.cell? ⟨g, 7, none⟩ = some (.slice x2 T3.kids.len y2) ∧ w'.cell? ⟨g, 8, none⟩ = some (.int .i64 T3.lo) ∧ w'.cell? ⟨g, 9, none⟩ = some (.int .i64 T3.hi) ∧ w'.cell? ⟨w2.heap.size, 0, none⟩ = some (.string T1.op) ∧ w'.cell? ⟨w2.heap.size, 1, none⟩ = some (.string T1.set) ∧ w'.cell? ⟨w2.heap.size, 2, none⟩ = some (.slice a1 T1.kids.len cap1) ∧ w'.cell? ⟨w2.heap.size, 3, none⟩ = some (.int .i64 T1.lo) ∧ w'.cell? ⟨w2.heap.size, 4, none⟩ = some (.int .i64 T1.hi) ∧ w'.cell? ⟨w5.heap.size, 0, none⟩ = some (.string T3.op) ∧ w'.cell? ⟨w5.heap.size, 1, none⟩ = some (.string T3.set) ∧ w'.cell? ⟨w5.heap.size, 2, none⟩ = some (.slice a3 T3.kids.len cap3) ∧ w'.cell? ⟨w5.heap.size, 3, none⟩ = some (.int .i64 T3.lo) ∧ w'.cell? ⟨w5.heap.size, 4, none⟩ = some (.int .i64 T3.hi)) (first | with_reducible assumption | (with_reducible exact ⟨(fr8 w6.heap.size 0 hl11).trans f0, (fr8 w6.heap.size 2 hl11).trans f1, (fr8 g 0 hlgr).trans f2, (fr8 g 1 hlgr).trans f3, (fr8 g 2 hlgr).trans f4, (fr8 g 3 hlgr).trans f5, (fr8 g 4 hlgr).trans f6, (fr8 g 5 hlgr).trans f7, (fr8 g 6 hlgr).trans f8, (fr8 g 7 hlgr).trans f9, (fr8 g 8 hlgr).trans f10, (fr8 g 9 hlgr).trans f11, (fr8 w2.heap.size 0 hl5).trans f12, (fr8 w2.heap.size 1 hl5).trans f13, (fr8 w2.heap.size 2 hl5).trans f14, (fr8 w2.heap.size 3 hl5).trans f15, (fr8 w2.heap.size 4 hl5).trans f16, (fr8 w5.heap.size 0 hl9).trans f17, (fr8 w5.heap.size 1 hl9).trans f18, (fr8 w5.heap.size 2 hl9).trans f19, (fr8 w5.heap.size 3 hl9).trans f20, (fr8 w5.heap.size 4 hl9).trans f21⟩) | (with_reducible exact ⟨(fr7 w6.heap.size 0 hl11).trans f0, (fr7 w6.heap.size 2 hl11).trans f1, (fr7 g 0 hlgr).trans f2, (fr7 g 1 hlgr).trans f3, (fr7 g 2 hlgr).trans f4, (fr7 g 3 hlgr).trans f5, (fr7 g 4 hlgr).trans f6, (fr7 g 5 hlgr).trans f7, (fr7 g 6 hlgr).trans f8, (fr7 g 7 hlgr).trans f9, (fr7 g 8 hlgr).trans f10, (fr7 g 9 hlgr).trans f11, (fr7 w2.heap.size 0 hl5).trans f12, (fr7 w2.heap.size 1 hl5).trans f13, (fr7 w2.heap.size 2 hl5).trans f14, (fr7 w2.heap.size 3 hl5).trans f15, (fr7 w2.heap.size 4 hl5).trans f16, (fr7 w5.heap.size 0 hl9).trans f17, (fr7 w5.heap.size 1 hl9).trans f18, (fr7 w5.heap.size 2 hl9).trans f19, (fr7 w5.heap.size 3 hl9).trans f20, (fr7 w5.heap.size 4 hl9).trans f21⟩) | (go_keep; done) | (exact ⟨f0, f1, f2, f3, f4, f5, f6, f7, f8, f9, f10, f11, f12, f13, f14, f15, f16, f17, f18, f19, f20, f21⟩)) (first | (go_at_call 8; refine (same_all 2000 T3 w7 _ _ _ _ HND3.out (by omega) ⟨x2, y2, rfl, N3.out.move (Frm.trans ((Frm.refl No wr).drew) HX7.out)⟩ ⟨a3, cap3, rfl, M3.out.move (Frm.trans ((Frm.refl No wr).drew) HX7.out)⟩).mono ?_; rintro e w8 ⟨rfl, hf8⟩; have HX8 := Lib.hid hf8; have fr8 : ∀ z o, z < wr.heap.size → w8.cell? ⟨z, o, none⟩ = wr.cell? ⟨z, o, none⟩ := fun z o h => (World.cell?_of_block (hf8.block z (Nat.lt_of_lt_of_le h HX7.out.size) id)).trans (fr7 z o h); clear hf8) | (go_at_call 8; refine (same_all 2000 T1 _ _ _ _ _ HND1.out (by omega) ⟨x1, y1, rfl, N1.out.move ((Frm.refl No _).drew)⟩ ⟨a1, cap1, rfl, M1.out.move ((Frm.refl No _).drew)⟩).mono ?_; rintro e w7 ⟨rfl, hf7⟩; have HX7 := Lib.hid hf7; have fr7 : ∀ z o, z < wr.heap.size → w7.cell? ⟨z, o, none⟩ = wr.cell? ⟨z, o, none⟩ := fun z o h => World.cell?_of_block (hf7.block z h id); clear hf7))
          go_wp2
          go_ret
          exact ⟨rfl, Frm.trans (Frm.trans HF7.out.drew HX7.out) HX8.out⟩
        · rw [← text4] at h4
          have HP4 := Lib.hid h4
          have hfi : (((f4 : Nat) : Int) == 0) = false := by simp; omega
          clear h1 h2 h3 h4 hls hlt hf4
          go_enter Try.func4, Try.ntmps4
          go_wp2_with (first | (go_at_call 6; go_must (refine (awake_all w HM.out).mono ?_; rintro e w1 ⟨rfl, hf1⟩; have HF1 := Lib.hid hf1; clear hf1)) | (go_at_call 7; refine (parse_c _ _ (HM.out.frm (HF5.out.alloc _) id) HL4.out _ HP4.out).mono ?_; rintro e w6 ⟨C4, rfl, ⟨a4, cap4, rfl, hk4⟩, hf6⟩; have HF6 := Lib.hid (Frm.then (HF5.out.alloc _) hf6 (fun _ _ e => e)); have HK4 := Lib.hid hk4; have HB9 := Lib.hid (show Box w6 w5.heap.size 25 #[.string T3.op, .string T3.set, .slice a3 T3.kids.len cap3, .int .i64 T3.lo, .int .i64 T3.hi] from Box.frm (Box.new w5 _ _) hf6 id); have HB5a := Lib.hid (Box.frm (HB5''.out.alloc _) hf6 id); have HK3a := Lib.hid (KV.move (HK3.out.move (frm1 w5 _)) hf6); have HK1b := Lib.hid (KV.move (HK1a.out.move (frm1 w5 _)) hf6); clear hk4 hf6) | (go_at_call 7; refine (parse_c w4 t (HM.out.frm HF4.out id) HT.out _ HP3.out).mono ?_; rintro e w5 ⟨C3, rfl, ⟨a3, cap3, rfl, hk3⟩, hf5⟩; have HF5 := Lib.hid (HF4.out.trans hf5); have HK3 := Lib.hid hk3; have HB5'' := Lib.hid (HB5'.out.frm hf5 id); have HK1a := Lib.hid (HK1''.out.move hf5); clear hk3 hf5) | (go_at_call 7; refine (parse_c _ _ (HM.out.frm (HF2.out.alloc _) id) HL2.out _ HP2.out).mono ?_; rintro e w3 ⟨C2, rfl, ⟨a2, cap2, rfl, hk2⟩, hf3⟩; have HF3 := Lib.hid (Frm.then (HF2.out.alloc _) hf3 (fun _ _ e => e)); have HK2 := Lib.hid hk2; have HB5 := Lib.hid (show Box w3 w2.heap.size 25 #[.string T1.op, .string T1.set, .slice a1 T1.kids.len cap1, .int .i64 T1.lo, .int .i64 T1.hi] from Box.frm (Box.new w2 _ _) hf3 id); have HK1' := Lib.hid (KV.move (HK1.out.move (frm1 w2 _)) hf3); clear hk2 hf3) | (go_at_call 7; refine (parse_c w1 s (HM.out.frm HF1.out id) HS.out _ HP1.out).mono ?_; rintro e w2 ⟨C1, rfl, ⟨a1, cap1, rfl, hk1⟩, hf2⟩; have HF2 := Lib.hid (HF1.out.trans hf2); have HK1 := Lib.hid hk1; clear hk1 hf2) | (refine wpList_load_row rfl 25 (.tmp 5) rfl w2.heap.size rfl 25 _ (0, 0) _ (HB5.out.alloc _) Try.underlying25 rfl info_e5 ?_) | (refine wpList_load_row rfl 25 (.tmp 7) rfl w3.heap.size rfl 25 _ (0, 0) _ (Box.new w3 _ _) Try.underlying25 rfl info_e5 ?_) | (go_at_call 8; go_must (refine (same_all 2000 T1 _ _ _ _ _ HND1.out (by decide) ⟨a1, cap1, rfl, HK1'.out.move (frm1 w3 _)⟩ ⟨a2, cap2, rfl, HK2.out.move (frm1 w3 _)⟩).mono ?_; rintro e w4 ⟨rfl, hf4⟩; have HF4 := Lib.hid (Frm.then (HF3.out.alloc _) hf4 (fun _ _ e => e)); have HB5' := Lib.hid (show Box w4 w2.heap.size 25 #[.string T1.op, .string T1.set, .slice a1 T1.kids.len cap1, .int .i64 T1.lo, .int .i64 T1.hi] from Box.frm (HB5.out.alloc _) hf4 id); have HK1'' := Lib.hid (KV.move (HK1'.out.move (frm1 w3 _)) hf4); clear hf4)))
          go_ret
          exact ⟨rfl, HF6.out.alloc _⟩
      · have hfi : (((f3 : Nat) : Int) == 0) = false := by simp; omega
        obtain ⟨T4, f4, h4⟩ : ∃ T4 f4, parse ((((⟨#[40]⟩ ++ s) ++ ⟨#[41, 124, 40]⟩) ++ t) ++ ⟨#[41]⟩ : ByteArray).data.toList = (T4, f4) := ⟨_, _, rfl⟩
        have HP4 := Lib.hid h4
        clear h1 h2 h3 h4 hls hlt hf3
        go_enter Try.func4, Try.ntmps4
        go_wp2_with (first | (go_at_call 6; go_must (refine (awake_all w HM.out).mono ?_; rintro e w1 ⟨rfl, hf1⟩; have HF1 := Lib.hid hf1; clear hf1)) | (go_at_call 7; refine (parse_c _ _ (HM.out.frm (HF5.out.alloc _) id) HL4.out _ HP4.out).mono ?_; rintro e w6 ⟨C4, rfl, ⟨a4, cap4, rfl, hk4⟩, hf6⟩; have HF6 := Lib.hid (Frm.then (HF5.out.alloc _) hf6 (fun _ _ e => e)); have HK4 := Lib.hid hk4; have HB9 := Lib.hid (show Box w6 w5.heap.size 25 #[.string T3.op, .string T3.set, .slice a3 T3.kids.len cap3, .int .i64 T3.lo, .int .i64 T3.hi] from Box.frm (Box.new w5 _ _) hf6 id); have HB5a := Lib.hid (Box.frm (HB5''.out.alloc _) hf6 id); have HK3a := Lib.hid (KV.move (HK3.out.move (frm1 w5 _)) hf6); have HK1b := Lib.hid (KV.move (HK1a.out.move (frm1 w5 _)) hf6); clear hk4 hf6) | (go_at_call 7; refine (parse_c w4 t (HM.out.frm HF4.out id) HT.out _ HP3.out).mono ?_; rintro e w5 ⟨C3, rfl, ⟨a3, cap3, rfl, hk3⟩, hf5⟩; have HF5 := Lib.hid (HF4.out.trans hf5); have HK3 := Lib.hid hk3; have HB5'' := Lib.hid (HB5'.out.frm hf5 id); have HK1a := Lib.hid (HK1''.out.move hf5); clear hk3 hf5) | (go_at_call 7; refine (parse_c _ _ (HM.out.frm (HF2.out.alloc _) id) HL2.out _ HP2.out).mono ?_; rintro e w3 ⟨C2, rfl, ⟨a2, cap2, rfl, hk2⟩, hf3⟩; have HF3 := Lib.hid (Frm.then (HF2.out.alloc _) hf3 (fun _ _ e => e)); have HK2 := Lib.hid hk2; have HB5 := Lib.hid (show Box w3 w2.heap.size 25 #[.string T1.op, .string T1.set, .slice a1 T1.kids.len cap1, .int .i64 T1.lo, .int .i64 T1.hi] from Box.frm (Box.new w2 _ _) hf3 id); have HK1' := Lib.hid (KV.move (HK1.out.move (frm1 w2 _)) hf3); clear hk2 hf3) | (go_at_call 7; refine (parse_c w1 s (HM.out.frm HF1.out id) HS.out _ HP1.out).mono ?_; rintro e w2 ⟨C1, rfl, ⟨a1, cap1, rfl, hk1⟩, hf2⟩; have HF2 := Lib.hid (HF1.out.trans hf2); have HK1 := Lib.hid hk1; clear hk1 hf2) | (refine wpList_load_row rfl 25 (.tmp 5) rfl w2.heap.size rfl 25 _ (0, 0) _ (HB5.out.alloc _) Try.underlying25 rfl info_e5 ?_) | (refine wpList_load_row rfl 25 (.tmp 7) rfl w3.heap.size rfl 25 _ (0, 0) _ (Box.new w3 _ _) Try.underlying25 rfl info_e5 ?_) | (go_at_call 8; go_must (refine (same_all 2000 T1 _ _ _ _ _ HND1.out (by decide) ⟨a1, cap1, rfl, HK1'.out.move (frm1 w3 _)⟩ ⟨a2, cap2, rfl, HK2.out.move (frm1 w3 _)⟩).mono ?_; rintro e w4 ⟨rfl, hf4⟩; have HF4 := Lib.hid (Frm.then (HF3.out.alloc _) hf4 (fun _ _ e => e)); have HB5' := Lib.hid (show Box w4 w2.heap.size 25 #[.string T1.op, .string T1.set, .slice a1 T1.kids.len cap1, .int .i64 T1.lo, .int .i64 T1.hi] from Box.frm (HB5.out.alloc _) hf4 id); have HK1'' := Lib.hid (KV.move (HK1'.out.move (frm1 w3 _)) hf4); clear hf4)))
        go_ret
        exact ⟨rfl, HF6.out.alloc _⟩
    · rw [← text2] at h2
      have HP2 := Lib.hid h2
      clear h1 h2 hls hlt
      go_enter Try.func4, Try.ntmps4
      go_wp2_with (first | (go_at_call 6; go_must (refine (awake_all w HM.out).mono ?_; rintro e w1 ⟨rfl, hf1⟩; have HF1 := Lib.hid hf1; clear hf1)) | (go_at_call 7; refine (parse_c _ _ (HM.out.frm (HF2.out.alloc _) id) HL2.out _ HP2.out).mono ?_; rintro e w3 ⟨C2, rfl, ⟨a2, cap2, rfl, hk2⟩, hf3⟩; have HF3 := Lib.hid (Frm.then (HF2.out.alloc _) hf3 (fun _ _ e => e)); have HK2 := Lib.hid hk2; have HB5 := Lib.hid (show Box w3 w2.heap.size 25 #[.string T1.op, .string T1.set, .slice a1 T1.kids.len cap1, .int .i64 T1.lo, .int .i64 T1.hi] from Box.frm (Box.new w2 _ _) hf3 id); have HK1' := Lib.hid (KV.move (HK1.out.move (frm1 w2 _)) hf3); clear hk2 hf3) | (go_at_call 7; refine (parse_c w1 s (HM.out.frm HF1.out id) HS.out _ HP1.out).mono ?_; rintro e w2 ⟨C1, rfl, ⟨a1, cap1, rfl, hk1⟩, hf2⟩; have HF2 := Lib.hid (HF1.out.trans hf2); have HK1 := Lib.hid hk1; clear hk1 hf2))
      go_ret
      exact ⟨rfl, HF3.out.alloc _⟩
  · have hfi : (((f1 : Nat) : Int) == 0) = false := by simp; omega
    obtain ⟨T2, f2, h2⟩ : ∃ T2 f2, parse ((⟨#[40]⟩ ++ s) ++ ⟨#[41]⟩ : ByteArray).data.toList = (T2, f2) := ⟨_, _, rfl⟩
    have HP2 := Lib.hid h2
    clear h1 h2 hls hlt hf1
    go_enter Try.func4, Try.ntmps4
    go_wp2_with (first | (go_at_call 6; go_must (refine (awake_all w HM.out).mono ?_; rintro e w1 ⟨rfl, hf1⟩; have HF1 := Lib.hid hf1; clear hf1)) | (go_at_call 7; refine (parse_c _ _ (HM.out.frm (HF2.out.alloc _) id) HL2.out _ HP2.out).mono ?_; rintro e w3 ⟨C2, rfl, ⟨a2, cap2, rfl, hk2⟩, hf3⟩; have HF3 := Lib.hid (Frm.then (HF2.out.alloc _) hf3 (fun _ _ e => e)); have HK2 := Lib.hid hk2; have HB5 := Lib.hid (show Box w3 w2.heap.size 25 #[.string T1.op, .string T1.set, .slice a1 T1.kids.len cap1, .int .i64 T1.lo, .int .i64 T1.hi] from Box.frm (Box.new w2 _ _) hf3 id); have HK1' := Lib.hid (KV.move (HK1.out.move (frm1 w2 _)) hf3); clear hk2 hf3) | (go_at_call 7; refine (parse_c w1 s (HM.out.frm HF1.out id) HS.out _ HP1.out).mono ?_; rintro e w2 ⟨C1, rfl, ⟨a1, cap1, rfl, hk1⟩, hf2⟩; have HF2 := Lib.hid (HF1.out.trans hf2); have HK1 := Lib.hid hk1; clear hk1 hf2))
    go_ret
    exact ⟨rfl, HF3.out.alloc _⟩
theorem groups (s t : ByteArray) (w : World) (hm : Mx w) : Calls Try.prog 4 #[.string s, .string t] w fun e w' => e = .returned (.bool true) ∧ Frm No w w' := by
  by_cases h : 1000 < s.size ∨ 1000 < t.size
  · exact groups_out s t w hm h
  · exact groups_in s t w hm (by omega) (by omega)
end Go.Proofs.Ytmcbhphcilgfoaa.law03
