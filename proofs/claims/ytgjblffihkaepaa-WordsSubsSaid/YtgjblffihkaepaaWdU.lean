/- The law WordsSubs. -/
import Derived.Test.YtgjblffihkaepaaWdM
namespace Go.Proofs.Ytgjblffihkaepaa.wrd
set_option linter.unusedVariables false set_option linter.unusedSimpArgs false
open Go.ChangeShapes Go.WideShapes Go.ChangeAt Go.RowKit Go.Proofs.Ytgjblffihkaepaa.base Go.Proofs.Ytgjblffihkaepaa.spec Go.Proofs.Ytgjblffihkaepaa.nfa Go.Proofs.Ytgjblffihkaepaa.set Go.Proofs.Ytgjblffihkaepaa.parts Go.Proofs.Ytgjblffihkaepaa.items Go.Proofs.Ytgjblffihkaepaa.part

theorem dsub_c (w : World) (D : T) (a : Option Addr) (cap : Nat) (repl s : ByteArray) (all : Bool) (most : Int) (hn : nd D ≤ 1000000) (hok : okT D) (hsz : SzT D) (hk : TK w D.kids a) (hr : repl.size ≤ 1000) (hs : s.size ≤ 1000) :
    Calls Try.prog 15 #[.agg (eC D a cap), .string repl, .string s, .bool all, .int .i64 most] w fun e w' => e = .returned (SubAns most (whl (fun m => byF m repl.data.toList) s.data.toList (Lst all (hts (fdR (some (relT D)) s.data.toList) s.size 0 0))) (Lst all (hts (fdR (some (relT D)) s.data.toList) s.size 0 0)).length) ∧ Frm No w w' := by
  cases all with
  | true => exact dsub_all w D a cap repl s most hn hok hsz hk hr hs _ rfl
  | false => exact dsub_first w D a cap repl s most hn hok hsz hk hr hs _ rfl

section
variable (w : World) (E R S : ByteArray) (all : Bool) (most : Int)
set_option maxHeartbeats 2000000 in
theorem subs_no (h : ¬ Fit E R S) : Calls Try.prog 4 #[.agg (jC E R S all most)] w fun e w' => e = .returned (.bool true) ∧ Frm No w w' := by
  have HJ0 := Lib.hid (Box.new w 30 (jC E R S all most))
  have HF0 := Lib.hid ((Frm.refl No w).alloc (.cells (jC E R S all most) 30))
  have HN := Lib.hid (fun W => fit_no W E R S all most h)
  clear h
  go_enter Try.func4, Try.ntmps4
  go_wp2_with (first | (go_at_call 7; go_must (refine (awake_all _).mono ?_; rintro en w1 ⟨rfl, hf1⟩; have HJ1 := Lib.hid (HJ0.out.frm hf1 id))) | (refine wpList_load_row rfl 30 (.tmp 1) rfl w.heap.size rfl 30 (jC E R S all most) (0, 0) _ HJ1.out Try.underlying30 rfl info_job ?_) | (go_at_call 11; go_must (refine (HN.out _).mono ?_; rintro en w2 ⟨rfl, hf2⟩)))
  go_ret
  exact ⟨rfl, (HF0.out.trans hf1).trans hf2⟩
set_option maxRecDepth 20000 in
set_option maxHeartbeats 8000000 in
theorem subs_yes (hm1 : -9223372036854775808 ≤ most) (hm2 : most ≤ 9223372036854775807) (h : Fit E R S) : Calls Try.prog 4 #[.agg (jC E R S all most)] w fun e w' => e = .returned (.bool true) ∧ Frm No w w' := by
  obtain ⟨D, hD, hkn⟩ := kn_fit h
  have hsz : S.size ≤ 60 := h.2.2.1
  have HJ0 := Lib.hid (Box.new w 30 (jC E R S all most))
  have HF0 := Lib.hid ((Frm.refl No w).alloc (.cells (jC E R S all most) 30))
  have HY := Lib.hid (fun W => fit_yes W E R S all most h)
  have HP := Lib.hid (fun W => parse_kn W E (by have := h.1; omega) D hD)
  have HNW := Lib.hid (fun (W : World) (a : Option Addr) (cap : Nat) (hk : TK W D.kids a) => new_kn W D hkn a cap hk)
  have hrz : R.size ≤ 60 := h.2.1
  have HM := Lib.hid (fun (W : World) (pa : Addr) (hm : MP W (.pointer (some pa)) (some (relT D))) => sub_all W (some pa) _ R S all most hm (by omega) (by omega) hm1 hm2 _ rfl)
  have HDM := Lib.hid (fun (W : World) (a : Option Addr) (cap : Nat) (hk : TK W D.kids a) => dsub_c W D a cap R S all most hkn.big hkn.ok hkn.sz hk (by omega) (by omega))
  clear h hD hkn
  obtain ⟨t, ht⟩ : ∃ t, whl (fun m => byF m R.data.toList) S.data.toList (Lst all (hts (fdR (some (relT D)) S.data.toList) S.size 0 0)) = t := ⟨_, rfl⟩
  obtain ⟨k, hk⟩ : ∃ k, (Lst all (hts (fdR (some (relT D)) S.data.toList) S.size 0 0)).length = k := ⟨_, rfl⟩
  rw [ht, hk] at HM HDM
  clear ht hk
  by_cases hv : most < (t.length : Int)
  · rw [SubAns_no hv] at HM HDM
    clear hv
    go_enter Try.func4, Try.ntmps4
    go_upto_region 6 with (first | (go_at_call 7; go_must (refine (awake_all _).mono ?_; rintro en w1 ⟨rfl, hf1⟩; have HJ1 := Lib.hid (HJ0.out.frm hf1 id))) | (refine wpList_load_row rfl 30 (.tmp 1) rfl w.heap.size rfl 30 (jC E R S all most) (0, 0) _ HJ1.out Try.underlying30 rfl info_job ?_) | (go_at_call 11; go_must (refine (HY.out _).mono ?_; rintro en w2 ⟨rfl, hf2⟩; have HJ2 := Lib.hid (HJ1.out.frm hf2 id); have j2 := HJ2.out.cell 0)) | (go_at_call 12; go_must (refine (HP.out _).mono ?_; rintro en w3 ⟨a, cap, rfl, hk, hf3⟩; have HK := Lib.hid (hk.move ((Frm.refl No w3).alloc (.cells (eC D a cap) 33))); have HB3 := Lib.hid (Box.new w3 33 (eC D a cap)); have HJ3 := Lib.hid ((HJ2.out.frm hf3 id).alloc (.cells (eC D a cap) 33)); have HF3 := Lib.hid ((((HF0.out.trans hf1).trans hf2).trans hf3).alloc (.cells (eC D a cap) 33)); clear hk)))
    have hS3 : Held w.heap.size w3.heap.size E R S all most D a cap (w3.alloc (.cells (eC D a cap) 33)).drew := held_of HJ3.out HB3.out
    unfold Held at hS3
    have HKD := Lib.hid (HK.out.move ((Frm.refl No (w3.alloc (.cells (eC D a cap) 33))).drew))
    go_region_held3 (fun w' => w'.cell? ⟨w.heap.size, 1, none⟩ = some (.string R) ∧ w'.cell? ⟨w.heap.size, 2, none⟩ = some (.string S) ∧ w'.cell? ⟨w.heap.size, 3, none⟩ = some (.bool all) ∧ w'.cell? ⟨w.heap.size, 4, none⟩ = some (.int .i64 most) ∧ w'.cell? ⟨w3.heap.size, 0, none⟩ = some (.string D.op) ∧ w'.cell? ⟨w3.heap.size, 1, none⟩ = some (.string D.set) ∧ w'.cell? ⟨w3.heap.size, 2, none⟩ = some (.slice a D.kids.len cap) ∧ w'.cell? ⟨w3.heap.size, 3, none⟩ = some (.int .i64 D.lo) ∧ w'.cell? ⟨w3.heap.size, 4, none⟩ = some (.int .i64 D.hi)) (first | assumption | go_keep) (first | (go_at_call 14; refine (HNW.out _ a cap HKD.out).mono ?_; rintro en w4 ⟨pa, rfl, hmp, hf4⟩; have hS4 : Held w.heap.size w3.heap.size E R S all most D a cap w4 := held_of (HJ3.out.drew.frm hf4 id) (HB3.out.drew.frm hf4 id); unfold Held at hS4; have HF4 := Lib.hid (HF3.out.drew.trans hf4); have HK4 := Lib.hid (HKD.out.move hf4); have HMP := Lib.hid hmp; have HJ4 := Lib.hid (HJ3.out.drew.frm hf4 id); have HB4 := Lib.hid (HB3.out.drew.frm hf4 id); clear hmp) | (go_at_call 13; refine (HM.out _ pa HMP.out).mono ?_; rintro en w5 ⟨rfl, hf5⟩; have hS5 : Held w.heap.size w3.heap.size E R S all most D a cap w5 := held_of (HJ4.out.frm hf5 id) (HB4.out.frm hf5 id); unfold Held at hS5; have HB5 := Lib.hid (HB4.out.frm hf5 id); have HK5 := Lib.hid (HK4.out.move hf5); have HF5 := Lib.hid (HF4.out.trans hf5)))
    obtain ⟨j1', j2', j3', j4', _⟩ := hS5
    go_wp2_with (first | (refine wpList_load_row rfl 33 (.tmp 3) rfl w3.heap.size rfl 33 (eC D a cap) (0, 0) _ HB5.out Try.underlying33 rfl doc3.info_er ?_) | (go_at_call 15; go_must (refine (HDM.out _ a cap HK5.out).mono ?_; rintro en w6 ⟨rfl, hf6⟩)))
    go_ret
    exact ⟨by simp, HF5.out.trans hf6⟩
  · rw [SubAns_yes hv] at HM HDM
    clear hv
    go_enter Try.func4, Try.ntmps4
    go_upto_region 6 with (first | (go_at_call 7; go_must (refine (awake_all _).mono ?_; rintro en w1 ⟨rfl, hf1⟩; have HJ1 := Lib.hid (HJ0.out.frm hf1 id))) | (refine wpList_load_row rfl 30 (.tmp 1) rfl w.heap.size rfl 30 (jC E R S all most) (0, 0) _ HJ1.out Try.underlying30 rfl info_job ?_) | (go_at_call 11; go_must (refine (HY.out _).mono ?_; rintro en w2 ⟨rfl, hf2⟩; have HJ2 := Lib.hid (HJ1.out.frm hf2 id); have j2 := HJ2.out.cell 0)) | (go_at_call 12; go_must (refine (HP.out _).mono ?_; rintro en w3 ⟨a, cap, rfl, hk, hf3⟩; have HK := Lib.hid (hk.move ((Frm.refl No w3).alloc (.cells (eC D a cap) 33))); have HB3 := Lib.hid (Box.new w3 33 (eC D a cap)); have HJ3 := Lib.hid ((HJ2.out.frm hf3 id).alloc (.cells (eC D a cap) 33)); have HF3 := Lib.hid ((((HF0.out.trans hf1).trans hf2).trans hf3).alloc (.cells (eC D a cap) 33)); clear hk)))
    have hS3 : Held w.heap.size w3.heap.size E R S all most D a cap (w3.alloc (.cells (eC D a cap) 33)).drew := held_of HJ3.out HB3.out
    unfold Held at hS3
    have HKD := Lib.hid (HK.out.move ((Frm.refl No (w3.alloc (.cells (eC D a cap) 33))).drew))
    go_region_held3 (fun w' => w'.cell? ⟨w.heap.size, 1, none⟩ = some (.string R) ∧ w'.cell? ⟨w.heap.size, 2, none⟩ = some (.string S) ∧ w'.cell? ⟨w.heap.size, 3, none⟩ = some (.bool all) ∧ w'.cell? ⟨w.heap.size, 4, none⟩ = some (.int .i64 most) ∧ w'.cell? ⟨w3.heap.size, 0, none⟩ = some (.string D.op) ∧ w'.cell? ⟨w3.heap.size, 1, none⟩ = some (.string D.set) ∧ w'.cell? ⟨w3.heap.size, 2, none⟩ = some (.slice a D.kids.len cap) ∧ w'.cell? ⟨w3.heap.size, 3, none⟩ = some (.int .i64 D.lo) ∧ w'.cell? ⟨w3.heap.size, 4, none⟩ = some (.int .i64 D.hi)) (first | assumption | go_keep) (first | (go_at_call 14; refine (HNW.out _ a cap HKD.out).mono ?_; rintro en w4 ⟨pa, rfl, hmp, hf4⟩; have hS4 : Held w.heap.size w3.heap.size E R S all most D a cap w4 := held_of (HJ3.out.drew.frm hf4 id) (HB3.out.drew.frm hf4 id); unfold Held at hS4; have HF4 := Lib.hid (HF3.out.drew.trans hf4); have HK4 := Lib.hid (HKD.out.move hf4); have HMP := Lib.hid hmp; have HJ4 := Lib.hid (HJ3.out.drew.frm hf4 id); have HB4 := Lib.hid (HB3.out.drew.frm hf4 id); clear hmp) | (go_at_call 13; refine (HM.out _ pa HMP.out).mono ?_; rintro en w5 ⟨rfl, hf5⟩; have hS5 : Held w.heap.size w3.heap.size E R S all most D a cap w5 := held_of (HJ4.out.frm hf5 id) (HB4.out.frm hf5 id); unfold Held at hS5; have HB5 := Lib.hid (HB4.out.frm hf5 id); have HK5 := Lib.hid (HK4.out.move hf5); have HF5 := Lib.hid (HF4.out.trans hf5)))
    obtain ⟨j1', j2', j3', j4', _⟩ := hS5
    go_wp2_with (first | (refine wpList_load_row rfl 33 (.tmp 3) rfl w3.heap.size rfl 33 (eC D a cap) (0, 0) _ HB5.out Try.underlying33 rfl doc3.info_er ?_) | (go_at_call 15; go_must (refine (HDM.out _ a cap HK5.out).mono ?_; rintro en w6 ⟨rfl, hf6⟩)))
    go_ret
    exact ⟨by simp, HF5.out.trans hf6⟩
theorem subs_law (hm1 : -9223372036854775808 ≤ most) (hm2 : most ≤ 9223372036854775807) : Calls Try.prog 4 #[.agg (jC E R S all most)] w fun e w' => e = .returned (.bool true) ∧ Frm No w w' := by
  by_cases h : Fit E R S
  · exact subs_yes w E R S all most hm1 hm2 h
  · exact subs_no w E R S all most h
end
end Go.Proofs.Ytgjblffihkaepaa.wrd
