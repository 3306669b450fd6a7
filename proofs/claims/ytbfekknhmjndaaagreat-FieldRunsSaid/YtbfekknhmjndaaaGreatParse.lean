/- Contract of ere.Parse. -/
import Derived.Test.YtbfekknhmjndaaaGreatGroup
namespace Go.Proofs.YtbfekknhmjndaaaGreat.items
set_option linter.unusedVariables false set_option linter.unusedSimpArgs false
open Go.ChangeShapes Go.WideShapes Go.ChangeAt Go.RowKit Go.Proofs.YtbfekknhmjndaaaGreat.base Go.Proofs.YtbfekknhmjndaaaGreat.read Go.Proofs.YtbfekknhmjndaaaGreat.spec Go.Proofs.YtbfekknhmjndaaaGreat.set Go.Proofs.YtbfekknhmjndaaaGreat.nums Go.Proofs.YtbfekknhmjndaaaGreat.parts

/-- The five cells C are a tree. -/
def TV (w : World) (F : Nat → Prop) (C : Array Value) (t : T) : Prop :=
  ∃ a cap, C = #[.string t.op, .string t.set, .slice a t.kids.len cap, .int .i64 t.lo, .int .i64 t.hi] ∧ KV w F (.slice a t.kids.len cap) t.kids
theorem TV.frm {S F : Nat → Prop} {w w' : World} {C : Array Value} {t : T} (h : TV w F C t) (hf : Frm S w w') (hs : ∀ g, F g → g < w.heap.size → ¬ S g) : TV w' F C t := by
  obtain ⟨a, cap, h1, h2⟩ := h
  exact ⟨a, cap, h1, h2.frm hf hs⟩
theorem TV.mono {F F' : Nat → Prop} {w : World} {C : Array Value} {t : T} (h : TV w F C t) (hs : ∀ g, F g → g < w.heap.size → F' g) : TV w F' C t := by
  obtain ⟨a, cap, h1, h2⟩ := h
  exact ⟨a, cap, h1, h2.mono hs⟩
def ze : Array Value := #[.string ⟨#[]⟩, .string ⟨#[]⟩, .slice none 0 0, .int .i64 0, .int .i64 0]
theorem info_e5 : (Tryz.prog.info? 47).map (·.size) = some 5 := by kernel_rfl
theorem tv_zero (w : World) (F : Nat → Prop) : TV w F ze zT := ⟨none, 0, rfl, KV.nil _ _⟩

def ParsePost (w : World) (r : T × Nat) (e : Ending) (w' : World) : Prop :=
  ∃ C, e = .returned (.tuple #[.agg C, .int .i64 (r.2 : Nat)]) ∧ TV w' (fun k => w.heap.size ≤ k) C r.1 ∧ Frm No w w'

set_option maxHeartbeats 1000000 in
theorem parse_c (w : World) (s : ByteArray) (hm : Mx w) (hz : s.size ≤ 100000) (r : T × Nat) (hr : parse s.data.toList = r) :
    Calls Tryz.prog 34 #[.string s] w (ParsePost w r) := by
  have hw0 : 0 < w.heap.size := by
    obtain ⟨m, hm⟩ := hm
    exact Nat.lt_of_le_of_lt (Nat.zero_le _) (World.block_lt_of_cell? w _ hm)
  have HZ0 := Lib.hid ((Box.new w 47 ze).alloc (.cells #[.string s, .int .i64 0, .int .i64 0] 92))
  have HF0 := Lib.hid (frm2 w (.cells ze 47) (.cells #[.string s, .int .i64 0, .int .i64 0] 92))
  have HRD := Lib.hid (show Rd ((w.alloc (.cells ze 47)).alloc (.cells #[.string s, .int .i64 0, .int .i64 0] 92)) (w.heap.size + 1) s 0 s.data.toList from by
    refine ⟨0, ⟨?_, Nat.zero_le _, hz, by omega, by omega, hm.frm HF0.out id⟩, rfl⟩
    have := Box.new (w.alloc (.cells ze 47)) 92 #[.string s, .int .i64 0, .int .i64 0]
    rw [World.size_alloc] at this
    exact this)
  have HNb := Lib.hid (show ¬ At (w.heap.size + 1) w.heap.size from fun e => by have e' : w.heap.size = w.heap.size + 1 := e; omega)
  have HR := Lib.hid hr
  clear hr hm
  cases hpc : expr (groupN 100) s.data.toList with
  | bad fault =>
    have HPC := Lib.hid hpc
    have HE := Lib.hid (show r = (zT, fault) by rw [← HR.out, parse, hpc])
    clear hpc
    go_enter Tryz.func34, Tryz.ntmps34
    go_wp2_with (first | (go_at_call 47; go_must (refine (expression_all _ _ (w.heap.size + 1) s 0 (group_all 100 0 rfl) (groupN_short 100) s.data.toList (by exact HRD.out) _ rfl).mono ?_; intro e w3 hip; obtain ⟨C, fault2, rfl, hsh, hf3, hgot⟩ := hip.uni; rw [HPC.out] at hgot; obtain ⟨h0, h5, hfe, ⟨l3, hr3⟩⟩ : 0 < fault ∧ fault ≤ 5 ∧ fault2 = fault ∧ ∃ l3, Rd w3 (w.heap.size + 1) s 0 l3 := hgot.bad; subst hfe; have HR3 := Lib.hid hr3; have h0' : (((fault2 : Nat) : Int) == 0) = false := (by simp; omega); have hlt3 := (show Box w3 w.heap.size 47 ze from HZ0.out.frm hf3 HNb.out).lt; have HZ4 := Lib.hid (((show Box w3 w.heap.size 47 ze from HZ0.out.frm hf3 HNb.out)).alloc (.cells C 94)); have HF4 := Lib.hid (show Frm No w (w3.alloc (.cells C 94)) from (HF0.out.then hf3 (fun k hk e => by have e' : k = w.heap.size + 1 := e; omega)).alloc _); have HB4 := Lib.hid (Box.new w3 94 C); have HR4 := Lib.hid (HR3.out.alloc (.cells C 94));  obtain ⟨o, s1, a1, n1', c1, x1, y1, m1, hC⟩ := hsh; cases hC; clear hip hf3 hgot)) | (refine wpList_store_row rfl 47 (.tmp 2) (.tmp 27) rfl w.heap.size _ rfl rfl 47 ze HZ4.out info_e5 rfl (by simp [Value.oneCell']) ?_))
    refine bodyPost_ret (results_part2 Tryz.results34 _ _ w.heap.size 47 _ (0, 0) _ (.int .i64 (fault2 : Nat)) rfl rfl (setRow_eq HZ4.out) Tryz.underlying47 rfl info_e5) rfl ?_
    rw [HE.out]
    exact ⟨_, rfl, tv_zero _ _, frm_setRow HF4.out _ _ (fun hk => absurd hk (Nat.lt_irrefl _))⟩
  | ok p l3 =>
    have HPC := Lib.hid hpc
    by_cases hl : l3.isEmpty = true
    · by_cases hbig : 2000 < p.n
      · have HE := Lib.hid (show r = (zT, 5) by rw [← HR.out, parse, hpc]; simp [hl, hbig])
        have hb : decide (2000 < ((p.n : Nat) : Int)) = true := by simp; omega
        clear hpc
        go_enter Tryz.func34, Tryz.ntmps34
        go_wp2_with (first | (go_at_call 47; go_must (refine (expression_all _ _ (w.heap.size + 1) s 0 (group_all 100 0 rfl) (groupN_short 100) s.data.toList (by exact HRD.out) _ rfl).mono ?_; intro e w3 hip; obtain ⟨C, fault2, rfl, hsh, hf3, hgot⟩ := hip.uni; rw [HPC.out] at hgot; obtain ⟨hfe, hp3, hr3⟩ : fault2 = 0 ∧ PV w3 _ (.agg C) p ∧ Rd w3 (w.heap.size + 1) s 0 l3 := hgot.ok; subst hfe; have HP3 := Lib.hid (hp3.mono (F' := fun k => w.heap.size + 2 ≤ k) (fun g h _ => by have := h; simp only [World.size_alloc] at this; omega)); have HR3 := Lib.hid hr3; have hlt3 := (show Box w3 w.heap.size 47 ze from HZ0.out.frm hf3 HNb.out).lt; have HZ4 := Lib.hid (((show Box w3 w.heap.size 47 ze from HZ0.out.frm hf3 HNb.out)).alloc (.cells C 94)); have HF4 := Lib.hid (show Frm No w (w3.alloc (.cells C 94)) from (HF0.out.then hf3 (fun k hk e => by have e' : k = w.heap.size + 1 := e; omega)).alloc _); have HB4 := Lib.hid (Box.new w3 94 C); have HR4 := Lib.hid (HR3.out.alloc (.cells C 94)); have HP4 := Lib.hid (HP3.out.move (frm1 w3 (.cells C 94))); obtain ⟨hpn, pa, pcap, hpC, hpk⟩ := HP4.out; cases hpC; have HK4 := Lib.hid hpk; clear hip hf3 hgot)) | (go_at_call 48; go_must (refine (done_all _ (w.heap.size + 1) s 0 l3 (by exact HR4.out)).mono ?_; rintro e _ ⟨rfl, n1, rfl⟩)) | (refine wpList_load_row rfl 94 (.tmp 5) rfl w3.heap.size rfl 94 _ (0, 0) _ HB4.out Tryz.underlying94 rfl info_part ?_) | (go_at_call 49; go_must (refine (big_all _ _ _ _ _ _ _ _ _).mono ?_; rintro e w5 ⟨rfl, hf5⟩; have HZ5 := Lib.hid (show Box w5 w.heap.size 47 ze from Box.frm (S := No) (by exact HZ4.out) hf5 id); have HB5 := Lib.hid (show Box w5 w3.heap.size 94 _ from Box.frm (S := No) (by exact HB4.out) hf5 id); have HF5 := Lib.hid (show Frm No w w5 from (HF4.out.drewN n1).trans hf5); have HK5 := Lib.hid (KV.move (HK4.out.move ((Frm.refl No _).drewN n1)) hf5); have m0 := HB5.out.cell 0; have m1' := HB5.out.cell 1; have m2 := HB5.out.cell 2; have m3 := HB5.out.cell 3; have m4 := HB5.out.cell 4; clear hf5)) | (refine wpList_store_row rfl 47 (.tmp 2) (.tmp 27) rfl w.heap.size _ rfl rfl 47 ze HZ5.out info_e5 rfl (by simp [Value.oneCell']) ?_))
        refine bodyPost_ret (results_part2 Tryz.results34 _ _ w.heap.size 47 _ (0, 0) _ (.int .i64 5) rfl rfl (setRow_eq HZ5.out) Tryz.underlying47 rfl info_e5) rfl ?_
        rw [HE.out]
        exact ⟨_, rfl, tv_zero _ _, frm_setRow HF5.out _ _ (fun hk => absurd hk (Nat.lt_irrefl _))⟩
      · have HE := Lib.hid (show r = (p.t, 0) by rw [← HR.out, parse, hpc]; simp [hl, hbig])
        have hb : decide (2000 < ((p.n : Nat) : Int)) = false := by simp; omega
        clear hpc
        go_enter Tryz.func34, Tryz.ntmps34
        go_wp2_with (first | (go_at_call 47; go_must (refine (expression_all _ _ (w.heap.size + 1) s 0 (group_all 100 0 rfl) (groupN_short 100) s.data.toList (by exact HRD.out) _ rfl).mono ?_; intro e w3 hip; obtain ⟨C, fault2, rfl, hsh, hf3, hgot⟩ := hip.uni; rw [HPC.out] at hgot; obtain ⟨hfe, hp3, hr3⟩ : fault2 = 0 ∧ PV w3 _ (.agg C) p ∧ Rd w3 (w.heap.size + 1) s 0 l3 := hgot.ok; subst hfe; have HP3 := Lib.hid (hp3.mono (F' := fun k => w.heap.size + 2 ≤ k) (fun g h _ => by have := h; simp only [World.size_alloc] at this; omega)); have HR3 := Lib.hid hr3; have hlt3 := (show Box w3 w.heap.size 47 ze from HZ0.out.frm hf3 HNb.out).lt; have HZ4 := Lib.hid (((show Box w3 w.heap.size 47 ze from HZ0.out.frm hf3 HNb.out)).alloc (.cells C 94)); have HF4 := Lib.hid (show Frm No w (w3.alloc (.cells C 94)) from (HF0.out.then hf3 (fun k hk e => by have e' : k = w.heap.size + 1 := e; omega)).alloc _); have HB4 := Lib.hid (Box.new w3 94 C); have HR4 := Lib.hid (HR3.out.alloc (.cells C 94)); have HP4 := Lib.hid (HP3.out.move (frm1 w3 (.cells C 94))); obtain ⟨hpn, pa, pcap, hpC, hpk⟩ := HP4.out; cases hpC; have HK4 := Lib.hid hpk; clear hip hf3 hgot)) | (go_at_call 48; go_must (refine (done_all _ (w.heap.size + 1) s 0 l3 (by exact HR4.out)).mono ?_; rintro e _ ⟨rfl, n1, rfl⟩)) | (refine wpList_load_row rfl 94 (.tmp 5) rfl w3.heap.size rfl 94 _ (0, 0) _ HB4.out Tryz.underlying94 rfl info_part ?_) | (go_at_call 49; go_must (refine (big_all _ _ _ _ _ _ _ _ _).mono ?_; rintro e w5 ⟨rfl, hf5⟩; have HZ5 := Lib.hid (show Box w5 w.heap.size 47 ze from Box.frm (S := No) (by exact HZ4.out) hf5 id); have HB5 := Lib.hid (show Box w5 w3.heap.size 94 _ from Box.frm (S := No) (by exact HB4.out) hf5 id); have HF5 := Lib.hid (show Frm No w w5 from (HF4.out.drewN n1).trans hf5); have HK5 := Lib.hid (KV.move (HK4.out.move ((Frm.refl No _).drewN n1)) hf5); have m0 := HB5.out.cell 0; have m1' := HB5.out.cell 1; have m2 := HB5.out.cell 2; have m3 := HB5.out.cell 3; have m4 := HB5.out.cell 4; clear hf5)) | (refine wpList_store_row rfl 47 (.tmp 2) (.tmp 30) rfl w.heap.size _ rfl rfl 47 ze HZ5.out info_e5 rfl (by simp [Value.oneCell']) ?_))
        refine bodyPost_ret (results_part2 Tryz.results34 _ _ w.heap.size 47 _ (0, 0) _ (.int .i64 0) rfl rfl (setRow_eq HZ5.out) Tryz.underlying47 rfl info_e5) rfl ?_
        rw [HE.out]
        refine ⟨_, rfl, ⟨pa, pcap, rfl, ?_⟩, frm_setRow HF5.out _ _ (fun hk => absurd hk (Nat.lt_irrefl _))⟩
        exact ((HK5.out.frm (frm_setRow (S := At w.heap.size) (Frm.refl _ _) _ _ (fun _ => rfl)) (fun g h _ e => by have e' : g = w.heap.size := e; omega))).mono (fun g h _ => by omega)
    · have hl' : l3.isEmpty = false := by simpa using hl
      have HE := Lib.hid (show r = (zT, 1) by rw [← HR.out, parse, hpc]; simp [hl'])
      clear hpc hl
      go_enter Tryz.func34, Tryz.ntmps34
      go_wp2_with (first | (go_at_call 47; go_must (refine (expression_all _ _ (w.heap.size + 1) s 0 (group_all 100 0 rfl) (groupN_short 100) s.data.toList (by exact HRD.out) _ rfl).mono ?_; intro e w3 hip; obtain ⟨C, fault2, rfl, hsh, hf3, hgot⟩ := hip.uni; rw [HPC.out] at hgot; obtain ⟨hfe, hp3, hr3⟩ : fault2 = 0 ∧ PV w3 _ (.agg C) p ∧ Rd w3 (w.heap.size + 1) s 0 l3 := hgot.ok; subst hfe; have HP3 := Lib.hid (hp3.mono (F' := fun k => w.heap.size + 2 ≤ k) (fun g h _ => by have := h; simp only [World.size_alloc] at this; omega)); have HR3 := Lib.hid hr3; have hlt3 := (show Box w3 w.heap.size 47 ze from HZ0.out.frm hf3 HNb.out).lt; have HZ4 := Lib.hid (((show Box w3 w.heap.size 47 ze from HZ0.out.frm hf3 HNb.out)).alloc (.cells C 94)); have HF4 := Lib.hid (show Frm No w (w3.alloc (.cells C 94)) from (HF0.out.then hf3 (fun k hk e => by have e' : k = w.heap.size + 1 := e; omega)).alloc _); have HB4 := Lib.hid (Box.new w3 94 C); have HR4 := Lib.hid (HR3.out.alloc (.cells C 94)); have HP4 := Lib.hid (HP3.out.move (frm1 w3 (.cells C 94))); obtain ⟨o, s1, a1, n1', c1, x1, y1, m1, hC⟩ := hsh; cases hC; clear hip hf3 hgot)) | (go_at_call 48; go_must (refine (done_all _ (w.heap.size + 1) s 0 l3 (by exact HR4.out)).mono ?_; rintro e _ ⟨rfl, n1, rfl⟩)) | (refine wpList_store_row rfl 47 (.tmp 2) (.tmp 27) rfl w.heap.size _ rfl rfl 47 ze HZ4.out info_e5 rfl (by simp [Value.oneCell']) ?_))
      refine bodyPost_ret (results_part2 Tryz.results34 _ _ w.heap.size 47 _ (0, 0) _ (.int .i64 1) rfl rfl (setRow_eq HZ4.out) Tryz.underlying47 rfl info_e5) rfl ?_
      rw [HE.out]
      exact ⟨_, rfl, tv_zero _ _, frm_setRow (HF4.out.drewN n1) _ _ (fun hk => absurd hk (Nat.lt_irrefl _))⟩
end Go.Proofs.YtbfekknhmjndaaaGreat.items
