/- Contract of ere's expression. -/
import Derived.Test.YtfgdhafpiikpjaaBranch
namespace Go.Proofs.Ytfgdhafpiikpjaa.items
set_option linter.unusedVariables false set_option linter.unusedSimpArgs false
open Go.ChangeShapes Go.WideShapes Go.ChangeAt Go.RowKit Go.Proofs.Ytfgdhafpiikpjaa.base Go.Proofs.Ytfgdhafpiikpjaa.read Go.Proofs.Ytfgdhafpiikpjaa.spec Go.Proofs.Ytfgdhafpiikpjaa.set Go.Proofs.Ytfgdhafpiikpjaa.nums Go.Proofs.Ytfgdhafpiikpjaa.parts

set_option maxHeartbeats 1000000 in
theorem expression_all (g : List UInt8 → Res Part) (w : World) (R : Nat) (s : ByteArray) (d : Nat) (G : GrpC g d) (hg : Short g) (l : List UInt8) (h : Rd w R s d l) (res : Res Part) (hres : expr g l = res) :
    Calls Try.prog 45 #[.pointer (some ⟨R, 0, none⟩)] w (PartPost w R s d res) := by
  have hRlt := h.lt
  have hR0 := h.ne0
  have hll := h.len
  have HA := Lib.hid ((h.alloc (.cells zp 88)).alloc (.cells #[.slice none 0 0, .int .i64 0] 102))
  have HX0 := Lib.hid ((Box.new w 88 zp).alloc (.cells #[.slice none 0 0, .int .i64 0] 102))
  have HRW := Lib.hid (rowv_new (w.alloc (.cells zp 88)) w.heap.size)
  rw [World.size_alloc] at HRW
  have HN := Lib.hid (show ¬ At R w.heap.size from fun e => by have e' : w.heap.size = R := e; omega)
  have HN0 := Lib.hid (show ¬ At w.heap.size 0 from fun e => by have e' : 0 = w.heap.size := e; omega)
  have HNR := Lib.hid (show ¬ At w.heap.size R from fun e => by have e' : R = w.heap.size := e; omega)
  have HRES := Lib.hid hres
  clear h hres
  go_enter Try.func45, Try.ntmps45
  go_wp2
  obtain ⟨rr, hrr⟩ : ∃ rr, rr = exprF g (l.length + 1) row0 l := ⟨_, rfl⟩
  have HRR := Lib.hid hrr.symm
  have HFIN := Lib.hid (show res = joinRes altW 1 rr by rw [← HRES.out, expr, ← hrr]; cases rr <;> rfl)
  clear hrr
  go_loopw [6] (fun _ wr => ∃ (r : Row) (l' : List UInt8) (n U : Nat), exprF g n r l' = rr ∧ l'.length < n ∧ r.kids.len + l'.length ≤ 100000 + 0 ∧ RowV wr w.heap.size U (w.heap.size + 1) r ∧ U ≤ wr.heap.size ∧ Rd wr R s d l' ∧ Box wr w.heap.size 88 zp ∧ Frm (At R) w wr) (fun _ wr => left R s wr)
  case atStart => exact ⟨row0, l, l.length + 1, w.heap.size + 1, HRR.out, by omega, by show 0 + l.length ≤ _; omega, HRW.out, by simp, HA.out, HX0.out, ((Frm.refl (At R) w).alloc _).alloc _⟩
  case round =>
    obtain ⟨r, l', n, U, hit, hn, hkl, hrow, hU, hrd, hbz, hf⟩ := hrel
    obtain ⟨m, rfl⟩ : ∃ m, n = m + 1 := ⟨n - 1, by omega⟩
    have HIT := Lib.hid hit
    have HROW := Lib.hid hrow
    have HR := Lib.hid hrd
    have HZ := Lib.hid hbz
    have HF := Lib.hid hf
    have HL := Lib.hid (left_eq hrd)
    have hszr := hf.size
    clear hit hrow hrd hbz hf
    have HST := Lib.hid (show rr = match branch g l' with
        | .bad e => .bad e
        | .ok p l2 => if hd l2 124 then exprF g m (r.add p) l2.tail else .ok (r.add p) l2 by
      rw [← HIT.out, exprF]
      cases branch g l' <;> rfl)
    cases hpc : branch g l' with
    | bad fault =>
      have HPC := Lib.hid hpc
      have HE := Lib.hid (show res = .bad fault by rw [HFIN.out, HST.out, hpc]; rfl)
      clear hpc
      go_wp2_with (first | (go_at_call 58; go_must (refine (branch_all g _ R s d G hg l' (by exact HR.out) _ rfl).mono ?_; intro e w3 hip; obtain ⟨C, fault2, rfl, hsh, hf3, hgot⟩ := hip.uni; rw [HPC.out] at hgot; obtain ⟨h0, h5, hfe, ⟨l3, hr3⟩⟩ : 0 < fault ∧ fault ≤ 5 ∧ fault2 = fault ∧ ∃ l3, Rd w3 R s d l3 := hgot.bad; subst hfe; have HR3 := Lib.hid hr3; clear hr3; have HZ3 := Lib.hid (show Box w3 w.heap.size 88 zp from Box.frm (w := wr) HZ.out hf3 HN.out); have HROW3 := Lib.hid (show RowV w3 w.heap.size wr.heap.size (w.heap.size + 1) r from rowv_rd (w := wr) (rowv_mono HROW.out (by exact hU)) hf3 HR.out (by omega)); have HF3 := Lib.hid (show Frm (At R) w w3 from HF.out.trans hf3); have hsz3 := HF3.out.size; have HZ4 := Lib.hid (HZ3.out.alloc (.cells C 88)); have HR4 := Lib.hid (HR3.out.alloc (.cells C 88)); have HF4 := Lib.hid (HF3.out.alloc (.cells C 88)); have h0' : (((fault2 : Nat) : Int) == 0) = false := (by simp; omega); obtain ⟨o, s1, a1, n1', c1, x1, y1, m1, hC⟩ := hsh; cases hC; clear hip hf3 hgot)) | (refine wpList_store_row rfl 88 (.tmp 2) (.tmp 14) rfl w.heap.size _ rfl rfl 88 zp HZ4.out info_part rfl (by simp [Value.oneCell']) ?_))
      refine bodyPost_ret (results_part2 Try.results45 _ _ w.heap.size 88 _ (0, 0) _ (.int .i64 (fault2 : Nat)) rfl rfl (setRow_eq HZ4.out) Try.underlying88 rfl info_part) rfl ?_
      rw [HE.out]
      exact ⟨_, rfl, ⟨_, _, _, _, _, _, _, _, rfl⟩, h0, h5, ⟨l3, Rd.frm HR4.out (frm_setRow (S := At w.heap.size) (Frm.refl _ _) _ _ (fun _ => rfl)) HNR.out HN0.out⟩, frm_setRow HF4.out _ _ (fun hk => absurd hk (Nat.lt_irrefl _))⟩
    | ok p l3 =>
      have HPC := Lib.hid hpc
      have HE2 := Lib.hid (show rr = if hd l3 124 then exprF g m (r.add p) l3.tail else .ok (r.add p) l3 by rw [HST.out, hpc])
      have hlen := branch_len hg hpc
      have hal := add_len r p
      clear hpc
      by_cases hh : hd l3 124 = true
      · obtain ⟨t, ht⟩ := hd_cons hh
        have hlt : l3.tail.length < l3.length := by rw [ht]; simp
        have HE := Lib.hid (show exprF g m (r.add p) l3.tail = rr by rw [HE2.out, if_pos hh])
        go_wp2_with (first | (go_at_call 58; go_must (refine (branch_all g _ R s d G hg l' (by exact HR.out) _ rfl).mono ?_; intro e w3 hip; obtain ⟨C, fault, rfl, hsh, hf3, hgot⟩ := hip.uni; rw [HPC.out] at hgot; obtain ⟨hfe, hp3, hr3⟩ : fault = 0 ∧ PV w3 (fun k => wr.heap.size ≤ k) (.agg C) p ∧ Rd w3 R s d l3 := hgot.ok; subst hfe; have HP3 := Lib.hid hp3; have HR3 := Lib.hid hr3; clear hp3 hr3; have HZ3 := Lib.hid (show Box w3 w.heap.size 88 zp from Box.frm (w := wr) HZ.out hf3 HN.out); have HROW3 := Lib.hid (show RowV w3 w.heap.size wr.heap.size (w.heap.size + 1) r from rowv_rd (w := wr) (rowv_mono HROW.out (by exact hU)) hf3 HR.out (by omega)); have HF3 := Lib.hid (show Frm (At R) w w3 from HF.out.trans hf3); have hsz3 := HF3.out.size; obtain ⟨o, s1, a1, n1', c1, x1, y1, m1, hC⟩ := hsh; cases hC; clear hip hf3 hgot)) | (go_at_call 59; go_must (refine (add_all _ w.heap.size wr.heap.size (w.heap.size + 1) r (fun k => wr.heap.size ≤ k) _ p (rowv_move HROW3.out (frm1 w3 _)) (HP3.out.move (frm1 w3 _)) (fun k h => h) (by omega) (by simp; omega) (by omega)).mono ?_; rintro e w5 ⟨rfl, hrow5, hf5⟩; have HROW5 := Lib.hid hrow5; have HZ5 := Lib.hid (show Box w5 w.heap.size 88 zp from (HZ3.out.alloc _).frm hf5 (rows_box (HZ3.out.alloc _) (by decide) (by omega))); have HR5 := Lib.hid (show Rd w5 R s d l3 from (HR3.out.alloc _).frm hf5 (rows_lt (by omega) hRlt) (rows_lt (by omega) (by omega))); have HF5 := Lib.hid (show Frm (At R) w w5 from (HF3.out.alloc _).then hf5 (fun k hk e => absurd e (rows_lt (by omega) hk))); have hsz5 := HF5.out.size; clear hrow5 hf5)) | (go_at_call 60; go_must (refine (take_all w5 R s d l3 124 _ rfl (by exact HR5.out)).mono ?_; rintro e w7 ⟨rfl, hr7, hf7⟩; rw [if_pos hh] at hr7; have HR7 := Lib.hid hr7; have HZ7 := Lib.hid (show Box w7 w.heap.size 88 zp from HZ5.out.frm hf7 HN.out); have HROW7 := Lib.hid (rowv_rd HROW5.out hf7 HR5.out (by omega)); have HF7 := Lib.hid (HF5.out.trans hf7); have hsz7 := hf7.size; clear hr7 hf7)))
        go_roundw
        case rel => exact ⟨r.add p, l3.tail, m, w5.heap.size, HE.out, by omega, by omega, HROW7.out, hsz7, HR7.out, HZ7.out, HF7.out⟩
        case measure =>
          have := left_eq HR7.out
          have := HL.out
          omega
      · have HE := Lib.hid (show res = .ok ((r.add p).join altW 1) l3 by rw [HFIN.out, HE2.out, if_neg hh]; rfl)
        have hh : hd l3 124 = false := by simpa using hh
        go_wp2_with (first | (go_at_call 58; go_must (refine (branch_all g _ R s d G hg l' (by exact HR.out) _ rfl).mono ?_; intro e w3 hip; obtain ⟨C, fault, rfl, hsh, hf3, hgot⟩ := hip.uni; rw [HPC.out] at hgot; obtain ⟨hfe, hp3, hr3⟩ : fault = 0 ∧ PV w3 (fun k => wr.heap.size ≤ k) (.agg C) p ∧ Rd w3 R s d l3 := hgot.ok; subst hfe; have HP3 := Lib.hid hp3; have HR3 := Lib.hid hr3; clear hp3 hr3; have HZ3 := Lib.hid (show Box w3 w.heap.size 88 zp from Box.frm (w := wr) HZ.out hf3 HN.out); have HROW3 := Lib.hid (show RowV w3 w.heap.size wr.heap.size (w.heap.size + 1) r from rowv_rd (w := wr) (rowv_mono HROW.out (by exact hU)) hf3 HR.out (by omega)); have HF3 := Lib.hid (show Frm (At R) w w3 from HF.out.trans hf3); have hsz3 := HF3.out.size; obtain ⟨o, s1, a1, n1', c1, x1, y1, m1, hC⟩ := hsh; cases hC; clear hip hf3 hgot)) | (go_at_call 59; go_must (refine (add_all _ w.heap.size wr.heap.size (w.heap.size + 1) r (fun k => wr.heap.size ≤ k) _ p (rowv_move HROW3.out (frm1 w3 _)) (HP3.out.move (frm1 w3 _)) (fun k h => h) (by omega) (by simp; omega) (by omega)).mono ?_; rintro e w5 ⟨rfl, hrow5, hf5⟩; have HROW5 := Lib.hid hrow5; have HZ5 := Lib.hid (show Box w5 w.heap.size 88 zp from (HZ3.out.alloc _).frm hf5 (rows_box (HZ3.out.alloc _) (by decide) (by omega))); have HR5 := Lib.hid (show Rd w5 R s d l3 from (HR3.out.alloc _).frm hf5 (rows_lt (by omega) hRlt) (rows_lt (by omega) (by omega))); have HF5 := Lib.hid (show Frm (At R) w w5 from (HF3.out.alloc _).then hf5 (fun k hk e => absurd e (rows_lt (by omega) hk))); have hsz5 := HF5.out.size; clear hrow5 hf5)) | (go_at_call 60; go_must (refine (take_all w5 R s d l3 124 _ rfl (by exact HR5.out)).mono ?_; rintro e w7 ⟨rfl, hr7, hf7⟩; rw [if_neg (by rw [hh]; decide)] at hr7; have HR7 := Lib.hid hr7; have HZ7 := Lib.hid (show Box w7 w.heap.size 88 zp from HZ5.out.frm hf7 HN.out); have HROW7 := Lib.hid (rowv_rd HROW5.out hf7 HR5.out (by omega)); have HF7 := Lib.hid (HF5.out.trans hf7); have hsz7 := hf7.size; clear hr7 hf7)) | (go_at_call 61; go_must (refine (join_all _ w.heap.size w5.heap.size (w.heap.size + 1) (r.add p) altW 1 HROW7.out (by omega) _ rfl).mono ?_; rintro e w6 ⟨v6, rfl, hp6, hf6⟩; have HP6 := Lib.hid hp6; have HZ6 := Lib.hid (show Box w6 w.heap.size 88 zp from HZ7.out.frm hf6 id); have HR6 := Lib.hid (Rd.move HR7.out hf6); have HF6 := Lib.hid (Frm.then HF7.out hf6 (fun _ _ e => e.elim)); obtain ⟨hn6, a6, cap6, rfl, hk6⟩ := hp6; clear hf6 hk6)) | (refine wpList_store_row rfl 88 (.tmp 2) (.tmp 21) rfl w.heap.size _ rfl rfl 88 zp HZ6.out info_part rfl (by simp [Value.oneCell']) ?_))
        refine bodyPost_ret (results_part2 Try.results45 _ _ w.heap.size 88 _ (0, 0) _ (.int .i64 0) rfl rfl (setRow_eq HZ6.out) Try.underlying88 rfl info_part) rfl ?_
        rw [HE.out]
        exact ⟨_, rfl, HP6.out.setRow HZ6.out (by decide) _, Rd.frm HR6.out (frm_setRow (S := At w.heap.size) (Frm.refl _ _) _ _ (fun _ => rfl)) HNR.out HN0.out, frm_setRow HF6.out _ _ (fun hk => absurd hk (Nat.lt_irrefl _))⟩
end Go.Proofs.Ytfgdhafpiikpjaa.items
