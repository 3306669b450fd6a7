/- Contracts of ere's branch and expression. -/
import Derived.Test.YtfgdhafpiikpjaaPiece
namespace Go.Proofs.Ytfgdhafpiikpjaa.items
set_option linter.unusedVariables false set_option linter.unusedSimpArgs false
open Go.ChangeShapes Go.WideShapes Go.ChangeAt Go.RowKit Go.Proofs.Ytfgdhafpiikpjaa.base Go.Proofs.Ytfgdhafpiikpjaa.read Go.Proofs.Ytfgdhafpiikpjaa.spec Go.Proofs.Ytfgdhafpiikpjaa.set Go.Proofs.Ytfgdhafpiikpjaa.nums Go.Proofs.Ytfgdhafpiikpjaa.parts

theorem rowv_frm {S : Nat → Prop} {w w' : World} {B U L : Nat} {r : Row} (h : RowV w B U L r) (hf : Frm S w w') (hL : ¬ S L) (hs : ∀ g cur, Box w g 24 cur → ¬ S g) : RowV w' B U L r := by
  obtain ⟨h1, a, cap, C, h2, h3, h4, h5, h6⟩ := h
  exact ⟨h1, a, cap, C, h2.frm hf hL, own_frm h3 hf (fun g cur hb _ => hs g cur hb), h4.go (fun g cur hg hb => ⟨hg, hb.frm hf (hs g cur hb)⟩), h5, h6⟩
theorem rowv_mono {w : World} {B U U' L : Nat} {r : Row} (h : RowV w B U L r) (hU : U ≤ U') : RowV w B U' L r := by
  obtain ⟨h1, a, cap, C, h2, h3, h4, h5, h6⟩ := h
  exact ⟨h1, a, cap, C, h2, h3, h4, fun g e => Nat.lt_of_lt_of_le (h5 g e) hU, h6⟩
theorem rowv_move {w w' : World} {B U L : Nat} {r : Row} (h : RowV w B U L r) (hf : Frm No w w') : RowV w' B U L r := rowv_frm h hf id (fun _ _ _ => id)
theorem rowv_rd {w w' : World} {B U L R : Nat} {r : Row} {s : ByteArray} {d : Nat} {l : List UInt8} (h : RowV w B U L r) (hf : Frm (At R) w w') (hr : Rd w R s d l) (hL : L ≠ R) : RowV w' B U L r := by
  refine rowv_frm h hf hL (fun g cur hb e => ?_)
  obtain ⟨i, hr, _⟩ := hr
  have e' : g = R := e
  subst e'
  have := box_type hr.1 hb
  revert this
  decide
theorem rowv_new (w : World) (B : Nat) : RowV (w.alloc (.cells #[.slice none 0 0, .int .i64 0] 102)) B w.heap.size w.heap.size row0 :=
  ⟨by decide, none, 0, [], Box.new w _ _, World.ownsRow_nil _ _ _ _, rfl, fun g e => (by cases e), fun _ => ⟨rfl, rfl⟩⟩
theorem rows_box {w : World} {B L b : Nat} {T : TypeId} {C : Array Value} (h : Box w b T C) (hT : T ≠ 24) (hL : b ≠ L) : ¬ RowS w B L b := by
  rintro (e | ⟨_, D, hb⟩)
  · exact hL e
  · exact hT (box_type h hb)
theorem rows_lt {w : World} {B L k : Nat} (hL : B ≤ L) (hk : k < B) : ¬ RowS w B L k := by
  rintro (e | ⟨h, _⟩) <;> omega
theorem add_len (r : Row) (p : Part) : (r.add p).kids.len ≤ r.kids.len + 1 := by
  rw [Row.add]
  split
  · simp only [Forest.len_snoc]; exact Nat.le_refl _
  · exact Nat.zero_le _

/-- The part of a row that was read. -/
def joinRes (op : ByteArray) (own : Nat) (r : Res Row) : Res Part := match r with
  | .bad e => .bad e
  | .ok r l' => .ok (r.join op own) l'

theorem Got.bad {w' : World} {F : Nat → Prop} {R : Nat} {s : ByteArray} {d f fault : Nat} {C : Array Value} (h : Got w' F R s d (.bad f) C fault) : 0 < f ∧ f ≤ 5 ∧ fault = f ∧ ∃ l', Rd w' R s d l' := by
  rcases h with ⟨_, p, l', h, _⟩ | ⟨h1, h2, h3, h4⟩
  · cases h
  · cases h3
    exact ⟨h1, h2, rfl, h4⟩
theorem Got.ok {w' : World} {F : Nat → Prop} {R : Nat} {s : ByteArray} {d fault : Nat} {C : Array Value} {p : Part} {l' : List UInt8} (h : Got w' F R s d (.ok p l') C fault) : fault = 0 ∧ PV w' F (.agg C) p ∧ Rd w' R s d l' := by
  rcases h with ⟨h1, p', l2, h, h2, h3⟩ | ⟨_, _, h3, _⟩
  · cases h
    exact ⟨h1, h2, h3⟩
  · cases h3

set_option maxHeartbeats 1000000 in
theorem branch_all (g : List UInt8 → Res Part) (w : World) (R : Nat) (s : ByteArray) (d : Nat) (G : GrpC g d) (hg : Short g) (l : List UInt8) (h : Rd w R s d l) (res : Res Part) (hres : branch g l = res) :
    Calls Try.prog 58 #[.pointer (some ⟨R, 0, none⟩)] w (PartPost w R s d res) := by
  have hRlt := h.lt
  have hR0 := h.ne0
  have hll := h.len
  have HA := Lib.hid ((h.alloc (.cells zp 88)).alloc (.cells #[.slice none 0 0, .int .i64 0] 102))
  have HX0 := Lib.hid ((Box.new w 88 zp).alloc (.cells #[.slice none 0 0, .int .i64 0] 102))
  have HRW := Lib.hid (rowv_new (w.alloc (.cells zp 88)) w.heap.size)
  rw [World.size_alloc] at HRW
  have HN := Lib.hid (show ¬ At R w.heap.size from fun e => by have e' : w.heap.size = R := e; omega)
  have HN0 := Lib.hid (show ¬ At w.heap.size 0 from fun e => by have e' : 0 = w.heap.size := e; omega)
  have HNR := Lib.hid (show ¬ At w.heap.size R from fun e => by have e' : R = w.heap.size := e; omega)
  have HRES := Lib.hid hres
  clear h hres
  go_enter Try.func58, Try.ntmps58
  go_wp2
  obtain ⟨rr, hrr⟩ : ∃ rr, rr = branchF g (l.length + 1) row0 l := ⟨_, rfl⟩
  have HRR := Lib.hid hrr.symm
  have HFIN := Lib.hid (show res = joinRes catW 0 rr by rw [← HRES.out, branch, ← hrr]; cases rr <;> rfl)
  clear hrr
  go_loopw [6] (fun _ wr => ∃ (r : Row) (l' : List UInt8) (n U : Nat), branchF g n r l' = rr ∧ l'.length < n ∧ r.kids.len + l'.length ≤ 100000 + 0 ∧ RowV wr w.heap.size U (w.heap.size + 1) r ∧ U ≤ wr.heap.size ∧ Rd wr R s d l' ∧ Box wr w.heap.size 88 zp ∧ Frm (At R) w wr) (fun _ wr => left R s wr)
  case atStart => exact ⟨row0, l, l.length + 1, w.heap.size + 1, HRR.out, by omega, by show 0 + l.length ≤ _; omega, HRW.out, by simp, HA.out, HX0.out, ((Frm.refl (At R) w).alloc _).alloc _⟩
  case round =>
    obtain ⟨r, l', n, U, hit, hn, hkl, hrow, hU, hrd, hbz, hf⟩ := hrel
    obtain ⟨m, rfl⟩ : ∃ m, n = m + 1 := ⟨n - 1, by omega⟩
    have HIT := Lib.hid hit
    have HROW := Lib.hid hrow
    have HR := Lib.hid hrd
    have HZ := Lib.hid hbz
    have HF := Lib.hid hf
    have HL := Lib.hid (left_eq hrd)
    have hszr := hf.size
    clear hit hrow hrd hbz hf
    by_cases k1 : l'.isEmpty = true
    · have HE := Lib.hid (show res = .ok (r.join catW 0) l' by rw [HFIN.out, ← HIT.out, branchF, if_pos (by simp [ends, k1])]; rfl)
      go_wp2_with (first | (go_at_call 46; go_must (refine (done_all _ R s d l' (by exact HR.out)).mono ?_; rintro e _ ⟨rfl, n1, rfl⟩)) | (go_at_call 61; go_must (refine (join_all _ w.heap.size U (w.heap.size + 1) r catW 0 (rowv_move HROW.out ((Frm.refl No wr).drewN _)) (by omega) _ rfl).mono ?_; rintro e w6 ⟨v6, rfl, hp6, hf6⟩; have HP6 := Lib.hid hp6; have HZ6 := Lib.hid (show Box w6 w.heap.size 88 zp from (show Box (wr.drewN (n1)) w.heap.size 88 zp from HZ.out).frm hf6 id); have HR6 := Lib.hid (Rd.move (w := wr.drewN (n1)) HR.out hf6); have HF6 := Lib.hid (Frm.then (HF.out.drewN (n1)) hf6 (fun _ _ e => e.elim)); obtain ⟨hn6, a6, cap6, rfl, hk6⟩ := hp6; clear hf6 hk6)) | (refine wpList_store_row rfl 88 (.tmp 2) (.tmp 31) rfl w.heap.size _ rfl rfl 88 zp HZ6.out info_part rfl (by simp [Value.oneCell']) ?_))
      refine bodyPost_ret (results_part2 Try.results58 _ _ w.heap.size 88 _ (0, 0) _ (.int .i64 0) rfl rfl (setRow_eq HZ6.out) Try.underlying88 rfl info_part) rfl ?_
      rw [HE.out]
      exact ⟨_, rfl, HP6.out.setRow HZ6.out (by decide) _, Rd.frm HR6.out (frm_setRow (S := At w.heap.size) (Frm.refl _ _) _ _ (fun _ => rfl)) HNR.out HN0.out, frm_setRow HF6.out _ _ (fun hk => absurd hk (Nat.lt_irrefl _))⟩
    have fk1 : l'.isEmpty = false := by simpa using k1
    clear k1
    by_cases k2 : hd l' 124 = true
    · have HE := Lib.hid (show res = .ok (r.join catW 0) l' by rw [HFIN.out, ← HIT.out, branchF, if_pos (by simp [ends, k2])]; rfl)
      go_wp2_with (first | (go_at_call 46; go_must (refine (done_all _ R s d l' (by exact HR.out)).mono ?_; rintro e _ ⟨rfl, n1, rfl⟩)) | (go_at_call_of 67 (Value.int .u8 124); go_must (refine (at_all _ R s d l' 124 _ rfl (by exact HR.out)).mono ?_; rintro e _ ⟨rfl, n2, rfl⟩)) | (go_at_call 61; go_must (refine (join_all _ w.heap.size U (w.heap.size + 1) r catW 0 (rowv_move HROW.out ((Frm.refl No wr).drewN _)) (by omega) _ rfl).mono ?_; rintro e w6 ⟨v6, rfl, hp6, hf6⟩; have HP6 := Lib.hid hp6; have HZ6 := Lib.hid (show Box w6 w.heap.size 88 zp from (show Box (wr.drewN (n1 + n2)) w.heap.size 88 zp from HZ.out).frm hf6 id); have HR6 := Lib.hid (Rd.move (w := wr.drewN (n1 + n2)) HR.out hf6); have HF6 := Lib.hid (Frm.then (HF.out.drewN (n1 + n2)) hf6 (fun _ _ e => e.elim)); obtain ⟨hn6, a6, cap6, rfl, hk6⟩ := hp6; clear hf6 hk6)) | (refine wpList_store_row rfl 88 (.tmp 2) (.tmp 31) rfl w.heap.size _ rfl rfl 88 zp HZ6.out info_part rfl (by simp [Value.oneCell']) ?_))
      refine bodyPost_ret (results_part2 Try.results58 _ _ w.heap.size 88 _ (0, 0) _ (.int .i64 0) rfl rfl (setRow_eq HZ6.out) Try.underlying88 rfl info_part) rfl ?_
      rw [HE.out]
      exact ⟨_, rfl, HP6.out.setRow HZ6.out (by decide) _, Rd.frm HR6.out (frm_setRow (S := At w.heap.size) (Frm.refl _ _) _ _ (fun _ => rfl)) HNR.out HN0.out, frm_setRow HF6.out _ _ (fun hk => absurd hk (Nat.lt_irrefl _))⟩
    have fk2 : hd l' 124 = false := by simpa using k2
    clear k2
    by_cases k3 : hd l' 41 = true
    · have HE := Lib.hid (show res = .ok (r.join catW 0) l' by rw [HFIN.out, ← HIT.out, branchF, if_pos (by simp [ends, k3])]; rfl)
      go_wp2_with (first | (go_at_call 46; go_must (refine (done_all _ R s d l' (by exact HR.out)).mono ?_; rintro e _ ⟨rfl, n1, rfl⟩)) | (go_at_call_of 67 (Value.int .u8 124); go_must (refine (at_all _ R s d l' 124 _ rfl (by exact HR.out)).mono ?_; rintro e _ ⟨rfl, n2, rfl⟩)) | (go_at_call_of 67 (Value.int .u8 41); go_must (refine (at_all _ R s d l' 41 _ rfl (by exact HR.out)).mono ?_; rintro e _ ⟨rfl, n3, rfl⟩)) | (go_at_call 61; go_must (refine (join_all _ w.heap.size U (w.heap.size + 1) r catW 0 (rowv_move HROW.out ((Frm.refl No wr).drewN _)) (by omega) _ rfl).mono ?_; rintro e w6 ⟨v6, rfl, hp6, hf6⟩; have HP6 := Lib.hid hp6; have HZ6 := Lib.hid (show Box w6 w.heap.size 88 zp from (show Box (wr.drewN (n1 + n2 + n3)) w.heap.size 88 zp from HZ.out).frm hf6 id); have HR6 := Lib.hid (Rd.move (w := wr.drewN (n1 + n2 + n3)) HR.out hf6); have HF6 := Lib.hid (Frm.then (HF.out.drewN (n1 + n2 + n3)) hf6 (fun _ _ e => e.elim)); obtain ⟨hn6, a6, cap6, rfl, hk6⟩ := hp6; clear hf6 hk6)) | (refine wpList_store_row rfl 88 (.tmp 2) (.tmp 31) rfl w.heap.size _ rfl rfl 88 zp HZ6.out info_part rfl (by simp [Value.oneCell']) ?_))
      refine bodyPost_ret (results_part2 Try.results58 _ _ w.heap.size 88 _ (0, 0) _ (.int .i64 0) rfl rfl (setRow_eq HZ6.out) Try.underlying88 rfl info_part) rfl ?_
      rw [HE.out]
      exact ⟨_, rfl, HP6.out.setRow HZ6.out (by decide) _, Rd.frm HR6.out (frm_setRow (S := At w.heap.size) (Frm.refl _ _) _ _ (fun _ => rfl)) HNR.out HN0.out, frm_setRow HF6.out _ _ (fun hk => absurd hk (Nat.lt_irrefl _))⟩
    have fk3 : hd l' 41 = false := by simpa using k3
    clear k3
    have hne : l' ≠ [] := by
      intro e
      subst e
      cases fk1
    have HST := Lib.hid (show rr = match piece g l' with
        | .bad e => .bad e
        | .ok p l2 => branchF g m (r.add p) l2 by
      rw [← HIT.out, branchF, if_neg (by simp [ends, fk1, fk2, fk3])]
      cases piece g l' <;> rfl)
    cases hpc : piece g l' with
    | bad fault =>
      have HPC := Lib.hid hpc
      have HE := Lib.hid (show res = .bad fault by rw [HFIN.out, HST.out, hpc]; rfl)
      clear hpc
      go_wp2_with (first | (go_at_call 46; go_must (refine (done_all _ R s d l' (by exact HR.out)).mono ?_; rintro e _ ⟨rfl, n1, rfl⟩)) | (go_at_call_of 67 (Value.int .u8 124); go_must (refine (at_all _ R s d l' 124 _ rfl (by exact HR.out)).mono ?_; rintro e _ ⟨rfl, n2, rfl⟩)) | (go_at_call_of 67 (Value.int .u8 41); go_must (refine (at_all _ R s d l' 41 _ rfl (by exact HR.out)).mono ?_; rintro e _ ⟨rfl, n3, rfl⟩)) | (go_at_call 68; go_must (refine (piece_all g _ R s d G hg l' (by exact HR.out) hne _ rfl).mono ?_; intro e w3 hip; obtain ⟨C, fault2, rfl, hsh, hf3, hgot⟩ := hip.uni; rw [HPC.out] at hgot; obtain ⟨h0, h5, hfe, ⟨l3, hr3⟩⟩ : 0 < fault ∧ fault ≤ 5 ∧ fault2 = fault ∧ ∃ l3, Rd w3 R s d l3 := hgot.bad; subst hfe; have HR3 := Lib.hid hr3; clear hr3; have HZ3 := Lib.hid (show Box w3 w.heap.size 88 zp from Box.frm (w := (wr.drewN (n1 + n2 + n3))) HZ.out hf3 HN.out); have HROW3 := Lib.hid (show RowV w3 w.heap.size (wr.drewN (n1 + n2 + n3)).heap.size (w.heap.size + 1) r from rowv_rd (w := (wr.drewN (n1 + n2 + n3))) (rowv_mono (rowv_move HROW.out ((Frm.refl No wr).drewN _)) (by exact hU)) hf3 HR.out (by omega)); have HF3 := Lib.hid (show Frm (At R) w w3 from (HF.out.drewN (n1 + n2 + n3)).trans hf3); have hsz3 := HF3.out.size; have HZ4 := Lib.hid (HZ3.out.alloc (.cells C 88)); have HR4 := Lib.hid (HR3.out.alloc (.cells C 88)); have HF4 := Lib.hid (HF3.out.alloc (.cells C 88)); have h0' : (((fault2 : Nat) : Int) == 0) = false := (by simp; omega); obtain ⟨o, s1, a1, n1', c1, x1, y1, m1, hC⟩ := hsh; cases hC; clear hip hf3 hgot)) | (refine wpList_store_row rfl 88 (.tmp 2) (.tmp 27) rfl w.heap.size _ rfl rfl 88 zp HZ4.out info_part rfl (by simp [Value.oneCell']) ?_))
      refine bodyPost_ret (results_part2 Try.results58 _ _ w.heap.size 88 _ (0, 0) _ (.int .i64 (fault2 : Nat)) rfl rfl (setRow_eq HZ4.out) Try.underlying88 rfl info_part) rfl ?_
      rw [HE.out]
      exact ⟨_, rfl, ⟨_, _, _, _, _, _, _, _, rfl⟩, h0, h5, ⟨l3, Rd.frm HR4.out (frm_setRow (S := At w.heap.size) (Frm.refl _ _) _ _ (fun _ => rfl)) HNR.out HN0.out⟩, frm_setRow HF4.out _ _ (fun hk => absurd hk (Nat.lt_irrefl _))⟩
    | ok p l3 =>
      have HPC := Lib.hid hpc
      have HE := Lib.hid (show branchF g m (r.add p) l3 = rr by rw [HST.out, hpc])
      have hlen := piece_len hg hpc
      have hal := add_len r p
      clear hpc
      go_wp2_with (first | (go_at_call 46; go_must (refine (done_all _ R s d l' (by exact HR.out)).mono ?_; rintro e _ ⟨rfl, n1, rfl⟩)) | (go_at_call_of 67 (Value.int .u8 124); go_must (refine (at_all _ R s d l' 124 _ rfl (by exact HR.out)).mono ?_; rintro e _ ⟨rfl, n2, rfl⟩)) | (go_at_call_of 67 (Value.int .u8 41); go_must (refine (at_all _ R s d l' 41 _ rfl (by exact HR.out)).mono ?_; rintro e _ ⟨rfl, n3, rfl⟩)) | (go_at_call 68; go_must (refine (piece_all g _ R s d G hg l' (by exact HR.out) hne _ rfl).mono ?_; intro e w3 hip; obtain ⟨C, fault, rfl, hsh, hf3, hgot⟩ := hip.uni; rw [HPC.out] at hgot; obtain ⟨hfe, hp3, hr3⟩ : fault = 0 ∧ PV w3 (fun k => wr.heap.size ≤ k) (.agg C) p ∧ Rd w3 R s d l3 := hgot.ok; subst hfe; have HP3 := Lib.hid hp3; have HR3 := Lib.hid hr3; clear hp3 hr3; have HZ3 := Lib.hid (show Box w3 w.heap.size 88 zp from Box.frm (w := (wr.drewN (n1 + n2 + n3))) HZ.out hf3 HN.out); have HROW3 := Lib.hid (show RowV w3 w.heap.size (wr.drewN (n1 + n2 + n3)).heap.size (w.heap.size + 1) r from rowv_rd (w := (wr.drewN (n1 + n2 + n3))) (rowv_mono (rowv_move HROW.out ((Frm.refl No wr).drewN _)) (by exact hU)) hf3 HR.out (by omega)); have HF3 := Lib.hid (show Frm (At R) w w3 from (HF.out.drewN (n1 + n2 + n3)).trans hf3); have hsz3 := HF3.out.size; obtain ⟨o, s1, a1, n1', c1, x1, y1, m1, hC⟩ := hsh; cases hC; clear hip hf3 hgot)) | (go_at_call 59; go_must (refine (add_all _ w.heap.size wr.heap.size (w.heap.size + 1) r (fun k => wr.heap.size ≤ k) _ p (rowv_move HROW3.out (frm1 w3 _)) (HP3.out.move (frm1 w3 _)) (fun k h => h) (by omega) (by simp; omega) (by omega)).mono ?_; rintro e w5 ⟨rfl, hrow5, hf5⟩; have HROW5 := Lib.hid hrow5; have HZ5 := Lib.hid (show Box w5 w.heap.size 88 zp from (HZ3.out.alloc _).frm hf5 (rows_box (HZ3.out.alloc _) (by decide) (by omega))); have HR5 := Lib.hid (show Rd w5 R s d l3 from (HR3.out.alloc _).frm hf5 (rows_lt (by omega) hRlt) (rows_lt (by omega) (by omega))); have HF5 := Lib.hid (show Frm (At R) w w5 from (HF3.out.alloc _).then hf5 (fun k hk e => absurd e (rows_lt (by omega) hk))); have hsz5 := HF5.out.size; clear hrow5 hf5)))
      go_roundw
      case rel => exact ⟨r.add p, l3, m, w5.heap.size, HE.out, by omega, by omega, HROW5.out, Nat.le_refl _, HR5.out, HZ5.out, HF5.out⟩
      case measure =>
        have := left_eq HR5.out
        have := HL.out
        omega
end Go.Proofs.Ytfgdhafpiikpjaa.items
