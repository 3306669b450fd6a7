/- Contract of ere's piece. -/
import Derived.Test.YtfgdhafpiikpjaaAtom2
import Derived.Test.YtfgdhafpiikpjaaLens
namespace Go.Proofs.Ytfgdhafpiikpjaa.items
set_option linter.unusedVariables false set_option linter.unusedSimpArgs false
open Go.ChangeShapes Go.WideShapes Go.ChangeAt Go.RowKit Go.Proofs.Ytfgdhafpiikpjaa.base Go.Proofs.Ytfgdhafpiikpjaa.read Go.Proofs.Ytfgdhafpiikpjaa.spec Go.Proofs.Ytfgdhafpiikpjaa.set Go.Proofs.Ytfgdhafpiikpjaa.nums Go.Proofs.Ytfgdhafpiikpjaa.parts

/-- A part that was read, or a fault. -/
def Got (w' : World) (F : Nat → Prop) (R : Nat) (s : ByteArray) (d : Nat) (r : Res Part) (C : Array Value) (fault : Nat) : Prop :=
  (fault = 0 ∧ ∃ p l', r = .ok p l' ∧ PV w' F (.agg C) p ∧ Rd w' R s d l') ∨ (0 < fault ∧ fault ≤ 5 ∧ r = .bad fault ∧ ∃ l', Rd w' R s d l')

theorem PartPost.uni {w w' : World} {R : Nat} {s : ByteArray} {d : Nat} {r : Res Part} {e : Ending} (h : PartPost w R s d r e w') :
    ∃ C fault, e = .returned (.tuple #[.agg C, .int .i64 (fault : Nat)]) ∧ Sh (.agg C) ∧ Frm (At R) w w' ∧ Got w' (fun k => w.heap.size ≤ k) R s d r C fault := by
  cases r with
  | ok p l' =>
    obtain ⟨v, rfl, hp, hr, hf⟩ := h
    have hp' := hp
    obtain ⟨h1, a, cap, rfl, h3⟩ := hp
    exact ⟨_, 0, rfl, hp'.sh, hf, Or.inl ⟨rfl, p, l', rfl, hp', hr⟩⟩
  | bad f =>
    obtain ⟨v, rfl, hs, h0, h5, hr, hf⟩ := h
    have hs' := hs
    obtain ⟨o, s1, a1, n1, c1, x1, y1, m1, rfl⟩ := hs
    exact ⟨_, f, rfl, hs', hf, Or.inr ⟨h0, h5, rfl, hr⟩⟩
theorem RepPost.uni {w w' : World} {F : Nat → Prop} {R : Nat} {s : ByteArray} {d : Nat} {r : Res Part} {e : Ending} (h : RepPost w F R s d r e w') :
    ∃ C fault, e = .returned (.tuple #[.agg C, .int .i64 (fault : Nat)]) ∧ Sh (.agg C) ∧ Frm (At R) w w' ∧ Got w' (Or2 F w.heap.size) R s d r C fault := by
  cases r with
  | ok p l' =>
    obtain ⟨v, rfl, hp, hr, hf⟩ := h
    have hp' := hp
    obtain ⟨h1, a, cap, rfl, h3⟩ := hp
    exact ⟨_, 0, rfl, hp'.sh, hf, Or.inl ⟨rfl, p, l', rfl, hp', hr⟩⟩
  | bad f =>
    obtain ⟨v, rfl, hs, h0, h5, hr, hf⟩ := h
    have hs' := hs
    obtain ⟨o, s1, a1, n1, c1, x1, y1, m1, rfl⟩ := hs
    exact ⟨_, f, rfl, hs', hf, Or.inr ⟨h0, h5, rfl, hr⟩⟩
/-- Back. -/
theorem PartPost.mk {w w' : World} {R : Nat} {s : ByteArray} {d : Nat} {r : Res Part} {C : Array Value} {fault : Nat} (hsh : Sh (.agg C)) (hf : Frm (At R) w w') (h : Got w' (fun k => w.heap.size ≤ k) R s d r C fault) :
    PartPost w R s d r (.returned (.tuple #[.agg C, .int .i64 (fault : Nat)])) w' := by
  rcases h with ⟨rfl, p, l', rfl, hp, hr⟩ | ⟨h0, h5, rfl, hr⟩
  · exact ⟨_, rfl, hp, hr, hf⟩
  · exact ⟨_, rfl, hsh, h0, h5, hr, hf⟩
theorem Got.frm {S : Nat → Prop} {w w' : World} {F : Nat → Prop} {R : Nat} {s : ByteArray} {d : Nat} {r : Res Part} {C : Array Value} {fault : Nat} (h : Got w F R s d r C fault) (hf : Frm S w w') (hs : ∀ g, S g → g < w.heap.size → ∃ T C, Box w g T C ∧ T ≠ 24) (hR : ¬ S R) (h0 : ¬ S 0) : Got w' F R s d r C fault := by
  rcases h with ⟨rfl, p, l', rfl, hp, hr⟩ | ⟨h1, h5, rfl, l', hr⟩
  · exact Or.inl ⟨rfl, p, l', rfl, hp.other hf hs, hr.frm hf hR h0⟩
  · exact Or.inr ⟨h1, h5, rfl, l', hr.frm hf hR h0⟩
theorem Got.move {w w' : World} {F : Nat → Prop} {R : Nat} {s : ByteArray} {d : Nat} {r : Res Part} {C : Array Value} {fault : Nat} (h : Got w F R s d r C fault) (hf : Frm No w w') : Got w' F R s d r C fault :=
  h.frm hf (fun g e _ => e.elim) id id
theorem Got.mono {w : World} {F F' : Nat → Prop} {R : Nat} {s : ByteArray} {d : Nat} {r : Res Part} {C : Array Value} {fault : Nat} (h : Got w F R s d r C fault) (hs : ∀ g, F g → g < w.heap.size → F' g) : Got w F' R s d r C fault := by
  rcases h with ⟨rfl, p, l', rfl, hp, hr⟩ | ⟨h1, h5, rfl, l', hr⟩
  · exact Or.inl ⟨rfl, p, l', rfl, hp.mono hs, hr⟩
  · exact Or.inr ⟨h1, h5, rfl, l', hr⟩

theorem sh_size {C : Array Value} (h : Sh (.agg C)) : C.size = 6 := by
  obtain ⟨o, s, a, n, c, x, y, m, h⟩ := h
  cases h
  rfl
theorem sh_one {C : Array Value} (h : Sh (.agg C)) : C.all (·.oneCell') = true := by
  obtain ⟨o, s, a, n, c, x, y, m, h⟩ := h
  cases h
  simp [Value.oneCell']
theorem sh_info {C : Array Value} (h : Sh (.agg C)) : (Try.prog.info? 88).map (·.size) = some C.size := by rw [sh_size h]; exact info_part
theorem zp_sh : Sh (.agg zp) := ⟨_, _, _, _, _, _, _, _, rfl⟩

/-- Where piece's loop stands: what is left of the repeats comes to res. -/
def PieceAt (w : World) (P R : Nat) (s : ByteArray) (d : Nat) (res : Res Part) (fault : Nat) (wr : World) : Prop :=
  ∃ C, Sh (.agg C) ∧ Box wr P 88 C ∧
    ((fault = 0 ∧ ∃ (p : Part) (l' : List UInt8) (n : Nat), repsF n p l' = res ∧ l'.length < n ∧ PV wr (fun k => w.heap.size ≤ k) (.agg C) p ∧ Rd wr R s d l') ∨
     (0 < fault ∧ fault ≤ 5 ∧ res = .bad fault ∧ ∃ l', Rd wr R s d l'))

set_option maxHeartbeats 1000000 in
theorem piece_all (g : List UInt8 → Res Part) (w : World) (R : Nat) (s : ByteArray) (d : Nat) (G : GrpC g d) (hg : Short g) (l : List UInt8) (h : Rd w R s d l) (hne : l ≠ []) (res : Res Part) (hres : piece g l = res) :
    Calls Try.prog 68 #[.pointer (some ⟨R, 0, none⟩)] w (PartPost w R s d res) := by
  have hRlt := h.lt
  have hR0 := h.ne0
  have HA := Lib.hid (h.alloc (.cells zp 88))
  have HX0 := Lib.hid (Box.new w 88 zp)
  have HN := Lib.hid (show ¬ At R w.heap.size from fun e => by have e' : w.heap.size = R := e; omega)
  have HN0 := Lib.hid (show ¬ At w.heap.size 0 from fun e => by have e' : 0 = w.heap.size := e; omega)
  have HNR := Lib.hid (show ¬ At w.heap.size R from fun e => by have e' : R = w.heap.size := e; omega)
  have HC := Lib.hid (fun W hW => atom_all g W R s d G l hW hne _ _ rfl rfl)
  have HRES := Lib.hid hres
  clear h hres
  go_enter Try.func68, Try.ntmps68
  go_wp2_with (first | (go_at_call 71; go_must (refine (HC.out _ (by exact HA.out)).mono ?_; intro e w2 hip; obtain ⟨C, fault, rfl, hsh, hf2, hgot⟩ := hip.uni; have HSH := Lib.hid hsh; have HX2 := Lib.hid (show Box w2 w.heap.size 88 zp from HX0.out.frm hf2 HN.out); have HF2 := Lib.hid (show Frm (At R) w w2 from ((Frm.refl (At R) w).alloc _).trans hf2); have HGOT := Lib.hid hgot; obtain ⟨o, s1, a1, n1, c1, x1, y1, m1, hC⟩ := hsh; cases hC; clear hip hf2 hgot)))
  have hsz2 := HF2.out.size
  have hlt2 := HX2.out.lt
  go_loopw [5] (fun fv wr => ∃ fault : Nat, fault ≤ 5 ∧ fv = .int .i64 fault ∧ PieceAt w w2.heap.size R s d res fault wr ∧ Box wr w.heap.size 88 zp ∧ Frm (At R) w wr) (fun fv wr => if intOf fv = 0 then left R s wr + 1 else 0)
  case atStart =>
    refine ⟨fault, ?_, rfl, ⟨_, HSH.out, Box.new w2 _ _, ?_⟩, HX2.out.alloc _, HF2.out.alloc _⟩
    · rcases HGOT.out with ⟨h, _⟩ | ⟨_, h, _⟩ <;> omega
    · have hm := HGOT.out.move (frm1 w2 (.cells #[.string o, .string s1, .slice a1 n1 c1, .int .i64 x1, .int .i64 y1, .int .i64 m1] 88))
      rcases hm with ⟨h1, p, l', h2, h3, h4⟩ | ⟨h1, h2, h3, h4⟩
      · refine Or.inl ⟨h1, p, l', l'.length + 1, ?_, by omega, h3.mono (fun g h _ => by have := h; simp only [World.size_alloc] at this; omega), h4⟩
        rw [← HRES.out, piece, h2]
      · refine Or.inr ⟨h1, h2, ?_, h4⟩
        rw [← HRES.out, piece, h3]
  case round =>
    obtain ⟨fault, hf5, rfl, ⟨C, hsh, hbx, hst⟩, hbz, hf⟩ := hrel
    have HSH := Lib.hid hsh
    have HB := Lib.hid hbx
    have HZ := Lib.hid hbz
    have HF := Lib.hid hf
    have hltP := hbx.lt
    have HPZ := Lib.hid (show ∀ g, At w.heap.size g → g < wr.heap.size → ∃ T C, Box wr g T C ∧ T ≠ 24 from fun g e _ => by cases e; exact ⟨_, _, hbz, by decide⟩)
    clear hsh hbx hbz hf
    rcases hst with ⟨rfl, p, l', n, hrep, hn, hp, hr⟩ | ⟨h0, h5, hb, l', hr⟩
    · obtain ⟨m, rfl⟩ : ∃ m, n = m + 1 := ⟨n - 1, by omega⟩
      have HP := Lib.hid hp
      have HR := Lib.hid hr
      have HL := Lib.hid (left_eq hr)
      by_cases ha : atRep l' = true
      · have HREP := Lib.hid hrep
        have hne' : l' ≠ [] := by
          intro e
          subst e
          cases ha
        clear hp hr hrep
        go_wp2_with (first | (go_at_call 72; go_must (refine (atRep_all _ R s d l' (by exact HR.out)).mono ?_; rintro e w3 ⟨rfl, hf3⟩; have HR3 := Lib.hid (HR.out.move hf3); have HB3 := Lib.hid (HB.out.frm hf3 id); have HZ3 := Lib.hid (HZ.out.frm hf3 id); have HP3 := Lib.hid (HP.out.move hf3); have HF3 := Lib.hid (HF.out.then hf3 (fun _ _ e => e.elim)); clear hf3)) | (refine wpList_load_row rfl 88 (.tmp 4) rfl w2.heap.size rfl 88 C (0, 0) _ HB3.out Try.underlying88 rfl (sh_info HSH.out) ?_) | (go_at_call 73; go_must (refine (repeat_all _ (fun k => w.heap.size ≤ k) R s d _ p l' (by exact HR3.out) HP3.out ha).mono ?_; intro e w4 hip; obtain ⟨C4, fault4, rfl, hsh4, hf4, hgot4⟩ := hip.uni; have HSH4 := Lib.hid hsh4; have HB4 := Lib.hid (show Box w4 w2.heap.size 88 C from HB3.out.frm hf4 (fun e => by have e' : w2.heap.size = R := e; omega)); have HZ4 := Lib.hid (show Box w4 w.heap.size 88 zp from HZ3.out.frm hf4 HN.out); have HF4 := Lib.hid (HF3.out.trans hf4); have HGOT4 := Lib.hid (hgot4.mono (F' := fun k => w.heap.size ≤ k) (fun g h _ => h.elim id (fun h => Nat.le_trans HF3.out.size h))); clear hip hf4 hgot4)) | (refine wpList_store_row rfl 88 (.tmp 4) (.tmp 21) rfl w2.heap.size C4 rfl rfl 88 C HB4.out (sh_info HSH4.out) (by rw [sh_size HSH.out, sh_size HSH4.out]) (sh_one HSH4.out) ?_))
        have HGF := Lib.hid (HGOT4.out.frm (w' := w4.setRow w2.heap.size C4) (frm_setRow (S := At w2.heap.size) (Frm.refl _ _) _ _ (fun _ => rfl)) (fun g e _ => by cases e; exact ⟨_, _, HB4.out, by decide⟩) (fun e => by have e' : R = w2.heap.size := e; omega) (fun e => by have e' : 0 = w2.heap.size := e; omega))
        go_roundw
        case rel =>
          refine ⟨fault4, ?_, rfl, ⟨C4, HSH4.out, setRow_eq HB4.out, ?_⟩, Box.frm HZ4.out (frm_setRow (S := At w2.heap.size) (Frm.refl _ _) _ _ (fun _ => rfl)) (fun e => by have e' : w.heap.size = w2.heap.size := e; omega), frm_setRow HF4.out _ _ (fun hk => by omega)⟩
          · rcases HGOT4.out with ⟨h, _⟩ | ⟨_, h, _⟩ <;> omega
          · rcases HGF.out with ⟨h1, p4, l4, h2, h3, h4⟩ | ⟨h1, h2, h3, h4⟩
            · have := repeatL_len h2
              refine Or.inl ⟨h1, p4, l4, m, ?_, by omega, h3, h4⟩
              rw [← HREP.out, repsF, if_pos ha, h2]
            · refine Or.inr ⟨h1, h2, ?_, h4⟩
              rw [← HREP.out, repsF, if_pos ha, h3]
        case measure =>
          rcases HGF.out with ⟨h1, p4, l4, h2, h3, h4⟩ | ⟨h1, h2, h3, h4⟩
          · have h5 := repeatL_len h2
            have h6 := left_eq h4
            have h7 := HL.out
            subst h1
            simp [intOf]
            omega
          · have hf0 : ¬ fault4 = 0 := by omega
            simp [intOf, hf0]
      · have ha' : atRep l' = false := by simpa using ha
        have HE := Lib.hid (show res = .ok p l' by rw [← hrep, repsF, if_neg ha])
        clear hp hr hrep ha
        go_wp2_with (first | (go_at_call 72; go_must (refine (atRep_all _ R s d l' (by exact HR.out)).mono ?_; rintro e w3 ⟨rfl, hf3⟩; have HR3 := Lib.hid (HR.out.move hf3); have HB3 := Lib.hid (HB.out.frm hf3 id); have HZ3 := Lib.hid (HZ.out.frm hf3 id); have HP3 := Lib.hid (HP.out.move hf3); have HF3 := Lib.hid (HF.out.then hf3 (fun _ _ e => e.elim)); clear hf3)) | (refine wpList_load_row rfl 88 (.tmp 4) rfl w2.heap.size rfl 88 C (0, 0) _ HB3.out Try.underlying88 rfl (sh_info HSH.out) ?_) | (refine wpList_store_row rfl 88 (.tmp 2) (.tmp 23) rfl w.heap.size C rfl rfl 88 zp HZ3.out (sh_info HSH.out) (by rw [sh_size HSH.out]; rfl) (sh_one HSH.out) ?_))
        refine bodyPost_ret (results_part2 Try.results68 _ _ w.heap.size 88 _ (0, 0) _ (.int .i64 0) rfl rfl (setRow_eq HZ3.out) Try.underlying88 rfl (sh_info HSH.out)) rfl ?_
        rw [HE.out]
        exact ⟨_, rfl, HP3.out.setRow HZ3.out (by decide) _, Rd.frm HR3.out (frm_setRow (S := At w.heap.size) (Frm.refl _ _) _ _ (fun _ => rfl)) HNR.out HN0.out, frm_setRow HF3.out _ _ (fun hk => absurd hk (Nat.lt_irrefl _))⟩
    · have h0' : (((fault : Nat) : Int) == 0) = false := by simp; omega
      have HB5 := Lib.hid hb
      have HR := Lib.hid hr
      clear hb hr
      go_wp2_with (first | (refine wpList_load_row rfl 88 (.tmp 4) rfl w2.heap.size rfl 88 C (0, 0) _ HB.out Try.underlying88 rfl (sh_info HSH.out) ?_) | (refine wpList_store_row rfl 88 (.tmp 2) (.tmp 23) rfl w.heap.size C rfl rfl 88 zp HZ.out (sh_info HSH.out) (by rw [sh_size HSH.out]; rfl) (sh_one HSH.out) ?_))
      refine bodyPost_ret (results_part2 Try.results68 _ _ w.heap.size 88 _ (0, 0) _ (.int .i64 (fault : Nat)) rfl rfl (setRow_eq HZ.out) Try.underlying88 rfl (sh_info HSH.out)) rfl ?_
      rw [HB5.out]
      exact ⟨_, rfl, HSH.out, h0, h5, ⟨l', Rd.frm HR.out (frm_setRow (S := At w.heap.size) (Frm.refl _ _) _ _ (fun _ => rfl)) HNR.out HN0.out⟩, frm_setRow HF.out _ _ (fun hk => absurd hk (Nat.lt_irrefl _))⟩
end Go.Proofs.Ytfgdhafpiikpjaa.items
