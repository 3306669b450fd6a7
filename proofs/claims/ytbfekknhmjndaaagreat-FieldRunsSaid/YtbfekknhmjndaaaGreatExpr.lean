/- Contract of ere's piece. Contracts of ere's branch and expression. Contract of ere's expression. -/
import Derived.Test.YtbfekknhmjndaaaGreatAtom2

namespace Go.Proofs.YtbfekknhmjndaaaGreat.items
set_option linter.unusedVariables false set_option linter.unusedSimpArgs false
open Go.ChangeShapes Go.WideShapes Go.ChangeAt Go.RowKit Go.Proofs.YtbfekknhmjndaaaGreat.base Go.Proofs.YtbfekknhmjndaaaGreat.read Go.Proofs.YtbfekknhmjndaaaGreat.spec Go.Proofs.YtbfekknhmjndaaaGreat.set Go.Proofs.YtbfekknhmjndaaaGreat.nums Go.Proofs.YtbfekknhmjndaaaGreat.parts

/-- A part that was read, or a fault. -/
def Got (w' : World) (F : Nat → Prop) (R : Nat) (s : ByteArray) (d : Nat) (r : Res Part) (C : Array Value) (fault : Nat) : Prop :=
  (fault = 0 ∧ ∃ p l', r = .ok p l' ∧ PV w' F (.agg C) p ∧ Rd w' R s d l') ∨ (0 < fault ∧ fault ≤ 5 ∧ r = .bad fault ∧ ∃ l', Rd w' R s d l')

theorem PartPost.uni {w w' : World} {R : Nat} {s : ByteArray} {d : Nat} {r : Res Part} {e : Ending} (h : PartPost w R s d r e w') :
    ∃ C fault, e = .returned (.tuple #[.agg C, .int .i64 (fault : Nat)]) ∧ Sh (.agg C) ∧ Frm (At R) w w' ∧ Got w' (fun k => w.heap.size ≤ k) R s d r C fault := by
  cases r with
  | ok p l' =>
    obtain ⟨v, rfl, hp, hr, hf⟩ := h
    have hp' := hp
    obtain ⟨h1, a, cap, rfl, h3⟩ := hp
    exact ⟨_, 0, rfl, hp'.sh, hf, Or.inl ⟨rfl, p, l', rfl, hp', hr⟩⟩
  | bad f =>
    obtain ⟨v, rfl, hs, h0, h5, hr, hf⟩ := h
    have hs' := hs
    obtain ⟨o, s1, a1, n1, c1, x1, y1, m1, rfl⟩ := hs
    exact ⟨_, f, rfl, hs', hf, Or.inr ⟨h0, h5, rfl, hr⟩⟩
theorem RepPost.uni {w w' : World} {F : Nat → Prop} {R : Nat} {s : ByteArray} {d : Nat} {r : Res Part} {e : Ending} (h : RepPost w F R s d r e w') :
    ∃ C fault, e = .returned (.tuple #[.agg C, .int .i64 (fault : Nat)]) ∧ Sh (.agg C) ∧ Frm (At R) w w' ∧ Got w' (Or2 F w.heap.size) R s d r C fault := by
  cases r with
  | ok p l' =>
    obtain ⟨v, rfl, hp, hr, hf⟩ := h
    have hp' := hp
    obtain ⟨h1, a, cap, rfl, h3⟩ := hp
    exact ⟨_, 0, rfl, hp'.sh, hf, Or.inl ⟨rfl, p, l', rfl, hp', hr⟩⟩
  | bad f =>
    obtain ⟨v, rfl, hs, h0, h5, hr, hf⟩ := h
    have hs' := hs
    obtain ⟨o, s1, a1, n1, c1, x1, y1, m1, rfl⟩ := hs
    exact ⟨_, f, rfl, hs', hf, Or.inr ⟨h0, h5, rfl, hr⟩⟩
/-- Back. -/
theorem PartPost.mk {w w' : World} {R : Nat} {s : ByteArray} {d : Nat} {r : Res Part} {C : Array Value} {fault : Nat} (hsh : Sh (.agg C)) (hf : Frm (At R) w w') (h : Got w' (fun k => w.heap.size ≤ k) R s d r C fault) :
    PartPost w R s d r (.returned (.tuple #[.agg C, .int .i64 (fault : Nat)])) w' := by
  rcases h with ⟨rfl, p, l', rfl, hp, hr⟩ | ⟨h0, h5, rfl, hr⟩
  · exact ⟨_, rfl, hp, hr, hf⟩
  · exact ⟨_, rfl, hsh, h0, h5, hr, hf⟩
theorem Got.frm {S : Nat → Prop} {w w' : World} {F : Nat → Prop} {R : Nat} {s : ByteArray} {d : Nat} {r : Res Part} {C : Array Value} {fault : Nat} (h : Got w F R s d r C fault) (hf : Frm S w w') (hs : ∀ g, S g → g < w.heap.size → ∃ T C, Box w g T C ∧ T ≠ 47) (hR : ¬ S R) (h0 : ¬ S 0) : Got w' F R s d r C fault := by
  rcases h with ⟨rfl, p, l', rfl, hp, hr⟩ | ⟨h1, h5, rfl, l', hr⟩
  · exact Or.inl ⟨rfl, p, l', rfl, hp.other hf hs, hr.frm hf hR h0⟩
  · exact Or.inr ⟨h1, h5, rfl, l', hr.frm hf hR h0⟩
theorem Got.move {w w' : World} {F : Nat → Prop} {R : Nat} {s : ByteArray} {d : Nat} {r : Res Part} {C : Array Value} {fault : Nat} (h : Got w F R s d r C fault) (hf : Frm No w w') : Got w' F R s d r C fault :=
  h.frm hf (fun g e _ => e.elim) id id
theorem Got.mono {w : World} {F F' : Nat → Prop} {R : Nat} {s : ByteArray} {d : Nat} {r : Res Part} {C : Array Value} {fault : Nat} (h : Got w F R s d r C fault) (hs : ∀ g, F g → g < w.heap.size → F' g) : Got w F' R s d r C fault := by
  rcases h with ⟨rfl, p, l', rfl, hp, hr⟩ | ⟨h1, h5, rfl, l', hr⟩
  · exact Or.inl ⟨rfl, p, l', rfl, hp.mono hs, hr⟩
  · exact Or.inr ⟨h1, h5, rfl, l', hr⟩

theorem sh_size {C : Array Value} (h : Sh (.agg C)) : C.size = 6 := by
  obtain ⟨o, s, a, n, c, x, y, m, h⟩ := h
  cases h
  rfl
theorem sh_one {C : Array Value} (h : Sh (.agg C)) : C.all (·.oneCell') = true := by
  obtain ⟨o, s, a, n, c, x, y, m, h⟩ := h
  cases h
  simp [Value.oneCell']
theorem sh_info {C : Array Value} (h : Sh (.agg C)) : (Tryz.prog.info? 94).map (·.size) = some C.size := by rw [sh_size h]; exact info_part

/-- Where piece's loop stands: what is left of the repeats comes to res. -/
def PieceAt (w : World) (P R : Nat) (s : ByteArray) (d : Nat) (res : Res Part) (fault : Nat) (wr : World) : Prop :=
  ∃ C, Sh (.agg C) ∧ Box wr P 94 C ∧
    ((fault = 0 ∧ ∃ (p : Part) (l' : List UInt8) (n : Nat), repsF n p l' = res ∧ l'.length < n ∧ PV wr (fun k => w.heap.size ≤ k) (.agg C) p ∧ Rd wr R s d l') ∨
     (0 < fault ∧ fault ≤ 5 ∧ res = .bad fault ∧ ∃ l', Rd wr R s d l'))

set_option maxHeartbeats 1000000 in
theorem piece_all (g : List UInt8 → Res Part) (w : World) (R : Nat) (s : ByteArray) (d : Nat) (G : GrpC g d) (hg : Short g) (l : List UInt8) (h : Rd w R s d l) (hne : l ≠ []) (res : Res Part) (hres : piece g l = res) :
    Calls Tryz.prog 81 #[.pointer (some ⟨R, 0, none⟩)] w (PartPost w R s d res) := by
  have hRlt := h.lt
  have hR0 := h.ne0
  have HA := Lib.hid (h.alloc (.cells zp 94))
  have HX0 := Lib.hid (Box.new w 94 zp)
  have HN := Lib.hid (show ¬ At R w.heap.size from fun e => by have e' : w.heap.size = R := e; omega)
  have HN0 := Lib.hid (show ¬ At w.heap.size 0 from fun e => by have e' : 0 = w.heap.size := e; omega)
  have HNR := Lib.hid (show ¬ At w.heap.size R from fun e => by have e' : R = w.heap.size := e; omega)
  have HC := Lib.hid (fun W hW => atom_all g W R s d G l hW hne _ _ rfl rfl)
  have HRES := Lib.hid hres
  clear h hres
  go_enter Tryz.func81, Tryz.ntmps81
  go_wp2_with (first | (go_at_call 92; go_must (refine (HC.out _ (by exact HA.out)).mono ?_; intro e w2 hip; obtain ⟨C, fault, rfl, hsh, hf2, hgot⟩ := hip.uni; have HSH := Lib.hid hsh; have HX2 := Lib.hid (show Box w2 w.heap.size 94 zp from HX0.out.frm hf2 HN.out); have HF2 := Lib.hid (show Frm (At R) w w2 from ((Frm.refl (At R) w).alloc _).trans hf2); have HGOT := Lib.hid hgot; obtain ⟨o, s1, a1, n1, c1, x1, y1, m1, hC⟩ := hsh; cases hC; clear hip hf2 hgot)))
  have hsz2 := HF2.out.size
  have hlt2 := HX2.out.lt
  go_loopw [5] (fun fv wr => ∃ fault : Nat, fault ≤ 5 ∧ fv = .int .i64 fault ∧ PieceAt w w2.heap.size R s d res fault wr ∧ Box wr w.heap.size 94 zp ∧ Frm (At R) w wr) (fun fv wr => if intOf fv = 0 then left R s wr + 1 else 0)
  case atStart =>
    refine ⟨fault, ?_, rfl, ⟨_, HSH.out, Box.new w2 _ _, ?_⟩, HX2.out.alloc _, HF2.out.alloc _⟩
    · rcases HGOT.out with ⟨h, _⟩ | ⟨_, h, _⟩ <;> omega
    · have hm := HGOT.out.move (frm1 w2 (.cells #[.string o, .string s1, .slice a1 n1 c1, .int .i64 x1, .int .i64 y1, .int .i64 m1] 94))
      rcases hm with ⟨h1, p, l', h2, h3, h4⟩ | ⟨h1, h2, h3, h4⟩
      · refine Or.inl ⟨h1, p, l', l'.length + 1, ?_, by omega, h3.mono (fun g h _ => by have := h; simp only [World.size_alloc] at this; omega), h4⟩
        rw [← HRES.out, piece, h2]
      · refine Or.inr ⟨h1, h2, ?_, h4⟩
        rw [← HRES.out, piece, h3]
  case round =>
    obtain ⟨fault, hf5, rfl, ⟨C, hsh, hbx, hst⟩, hbz, hf⟩ := hrel
    have HSH := Lib.hid hsh
    have HB := Lib.hid hbx
    have HZ := Lib.hid hbz
    have HF := Lib.hid hf
    have hltP := hbx.lt
    have HPZ := Lib.hid (show ∀ g, At w.heap.size g → g < wr.heap.size → ∃ T C, Box wr g T C ∧ T ≠ 47 from fun g e _ => by cases e; exact ⟨_, _, hbz, by decide⟩)
    clear hsh hbx hbz hf
    rcases hst with ⟨rfl, p, l', n, hrep, hn, hp, hr⟩ | ⟨h0, h5, hb, l', hr⟩
    · obtain ⟨m, rfl⟩ : ∃ m, n = m + 1 := ⟨n - 1, by omega⟩
      have HP := Lib.hid hp
      have HR := Lib.hid hr
      have HL := Lib.hid (left_eq hr)
      by_cases ha : atRep l' = true
      · have HREP := Lib.hid hrep
        have hne' : l' ≠ [] := by
          intro e
          subst e
          cases ha
        clear hp hr hrep
        go_wp2_with (first | (go_at_call 93; go_must (refine (atRep_all _ R s d l' (by exact HR.out)).mono ?_; rintro e w3 ⟨rfl, hf3⟩; have HR3 := Lib.hid (HR.out.move hf3); have HB3 := Lib.hid (HB.out.frm hf3 id); have HZ3 := Lib.hid (HZ.out.frm hf3 id); have HP3 := Lib.hid (HP.out.move hf3); have HF3 := Lib.hid (HF.out.then hf3 (fun _ _ e => e.elim)); clear hf3)) | (refine wpList_load_row rfl 94 (.tmp 4) rfl w2.heap.size rfl 94 C (0, 0) _ HB3.out Tryz.underlying94 rfl (sh_info HSH.out) ?_) | (go_at_call 94; go_must (refine (repeat_all _ (fun k => w.heap.size ≤ k) R s d _ p l' (by exact HR3.out) HP3.out ha).mono ?_; intro e w4 hip; obtain ⟨C4, fault4, rfl, hsh4, hf4, hgot4⟩ := hip.uni; have HSH4 := Lib.hid hsh4; have HB4 := Lib.hid (show Box w4 w2.heap.size 94 C from HB3.out.frm hf4 (fun e => by have e' : w2.heap.size = R := e; omega)); have HZ4 := Lib.hid (show Box w4 w.heap.size 94 zp from HZ3.out.frm hf4 HN.out); have HF4 := Lib.hid (HF3.out.trans hf4); have HGOT4 := Lib.hid (hgot4.mono (F' := fun k => w.heap.size ≤ k) (fun g h _ => h.elim id (fun h => Nat.le_trans HF3.out.size h))); clear hip hf4 hgot4)) | (refine wpList_store_row rfl 94 (.tmp 4) (.tmp 21) rfl w2.heap.size C4 rfl rfl 94 C HB4.out (sh_info HSH4.out) (by rw [sh_size HSH.out, sh_size HSH4.out]) (sh_one HSH4.out) ?_))
        have HGF := Lib.hid (HGOT4.out.frm (w' := w4.setRow w2.heap.size C4) (frm_setRow (S := At w2.heap.size) (Frm.refl _ _) _ _ (fun _ => rfl)) (fun g e _ => by cases e; exact ⟨_, _, HB4.out, by decide⟩) (fun e => by have e' : R = w2.heap.size := e; omega) (fun e => by have e' : 0 = w2.heap.size := e; omega))
        go_roundw
        case rel =>
          refine ⟨fault4, ?_, rfl, ⟨C4, HSH4.out, setRow_eq HB4.out, ?_⟩, Box.frm HZ4.out (frm_setRow (S := At w2.heap.size) (Frm.refl _ _) _ _ (fun _ => rfl)) (fun e => by have e' : w.heap.size = w2.heap.size := e; omega), frm_setRow HF4.out _ _ (fun hk => by omega)⟩
          · rcases HGOT4.out with ⟨h, _⟩ | ⟨_, h, _⟩ <;> omega
          · rcases HGF.out with ⟨h1, p4, l4, h2, h3, h4⟩ | ⟨h1, h2, h3, h4⟩
            · have := repeatL_len h2
              refine Or.inl ⟨h1, p4, l4, m, ?_, by omega, h3, h4⟩
              rw [← HREP.out, repsF, if_pos ha, h2]
            · refine Or.inr ⟨h1, h2, ?_, h4⟩
              rw [← HREP.out, repsF, if_pos ha, h3]
        case measure =>
          rcases HGF.out with ⟨h1, p4, l4, h2, h3, h4⟩ | ⟨h1, h2, h3, h4⟩
          · have h5 := repeatL_len h2
            have h6 := left_eq h4
            have h7 := HL.out
            subst h1
            simp [intOf]
            omega
          · have hf0 : ¬ fault4 = 0 := by omega
            simp [intOf, hf0]
      · have ha' : atRep l' = false := by simpa using ha
        have HE := Lib.hid (show res = .ok p l' by rw [← hrep, repsF, if_neg ha])
        clear hp hr hrep ha
        go_wp2_with (first | (go_at_call 93; go_must (refine (atRep_all _ R s d l' (by exact HR.out)).mono ?_; rintro e w3 ⟨rfl, hf3⟩; have HR3 := Lib.hid (HR.out.move hf3); have HB3 := Lib.hid (HB.out.frm hf3 id); have HZ3 := Lib.hid (HZ.out.frm hf3 id); have HP3 := Lib.hid (HP.out.move hf3); have HF3 := Lib.hid (HF.out.then hf3 (fun _ _ e => e.elim)); clear hf3)) | (refine wpList_load_row rfl 94 (.tmp 4) rfl w2.heap.size rfl 94 C (0, 0) _ HB3.out Tryz.underlying94 rfl (sh_info HSH.out) ?_) | (refine wpList_store_row rfl 94 (.tmp 2) (.tmp 23) rfl w.heap.size C rfl rfl 94 zp HZ3.out (sh_info HSH.out) (by rw [sh_size HSH.out]; rfl) (sh_one HSH.out) ?_))
        refine bodyPost_ret (results_part2 Tryz.results81 _ _ w.heap.size 94 _ (0, 0) _ (.int .i64 0) rfl rfl (setRow_eq HZ3.out) Tryz.underlying94 rfl (sh_info HSH.out)) rfl ?_
        rw [HE.out]
        exact ⟨_, rfl, HP3.out.setRow HZ3.out (by decide) _, Rd.frm HR3.out (frm_setRow (S := At w.heap.size) (Frm.refl _ _) _ _ (fun _ => rfl)) HNR.out HN0.out, frm_setRow HF3.out _ _ (fun hk => absurd hk (Nat.lt_irrefl _))⟩
    · have h0' : (((fault : Nat) : Int) == 0) = false := by simp; omega
      have HB5 := Lib.hid hb
      have HR := Lib.hid hr
      clear hb hr
      go_wp2_with (first | (refine wpList_load_row rfl 94 (.tmp 4) rfl w2.heap.size rfl 94 C (0, 0) _ HB.out Tryz.underlying94 rfl (sh_info HSH.out) ?_) | (refine wpList_store_row rfl 94 (.tmp 2) (.tmp 23) rfl w.heap.size C rfl rfl 94 zp HZ.out (sh_info HSH.out) (by rw [sh_size HSH.out]; rfl) (sh_one HSH.out) ?_))
      refine bodyPost_ret (results_part2 Tryz.results81 _ _ w.heap.size 94 _ (0, 0) _ (.int .i64 (fault : Nat)) rfl rfl (setRow_eq HZ.out) Tryz.underlying94 rfl (sh_info HSH.out)) rfl ?_
      rw [HB5.out]
      exact ⟨_, rfl, HSH.out, h0, h5, ⟨l', Rd.frm HR.out (frm_setRow (S := At w.heap.size) (Frm.refl _ _) _ _ (fun _ => rfl)) HNR.out HN0.out⟩, frm_setRow HF.out _ _ (fun hk => absurd hk (Nat.lt_irrefl _))⟩
end Go.Proofs.YtbfekknhmjndaaaGreat.items

namespace Go.Proofs.YtbfekknhmjndaaaGreat.items
set_option linter.unusedVariables false set_option linter.unusedSimpArgs false
open Go.ChangeShapes Go.WideShapes Go.ChangeAt Go.RowKit Go.Proofs.YtbfekknhmjndaaaGreat.base Go.Proofs.YtbfekknhmjndaaaGreat.read Go.Proofs.YtbfekknhmjndaaaGreat.spec Go.Proofs.YtbfekknhmjndaaaGreat.set Go.Proofs.YtbfekknhmjndaaaGreat.nums Go.Proofs.YtbfekknhmjndaaaGreat.parts

theorem rowv_frm {S : Nat → Prop} {w w' : World} {B U L : Nat} {r : Row} (h : RowV w B U L r) (hf : Frm S w w') (hL : ¬ S L) (hs : ∀ g cur, Box w g 47 cur → ¬ S g) : RowV w' B U L r := by
  obtain ⟨h1, a, cap, C, h2, h3, h4, h5, h6⟩ := h
  exact ⟨h1, a, cap, C, h2.frm hf hL, own_frm h3 hf (fun g cur hb _ => hs g cur hb), h4.go (fun g cur hg hb => ⟨hg, hb.frm hf (hs g cur hb)⟩), h5, h6⟩
theorem rowv_mono {w : World} {B U U' L : Nat} {r : Row} (h : RowV w B U L r) (hU : U ≤ U') : RowV w B U' L r := by
  obtain ⟨h1, a, cap, C, h2, h3, h4, h5, h6⟩ := h
  exact ⟨h1, a, cap, C, h2, h3, h4, fun g e => Nat.lt_of_lt_of_le (h5 g e) hU, h6⟩
theorem rowv_move {w w' : World} {B U L : Nat} {r : Row} (h : RowV w B U L r) (hf : Frm No w w') : RowV w' B U L r := rowv_frm h hf id (fun _ _ _ => id)
theorem rowv_rd {w w' : World} {B U L R : Nat} {r : Row} {s : ByteArray} {d : Nat} {l : List UInt8} (h : RowV w B U L r) (hf : Frm (At R) w w') (hr : Rd w R s d l) (hL : L ≠ R) : RowV w' B U L r := by
  refine rowv_frm h hf hL (fun g cur hb e => ?_)
  obtain ⟨i, hr, _⟩ := hr
  have e' : g = R := e
  subst e'
  have := box_type hr.1 hb
  revert this
  decide
theorem rowv_new (w : World) (B : Nat) : RowV (w.alloc (.cells #[.slice none 0 0, .int .i64 0] 119)) B w.heap.size w.heap.size row0 :=
  ⟨by decide, none, 0, [], Box.new w _ _, World.ownsRow_nil _ _ _ _, rfl, fun g e => (by cases e), fun _ => ⟨rfl, rfl⟩⟩
theorem rows_box {w : World} {B L b : Nat} {T : TypeId} {C : Array Value} (h : Box w b T C) (hT : T ≠ 47) (hL : b ≠ L) : ¬ RowS w B L b := by
  rintro (e | ⟨_, D, hb⟩)
  · exact hL e
  · exact hT (box_type h hb)
theorem rows_lt {w : World} {B L k : Nat} (hL : B ≤ L) (hk : k < B) : ¬ RowS w B L k := by
  rintro (e | ⟨h, _⟩) <;> omega
theorem add_len (r : Row) (p : Part) : (r.add p).kids.len ≤ r.kids.len + 1 := by
  rw [Row.add]
  split
  · simp only [Forest.len_snoc]; exact Nat.le_refl _
  · exact Nat.zero_le _

/-- The part of a row that was read. -/
def joinRes (op : ByteArray) (own : Nat) (r : Res Row) : Res Part := match r with
  | .bad e => .bad e
  | .ok r l' => .ok (r.join op own) l'

theorem Got.bad {w' : World} {F : Nat → Prop} {R : Nat} {s : ByteArray} {d f fault : Nat} {C : Array Value} (h : Got w' F R s d (.bad f) C fault) : 0 < f ∧ f ≤ 5 ∧ fault = f ∧ ∃ l', Rd w' R s d l' := by
  rcases h with ⟨_, p, l', h, _⟩ | ⟨h1, h2, h3, h4⟩
  · cases h
  · cases h3
    exact ⟨h1, h2, rfl, h4⟩
theorem Got.ok {w' : World} {F : Nat → Prop} {R : Nat} {s : ByteArray} {d fault : Nat} {C : Array Value} {p : Part} {l' : List UInt8} (h : Got w' F R s d (.ok p l') C fault) : fault = 0 ∧ PV w' F (.agg C) p ∧ Rd w' R s d l' := by
  rcases h with ⟨h1, p', l2, h, h2, h3⟩ | ⟨_, _, h3, _⟩
  · cases h
    exact ⟨h1, h2, h3⟩
  · cases h3

set_option maxHeartbeats 1000000 in
theorem branch_all (g : List UInt8 → Res Part) (w : World) (R : Nat) (s : ByteArray) (d : Nat) (G : GrpC g d) (hg : Short g) (l : List UInt8) (h : Rd w R s d l) (res : Res Part) (hres : branch g l = res) :
    Calls Tryz.prog 61 #[.pointer (some ⟨R, 0, none⟩)] w (PartPost w R s d res) := by
  have hRlt := h.lt
  have hR0 := h.ne0
  have hll := h.len
  have HA := Lib.hid ((h.alloc (.cells zp 94)).alloc (.cells #[.slice none 0 0, .int .i64 0] 119))
  have HX0 := Lib.hid ((Box.new w 94 zp).alloc (.cells #[.slice none 0 0, .int .i64 0] 119))
  have HRW := Lib.hid (rowv_new (w.alloc (.cells zp 94)) w.heap.size)
  rw [World.size_alloc] at HRW
  have HN := Lib.hid (show ¬ At R w.heap.size from fun e => by have e' : w.heap.size = R := e; omega)
  have HN0 := Lib.hid (show ¬ At w.heap.size 0 from fun e => by have e' : 0 = w.heap.size := e; omega)
  have HNR := Lib.hid (show ¬ At w.heap.size R from fun e => by have e' : R = w.heap.size := e; omega)
  have HRES := Lib.hid hres
  clear h hres
  go_enter Tryz.func61, Tryz.ntmps61
  go_wp2
  obtain ⟨rr, hrr⟩ : ∃ rr, rr = branchF g (l.length + 1) row0 l := ⟨_, rfl⟩
  have HRR := Lib.hid hrr.symm
  have HFIN := Lib.hid (show res = joinRes catW 0 rr by rw [← HRES.out, branch, ← hrr]; cases rr <;> rfl)
  clear hrr
  go_loopw [6] (fun _ wr => ∃ (r : Row) (l' : List UInt8) (n U : Nat), branchF g n r l' = rr ∧ l'.length < n ∧ r.kids.len + l'.length ≤ 100000 + 0 ∧ RowV wr w.heap.size U (w.heap.size + 1) r ∧ U ≤ wr.heap.size ∧ Rd wr R s d l' ∧ Box wr w.heap.size 94 zp ∧ Frm (At R) w wr) (fun _ wr => left R s wr)
  case atStart => exact ⟨row0, l, l.length + 1, w.heap.size + 1, HRR.out, by omega, by show 0 + l.length ≤ _; omega, HRW.out, by simp, HA.out, HX0.out, ((Frm.refl (At R) w).alloc _).alloc _⟩
  case round =>
    obtain ⟨r, l', n, U, hit, hn, hkl, hrow, hU, hrd, hbz, hf⟩ := hrel
    obtain ⟨m, rfl⟩ : ∃ m, n = m + 1 := ⟨n - 1, by omega⟩
    have HIT := Lib.hid hit
    have HROW := Lib.hid hrow
    have HR := Lib.hid hrd
    have HZ := Lib.hid hbz
    have HF := Lib.hid hf
    have HL := Lib.hid (left_eq hrd)
    have hszr := hf.size
    clear hit hrow hrd hbz hf
    by_cases k1 : l'.isEmpty = true
    · have HE := Lib.hid (show res = .ok (r.join catW 0) l' by rw [HFIN.out, ← HIT.out, branchF, if_pos (by simp [ends, k1])]; rfl)
      go_wp2_with (first | (go_at_call 48; go_must (refine (done_all _ R s d l' (by exact HR.out)).mono ?_; rintro e _ ⟨rfl, n1, rfl⟩)) | (go_at_call 64; go_must (refine (join_all _ w.heap.size U (w.heap.size + 1) r catW 0 (rowv_move HROW.out ((Frm.refl No wr).drewN _)) (by omega) _ rfl).mono ?_; rintro e w6 ⟨v6, rfl, hp6, hf6⟩; have HP6 := Lib.hid hp6; have HZ6 := Lib.hid (show Box w6 w.heap.size 94 zp from (show Box (wr.drewN (n1)) w.heap.size 94 zp from HZ.out).frm hf6 id); have HR6 := Lib.hid (Rd.move (w := wr.drewN (n1)) HR.out hf6); have HF6 := Lib.hid (Frm.then (HF.out.drewN (n1)) hf6 (fun _ _ e => e.elim)); obtain ⟨hn6, a6, cap6, rfl, hk6⟩ := hp6; clear hf6 hk6)) | (refine wpList_store_row rfl 94 (.tmp 2) (.tmp 31) rfl w.heap.size _ rfl rfl 94 zp HZ6.out info_part rfl (by simp [Value.oneCell']) ?_))
      refine bodyPost_ret (results_part2 Tryz.results61 _ _ w.heap.size 94 _ (0, 0) _ (.int .i64 0) rfl rfl (setRow_eq HZ6.out) Tryz.underlying94 rfl info_part) rfl ?_
      rw [HE.out]
      exact ⟨_, rfl, HP6.out.setRow HZ6.out (by decide) _, Rd.frm HR6.out (frm_setRow (S := At w.heap.size) (Frm.refl _ _) _ _ (fun _ => rfl)) HNR.out HN0.out, frm_setRow HF6.out _ _ (fun hk => absurd hk (Nat.lt_irrefl _))⟩
    have fk1 : l'.isEmpty = false := by simpa using k1
    clear k1
    by_cases k2 : hd l' 124 = true
    · have HE := Lib.hid (show res = .ok (r.join catW 0) l' by rw [HFIN.out, ← HIT.out, branchF, if_pos (by simp [ends, k2])]; rfl)
      go_wp2_with (first | (go_at_call 48; go_must (refine (done_all _ R s d l' (by exact HR.out)).mono ?_; rintro e _ ⟨rfl, n1, rfl⟩)) | (go_at_call_of 80 (Value.int .u8 124); go_must (refine (at_all _ R s d l' 124 _ rfl (by exact HR.out)).mono ?_; rintro e _ ⟨rfl, n2, rfl⟩)) | (go_at_call 64; go_must (refine (join_all _ w.heap.size U (w.heap.size + 1) r catW 0 (rowv_move HROW.out ((Frm.refl No wr).drewN _)) (by omega) _ rfl).mono ?_; rintro e w6 ⟨v6, rfl, hp6, hf6⟩; have HP6 := Lib.hid hp6; have HZ6 := Lib.hid (show Box w6 w.heap.size 94 zp from (show Box (wr.drewN (n1 + n2)) w.heap.size 94 zp from HZ.out).frm hf6 id); have HR6 := Lib.hid (Rd.move (w := wr.drewN (n1 + n2)) HR.out hf6); have HF6 := Lib.hid (Frm.then (HF.out.drewN (n1 + n2)) hf6 (fun _ _ e => e.elim)); obtain ⟨hn6, a6, cap6, rfl, hk6⟩ := hp6; clear hf6 hk6)) | (refine wpList_store_row rfl 94 (.tmp 2) (.tmp 31) rfl w.heap.size _ rfl rfl 94 zp HZ6.out info_part rfl (by simp [Value.oneCell']) ?_))
      refine bodyPost_ret (results_part2 Tryz.results61 _ _ w.heap.size 94 _ (0, 0) _ (.int .i64 0) rfl rfl (setRow_eq HZ6.out) Tryz.underlying94 rfl info_part) rfl ?_
      rw [HE.out]
      exact ⟨_, rfl, HP6.out.setRow HZ6.out (by decide) _, Rd.frm HR6.out (frm_setRow (S := At w.heap.size) (Frm.refl _ _) _ _ (fun _ => rfl)) HNR.out HN0.out, frm_setRow HF6.out _ _ (fun hk => absurd hk (Nat.lt_irrefl _))⟩
    have fk2 : hd l' 124 = false := by simpa using k2
    clear k2
    by_cases k3 : hd l' 41 = true
    · have HE := Lib.hid (show res = .ok (r.join catW 0) l' by rw [HFIN.out, ← HIT.out, branchF, if_pos (by simp [ends, k3])]; rfl)
      go_wp2_with (first | (go_at_call 48; go_must (refine (done_all _ R s d l' (by exact HR.out)).mono ?_; rintro e _ ⟨rfl, n1, rfl⟩)) | (go_at_call_of 80 (Value.int .u8 124); go_must (refine (at_all _ R s d l' 124 _ rfl (by exact HR.out)).mono ?_; rintro e _ ⟨rfl, n2, rfl⟩)) | (go_at_call_of 80 (Value.int .u8 41); go_must (refine (at_all _ R s d l' 41 _ rfl (by exact HR.out)).mono ?_; rintro e _ ⟨rfl, n3, rfl⟩)) | (go_at_call 64; go_must (refine (join_all _ w.heap.size U (w.heap.size + 1) r catW 0 (rowv_move HROW.out ((Frm.refl No wr).drewN _)) (by omega) _ rfl).mono ?_; rintro e w6 ⟨v6, rfl, hp6, hf6⟩; have HP6 := Lib.hid hp6; have HZ6 := Lib.hid (show Box w6 w.heap.size 94 zp from (show Box (wr.drewN (n1 + n2 + n3)) w.heap.size 94 zp from HZ.out).frm hf6 id); have HR6 := Lib.hid (Rd.move (w := wr.drewN (n1 + n2 + n3)) HR.out hf6); have HF6 := Lib.hid (Frm.then (HF.out.drewN (n1 + n2 + n3)) hf6 (fun _ _ e => e.elim)); obtain ⟨hn6, a6, cap6, rfl, hk6⟩ := hp6; clear hf6 hk6)) | (refine wpList_store_row rfl 94 (.tmp 2) (.tmp 31) rfl w.heap.size _ rfl rfl 94 zp HZ6.out info_part rfl (by simp [Value.oneCell']) ?_))
      refine bodyPost_ret (results_part2 Tryz.results61 _ _ w.heap.size 94 _ (0, 0) _ (.int .i64 0) rfl rfl (setRow_eq HZ6.out) Tryz.underlying94 rfl info_part) rfl ?_
      rw [HE.out]
      exact ⟨_, rfl, HP6.out.setRow HZ6.out (by decide) _, Rd.frm HR6.out (frm_setRow (S := At w.heap.size) (Frm.refl _ _) _ _ (fun _ => rfl)) HNR.out HN0.out, frm_setRow HF6.out _ _ (fun hk => absurd hk (Nat.lt_irrefl _))⟩
    have fk3 : hd l' 41 = false := by simpa using k3
    clear k3
    have hne : l' ≠ [] := by
      intro e
      subst e
      cases fk1
    have HST := Lib.hid (show rr = match piece g l' with
        | .bad e => .bad e
        | .ok p l2 => branchF g m (r.add p) l2 by
      rw [← HIT.out, branchF, if_neg (by simp [ends, fk1, fk2, fk3])]
      cases piece g l' <;> rfl)
    cases hpc : piece g l' with
    | bad fault =>
      have HPC := Lib.hid hpc
      have HE := Lib.hid (show res = .bad fault by rw [HFIN.out, HST.out, hpc]; rfl)
      clear hpc
      go_wp2_with (first | (go_at_call 48; go_must (refine (done_all _ R s d l' (by exact HR.out)).mono ?_; rintro e _ ⟨rfl, n1, rfl⟩)) | (go_at_call_of 80 (Value.int .u8 124); go_must (refine (at_all _ R s d l' 124 _ rfl (by exact HR.out)).mono ?_; rintro e _ ⟨rfl, n2, rfl⟩)) | (go_at_call_of 80 (Value.int .u8 41); go_must (refine (at_all _ R s d l' 41 _ rfl (by exact HR.out)).mono ?_; rintro e _ ⟨rfl, n3, rfl⟩)) | (go_at_call 81; go_must (refine (piece_all g _ R s d G hg l' (by exact HR.out) hne _ rfl).mono ?_; intro e w3 hip; obtain ⟨C, fault2, rfl, hsh, hf3, hgot⟩ := hip.uni; rw [HPC.out] at hgot; obtain ⟨h0, h5, hfe, ⟨l3, hr3⟩⟩ : 0 < fault ∧ fault ≤ 5 ∧ fault2 = fault ∧ ∃ l3, Rd w3 R s d l3 := hgot.bad; subst hfe; have HR3 := Lib.hid hr3; clear hr3; have HZ3 := Lib.hid (show Box w3 w.heap.size 94 zp from Box.frm (w := (wr.drewN (n1 + n2 + n3))) HZ.out hf3 HN.out); have HROW3 := Lib.hid (show RowV w3 w.heap.size (wr.drewN (n1 + n2 + n3)).heap.size (w.heap.size + 1) r from rowv_rd (w := (wr.drewN (n1 + n2 + n3))) (rowv_mono (rowv_move HROW.out ((Frm.refl No wr).drewN _)) (by exact hU)) hf3 HR.out (by omega)); have HF3 := Lib.hid (show Frm (At R) w w3 from (HF.out.drewN (n1 + n2 + n3)).trans hf3); have hsz3 := HF3.out.size; have HZ4 := Lib.hid (HZ3.out.alloc (.cells C 94)); have HR4 := Lib.hid (HR3.out.alloc (.cells C 94)); have HF4 := Lib.hid (HF3.out.alloc (.cells C 94)); have h0' : (((fault2 : Nat) : Int) == 0) = false := (by simp; omega); obtain ⟨o, s1, a1, n1', c1, x1, y1, m1, hC⟩ := hsh; cases hC; clear hip hf3 hgot)) | (refine wpList_store_row rfl 94 (.tmp 2) (.tmp 27) rfl w.heap.size _ rfl rfl 94 zp HZ4.out info_part rfl (by simp [Value.oneCell']) ?_))
      refine bodyPost_ret (results_part2 Tryz.results61 _ _ w.heap.size 94 _ (0, 0) _ (.int .i64 (fault2 : Nat)) rfl rfl (setRow_eq HZ4.out) Tryz.underlying94 rfl info_part) rfl ?_
      rw [HE.out]
      exact ⟨_, rfl, ⟨_, _, _, _, _, _, _, _, rfl⟩, h0, h5, ⟨l3, Rd.frm HR4.out (frm_setRow (S := At w.heap.size) (Frm.refl _ _) _ _ (fun _ => rfl)) HNR.out HN0.out⟩, frm_setRow HF4.out _ _ (fun hk => absurd hk (Nat.lt_irrefl _))⟩
    | ok p l3 =>
      have HPC := Lib.hid hpc
      have HE := Lib.hid (show branchF g m (r.add p) l3 = rr by rw [HST.out, hpc])
      have hlen := piece_len hg hpc
      have hal := add_len r p
      clear hpc
      go_wp2_with (first | (go_at_call 48; go_must (refine (done_all _ R s d l' (by exact HR.out)).mono ?_; rintro e _ ⟨rfl, n1, rfl⟩)) | (go_at_call_of 80 (Value.int .u8 124); go_must (refine (at_all _ R s d l' 124 _ rfl (by exact HR.out)).mono ?_; rintro e _ ⟨rfl, n2, rfl⟩)) | (go_at_call_of 80 (Value.int .u8 41); go_must (refine (at_all _ R s d l' 41 _ rfl (by exact HR.out)).mono ?_; rintro e _ ⟨rfl, n3, rfl⟩)) | (go_at_call 81; go_must (refine (piece_all g _ R s d G hg l' (by exact HR.out) hne _ rfl).mono ?_; intro e w3 hip; obtain ⟨C, fault, rfl, hsh, hf3, hgot⟩ := hip.uni; rw [HPC.out] at hgot; obtain ⟨hfe, hp3, hr3⟩ : fault = 0 ∧ PV w3 (fun k => wr.heap.size ≤ k) (.agg C) p ∧ Rd w3 R s d l3 := hgot.ok; subst hfe; have HP3 := Lib.hid hp3; have HR3 := Lib.hid hr3; clear hp3 hr3; have HZ3 := Lib.hid (show Box w3 w.heap.size 94 zp from Box.frm (w := (wr.drewN (n1 + n2 + n3))) HZ.out hf3 HN.out); have HROW3 := Lib.hid (show RowV w3 w.heap.size (wr.drewN (n1 + n2 + n3)).heap.size (w.heap.size + 1) r from rowv_rd (w := (wr.drewN (n1 + n2 + n3))) (rowv_mono (rowv_move HROW.out ((Frm.refl No wr).drewN _)) (by exact hU)) hf3 HR.out (by omega)); have HF3 := Lib.hid (show Frm (At R) w w3 from (HF.out.drewN (n1 + n2 + n3)).trans hf3); have hsz3 := HF3.out.size; obtain ⟨o, s1, a1, n1', c1, x1, y1, m1, hC⟩ := hsh; cases hC; clear hip hf3 hgot)) | (go_at_call 62; go_must (refine (add_all _ w.heap.size wr.heap.size (w.heap.size + 1) r (fun k => wr.heap.size ≤ k) _ p (rowv_move HROW3.out (frm1 w3 _)) (HP3.out.move (frm1 w3 _)) (fun k h => h) (by omega) (by simp; omega) (by omega)).mono ?_; rintro e w5 ⟨rfl, hrow5, hf5⟩; have HROW5 := Lib.hid hrow5; have HZ5 := Lib.hid (show Box w5 w.heap.size 94 zp from (HZ3.out.alloc _).frm hf5 (rows_box (HZ3.out.alloc _) (by decide) (by omega))); have HR5 := Lib.hid (show Rd w5 R s d l3 from (HR3.out.alloc _).frm hf5 (rows_lt (by omega) hRlt) (rows_lt (by omega) (by omega))); have HF5 := Lib.hid (show Frm (At R) w w5 from (HF3.out.alloc _).then hf5 (fun k hk e => absurd e (rows_lt (by omega) hk))); have hsz5 := HF5.out.size; clear hrow5 hf5)))
      go_roundw
      case rel => exact ⟨r.add p, l3, m, w5.heap.size, HE.out, by omega, by omega, HROW5.out, Nat.le_refl _, HR5.out, HZ5.out, HF5.out⟩
      case measure =>
        have := left_eq HR5.out
        have := HL.out
        omega
end Go.Proofs.YtbfekknhmjndaaaGreat.items

namespace Go.Proofs.YtbfekknhmjndaaaGreat.items
set_option linter.unusedVariables false set_option linter.unusedSimpArgs false
open Go.ChangeShapes Go.WideShapes Go.ChangeAt Go.RowKit Go.Proofs.YtbfekknhmjndaaaGreat.base Go.Proofs.YtbfekknhmjndaaaGreat.read Go.Proofs.YtbfekknhmjndaaaGreat.spec Go.Proofs.YtbfekknhmjndaaaGreat.set Go.Proofs.YtbfekknhmjndaaaGreat.nums Go.Proofs.YtbfekknhmjndaaaGreat.parts

set_option maxHeartbeats 1000000 in
theorem expression_all (g : List UInt8 → Res Part) (w : World) (R : Nat) (s : ByteArray) (d : Nat) (G : GrpC g d) (hg : Short g) (l : List UInt8) (h : Rd w R s d l) (res : Res Part) (hres : expr g l = res) :
    Calls Tryz.prog 47 #[.pointer (some ⟨R, 0, none⟩)] w (PartPost w R s d res) := by
  have hRlt := h.lt
  have hR0 := h.ne0
  have hll := h.len
  have HA := Lib.hid ((h.alloc (.cells zp 94)).alloc (.cells #[.slice none 0 0, .int .i64 0] 119))
  have HX0 := Lib.hid ((Box.new w 94 zp).alloc (.cells #[.slice none 0 0, .int .i64 0] 119))
  have HRW := Lib.hid (rowv_new (w.alloc (.cells zp 94)) w.heap.size)
  rw [World.size_alloc] at HRW
  have HN := Lib.hid (show ¬ At R w.heap.size from fun e => by have e' : w.heap.size = R := e; omega)
  have HN0 := Lib.hid (show ¬ At w.heap.size 0 from fun e => by have e' : 0 = w.heap.size := e; omega)
  have HNR := Lib.hid (show ¬ At w.heap.size R from fun e => by have e' : R = w.heap.size := e; omega)
  have HRES := Lib.hid hres
  clear h hres
  go_enter Tryz.func47, Tryz.ntmps47
  go_wp2
  obtain ⟨rr, hrr⟩ : ∃ rr, rr = exprF g (l.length + 1) row0 l := ⟨_, rfl⟩
  have HRR := Lib.hid hrr.symm
  have HFIN := Lib.hid (show res = joinRes altW 1 rr by rw [← HRES.out, expr, ← hrr]; cases rr <;> rfl)
  clear hrr
  go_loopw [6] (fun _ wr => ∃ (r : Row) (l' : List UInt8) (n U : Nat), exprF g n r l' = rr ∧ l'.length < n ∧ r.kids.len + l'.length ≤ 100000 + 0 ∧ RowV wr w.heap.size U (w.heap.size + 1) r ∧ U ≤ wr.heap.size ∧ Rd wr R s d l' ∧ Box wr w.heap.size 94 zp ∧ Frm (At R) w wr) (fun _ wr => left R s wr)
  case atStart => exact ⟨row0, l, l.length + 1, w.heap.size + 1, HRR.out, by omega, by show 0 + l.length ≤ _; omega, HRW.out, by simp, HA.out, HX0.out, ((Frm.refl (At R) w).alloc _).alloc _⟩
  case round =>
    obtain ⟨r, l', n, U, hit, hn, hkl, hrow, hU, hrd, hbz, hf⟩ := hrel
    obtain ⟨m, rfl⟩ : ∃ m, n = m + 1 := ⟨n - 1, by omega⟩
    have HIT := Lib.hid hit
    have HROW := Lib.hid hrow
    have HR := Lib.hid hrd
    have HZ := Lib.hid hbz
    have HF := Lib.hid hf
    have HL := Lib.hid (left_eq hrd)
    have hszr := hf.size
    clear hit hrow hrd hbz hf
    have HST := Lib.hid (show rr = match branch g l' with
        | .bad e => .bad e
        | .ok p l2 => if hd l2 124 then exprF g m (r.add p) l2.tail else .ok (r.add p) l2 by
      rw [← HIT.out, exprF]
      cases branch g l' <;> rfl)
    cases hpc : branch g l' with
    | bad fault =>
      have HPC := Lib.hid hpc
      have HE := Lib.hid (show res = .bad fault by rw [HFIN.out, HST.out, hpc]; rfl)
      clear hpc
      go_wp2_with (first | (go_at_call 61; go_must (refine (branch_all g _ R s d G hg l' (by exact HR.out) _ rfl).mono ?_; intro e w3 hip; obtain ⟨C, fault2, rfl, hsh, hf3, hgot⟩ := hip.uni; rw [HPC.out] at hgot; obtain ⟨h0, h5, hfe, ⟨l3, hr3⟩⟩ : 0 < fault ∧ fault ≤ 5 ∧ fault2 = fault ∧ ∃ l3, Rd w3 R s d l3 := hgot.bad; subst hfe; have HR3 := Lib.hid hr3; clear hr3; have HZ3 := Lib.hid (show Box w3 w.heap.size 94 zp from Box.frm (w := wr) HZ.out hf3 HN.out); have HROW3 := Lib.hid (show RowV w3 w.heap.size wr.heap.size (w.heap.size + 1) r from rowv_rd (w := wr) (rowv_mono HROW.out (by exact hU)) hf3 HR.out (by omega)); have HF3 := Lib.hid (show Frm (At R) w w3 from HF.out.trans hf3); have hsz3 := HF3.out.size; have HZ4 := Lib.hid (HZ3.out.alloc (.cells C 94)); have HR4 := Lib.hid (HR3.out.alloc (.cells C 94)); have HF4 := Lib.hid (HF3.out.alloc (.cells C 94)); have h0' : (((fault2 : Nat) : Int) == 0) = false := (by simp; omega); obtain ⟨o, s1, a1, n1', c1, x1, y1, m1, hC⟩ := hsh; cases hC; clear hip hf3 hgot)) | (refine wpList_store_row rfl 94 (.tmp 2) (.tmp 14) rfl w.heap.size _ rfl rfl 94 zp HZ4.out info_part rfl (by simp [Value.oneCell']) ?_))
      refine bodyPost_ret (results_part2 Tryz.results47 _ _ w.heap.size 94 _ (0, 0) _ (.int .i64 (fault2 : Nat)) rfl rfl (setRow_eq HZ4.out) Tryz.underlying94 rfl info_part) rfl ?_
      rw [HE.out]
      exact ⟨_, rfl, ⟨_, _, _, _, _, _, _, _, rfl⟩, h0, h5, ⟨l3, Rd.frm HR4.out (frm_setRow (S := At w.heap.size) (Frm.refl _ _) _ _ (fun _ => rfl)) HNR.out HN0.out⟩, frm_setRow HF4.out _ _ (fun hk => absurd hk (Nat.lt_irrefl _))⟩
    | ok p l3 =>
      have HPC := Lib.hid hpc
      have HE2 := Lib.hid (show rr = if hd l3 124 then exprF g m (r.add p) l3.tail else .ok (r.add p) l3 by rw [HST.out, hpc])
      have hlen := branch_len hg hpc
      have hal := add_len r p
      clear hpc
      by_cases hh : hd l3 124 = true
      · obtain ⟨t, ht⟩ := hd_cons hh
        have hlt : l3.tail.length < l3.length := by rw [ht]; simp
        have HE := Lib.hid (show exprF g m (r.add p) l3.tail = rr by rw [HE2.out, if_pos hh])
        go_wp2_with (first | (go_at_call 61; go_must (refine (branch_all g _ R s d G hg l' (by exact HR.out) _ rfl).mono ?_; intro e w3 hip; obtain ⟨C, fault, rfl, hsh, hf3, hgot⟩ := hip.uni; rw [HPC.out] at hgot; obtain ⟨hfe, hp3, hr3⟩ : fault = 0 ∧ PV w3 (fun k => wr.heap.size ≤ k) (.agg C) p ∧ Rd w3 R s d l3 := hgot.ok; subst hfe; have HP3 := Lib.hid hp3; have HR3 := Lib.hid hr3; clear hp3 hr3; have HZ3 := Lib.hid (show Box w3 w.heap.size 94 zp from Box.frm (w := wr) HZ.out hf3 HN.out); have HROW3 := Lib.hid (show RowV w3 w.heap.size wr.heap.size (w.heap.size + 1) r from rowv_rd (w := wr) (rowv_mono HROW.out (by exact hU)) hf3 HR.out (by omega)); have HF3 := Lib.hid (show Frm (At R) w w3 from HF.out.trans hf3); have hsz3 := HF3.out.size; obtain ⟨o, s1, a1, n1', c1, x1, y1, m1, hC⟩ := hsh; cases hC; clear hip hf3 hgot)) | (go_at_call 62; go_must (refine (add_all _ w.heap.size wr.heap.size (w.heap.size + 1) r (fun k => wr.heap.size ≤ k) _ p (rowv_move HROW3.out (frm1 w3 _)) (HP3.out.move (frm1 w3 _)) (fun k h => h) (by omega) (by simp; omega) (by omega)).mono ?_; rintro e w5 ⟨rfl, hrow5, hf5⟩; have HROW5 := Lib.hid hrow5; have HZ5 := Lib.hid (show Box w5 w.heap.size 94 zp from (HZ3.out.alloc _).frm hf5 (rows_box (HZ3.out.alloc _) (by decide) (by omega))); have HR5 := Lib.hid (show Rd w5 R s d l3 from (HR3.out.alloc _).frm hf5 (rows_lt (by omega) hRlt) (rows_lt (by omega) (by omega))); have HF5 := Lib.hid (show Frm (At R) w w5 from (HF3.out.alloc _).then hf5 (fun k hk e => absurd e (rows_lt (by omega) hk))); have hsz5 := HF5.out.size; clear hrow5 hf5)) | (go_at_call 63; go_must (refine (take_all w5 R s d l3 124 _ rfl (by exact HR5.out)).mono ?_; rintro e w7 ⟨rfl, hr7, hf7⟩; rw [if_pos hh] at hr7; have HR7 := Lib.hid hr7; have HZ7 := Lib.hid (show Box w7 w.heap.size 94 zp from HZ5.out.frm hf7 HN.out); have HROW7 := Lib.hid (rowv_rd HROW5.out hf7 HR5.out (by omega)); have HF7 := Lib.hid (HF5.out.trans hf7); have hsz7 := hf7.size; clear hr7 hf7)))
        go_roundw
        case rel => exact ⟨r.add p, l3.tail, m, w5.heap.size, HE.out, by omega, by omega, HROW7.out, hsz7, HR7.out, HZ7.out, HF7.out⟩
        case measure =>
          have := left_eq HR7.out
          have := HL.out
          omega
      · have HE := Lib.hid (show res = .ok ((r.add p).join altW 1) l3 by rw [HFIN.out, HE2.out, if_neg hh]; rfl)
        have hh : hd l3 124 = false := by simpa using hh
        go_wp2_with (first | (go_at_call 61; go_must (refine (branch_all g _ R s d G hg l' (by exact HR.out) _ rfl).mono ?_; intro e w3 hip; obtain ⟨C, fault, rfl, hsh, hf3, hgot⟩ := hip.uni; rw [HPC.out] at hgot; obtain ⟨hfe, hp3, hr3⟩ : fault = 0 ∧ PV w3 (fun k => wr.heap.size ≤ k) (.agg C) p ∧ Rd w3 R s d l3 := hgot.ok; subst hfe; have HP3 := Lib.hid hp3; have HR3 := Lib.hid hr3; clear hp3 hr3; have HZ3 := Lib.hid (show Box w3 w.heap.size 94 zp from Box.frm (w := wr) HZ.out hf3 HN.out); have HROW3 := Lib.hid (show RowV w3 w.heap.size wr.heap.size (w.heap.size + 1) r from rowv_rd (w := wr) (rowv_mono HROW.out (by exact hU)) hf3 HR.out (by omega)); have HF3 := Lib.hid (show Frm (At R) w w3 from HF.out.trans hf3); have hsz3 := HF3.out.size; obtain ⟨o, s1, a1, n1', c1, x1, y1, m1, hC⟩ := hsh; cases hC; clear hip hf3 hgot)) | (go_at_call 62; go_must (refine (add_all _ w.heap.size wr.heap.size (w.heap.size + 1) r (fun k => wr.heap.size ≤ k) _ p (rowv_move HROW3.out (frm1 w3 _)) (HP3.out.move (frm1 w3 _)) (fun k h => h) (by omega) (by simp; omega) (by omega)).mono ?_; rintro e w5 ⟨rfl, hrow5, hf5⟩; have HROW5 := Lib.hid hrow5; have HZ5 := Lib.hid (show Box w5 w.heap.size 94 zp from (HZ3.out.alloc _).frm hf5 (rows_box (HZ3.out.alloc _) (by decide) (by omega))); have HR5 := Lib.hid (show Rd w5 R s d l3 from (HR3.out.alloc _).frm hf5 (rows_lt (by omega) hRlt) (rows_lt (by omega) (by omega))); have HF5 := Lib.hid (show Frm (At R) w w5 from (HF3.out.alloc _).then hf5 (fun k hk e => absurd e (rows_lt (by omega) hk))); have hsz5 := HF5.out.size; clear hrow5 hf5)) | (go_at_call 63; go_must (refine (take_all w5 R s d l3 124 _ rfl (by exact HR5.out)).mono ?_; rintro e w7 ⟨rfl, hr7, hf7⟩; rw [if_neg (by rw [hh]; decide)] at hr7; have HR7 := Lib.hid hr7; have HZ7 := Lib.hid (show Box w7 w.heap.size 94 zp from HZ5.out.frm hf7 HN.out); have HROW7 := Lib.hid (rowv_rd HROW5.out hf7 HR5.out (by omega)); have HF7 := Lib.hid (HF5.out.trans hf7); have hsz7 := hf7.size; clear hr7 hf7)) | (go_at_call 64; go_must (refine (join_all _ w.heap.size w5.heap.size (w.heap.size + 1) (r.add p) altW 1 HROW7.out (by omega) _ rfl).mono ?_; rintro e w6 ⟨v6, rfl, hp6, hf6⟩; have HP6 := Lib.hid hp6; have HZ6 := Lib.hid (show Box w6 w.heap.size 94 zp from HZ7.out.frm hf6 id); have HR6 := Lib.hid (Rd.move HR7.out hf6); have HF6 := Lib.hid (Frm.then HF7.out hf6 (fun _ _ e => e.elim)); obtain ⟨hn6, a6, cap6, rfl, hk6⟩ := hp6; clear hf6 hk6)) | (refine wpList_store_row rfl 94 (.tmp 2) (.tmp 21) rfl w.heap.size _ rfl rfl 94 zp HZ6.out info_part rfl (by simp [Value.oneCell']) ?_))
        refine bodyPost_ret (results_part2 Tryz.results47 _ _ w.heap.size 94 _ (0, 0) _ (.int .i64 0) rfl rfl (setRow_eq HZ6.out) Tryz.underlying94 rfl info_part) rfl ?_
        rw [HE.out]
        exact ⟨_, rfl, HP6.out.setRow HZ6.out (by decide) _, Rd.frm HR6.out (frm_setRow (S := At w.heap.size) (Frm.refl _ _) _ _ (fun _ => rfl)) HNR.out HN0.out, frm_setRow HF6.out _ _ (fun hk => absurd hk (Nat.lt_irrefl _))⟩
end Go.Proofs.YtbfekknhmjndaaaGreat.items
