/- Contract of ere's item of a set. -/
import Derived.Test.YtfgdhafpiikpjaaItems2
namespace Go.Proofs.Ytfgdhafpiikpjaa.items
set_option linter.unusedVariables false set_option linter.unusedSimpArgs false
open Go.ChangeShapes Go.WideShapes Go.ChangeAt Go.RowKit Go.Proofs.Ytfgdhafpiikpjaa.base Go.Proofs.Ytfgdhafpiikpjaa.read Go.Proofs.Ytfgdhafpiikpjaa.spec Go.Proofs.Ytfgdhafpiikpjaa.set Go.Proofs.Ytfgdhafpiikpjaa.nums Go.Proofs.Ytfgdhafpiikpjaa.parts

/-- What an item leaves. -/
def ItemPost (w : World) (R Q : Nat) (s : ByteArray) (d : Nat) (r : Res (Nat → Bool)) (e : Ending) (w' : World) : Prop := match r with
  | .ok f' l' => e = .returned (.int .i64 0) ∧ Rd w' R s d l' ∧ SV w' Q f' ∧ Frm (At2 R Q) w w'
  | .bad f => e = .returned (.int .i64 f) ∧ (f = 2 ∨ f = 4) ∧ (∃ l', Rd w' R s d l') ∧ Frm (At2 R Q) w w'

theorem esc_bads {l : List UInt8} {f : Nat} (h : esc l = .bad f) : f = 4 := by
  cases l with
  | nil => cases h; rfl
  | cons c t =>
    simp only [esc] at h
    split at h <;> cases h
theorem itemByte_bads {l : List UInt8} {f : Nat} (h : itemByte l = .bad f) : f = 2 ∨ f = 4 := by
  cases l with
  | nil => cases h; exact Or.inl rfl
  | cons c t =>
    simp only [itemByte] at h
    split at h
    · exact Or.inr (esc_bads h)
    · cases h
theorem rangeEnd_bads {l : List UInt8} {f : Nat} (h : rangeEnd l = .bad f) : f = 2 ∨ f = 4 := by
  unfold rangeEnd at h
  split at h
  · cases h; exact Or.inl rfl
  · exact itemByte_bads h
theorem at2 {R Q : Nat} {w w' : World} (h : Frm (At R) w w') : Frm (At2 R Q) w w' := h.mono (fun _ _ e => Or.inl e)

set_option maxHeartbeats 1000000 in
theorem item_all (w : World) (R Q : Nat) (s : ByteArray) (d : Nat) (f : Nat → Bool) (l : List UInt8) (h : Rd w R s d l) (hsv : SV w Q f) :
    Calls Try.prog 86 #[.pointer (some ⟨R, 0, none⟩), .pointer (some ⟨Q, 0, none⟩)] w fun e w' => ItemPost w R Q s d (item f l) e w' := by
  obtain ⟨hQR, hQ0⟩ := rd_ne h hsv
  have H := Lib.hid h
  have HS := Lib.hid hsv
  clear h hsv
  by_cases hp : pre2 l 91 58 = true
  · have h2 := pre2_len hp
    rw [item, if_pos hp, classItem]
    cases hc : cutC (l.drop 2) with
    | none =>
      have HC := Lib.hid hc
      clear hc
      go_enter Try.func86, Try.ntmps86
      go_wp2_with (first | (go_at_call 91; go_must (refine (sees_all _ R s d l 91 58 (by exact H.out)).mono ?_; rintro e _ ⟨rfl, n1, rfl⟩)) | (go_at_call 92; go_must (refine (classItem_bad1 _ R Q s d l (by exact H.out) h2 HC.out).mono ?_; rintro e _ ⟨rfl, n2, rfl⟩)))
      go_ret
      exact ⟨rfl, Or.inl rfl, ⟨l, H.out⟩, (Frm.refl _ w).drewN _⟩
    | some p =>
      obtain ⟨a, b⟩ := p
      have HC := Lib.hid hc
      clear hc
      simp only
      by_cases hps : pairs a = []
      · rw [if_pos hps]
        have HP := Lib.hid hps
        clear hps
        go_enter Try.func86, Try.ntmps86
        go_wp2_with (first | (go_at_call 91; go_must (refine (sees_all _ R s d l 91 58 (by exact H.out)).mono ?_; rintro e _ ⟨rfl, n1, rfl⟩)) | (go_at_call 92; go_must (refine (classItem_bad2 _ R Q s d l a b (by exact H.out) h2 HC.out HP.out).mono ?_; rintro e _ ⟨rfl, n2, rfl⟩)))
        go_ret
        exact ⟨rfl, Or.inl rfl, ⟨l, H.out⟩, (Frm.refl _ w).drewN _⟩
      · rw [if_neg hps]
        have HP := Lib.hid hps
        clear hps
        by_cases hr : atRange b = true
        · rw [if_pos hr]
          have HR := Lib.hid hr
          clear hr
          go_enter Try.func86, Try.ntmps86
          go_wp2_with (first | (go_at_call 91; go_must (refine (sees_all _ R s d l 91 58 (by exact H.out)).mono ?_; rintro e _ ⟨rfl, n1, rfl⟩)) | (go_at_call 92; go_must (refine (classItem_bad3 _ R Q s d l a b (by exact H.out) h2 HC.out (pairs a) rfl HP.out HR.out).mono ?_; rintro e w2 ⟨rfl, hr2, hf2⟩)))
          go_ret
          exact ⟨rfl, Or.inl rfl, ⟨b, hr2⟩, at2 (((Frm.refl _ w).drewN n1).trans hf2)⟩
        · rw [if_neg hr]
          have HR := Lib.hid (show atRange b = false by simpa using hr)
          clear hr
          go_enter Try.func86, Try.ntmps86
          go_wp2_with (first | (go_at_call 91; go_must (refine (sees_all _ R s d l 91 58 (by exact H.out)).mono ?_; rintro e _ ⟨rfl, n1, rfl⟩)) | (go_at_call 92; go_must (refine (classItem_ok _ R Q s d l a b f (by exact H.out) (by exact HS.out) h2 HC.out (pairs a) rfl HP.out HR.out).mono ?_; rintro e w2 ⟨rfl, hr2, hs2, hf2⟩)))
          go_ret
          exact ⟨rfl, hr2, hs2, ((Frm.refl _ w).drewN n1).trans hf2⟩
  · have f1 : pre2 l 91 58 = false := by simpa using hp
    rw [item, if_neg hp]
    clear hp
    cases hi : itemByte l with
    | bad e1 =>
      have HI := Lib.hid hi
      clear hi
      by_cases h24 : e1 = 2 ∨ e1 = 4
      · have h0 : (((e1 : Nat) : Int) == 0) = false := by simp; omega
        go_enter Try.func86, Try.ntmps86
        go_wp2_with (first | (go_at_call 91; go_must (refine (sees_all _ R s d l 91 58 (by exact H.out)).mono ?_; rintro e _ ⟨rfl, n1, rfl⟩)) | (go_at_call 93; go_must (refine (itemByte_bad _ R s d e1 l (by exact H.out) HI.out).mono ?_; rintro e w2 ⟨l2, rfl, hfb, hr2, hf2⟩)))
        go_ret
        exact ⟨rfl, h24, ⟨l2, hr2⟩, at2 (((Frm.refl _ w).drewN n1).trans hf2)⟩
      · exfalso
        exact h24 (itemByte_bads HI.out)
    | ok lo l1 =>
      have HI := Lib.hid hi
      clear hi
      simp only
      by_cases hr : atRange l1 = true
      · rw [if_pos hr]
        have hh : hd l1 45 = true := by
          unfold atRange at hr
          cases h : hd l1 45 with
          | true => rfl
          | false => rw [h] at hr; cases hr
        obtain ⟨t, rfl⟩ := hd_cons hh
        simp only [List.tail_cons]
        cases he : rangeEnd t with
        | bad e1 =>
          have HE := Lib.hid he
          clear he
          have h24 := rangeEnd_bads HE.out
          have h0 : (((e1 : Nat) : Int) == 0) = false := by simp; omega
          go_enter Try.func86, Try.ntmps86
          go_wp2_with (first | (go_at_call 91; go_must (refine (sees_all _ R s d l 91 58 (by exact H.out)).mono ?_; rintro e _ ⟨rfl, n1, rfl⟩)) | (go_at_call 93; go_must (refine (itemByte_ok _ R s d l (45 :: t) lo (by exact H.out) HI.out).mono ?_; rintro e w2 ⟨rfl, hr2, hf2⟩; have HR2 := Lib.hid hr2; have HF2 := Lib.hid hf2; have HS2 := Lib.hid (SV.frm (w := w.drewN n1) (by exact HS.out) hf2 hQR); clear hr2 hf2)) | (go_at_call 94; go_must (refine (atRange_all _ R s d (45 :: t) (by exact HR2.out)).mono ?_; rintro e _ ⟨rfl, n3, rfl⟩)) | (go_at_call 75; go_must (refine (next_all _ R s d 45 t (by exact HR2.out)).mono ?_; rintro e w4 ⟨rfl, hr4, hf4⟩; have HR4 := Lib.hid hr4; have HF4 := Lib.hid hf4; have HS4 := Lib.hid (SV.frm (w := w2.drewN n3) (by exact HS2.out) hf4 hQR); clear hr4 hf4)) | (go_at_call 95; go_must (refine (rangeEnd_bad _ R s d e1 t (by exact HR4.out) HE.out).mono ?_; rintro e w5 ⟨l5, rfl, hfb, hr5, hf5⟩; have HR5 := Lib.hid hr5; have HF5 := Lib.hid hf5; clear hr5 hf5)))
          go_ret
          exact ⟨rfl, h24, ⟨l5, HR5.out⟩, at2 (((Frm.refl _ w).drewN n1).trans (HF2.out.trans (((Frm.refl _ w2).drewN n3).trans (HF4.out.trans HF5.out))))⟩
        | ok hi l2 =>
          have HE := Lib.hid he
          clear he
          simp only
          by_cases hlt : hi < lo
          · rw [if_pos hlt]
            have hlt' : (hi.toNat : Int) < (lo.toNat : Int) := by have := UInt8.lt_iff_toNat_lt.1 hlt; omega
            clear hlt
            go_enter Try.func86, Try.ntmps86
            go_wp2_with (first | (go_at_call 91; go_must (refine (sees_all _ R s d l 91 58 (by exact H.out)).mono ?_; rintro e _ ⟨rfl, n1, rfl⟩)) | (go_at_call 93; go_must (refine (itemByte_ok _ R s d l (45 :: t) lo (by exact H.out) HI.out).mono ?_; rintro e w2 ⟨rfl, hr2, hf2⟩; have HR2 := Lib.hid hr2; have HF2 := Lib.hid hf2; have HS2 := Lib.hid (SV.frm (w := w.drewN n1) (by exact HS.out) hf2 hQR); clear hr2 hf2)) | (go_at_call 94; go_must (refine (atRange_all _ R s d (45 :: t) (by exact HR2.out)).mono ?_; rintro e _ ⟨rfl, n3, rfl⟩)) | (go_at_call 75; go_must (refine (next_all _ R s d 45 t (by exact HR2.out)).mono ?_; rintro e w4 ⟨rfl, hr4, hf4⟩; have HR4 := Lib.hid hr4; have HF4 := Lib.hid hf4; have HS4 := Lib.hid (SV.frm (w := w2.drewN n3) (by exact HS2.out) hf4 hQR); clear hr4 hf4)) | (go_at_call 95; go_must (refine (rangeEnd_ok _ R s d t l2 hi (by exact HR4.out) HE.out).mono ?_; rintro e w5 ⟨rfl, hr5, hf5⟩; have HR5 := Lib.hid hr5; have HF5 := Lib.hid hf5; have HS5 := Lib.hid (SV.frm HS4.out hf5 hQR); clear hr5 hf5)))
            go_ret
            exact ⟨rfl, Or.inl rfl, ⟨l2, HR5.out⟩, at2 (((Frm.refl _ w).drewN n1).trans (HF2.out.trans (((Frm.refl _ w2).drewN n3).trans (HF4.out.trans HF5.out))))⟩
          · rw [if_neg hlt]
            have hlt' : (lo.toNat : Int) ≤ (hi.toNat : Int) := by
              have : ¬ hi.toNat < lo.toNat := fun e => hlt (UInt8.lt_iff_toNat_lt.2 e)
              omega
            clear hlt
            go_enter Try.func86, Try.ntmps86
            go_wp2_with (first | (go_at_call 91; go_must (refine (sees_all _ R s d l 91 58 (by exact H.out)).mono ?_; rintro e _ ⟨rfl, n1, rfl⟩)) | (go_at_call 93; go_must (refine (itemByte_ok _ R s d l (45 :: t) lo (by exact H.out) HI.out).mono ?_; rintro e w2 ⟨rfl, hr2, hf2⟩; have HR2 := Lib.hid hr2; have HF2 := Lib.hid hf2; have HS2 := Lib.hid (SV.frm (w := w.drewN n1) (by exact HS.out) hf2 hQR); clear hr2 hf2)) | (go_at_call 94; go_must (refine (atRange_all _ R s d (45 :: t) (by exact HR2.out)).mono ?_; rintro e _ ⟨rfl, n3, rfl⟩)) | (go_at_call 75; go_must (refine (next_all _ R s d 45 t (by exact HR2.out)).mono ?_; rintro e w4 ⟨rfl, hr4, hf4⟩; have HR4 := Lib.hid hr4; have HF4 := Lib.hid hf4; have HS4 := Lib.hid (SV.frm (w := w2.drewN n3) (by exact HS2.out) hf4 hQR); clear hr4 hf4)) | (go_at_call 95; go_must (refine (rangeEnd_ok _ R s d t l2 hi (by exact HR4.out) HE.out).mono ?_; rintro e w5 ⟨rfl, hr5, hf5⟩; have HR5 := Lib.hid hr5; have HF5 := Lib.hid hf5; have HS5 := Lib.hid (SV.frm HS4.out hf5 hQR); clear hr5 hf5)) | (go_at_call 96; go_must (refine (add_all _ Q f lo hi (by exact HS5.out)).mono ?_; rintro e w6 ⟨rfl, hb6, hf6⟩)))
            go_ret
            exact ⟨rfl, HR5.out.frm hf6 (fun e => hQR e.symm) (fun e => hQ0 e.symm), hb6, (at2 (((Frm.refl _ w).drewN n1).trans (HF2.out.trans (((Frm.refl _ w2).drewN n3).trans (HF4.out.trans HF5.out))))).then hf6 (fun _ _ e => Or.inr e)⟩
      · rw [if_neg hr]
        have f2 : atRange l1 = false := by simpa using hr
        clear hr
        go_enter Try.func86, Try.ntmps86
        go_wp2_with (first | (go_at_call 91; go_must (refine (sees_all _ R s d l 91 58 (by exact H.out)).mono ?_; rintro e _ ⟨rfl, n1, rfl⟩)) | (go_at_call 93; go_must (refine (itemByte_ok _ R s d l l1 lo (by exact H.out) HI.out).mono ?_; rintro e w2 ⟨rfl, hr2, hf2⟩; have HR2 := Lib.hid hr2; have HF2 := Lib.hid hf2; have HS2 := Lib.hid (SV.frm (w := w.drewN n1) (by exact HS.out) hf2 hQR); clear hr2 hf2)) | (go_at_call 94; go_must (refine (atRange_all _ R s d l1 (by exact HR2.out)).mono ?_; rintro e _ ⟨rfl, n3, rfl⟩)) | (go_at_call 96; go_must (refine (add_all _ Q f lo lo (by exact HS2.out)).mono ?_; rintro e w6 ⟨rfl, hb6, hf6⟩)))
        go_ret
        exact ⟨rfl, Rd.frm (w := w2.drewN n3) HR2.out hf6 (fun e => hQR e.symm) (fun e => hQ0 e.symm), hb6, (at2 (((Frm.refl _ w).drewN n1).trans (HF2.out.trans ((Frm.refl _ w2).drewN n3)))).then hf6 (fun _ _ e => Or.inr e)⟩
end Go.Proofs.Ytfgdhafpiikpjaa.items
