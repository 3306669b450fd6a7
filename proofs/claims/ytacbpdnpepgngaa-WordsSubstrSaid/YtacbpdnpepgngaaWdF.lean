/- Contract of fill: what a match is replaced by, written. -/
import Derived.Test.YtacbpdnpepgngaaWdR
namespace Go.Proofs.Ytacbpdnpepgngaa.wrd
set_option linter.unusedVariables false set_option linter.unusedSimpArgs false
open Go.ChangeShapes Go.WideShapes Go.ChangeAt Go.RowKit Go.Proofs.Ytacbpdnpepgngaa.base

theorem joinP_snoc (m : List UInt8) : ∀ (L : List (List UInt8)) (a : List UInt8), joinP m (L ++ [a]) = joinP m L ++ ((if L.length = 0 then [] else m) ++ a) := by
  intro L
  induction L with
  | nil => intro a; rfl
  | cons x L ih =>
    intro a
    cases L with
    | nil => rfl
    | cons y L =>
      rw [List.cons_append, join_cons m x (by simp), ih a, join_cons m x (by simp), if_neg (by simp), if_neg (by simp)]
      simp [List.append_assoc]
theorem joinP_take (m : List UInt8) (P : List (List UInt8)) (i : Nat) (a : List UInt8) (h : P[i]? = some a) : joinP m (P.take (i + 1)) = joinP m (P.take i) ++ ((if i = 0 then [] else m) ++ a) := by
  obtain ⟨hi, rfl⟩ := List.getElem?_eq_some_iff.1 h
  rw [List.take_succ_eq_append_getElem hi, joinP_snoc, List.length_take, Nat.min_eq_left (by omega)]
theorem joinP_mono (m : List UInt8) (P : List (List UInt8)) (i j : Nat) (hj : j ≤ P.length) : i ≤ j → (joinP m (P.take i)).length ≤ (joinP m (P.take j)).length := by
  induction j with
  | zero => intro h; obtain rfl : i = 0 := by omega
            exact Nat.le_refl _
  | succ j ih =>
    intro h
    rcases Nat.lt_or_ge j i with hi | hi
    · obtain rfl : i = j + 1 := by omega
      exact Nat.le_refl _
    · have := ih (by omega) hi
      rw [joinP_take m P j P[j] (List.getElem?_eq_getElem (by omega)), List.length_append]
      omega
theorem joinP_le (m : List UInt8) (P : List (List UInt8)) (i : Nat) (hi : i ≤ P.length) : (joinP m (P.take i)).length ≤ (joinP m P).length := by
  have := joinP_mono m P i P.length (Nat.le_refl _) hi
  rwa [List.take_length] at this

/-- What fill answers. -/
def FillPost (w : World) (B b : Nat) (l news : List UInt8) (most : Int) (e : Ending) (w' : World) : Prop :=
  ∃ ok : Bool, e = .returned (.bool ok) ∧ Kb B b w w' ∧ (ok = true → ((l.length : Int) + (news.length : Int) ≤ most ∧ WR B b (l ++ news) most w')) ∧ (ok = false → most < (l.length : Int) + (news.length : Int))
theorem below_frm {B b : Nat} {w w' : World} (h : Frm No w w') (hB : B ≤ w.heap.size) : Kb B b w w' := Kb.of h hB

set_option maxHeartbeats 2000000 in
set_option maxRecDepth 20000 in
/-- fill, where nothing matched. -/
theorem fill_nil (w : World) (B b g c : Nat) (l : List UInt8) (most : Int) (h : WR B b l most w) (n : Nat) (em : ByteArray) (E : List UInt8) (hE : em.data.toList = E)
    (hB : B ≤ w.heap.size) (h1 : -9223372036854775808 ≤ most - (l.length : Int)) (h2 : most ≤ 9223372036854775807) (hl : l.length + E.length ≤ 140737488355328) (ms : ByteArray) (hms : ms.size = 0) :
    Calls Try.prog 29 #[.pointer (some ⟨b, 0, none⟩), .agg #[.slice (some ⟨g, 0, none⟩) n c, .string em], .string ms] w (FillPost w B b l E most) := by
  obtain ⟨W1, hW1⟩ : ∃ W1, w.alloc (.cells #[.slice (some ⟨g, 0, none⟩) n c, .string em] 58) = W1 := ⟨_, rfl⟩
  have hf1 : Frm No w W1 := by rw [← hW1]; exact (Frm.refl No w).alloc _
  have hbx : Box W1 w.heap.size 58 #[.slice (some ⟨g, 0, none⟩) n c, .string em] := by rw [← hW1]; exact Box.new _ _ _
  have c0 : W1.cell? ⟨w.heap.size, 0, none⟩ = some (.slice (some ⟨g, 0, none⟩) n c) := hbx.cell 0
  have c1 : W1.cell? ⟨w.heap.size, 1, none⟩ = some (.string em) := hbx.cell 1
  have hsz : em.size = E.length := by rw [← hE]; simp
  have ht : (ms.toList == []) = true := by
    rw [beq_iff_eq, Lib.toList_data]
    exact List.eq_nil_of_length_eq_zero (by simpa using hms)
  by_cases hfit : (E.length : Int) ≤ most - (l.length : Int)
  · have HW := Lib.hid (write_yes W1 B b l most (h.frm hf1) em E hE (Nat.le_trans hB hf1.size) hl h1 h2 hfit)
    have HF := Lib.hid hfit
    have hbl := below_frm (b := b) hf1 hB
    clear hbx h hfit hl h1 h2 hsz
    go_enter Try.func29, Try.ntmps29
    go_wp2_with (go_at_call 28; go_must (refine HW.out.mono ?_; rintro e w2 ⟨rfl, hw2, hb2⟩))
    go_ret
    exact ⟨true, rfl, hbl.trans hb2, fun _ => ⟨by have := HF.out; omega, hw2⟩, (fun e => by cases e)⟩
  · have HW := Lib.hid (write_no W1 B b l most (h.frm hf1) em h1 h2 (by omega))
    have hbl := below_frm (b := b) hf1 hB
    have HF := Lib.hid hfit
    clear hbx h hfit hl h1 h2 hsz
    go_enter Try.func29, Try.ntmps29
    go_wp2_with (go_at_call 28; go_must (refine HW.out.mono ?_; rintro e w2 ⟨rfl, hb2⟩))
    go_ret
    exact ⟨false, rfl, hbl.trans (below_frm hb2 (Nat.le_trans hB hf1.size)), (fun e => by cases e), fun _ => by have := HF.out; omega⟩

set_option maxHeartbeats 4000000 in
set_option maxRecDepth 20000 in
/-- fill, where something matched. -/
theorem fill_some (w : World) (B b g c : Nat) (l : List UInt8) (most : Int) (h : WR B b l most w) (n : Nat) (em : ByteArray) (P : List (List UInt8)) (hn : n = P.length)
    (hg : g < B) (hP : ∀ j x, P[j]? = some x → w.cell? ⟨g, j, none⟩ = some (sV x)) (hPn : P.length ≤ 2000000)
    (hB : B ≤ w.heap.size) (h1 : -9223372036854775808 ≤ most - (l.length : Int)) (h2 : most ≤ 9223372036854775807) (ms : ByteArray) (m : List UInt8) (hms : ms.data.toList = m) (hm0 : ms.size ≠ 0)
    (hl : l.length + (joinP m P).length ≤ 140737488355328) (hp0 : 0 < P.length) :
    Calls Try.prog 29 #[.pointer (some ⟨b, 0, none⟩), .agg #[.slice (some ⟨g, 0, none⟩) n c, .string em], .string ms] w (FillPost w B b l (joinP m P) most) := by
  subst hn
  obtain ⟨W1, hW1⟩ : ∃ W1, w.alloc (.cells #[.slice (some ⟨g, 0, none⟩) P.length c, .string em] 58) = W1 := ⟨_, rfl⟩
  have hf1 : Frm No w W1 := by rw [← hW1]; exact (Frm.refl No w).alloc _
  have hbx : Box W1 w.heap.size 58 #[.slice (some ⟨g, 0, none⟩) P.length c, .string em] := by rw [← hW1]; exact Box.new _ _ _
  have c0 : W1.cell? ⟨w.heap.size, 0, none⟩ = some (.slice (some ⟨g, 0, none⟩) P.length c) := hbx.cell 0
  have c1 : W1.cell? ⟨w.heap.size, 1, none⟩ = some (.string em) := hbx.cell 1
  have ht : (ms.toList == []) = false := by
    rw [beq_eq_false_iff_ne, Lib.toList_data]
    intro e
    exact hm0 (by have := congrArg List.length e; simpa using this)
  have hmsz : ms.size = m.length := by rw [← hms]; simp
  have HH := Lib.hid (h.frm hf1)
  have HB1 := Lib.hid (below_frm (b := b) hf1 hB)
  have HC := Lib.hid (fun (W : World) (hb : Kb B b w W) (j : Nat) (x : List UInt8) (hx : P[j]? = some x) => show W.cell? ⟨g, j, none⟩ = some (sV x) from by
    rw [World.cell?_of_block (hb.bel.block g hg)]
    exact hP j x hx)
  have HL := Lib.hid hl
  have HM := Lib.hid hms
  have HBW := Lib.hid hB
  have HL0 := Lib.hid h1
  clear h hbx hm0 hmsz hms hl hP hB h1
  go_enter Try.func29, Try.ntmps29
  go_wp2
  go_loopw [18] (fun iv wr => ∃ i : Nat, i ≤ P.length ∧ iv = .int .i64 i ∧ WR B b (l ++ joinP m (P.take i)) most wr ∧ Kb B b w wr ∧ (i = 0 ∨ (l.length : Int) + ((joinP m (P.take i)).length : Int) ≤ most)) (fun iv _ => P.length - (intOf iv).toNat)
  case atStart => exact ⟨0, Nat.zero_le _, rfl, by simpa [joinP] using HH.out, HB1.out, .inl rfl⟩
  case round =>
    obtain ⟨i, hi, rfl, hw, hbel, hfit⟩ := hrel
    have HW := Lib.hid hw
    have HBE := Lib.hid hbel
    have HFI := Lib.hid hfit
    have HBR := Lib.hid (show B ≤ wr.heap.size from Nat.le_trans HBW.out hbel.bel.size)
    clear hw hbel hfit
    by_cases hlt : i < P.length
    · obtain ⟨x, hx⟩ : ∃ x, P[i]? = some x := ⟨P[i], List.getElem?_eq_getElem hlt⟩
      have ci : wr.cell? ⟨g, i, none⟩ = some (.string ⟨x.toArray⟩) := HC.out wr HBE.out i x hx
      have HJ := Lib.hid (joinP_take m P i x hx)
      have HJ2 := Lib.hid (joinP_le m P (i + 1) hlt)
      have hi0 : (0 : Int) ≤ (i : Int) := by omega
      have hi1 : (i : Int) < (P.length : Int) := by omega
      by_cases h0 : i = 0
      · subst h0
        have e0 : P.take 0 = [] := rfl
        by_cases hf : (x.length : Int) ≤ most - (l.length : Int)
        · have HWX := Lib.hid (write_yes wr B b l most (by have := HW.out; simpa [joinP] using this) ⟨x.toArray⟩ x (by simp) HBR.out (by
            have h3 := HL.out; have h4 := HJ2.out; rw [HJ.out] at h4; simp [joinP] at h4; omega) HL0.out h2 hf)
          have HF := Lib.hid hf
          clear hf
          go_wp2_with (go_at_call 28; go_must (refine HWX.out.mono ?_; rintro e w2 ⟨rfl, hw2, hb2⟩))
          go_roundw
          case rel =>
            refine ⟨1, hlt, by go_num, ?_, HBE.out.trans hb2, .inr ?_⟩
            · rw [HJ.out]; simpa [joinP] using hw2
            · rw [HJ.out]; have := HF.out; simp [joinP]; omega
          case measure => simp [intOf]; omega
        · have HWX := Lib.hid (write_no wr B b l most (by have := HW.out; simpa [joinP] using this) ⟨x.toArray⟩ HL0.out h2 (by
            have : (⟨x.toArray⟩ : ByteArray).size = x.length := by simp [ByteArray.size]
            omega))
          have HF := Lib.hid hf
          clear hf
          go_wp2_with (go_at_call 28; go_must (refine HWX.out.mono ?_; rintro e w2 ⟨rfl, hb2⟩))
          go_ret
          refine ⟨false, rfl, HBE.out.trans (below_frm hb2 HBR.out), (fun e => by cases e), fun _ => ?_⟩
          have h4 := HJ2.out
          have h5 := HF.out
          rw [HJ.out] at h4
          simp [joinP] at h4
          omega
      · have hip : (0 : Int) < (i : Int) := by omega
        have hfi := HFI.out.resolve_left h0
        have HJ3 := Lib.hid (show joinP m (P.take (i + 1)) = joinP m (P.take i) ++ (m ++ x) by have := HJ.out; rw [if_neg h0] at this; exact this)
        have hll : (l ++ joinP m (P.take i)).length = l.length + (joinP m (P.take i)).length := List.length_append
        have hlm : ((l ++ joinP m (P.take i)) ++ m).length = l.length + (joinP m (P.take i)).length + m.length := by rw [List.length_append, hll]
        have hmz : ms.size = m.length := by rw [← HM.out]; simp
        have hxz : (⟨x.toArray⟩ : ByteArray).size = x.length := by simp [ByteArray.size]
        have hj3 : (joinP m (P.take (i + 1))).length = (joinP m (P.take i)).length + (m.length + x.length) := by rw [HJ3.out, List.length_append, List.length_append]
        have htot := HL.out
        have hle := HJ2.out
        by_cases hfm : (m.length : Int) ≤ most - ((l ++ joinP m (P.take i)).length : Int)
        · have HWM := Lib.hid (write_yes wr B b _ most HW.out ms m HM.out HBR.out (by omega) (by omega) h2 hfm)
          by_cases hfx : (x.length : Int) ≤ most - (((l ++ joinP m (P.take i)) ++ m).length : Int)
          · have HWX := Lib.hid (fun (W : World) (hw : WR B b ((l ++ joinP m (P.take i)) ++ m) most W) (hb : B ≤ W.heap.size) => write_yes W B b _ most hw ⟨x.toArray⟩ x (by simp) hb (by omega) (by omega) h2 hfx)
            have HF := Lib.hid (show (l.length : Int) + ((joinP m (P.take (i + 1))).length : Int) ≤ most by omega)
            clear hfm hfx hll hlm hmz hxz hj3 htot hle hfi
            go_wp2_with (first | (go_at_call_of 28 (Value.string ms); go_must (refine HWM.out.mono ?_; rintro e w2 ⟨rfl, hw2, hb2⟩)) | (go_at_call 28; go_must (refine (HWX.out w2 hw2 (Nat.le_trans HBR.out hb2.bel.size)).mono ?_; rintro e w3 ⟨rfl, hw3, hb3⟩)))
            go_roundw
            case rel =>
              refine ⟨i + 1, hlt, by go_num, ?_, (HBE.out.trans hb2).trans hb3, .inr HF.out⟩
              rw [HJ3.out]
              simpa [List.append_assoc] using hw3
            case measure => simp [intOf]; omega
          · have HWX := Lib.hid (fun (W : World) (hw : WR B b ((l ++ joinP m (P.take i)) ++ m) most W) => write_no W B b _ most hw ⟨x.toArray⟩ (by omega) h2 (by omega))
            have HF := Lib.hid (show most < (l.length : Int) + ((joinP m P).length : Int) by omega)
            clear hfm hfx hll hlm hmz hxz hj3 htot hle hfi
            go_wp2_with (first | (go_at_call_of 28 (Value.string ms); go_must (refine HWM.out.mono ?_; rintro e w2 ⟨rfl, hw2, hb2⟩)) | (go_at_call 28; go_must (refine (HWX.out w2 hw2).mono ?_; rintro e w3 ⟨rfl, hb3⟩)))
            go_ret
            exact ⟨false, rfl, (HBE.out.trans hb2).trans (below_frm hb3 (Nat.le_trans HBR.out hb2.bel.size)), (fun e => by cases e), fun _ => HF.out⟩
        · have HWM := Lib.hid (write_no wr B b _ most HW.out ms (by omega) h2 (by omega))
          have HF := Lib.hid (show most < (l.length : Int) + ((joinP m P).length : Int) by omega)
          clear hfm hll hlm hmz hxz hj3 htot hle hfi
          go_wp2_with (go_at_call 28; go_must (refine HWM.out.mono ?_; rintro e w2 ⟨rfl, hb2⟩))
          go_ret
          exact ⟨false, rfl, HBE.out.trans (below_frm hb2 HBR.out), (fun e => by cases e), fun _ => HF.out⟩
    · obtain rfl : i = P.length := by omega
      have HE := Lib.hid (HFI.out.resolve_left (by omega))
      have HWE := HW.out
      rw [List.take_length] at HWE HE
      go_wp2
      go_ret
      exact ⟨true, rfl, HBE.out, fun _ => ⟨HE.out, HWE⟩, (fun e => by cases e)⟩
end Go.Proofs.Ytacbpdnpepgngaa.wrd
