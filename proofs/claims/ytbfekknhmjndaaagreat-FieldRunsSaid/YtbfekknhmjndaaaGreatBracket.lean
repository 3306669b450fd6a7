/- Contract of ere's bracket. -/
import Derived.Test.YtbfekknhmjndaaaGreatItems3
namespace Go.Proofs.YtbfekknhmjndaaaGreat.items
set_option linter.unusedVariables false set_option linter.unusedSimpArgs false
open Go.ChangeShapes Go.WideShapes Go.ChangeAt Go.RowKit Go.Proofs.YtbfekknhmjndaaaGreat.base Go.Proofs.YtbfekknhmjndaaaGreat.read Go.Proofs.YtbfekknhmjndaaaGreat.spec Go.Proofs.YtbfekknhmjndaaaGreat.set Go.Proofs.YtbfekknhmjndaaaGreat.nums Go.Proofs.YtbfekknhmjndaaaGreat.parts

/-- What a reader of parts leaves. -/
def PartPost (w : World) (R : Nat) (s : ByteArray) (d : Nat) (r : Res Part) (e : Ending) (w' : World) : Prop := match r with
  | .ok p l' => ∃ v, e = .returned (.tuple #[v, .int .i64 0]) ∧ PV w' (fun k => w.heap.size ≤ k) v p ∧ Rd w' R s d l' ∧ Frm (At R) w w'
  | .bad f => ∃ v, e = .returned (.tuple #[v, .int .i64 f]) ∧ Sh v ∧ 0 < f ∧ f ≤ 5 ∧ (∃ l', Rd w' R s d l') ∧ Frm (At R) w w'

theorem item_bads {f : Nat → Bool} {l : List UInt8} {e : Nat} (h : item f l = .bad e) : e = 2 ∨ e = 4 := by
  unfold item at h
  split at h
  · unfold classItem at h
    repeat' split at h
    all_goals first | (cases h; exact Or.inl rfl) | cases h
  · split at h
    · cases h
      exact itemByte_bads (by assumption)
    · split at h
      · split at h
        · cases h
          exact rangeEnd_bads (by assumption)
        · split at h
          · cases h; exact Or.inl rfl
          · cases h
      · cases h

theorem dgt_len {b n : Nat} {l t : List UInt8} (h : dgt b l = some (n, t)) : t.length + 1 = l.length := by
  cases l with
  | nil => cases h
  | cons x t' =>
    simp only [dgt] at h
    split at h
    · cases h; rfl
    · cases h
theorem octF_le (k s : Nat) (sm : Bool) (l : List UInt8) : (octF k s sm l).2.2.length ≤ l.length := by
  induction k generalizing s sm l with
  | zero => exact Nat.le_refl _
  | succ k ih =>
    cases hd : dgt 8 l with
    | none => rw [octF, hd]; exact Nat.le_refl _
    | some p =>
      rw [octF, hd]
      have := dgt_len hd
      have := ih (s * 8 + p.1) true p.2
      exact Nat.le_trans this (by omega)
theorem esc_len {l l' : List UInt8} {b : UInt8} (h : esc l = .ok b l') : l'.length < l.length := by
  cases l with
  | nil => cases h
  | cons c t =>
    by_cases ho : (octF 3 0 false (c :: t)).2.1 = true
    · simp only [esc, if_pos ho] at h
      cases h
      cases hd : dgt 8 (c :: t) with
      | none =>
        have e : octF 3 0 false (c :: t) = (0, false, c :: t) := by show octF (2 + 1) 0 false (c :: t) = _; rw [octF, hd]
        rw [e] at ho
        cases ho
      | some p =>
        have e : octF 3 0 false (c :: t) = octF 2 (0 * 8 + p.1) true p.2 := by show octF (2 + 1) 0 false (c :: t) = _; rw [octF, hd]
        rw [e]
        have h1 := octF_le 2 (0 * 8 + p.1) true p.2
        have h2 := dgt_len hd
        simp only [List.length_cons] at h2 ⊢
        omega
    · simp only [esc, if_neg ho] at h
      cases h
      simp
theorem itemByte_len {l l' : List UInt8} {b : UInt8} (h : itemByte l = .ok b l') : l'.length < l.length := by
  cases l with
  | nil => cases h
  | cons c t =>
    simp only [itemByte] at h
    split at h
    · have := esc_len h
      simp only [List.length_cons]
      omega
    · cases h
      simp
theorem rangeEnd_len {l l' : List UInt8} {b : UInt8} (h : rangeEnd l = .ok b l') : l'.length < l.length := by
  unfold rangeEnd at h
  split at h
  · cases h
  · exact itemByte_len h
theorem item_len {f f' : Nat → Bool} {l l' : List UInt8} (h : item f l = .ok f' l') : l'.length < l.length := by
  unfold item at h
  split at h
  · have h2 := pre2_len (by assumption)
    unfold classItem at h
    split at h
    · cases h
    · rename_i nm rest hc
      have := cut_index (l.drop 2)
      rw [hc] at this
      have := congrArg List.length this.2
      simp only [List.length_drop, List.length_append, List.length_cons] at this
      split at h
      · cases h
      · split at h
        · cases h
        · cases h
          omega
  · split at h
    · cases h
    · rename_i lo l1 hi
      have h1 := itemByte_len hi
      split at h
      · split at h
        · cases h
        · rename_i hi' l2 he
          have h2 := rangeEnd_len he
          split at h
          · cases h
          · cases h
            rw [List.length_tail] at h2
            omega
      · cases h
        exact h1

/-- A part's variable and a number, as results. -/
theorem results_part2 {P : Program} {fn : Func} {p q : Tmp} {ty : TypeId} (h : fn.results = #[.cell p ty, .tmp q]) (tmps : Array Value) (w : World) (g : Nat) (t : TypeId) (cs : Array Value) (fr : Nat × Nat) (d : TypeDesc) (v : Value)
    (hp : tmps.getD p undef = .pointer (some ⟨g, 0, none⟩)) (hq : tmps.getD q undef = v) (hg : w.heap[g]? = some (.cells cs t fr))
    (hu : P.underlying ty = some d) (hd : (match d with | .struct _ | .array _ _ => true | _ => false) = true) (hi : (P.info? ty).map (·.size) = some cs.size) :
    (results fn tmps).run P w = .ok (.tuple #[.agg cs, v]) w := by
  have hp' : tmps[p]?.getD undef = .pointer (some ⟨g, 0, none⟩) := by simpa using hp
  have hq' : tmps[q]?.getD undef = v := by simpa using hq
  simp [results, h, hp', hq', asAddr, run_loadVar_row w g t ty cs fr d hg hu hd hi]

/-- The part of a set that was read. -/
def brRes (fin : (Nat → Bool) → (Nat → Bool)) (res : Res (Nat → Bool)) : Res Part := match res with
  | .bad e => .bad e
  | .ok f l' => .ok (setP (fin f)) l'

set_option maxRecDepth 100000 in
set_option maxHeartbeats 2000000 in
theorem bracket_c (w : World) (R : Nat) (s : ByteArray) (d : Nat) (l : List UInt8) (h : Rd w R s d l) (Z : Array Value) (hZ : Z = bA emptyF) (l1 : List UInt8) (hl1 : l1 = if hd l 94 = true then l.tail else l) (fin : (Nat → Bool) → (Nat → Bool)) (hfin : fin = if hd l 94 = true then (fun f k => !f k) else fun f => f)
    (res : Res (Nat → Bool)) (hres : items (l.length + 1) true emptyF l1 = res) :
    Calls Tryz.prog 101 #[.pointer (some ⟨R, 0, none⟩)] w (PartPost w R s d (brRes fin res)) := by
  have H := Lib.hid h
  have hz0 : ∀ W, (zeroValue 154).run Tryz.prog W = .ok (.agg Z) W := by rw [hZ]; exact zero_set
  have HZ := Lib.hid hZ
  have HL1 := Lib.hid hl1
  have HFIN := Lib.hid hfin
  have HRES := Lib.hid hres
  have hRlt := h.lt
  have hR0 := h.ne0
  have HRN := Lib.hid (show ¬ At R w.heap.size from fun e => by have e' : w.heap.size = R := e; omega)
  have hl1len : l1.length < l.length + 1 := by
    rw [hl1]
    split
    · rw [List.length_tail]; omega
    · omega
  clear h hZ hl1 hfin hres
  go_enter Tryz.func101, Tryz.ntmps101
  go_wp2_with (first | (go_at_call 63; go_must (refine (take_all _ R s d l 94 _ rfl (by exact H.out.alloc _)).mono ?_; rintro e w2 ⟨rfl, hr2, hf2⟩; have HR2 := Lib.hid (show Rd w2 R s d l1 by rw [HL1.out]; exact hr2); have HF2 := Lib.hid (show Frm (At R) w w2 from ((Frm.refl (At R) w).alloc _).trans hf2); have HX2 := Lib.hid (show Box w2 w.heap.size 94 zp from Box.frm (Box.new w _ _) hf2 HRN.out); have hsz2 := HF2.out.size; have hlt2 := HX2.out.lt; clear hr2 hf2)))
  go_loopw [6, 7] (fun fv _ wr => ∃ (first : Bool) (g : Nat → Bool) (l' : List UInt8) (n : Nat), fv = .bool first ∧ items n first g l' = res ∧ l'.length < n ∧ SV wr w2.heap.size g ∧ Rd wr R s d l' ∧ Box wr w.heap.size 94 zp ∧ Frm (At R) w wr) (fun _ _ wr => left R s wr)
  case atStart =>
    refine ⟨true, emptyF, l1, l.length + 1, rfl, HRES.out, hl1len, ?_, HR2.out.alloc _, HX2.out.alloc _, HF2.out.alloc _⟩
    show Box _ _ _ _
    rw [← HZ.out]
    exact Box.new _ _ _
  case round =>
    obtain ⟨first, g, l', n, rfl, hit, hn, hsv, hrd, hbx, hf⟩ := hrel
    obtain ⟨m, rfl⟩ : ∃ m, n = m + 1 := ⟨n - 1, by omega⟩
    have HIT := Lib.hid hit
    have HS := Lib.hid hsv
    have HR := Lib.hid hrd
    have HB := Lib.hid hbx
    have HF := Lib.hid hf
    have HLE := Lib.hid (left_eq hrd)
    have hQ := rd_ne hrd hsv
    have HN2 := Lib.hid (show ¬ At2 R w2.heap.size w.heap.size from fun e => by
      rcases e with e | e
      · exact HRN.out e
      · omega)
    have HN3 := Lib.hid (show ∀ k, k < w.heap.size → At2 R w2.heap.size k → At R k from fun k hk e => by
      rcases e with e | e
      · exact e
      · omega)
    clear hit hsv hrd hbx hf
    by_cases hex : first = false ∧ hd l' 93 = true
    · obtain ⟨rfl, hh⟩ := hex
      have HE := Lib.hid (show res = .ok g l'.tail by rw [← HIT.out, items, if_pos (by simp [hh])])
      obtain ⟨C, hC⟩ : ∃ C, C = bA g := ⟨_, rfl⟩
      have HSC := Lib.hid (show Box wr w2.heap.size 154 C by rw [hC]; exact HS.out)
      have HC := Lib.hid hC
      have HIC := Lib.hid (show (Tryz.prog.info? 154).map (·.size) = some C.size by rw [hC]; exact info_set _)
      clear hC
      by_cases hnot : hd l 94 = true
      · obtain ⟨D, hD⟩ : ∃ D, D = bA fun k => !g k := ⟨_, rfl⟩
        have HD := Lib.hid hD
        have HID := Lib.hid (show (Tryz.prog.info? 154).map (·.size) = some D.size by rw [hD]; exact info_set _)
        have HSD := Lib.hid (show C.size = D.size by rw [hD, HC.out, bA_size, bA_size])
        have HOD := Lib.hid (show D.all (·.oneCell') = true by rw [hD]; exact bA_one _)
        have HFX := Lib.hid (show fin g = fun k => !g k by rw [HFIN.out, if_pos hnot])
        clear hD
        go_wp2_with (first | (go_at_call 63; go_must (refine (take_all _ R s d l' 93 _ rfl (by exact HR.out)).mono ?_; rintro e w3 ⟨rfl, hr3, hf3⟩; rw [if_pos hh] at hr3; have HR3 := Lib.hid hr3; have HF3 := Lib.hid (HF.out.trans hf3); have HS3 := Lib.hid (show Box w3 w2.heap.size 154 C from Box.frm HSC.out hf3 hQ.1); have HB3 := Lib.hid (HB.out.frm hf3 HRN.out); clear hr3 hf3)) | (go_at_call 104; go_must (refine (others_c _ g C Z D HC.out HZ.out HD.out).mono ?_; rintro e w4 ⟨rfl, hf4⟩; have HS4 := Lib.hid (HS3.out.frm hf4 id); have HF4 := Lib.hid hf4; clear hf4)) | (refine wpList_store_row rfl 154 (.tmp 5) (.tmp 24) rfl w2.heap.size D rfl rfl 154 C HS4.out HID.out HSD.out HOD.out ?_) | (refine wpList_load_row rfl 154 (.tmp 5) rfl w2.heap.size rfl 154 D (0, 0) _ (setRow_eq HS4.out) Tryz.underlying154 rfl HID.out ?_) | (refine wpList_load_row rfl 154 (.tmp 5) rfl w2.heap.size rfl 154 C (0, 0) _ HS3.out Tryz.underlying154 rfl HIC.out ?_) | (go_at_call 103; go_must (refine (setOf_all _ (fun k => w.heap.size ≤ k) (fun k => !g k) D HD.out).mono ?_; rintro e w5 ⟨v5, rfl, hp5, hf5⟩; have HK5 := Lib.hid (show Frm (At w2.heap.size) w3 w5 from (frm_setRow (S := At w2.heap.size) (HF4.out.mono (fun _ _ e => e.elim)) _ _ (fun _ => rfl)).then hf5 (fun _ _ e => e.elim)); have HP5 := Lib.hid hp5; obtain ⟨hn5, a5, cap5, rfl, hk5⟩ := hp5; have HB5 := Lib.hid (show Box w5 w.heap.size 94 zp from HB3.out.frm HK5.out (fun e => by have e' : w.heap.size = w2.heap.size := e; omega)); clear hf5 hk5)) | (refine wpList_store_row rfl 94 (.tmp 2) (.tmp 26) rfl w.heap.size _ rfl rfl 94 zp HB5.out info_part rfl (by simp [Value.oneCell']) ?_))
        refine bodyPost_ret (results_part2 Tryz.results101 _ _ w.heap.size 94 _ (0, 0) _ (.int .i64 0) rfl rfl (setRow_eq HB5.out) Tryz.underlying94 rfl info_part) rfl ?_
        rw [HE.out, brRes, HFX.out]
        refine ⟨_, rfl, PV.setRow HP5.out HB5.out (by decide) _, ?_, frm_setRow (HF3.out.then HK5.out (fun k hk e => by have e' : k = w2.heap.size := e; omega)) _ _ (fun hk => absurd hk (Nat.lt_irrefl _))⟩
        exact Rd.frm (Rd.frm HR3.out HK5.out (fun e => hQ.1 e.symm) (fun e => hQ.2 e.symm)) (frm_setRow (S := At w.heap.size) (Frm.refl _ _) _ _ (fun _ => rfl)) (fun e => HRN.out e.symm) (fun e => by have e' : 0 = w.heap.size := e; omega)
      · have hnot' : hd l 94 = false := by simpa using hnot
        have HFX := Lib.hid (show fin g = g by rw [HFIN.out, if_neg hnot])
        clear hnot
        go_wp2_with (first | (go_at_call 63; go_must (refine (take_all _ R s d l' 93 _ rfl (by exact HR.out)).mono ?_; rintro e w3 ⟨rfl, hr3, hf3⟩; rw [if_pos hh] at hr3; have HR3 := Lib.hid hr3; have HF3 := Lib.hid (HF.out.trans hf3); have HS3 := Lib.hid (show Box w3 w2.heap.size 154 C from Box.frm HSC.out hf3 hQ.1); have HB3 := Lib.hid (HB.out.frm hf3 HRN.out); clear hr3 hf3)) | (refine wpList_load_row rfl 154 (.tmp 5) rfl w2.heap.size rfl 154 C (0, 0) _ HS3.out Tryz.underlying154 rfl HIC.out ?_) | (go_at_call 103; go_must (refine (setOf_all _ (fun k => w.heap.size ≤ k) g C HC.out).mono ?_; rintro e w5 ⟨v5, rfl, hp5, hf5⟩; have HK5 := Lib.hid (show Frm (At w2.heap.size) w3 w5 from hf5.mono (fun _ _ e => e.elim)); have HP5 := Lib.hid hp5; obtain ⟨hn5, a5, cap5, rfl, hk5⟩ := hp5; have HB5 := Lib.hid (show Box w5 w.heap.size 94 zp from HB3.out.frm HK5.out (fun e => by have e' : w.heap.size = w2.heap.size := e; omega)); clear hf5 hk5)) | (refine wpList_store_row rfl 94 (.tmp 2) (.tmp 26) rfl w.heap.size _ rfl rfl 94 zp HB5.out info_part rfl (by simp [Value.oneCell']) ?_))
        refine bodyPost_ret (results_part2 Tryz.results101 _ _ w.heap.size 94 _ (0, 0) _ (.int .i64 0) rfl rfl (setRow_eq HB5.out) Tryz.underlying94 rfl info_part) rfl ?_
        rw [HE.out, brRes, HFX.out]
        refine ⟨_, rfl, PV.setRow HP5.out HB5.out (by decide) _, ?_, frm_setRow (HF3.out.then HK5.out (fun k hk e => by have e' : k = w2.heap.size := e; omega)) _ _ (fun hk => absurd hk (Nat.lt_irrefl _))⟩
        exact Rd.frm (Rd.frm HR3.out HK5.out (fun e => hQ.1 e.symm) (fun e => hQ.2 e.symm)) (frm_setRow (S := At w.heap.size) (Frm.refl _ _) _ _ (fun _ => rfl)) (fun e => HRN.out e.symm) (fun e => by have e' : 0 = w.heap.size := e; omega)
    · have hitem : items (m + 1) first g l' = (match item g l' with
          | .bad e => .bad e
          | .ok f' l2 => items m false f' l2) := by
        rw [items, if_neg (fun h => hex (by simpa only [Bool.and_eq_true, Bool.not_eq_true'] using h))]
        cases item g l' <;> rfl
      cases hi : item g l' with
      | bad e1 =>
        have HI := Lib.hid hi
        have h24 := item_bads hi
        have HE := Lib.hid (show res = .bad e1 by rw [← HIT.out, hitem, hi])
        have h0 : (((e1 : Nat) : Int) == 0) = false := by simp; omega
        clear hitem hi
        cases first with
        | true =>
          go_wp2_with (first | (go_at_call 112; go_must (refine (item_all _ R w2.heap.size s d g l' (by exact HR.out) (by exact HS.out)).mono ?_; intro e w3 hip; rw [HI.out] at hip; obtain ⟨rfl, hfb, ⟨l5, hr3⟩, hf3⟩ := hip; have HB3 := Lib.hid (show Box w3 w.heap.size 94 zp from HB.out.frm hf3 HN2.out); have HF3 := Lib.hid (show Frm (At R) w w3 from HF.out.then hf3 HN3.out); have HR3 := Lib.hid hr3; clear hr3 hf3)) | (refine wpList_store_row rfl 94 (.tmp 2) (.tmp 20) rfl w.heap.size _ rfl rfl 94 zp HB3.out info_part rfl (by simp [Value.oneCell']) ?_))
          refine bodyPost_ret (results_part2 Tryz.results101 _ _ w.heap.size 94 _ (0, 0) _ (.int .i64 e1) rfl rfl (setRow_eq HB3.out) Tryz.underlying94 rfl info_part) rfl ?_
          rw [HE.out]
          exact ⟨_, rfl, ⟨⟨#[]⟩, ⟨#[]⟩, none, 0, 0, 0, 0, 0, rfl⟩, by omega, by omega, ⟨l5, Rd.frm HR3.out (frm_setRow (S := At w.heap.size) (Frm.refl _ _) _ _ (fun _ => rfl)) (fun e => HRN.out e.symm) (fun e => by have e' : 0 = w.heap.size := e; omega)⟩, frm_setRow HF3.out _ _ (fun hk => absurd hk (Nat.lt_irrefl _))⟩
        | false =>
          have hno : hd l' 93 = false := by
            cases hx : hd l' 93 with
            | false => rfl
            | true => exact absurd ⟨rfl, hx⟩ hex
          go_wp2_with (first | (go_at_call 63; go_must (refine (take_all _ R s d l' 93 _ rfl (by exact HR.out)).mono ?_; rintro e w9 ⟨rfl, hr9, hf9⟩; rw [if_neg (by rw [hno]; decide)] at hr9; have HR9 := Lib.hid hr9; have HF9 := Lib.hid (HF.out.trans hf9); have HS9 := Lib.hid (show SV w9 w2.heap.size g from HS.out.frm hf9 hQ.1); have HB9 := Lib.hid (HB.out.frm hf9 HRN.out); clear hr9 hf9)) | (go_at_call 112; go_must (refine (item_all _ R w2.heap.size s d g l' (by exact HR9.out) (by exact HS9.out)).mono ?_; intro e w3 hip; rw [HI.out] at hip; obtain ⟨rfl, hfb, ⟨l5, hr3⟩, hf3⟩ := hip; have HB3 := Lib.hid (show Box w3 w.heap.size 94 zp from HB9.out.frm hf3 HN2.out); have HF3 := Lib.hid (show Frm (At R) w w3 from HF9.out.then hf3 HN3.out); have HR3 := Lib.hid hr3; clear hr3 hf3)) | (refine wpList_store_row rfl 94 (.tmp 2) (.tmp 20) rfl w.heap.size _ rfl rfl 94 zp HB3.out info_part rfl (by simp [Value.oneCell']) ?_))
          refine bodyPost_ret (results_part2 Tryz.results101 _ _ w.heap.size 94 _ (0, 0) _ (.int .i64 e1) rfl rfl (setRow_eq HB3.out) Tryz.underlying94 rfl info_part) rfl ?_
          rw [HE.out]
          exact ⟨_, rfl, ⟨⟨#[]⟩, ⟨#[]⟩, none, 0, 0, 0, 0, 0, rfl⟩, by omega, by omega, ⟨l5, Rd.frm HR3.out (frm_setRow (S := At w.heap.size) (Frm.refl _ _) _ _ (fun _ => rfl)) (fun e => HRN.out e.symm) (fun e => by have e' : 0 = w.heap.size := e; omega)⟩, frm_setRow HF3.out _ _ (fun hk => absurd hk (Nat.lt_irrefl _))⟩
      | ok f' l2 =>
        have HI := Lib.hid hi
        have hlen := item_len hi
        have HE := Lib.hid (show items m false f' l2 = res by rw [← HIT.out, hitem, hi])
        clear hitem hi
        cases first with
        | true =>
          go_wp2_with (first | (go_at_call 112; go_must (refine (item_all _ R w2.heap.size s d g l' (by exact HR.out) (by exact HS.out)).mono ?_; intro e w3 hip; rw [HI.out] at hip; obtain ⟨rfl, hr3, hs3, hf3⟩ := hip; have HB3 := Lib.hid (show Box w3 w.heap.size 94 zp from HB.out.frm hf3 HN2.out); have HF3 := Lib.hid (show Frm (At R) w w3 from HF.out.then hf3 HN3.out))))
          exact ⟨⟨false, f', l2, m, rfl, HE.out, by omega, hs3, hr3, HB3.out, HF3.out⟩, by rw [left_eq hr3, HLE.out]; omega⟩
        | false =>
          have hno : hd l' 93 = false := by
            cases hx : hd l' 93 with
            | false => rfl
            | true => exact absurd ⟨rfl, hx⟩ hex
          go_wp2_with (first | (go_at_call 63; go_must (refine (take_all _ R s d l' 93 _ rfl (by exact HR.out)).mono ?_; rintro e w9 ⟨rfl, hr9, hf9⟩; rw [if_neg (by rw [hno]; decide)] at hr9; have HR9 := Lib.hid hr9; have HF9 := Lib.hid (HF.out.trans hf9); have HS9 := Lib.hid (show SV w9 w2.heap.size g from HS.out.frm hf9 hQ.1); have HB9 := Lib.hid (HB.out.frm hf9 HRN.out); clear hr9 hf9)) | (go_at_call 112; go_must (refine (item_all _ R w2.heap.size s d g l' (by exact HR9.out) (by exact HS9.out)).mono ?_; intro e w3 hip; rw [HI.out] at hip; obtain ⟨rfl, hr3, hs3, hf3⟩ := hip; have HB3 := Lib.hid (show Box w3 w.heap.size 94 zp from HB9.out.frm hf3 HN2.out); have HF3 := Lib.hid (show Frm (At R) w w3 from HF9.out.then hf3 HN3.out))))
          exact ⟨⟨false, f', l2, m, rfl, HE.out, by omega, hs3, hr3, HB3.out, HF3.out⟩, by rw [left_eq hr3, HLE.out]; omega⟩

theorem bracket_all (w : World) (R : Nat) (s : ByteArray) (d : Nat) (l : List UInt8) (h : Rd w R s d l) :
    Calls Tryz.prog 101 #[.pointer (some ⟨R, 0, none⟩)] w (PartPost w R s d (bracket l)) := by
  have := bracket_c w R s d l h _ rfl _ rfl _ rfl _ rfl
  have e : brRes (if hd l 94 = true then (fun f k => !f k) else fun f => f) (items (l.length + 1) true emptyF (if hd l 94 = true then l.tail else l)) = bracket l := by
    unfold bracket
    by_cases hn : hd l 94 = true
    · rw [if_pos hn, if_pos hn, if_pos hn]; rfl
    · rw [if_neg hn, if_neg hn, if_neg hn]; rfl
  rw [e] at this
  exact this
end Go.Proofs.YtbfekknhmjndaaaGreat.items
