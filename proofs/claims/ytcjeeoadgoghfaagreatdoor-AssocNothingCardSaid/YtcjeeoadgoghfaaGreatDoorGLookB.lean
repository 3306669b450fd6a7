/- The text that a numeral makes, as strconv reads it. Contract of dec's value: the nearest float of what the numeral says. dec.Looks, of every text: what readNumeral answers, in two; and Looks. Contract of dec.Prefix: the numeral's nearest float, and its size. Where the document's reading of a numeral stands (apart from memory). -/
import Derived.Test.YtcjeeoadgoghfaaGreatDoorDecI
import Derived.Test.YtcjeeoadgoghfaaGreatDoorGPower
import Derived.Test.YtcjeeoadgoghfaaGreatDoorDecT
import Derived.Lib.ItoaLen
import Derived.Test.YtcjeeoadgoghfaaGreatDoorNumeral

namespace Go.Proofs.YtcjeeoadgoghfaaGreatDoor.deca
set_option linter.unusedVariables false set_option linter.unusedSimpArgs false
open Go.ChangeShapes Go.WideShapes Go.ChangeAt Go.RowKit Go.Proofs.YtcjeeoadgoghfaaGreatDoor.base Go.Proofs.YtcjeeoadgoghfaaGreatDoor.Deci Go.Proofs.YtcjeeoadgoghfaaGreatDoor.Usc Go.Proofs.YtcjeeoadgoghfaaGreatDoor.scan

def dig (b : UInt8) : Nat := b.toNat - 48
/-- A digit's byte. -/
def isDB (b : UInt8) : Prop := 48 ≤ b.toNat ∧ b.toNat ≤ 57
def sgnL (neg : Bool) : List UInt8 := if neg then [45] else []
theorem sgn_len (neg : Bool) : (sgnL neg).length = ofs neg := by cases neg <;> rfl
theorem dig_at {b : UInt8} (h : isDB b) : (b.toNat : Int) = (dig b : Int) + 48 := by unfold dig; unfold isDB at h; omega
theorem byte_at {s : ByteArray} {l : List UInt8} (hl : s.data.toList = l) {i : Nat} {b : UInt8} (hi : l[i]? = some b) (h : i < s.size) : s[i] = b := by
  subst hl
  have h2 : i < s.data.toList.length := by simpa using h
  rw [List.getElem?_eq_getElem h2] at hi
  have := Option.some.inj hi
  rw [← this]
  rfl
theorem map_digs {l : List UInt8} (h : ∀ b ∈ l, isDB b) : Digs (l.map dig) := by
  intro d hd
  obtain ⟨b, hb, rfl⟩ := List.mem_map.1 hd
  have := h b hb
  unfold isDB at this
  unfold dig
  omega
theorem past (A : List UInt8) (B : List UInt8) (k n : Nat) (h : n = A.length + k) : (A ++ B)[n]? = B[k]? := by
  subst h
  rw [List.getElem?_append_right (by omega)]
  congr 1; omega
theorem nt_of {s : ByteArray} {neg en : Bool} {c : UInt8} {t eB : List UInt8} (hs : s.data.toList = sgnL neg ++ c :: 46 :: (t ++ 101 :: (sgnL en ++ eB))) (hD : ∀ b ∈ c :: t, isDB b) (hc : c ≠ 48)
    (hE : ∀ b ∈ eB, isDB b) (hn : t.length < 700) (he : eB ≠ []) (he2 : eB.length ≤ 100) : NT s neg (dig c :: t.map dig) en (eB.map dig) := by
  have hlen : s.size = ofs neg + (t.length + 1) + 2 + ofs en + eB.length := by
    have h := congrArg List.length hs
    simp only [List.length_append, List.length_cons, sgn_len] at h
    have : s.data.toList.length = s.size := by simp
    omega
  have hel : 0 < eB.length := List.length_pos_iff.2 he
  refine ⟨?_, ?_, ?_, ?_, ?_, ?_, ?_, ?_, ?_, ?_, ?_, ?_, ?_, ?_, ?_⟩
  · simp only [List.length_cons, List.length_map]; exact hlen
  · intro hneg h
    subst hneg
    rw [byte_at hs (i := 0) (b := 45) rfl h]; rfl
  · intro h h2
    rw [byte_at hs (past _ _ 0 _ (by rw [sgn_len]; rfl)) h]
    exact dig_at (hD c List.mem_cons_self)
  · intro h
    rw [byte_at hs (past _ _ 1 _ (by rw [sgn_len])) h]; rfl
  · intro k h1 h2 h
    simp only [List.length_cons, List.length_map] at h2
    obtain ⟨j, rfl⟩ : ∃ j, k = j + 1 := ⟨k - 1, by omega⟩
    have hj : j < t.length := by omega
    have e : (t ++ 101 :: (sgnL en ++ eB))[j]? = some t[j] := by rw [List.getElem?_append_left hj, List.getElem?_eq_getElem hj]
    rw [byte_at hs ((past _ _ (j + 2) _ (by rw [sgn_len]; omega)).trans e) h]
    rw [dig_at (hD _ (List.mem_cons_of_mem _ (List.getElem_mem hj)))]
    simp
  · intro h
    simp only [List.length_cons, List.length_map] at h ⊢
    have e : (t ++ 101 :: (sgnL en ++ eB))[t.length]? = some 101 := (past t _ 0 t.length rfl).trans rfl
    rw [byte_at hs ((past _ _ (t.length + 2) _ (by rw [sgn_len]; omega)).trans e) h]; rfl
  · intro hen h
    subst hen
    simp only [List.length_cons, List.length_map] at h ⊢
    have e : (t ++ 101 :: (sgnL true ++ eB))[t.length + 1]? = some 45 := (past t _ 1 (t.length + 1) rfl).trans rfl
    rw [byte_at hs ((past _ _ (t.length + 1 + 2) _ (by rw [sgn_len]; omega)).trans e) h]; rfl
  · intro j h1 h
    simp only [List.length_cons, List.length_map] at h h1 ⊢
    have e : (t ++ 101 :: (sgnL en ++ eB))[t.length + 1 + ofs en + j]? = some eB[j] := by
      rw [past t _ (1 + ofs en + j) _ (by omega), show 1 + ofs en + j = (ofs en + j) + 1 by omega, List.getElem?_cons_succ, past (sgnL en) _ j _ (by rw [sgn_len]), List.getElem?_eq_getElem h1]
    rw [byte_at hs ((past _ _ (t.length + 1 + ofs en + j + 2) _ (by rw [sgn_len]; omega)).trans e) h]
    rw [dig_at (hE _ (List.getElem_mem h1))]
    simp
  · exact map_digs (l := c :: t) hD
  · intro d l hd
    have h1 : dig c = d := (List.cons.inj hd).1
    have h2 := hD c List.mem_cons_self
    unfold isDB at h2
    rw [← h1]
    unfold dig
    intro h3
    exact hc (UInt8.toNat_inj.1 (by show c.toNat = 48; omega))
  · simp
  · simp only [List.length_cons, List.length_map]; omega
  · exact map_digs hE
  · rw [List.length_map]; exact hel
  · rw [List.length_map]; exact he2
end Go.Proofs.YtcjeeoadgoghfaaGreatDoor.deca

namespace Go.Proofs.YtcjeeoadgoghfaaGreatDoor.deca
set_option linter.unusedVariables false set_option linter.unusedSimpArgs false
open Go.ChangeShapes Go.WideShapes Go.ChangeAt Go.RowKit Go.Proofs.YtcjeeoadgoghfaaGreatDoor.base Go.Proofs.YtcjeeoadgoghfaaGreatDoor.Deci Go.Proofs.YtcjeeoadgoghfaaGreatDoor.Usc Go.Proofs.YtcjeeoadgoghfaaGreatDoor.scan

theorem lead_head : ∀ (l : List UInt8) (c : UInt8) (t : List UInt8), l.dropWhile (· == 48) = c :: t → c ≠ 48
  | [], _, _, h => by cases h
  | b :: l, c, t, h => by
    rw [List.dropWhile_cons] at h
    split at h
    · exact lead_head l c t h
    · rename_i hb
      have h1 := (List.cons.inj h).1
      subst h1
      simpa using hb
theorem lead_mem {W P : List UInt8} {b : UInt8} (h : b ∈ leadL W P) : b ∈ W ++ P := (List.dropWhile_sublist _).subset h
theorem chr_dig (k : Nat) (h : k < 10) : isDB (UInt8.ofNat (48 + k)) ∧ dig (UInt8.ofNat (48 + k)) = k := by
  have e : (UInt8.ofNat (48 + k)).toNat = 48 + k := by
    rw [UInt8.toNat_ofNat']; omega
  unfold isDB dig
  rw [e]
  omega
theorem dec_all (u : Nat) : (∀ b ∈ Lib.decDigits u, isDB b) ∧ Lib.decDigits u ≠ [] ∧ val ((Lib.decDigits u).map dig) = u := by
  induction u using Nat.strongRecOn with
  | _ u ih =>
    by_cases h : u < 10
    · rw [Lib.decDigits_one h]
      obtain ⟨h1, h2⟩ := chr_dig u h
      refine ⟨fun b hb => by rw [List.mem_singleton.1 hb]; exact h1, List.cons_ne_nil _ _, ?_⟩
      rw [List.map_singleton, h2]
      simp [val]
    · rw [Lib.decDigits, dif_neg h]
      obtain ⟨i1, i2, i3⟩ := ih (u / 10) (by omega)
      obtain ⟨h1, h2⟩ := chr_dig (u % 10) (by omega)
      refine ⟨fun b hb => ?_, by simp, ?_⟩
      · rcases List.mem_append.1 hb with hb | hb
        · exact i1 b hb
        · rw [List.mem_singleton.1 hb]; exact h1
      · rw [List.map_append, List.map_singleton, val_snoc, i3, h2]; omega
theorem itoa_split (F : Int) (h0 : -9223372036854775808 ≤ F) (h1 : F ≤ 9223372036854775807) : ∃ (en : Bool) (n : Nat), Lib.itoa F = sgnL en ++ Lib.decDigits n ∧ (if en then -(n : Int) else (n : Int)) = F ∧ (Lib.decDigits n).length ≤ 100 := by
  have hl := Lib.itoa_length_le F h0 h1
  unfold Lib.itoa at hl ⊢
  by_cases h : F < 0
  · rw [if_pos h] at hl ⊢
    rw [List.length_cons] at hl
    exact ⟨true, F.natAbs, rfl, by rw [if_pos rfl]; omega, by omega⟩
  · rw [if_neg h] at hl ⊢
    exact ⟨false, F.toNat, rfl, by simp only [Bool.false_eq_true, if_false]; omega, by omega⟩

/-- The nearest float of the numeral's size. -/
def NVal (W P Q : List UInt8) (x : Nat) : Prop :=
  NB (tenN (val ((leadL W P).map dig)) (1 + firstZ W P Q - ((leadL W P).length : Int))) (tenD (1 + firstZ W P Q - ((leadL W P).length : Int))) x

theorem NB_nil {b : Nat} (hb : 0 < b) : NB 0 b 0 :=
  NB_small hb (tenD_pos (-400)) (by rw [Nat.zero_mul]; exact Nat.zero_le _) (ten_zero (m := 0) (p := -400) (Nat.zero_le _) (by decide))
theorem num_text (w : World) (B Pb T : Nat) (neg : Bool) (W P Q : List UInt8) (s : ByteArray) (hs : s.data.toList = sgnL neg ++ plainL W P Q) (hD : ∀ b ∈ W ++ P, isDB b) (hn : (W ++ P).length ≤ 700) (hw : Dw w B Pb T) (hr : Rg w) :
    Calls Tryz.prog 86 #[.string s, .int .i64 64] w fun e w' => (∃ (x : Nat) (er : Value), (∃ y, NVal W P Q y ∧ x = sgW neg + y) ∧ e = .returned (.tuple #[.float .f64 x, er])) ∧ Frm No w w' := by
  have hlead := drop_len (W ++ P)
  cases hl : leadL W P with
  | nil =>
    have hp : plainL W P Q = [48] := by unfold plainL; rw [hl]
    rw [hp] at hs
    have hz : ZT s neg := by
      have hsz : s.size = ofs neg + 1 := by
        have h := congrArg List.length hs
        rw [List.length_append, sgn_len] at h
        have : s.data.toList.length = s.size := by simp
        simpa [this] using h
      refine ⟨hsz, fun hneg h => ?_, fun h => ?_⟩
      · subst hneg; rw [byte_at hs (i := 0) (b := 45) rfl h]; rfl
      · rw [byte_at hs (past _ _ 0 _ (by rw [sgn_len]; rfl)) h]; rfl
    refine (parse_zero w s neg hz hr hw.op).mono fun e w' h => ?_
    obtain ⟨⟨x, er, rfl, rfl⟩, hf⟩ := h
    refine ⟨⟨_, er, ⟨0, ?_, rfl⟩, rfl⟩, hf⟩
    unfold NVal
    rw [hl]
    have e0 : ∀ q, tenN (val (([] : List UInt8).map dig)) q = 0 := fun q => by unfold tenN; rw [List.map_nil, val_nil, Nat.zero_mul]
    rw [e0]
    exact NB_nil (tenD_pos _)
  | cons c t =>
    have hF : -9223372036854775808 ≤ firstZ W P Q ∧ firstZ W P Q ≤ 9223372036854775807 := by
      have h1 := pwZ_bnd Q
      have h2 : W.length ≤ (W ++ P).length := by rw [List.length_append]; omega
      unfold firstZ leadL
      omega
    obtain ⟨en, n, hit, hF2, hlen⟩ := itoa_split (firstZ W P Q) hF.1 hF.2
    obtain ⟨d1, d2, d3⟩ := dec_all n
    have hp : plainL W P Q = c :: 46 :: (t ++ 101 :: (sgnL en ++ Lib.decDigits n)) := by unfold plainL; rw [hl, ← hit]
    rw [hp] at hs
    have hmem : ∀ b ∈ c :: t, isDB b := fun b hb => hD b (lead_mem (by rw [hl]; exact hb))
    have hlc : (c :: t).length ≤ 700 := by
      have h1 : (leadL W P).length ≤ (W ++ P).length := hlead
      rw [hl] at h1
      omega
    have hnt := nt_of hs hmem (lead_head _ c t hl) d1 (by rw [List.length_cons] at hlc; omega) d2 hlen
    have hss : s.size ≤ 1000000 := by
      have h := congrArg List.length hs
      simp only [List.length_append, List.length_cons, sgn_len] at h hlc
      have h3 : s.data.toList.length = s.size := by simp
      have h4 : ∀ b, ofs b ≤ 1 := by intro b; cases b <;> decide
      have := h4 neg
      have := h4 en
      omega
    refine (parse_num w B Pb T s neg en (dig c) (t.map dig) ((Lib.decDigits n).map dig) hnt hw hr hss).mono fun e w' h => ?_
    obtain ⟨⟨x, er, ⟨y, hy, rfl⟩, rfl⟩, hf⟩ := h
    refine ⟨⟨_, er, ⟨y, ?_, rfl⟩, rfl⟩, hf⟩
    rw [d3] at hy
    unfold NVal
    rw [hl, ← hF2]
    have e1 : (dig c :: t.map dig).length = (c :: t).length := by simp
    rw [e1] at hy
    exact hy

set_option maxHeartbeats 1000000 in
theorem value_all (w : World) (B Pb T : Nat) (neg : Bool) (W P Q : ByteArray) (hD : ∀ b ∈ W.data.toList ++ P.data.toList, isDB b) (hn : (W.data.toList ++ P.data.toList).length ≤ 700) (hQ : Q.size ≤ 1000000) (hw : Dw w B Pb T) (hr : Rg w) (ht : Tens w) :
    Calls Tryz.prog 47 #[.agg #[.bool neg, .string W, .string P, .string Q]] w fun e w' => (∃ x : Nat, NVal W.data.toList P.data.toList Q.data.toList x ∧ e = .returned (.float .f64 (sgW neg + x))) ∧ Frm No w w' := by
  have hsz : W.size ≤ 1000000 ∧ P.size ≤ 1000000 := by
    rw [List.length_append] at hn
    have h1 : W.data.toList.length = W.size := by simp
    have h2 : P.data.toList.length = P.size := by simp
    omega
  obtain ⟨s, hs⟩ : ∃ s : ByteArray, ⟨(plainL W.data.toList P.data.toList Q.data.toList).toArray⟩ = s := ⟨_, rfl⟩
  have hsl : s.data.toList = plainL W.data.toList P.data.toList Q.data.toList := by rw [← hs]
  have HPL := Lib.hid (fun w ht => plain_all w neg W P Q hsz.1 hsz.2 hQ ht)
  rw [hs] at HPL
  have HW := Lib.hid (And.intro hw (And.intro hr ht))
  have HBX := Lib.hid (Box.new w 78 #[.bool neg, .string W, .string P, .string Q])
  have HAL := Lib.hid ((Frm.refl No w).alloc (.cells #[.bool neg, .string W, .string P, .string Q] 78))
  have hss : s.size ≤ 2000 := by
    have h1 : s.data.toList.length = s.size := by simp
    rw [← h1, hsl]
    unfold plainL
    have h2 := drop_len (W.data.toList ++ P.data.toList)
    cases hl : leadL W.data.toList P.data.toList with
    | nil => simp
    | cons c t =>
      have h3 : (leadL W.data.toList P.data.toList).length ≤ (W.data.toList ++ P.data.toList).length := h2
      rw [hl, List.length_cons] at h3
      have h4 := pwZ_bnd Q.data.toList
      have h5 := Lib.itoa_length_le (firstZ W.data.toList P.data.toList Q.data.toList) (by unfold firstZ leadL; have h6 : W.data.toList.length ≤ (W.data.toList ++ P.data.toList).length := (by rw [List.length_append]; omega); omega) (by unfold firstZ leadL; have h6 : W.data.toList.length ≤ (W.data.toList ++ P.data.toList).length := (by rw [List.length_append]; omega); omega)
      simp only [List.length_cons, List.length_append]
      omega
  cases neg
  · have HPF := Lib.hid (fun w hw hr => num_text w B Pb T false _ _ _ s (by rw [hsl]; rfl) hD hn hw hr)
    clear hs hsl hsz hw hr ht hD hn
    go_enter Tryz.func47, Tryz.ntmps47
    go_wp2_with (first
      | (go_at_call 85; go_must (refine (HPL.out _ (HW.out.2.2.frm HAL.out)).mono ?_; rintro e w1 ⟨rfl, hf1⟩; have HF1 := Lib.hid (HAL.out.trans hf1); have M := Lib.hid (Box.frm (b := w.heap.size) HBX.out hf1 id); have k0 : w1.cell? ⟨w.heap.size, 0, none⟩ = some (.bool false) := M.out.cell 0; clear hf1))
      | (go_at_call 86; go_must (refine (HPF.out _ (HW.out.1.frm HF1.out) (HW.out.2.1.frm HF1.out)).mono ?_; rintro e w2 ⟨⟨x, er, ⟨y, hy, rfl⟩, rfl⟩, hf2⟩; have HY := Lib.hid hy; have HF2 := Lib.hid (HF1.out.trans hf2); clear hy hf2)))
    refine bodyPost_ret (v := .float .f64 (sgW false + y)) (by simp [results, Tryz.results47, go_sem]) rfl ⟨⟨y, HY.out, rfl⟩, HF2.out⟩
  · obtain ⟨u, hu⟩ : ∃ u : ByteArray, ⟨#[45]⟩ ++ s = u := ⟨_, rfl⟩
    have HPF := Lib.hid (fun w hw hr => num_text w B Pb T true _ _ _ u (by rw [← hu, ba_app, hsl]; rfl) hD hn hw hr)
    have hs1 : (⟨#[45]⟩ : ByteArray).size = 1 := rfl
    clear hs hsl hsz hw hr ht hD hn
    go_enter Tryz.func47, Tryz.ntmps47
    go_wp2_with (first
      | (go_at_call 85; go_must (refine (HPL.out _ (HW.out.2.2.frm HAL.out)).mono ?_; rintro e w1 ⟨rfl, hf1⟩; have HF1 := Lib.hid (HAL.out.trans hf1); have M := Lib.hid (Box.frm (b := w.heap.size) HBX.out hf1 id); have k0 : w1.cell? ⟨w.heap.size, 0, none⟩ = some (.bool true) := M.out.cell 0; clear hf1))
      | (go_at_call 86; go_must (refine (HPF.out _ (HW.out.1.frm HF1.out) (HW.out.2.1.frm HF1.out)).mono ?_; rintro e w2 ⟨⟨x, er, ⟨y, hy, rfl⟩, rfl⟩, hf2⟩; have HY := Lib.hid hy; have HF2 := Lib.hid (HF1.out.trans hf2); clear hy hf2)))
    refine bodyPost_ret (v := .float .f64 (sgW true + y)) (by simp [results, Tryz.results47, go_sem]) rfl ⟨⟨y, HY.out, rfl⟩, HF2.out⟩
end Go.Proofs.YtcjeeoadgoghfaaGreatDoor.deca

namespace Go.Proofs.YtcjeeoadgoghfaaGreatDoor.scan
set_option linter.unusedVariables false set_option linter.unusedSimpArgs false
open Go.ChangeShapes Go.WideShapes Go.ChangeAt Go.RowKit

theorem rn_no (s : ByteArray) (l : List UInt8) (w : World) (hs : s.size ≤ 140737488351232) (hl : s.data.toList = l) (h : noNum l) :
    Calls Tryz.prog 46 #[.string s] w fun e w' => e = .returned (.tuple #[.agg #[.bool false, .string ⟨#[]⟩, .string ⟨#[]⟩, .string ⟨#[]⟩], .int .i64 0]) ∧ Below w.heap.size w w' := by
  cases hpt : hasPt l
  · exact rn_ff s l w hs hl hpt (by rw [h.1]; rfl)
  · exact rn_pff s l w hs hl hpt (by rw [h.1]; rfl) (by rw [h.2]; rfl)
theorem rn_yes (s : ByteArray) (l : List UInt8) (w : World) (hs : s.size ≤ 140737488351232) (hl : s.data.toList = l) (h : ¬ noNum l) :
    Calls Tryz.prog 46 #[.string s] w fun e w' => e = .returned (.tuple #[.agg #[.bool (negL l), .string ⟨(wholeL l).toArray⟩, .string ⟨(partL l).toArray⟩, .string ⟨(powL l).toArray⟩], .int .i64 (sizeB l : Nat)]) ∧ Below w.heap.size w w' := by
  cases hpt : hasPt l
  · have hw : (wholeL l).isEmpty = false := by
      cases hw : (wholeL l).isEmpty
      · rfl
      · exact absurd ⟨List.isEmpty_iff.1 hw, by unfold partL; rw [hpt]; rfl⟩ h
    cases hq : (powL l).isEmpty
    · exact rn_wq1 s l w hs hl hpt hw hq
    · exact rn_wq0 s l w hs hl hpt hw hq
  · cases hw : (wholeL l).isEmpty
    · cases hq : (powL l).isEmpty
      · exact rn_pwq1 s l w hs hl hpt hw hq
      · exact rn_pwq0 s l w hs hl hpt hw hq
    · have hp : (partL l).isEmpty = false := by
        cases hp : (partL l).isEmpty
        · rfl
        · exact absurd ⟨List.isEmpty_iff.1 hw, List.isEmpty_iff.1 hp⟩ h
      cases hq : (powL l).isEmpty
      · exact rn_ppq1 s l w hs hl hpt hw hp hq
      · exact rn_ppq0 s l w hs hl hpt hw hp hq

/-- A numeral has a byte at least. -/
theorem sizeB_pos (l : List UInt8) (h : ¬ noNum l) : 0 < sizeB l := by
  unfold sizeB sizeA
  by_cases hw : wholeL l = []
  · have hp : partL l ≠ [] := fun hp => h ⟨hw, hp⟩
    have hpt : hasPt l = true := by
      cases hpt : hasPt l
      · exact absurd (by unfold partL; rw [hpt]; rfl) hp
      · rfl
    rw [if_pos hpt]; omega
  · have := List.length_pos_iff.2 hw; omega

theorem blankSize_var (s : ByteArray) (w : World) (hs : s.size ≤ 140737488351232) (B : Nat) (hB : bl s.data.toList = B) :
    Calls Tryz.prog 45 #[.string s] w fun e w' => e = .returned (.int .i64 B) ∧ w = w' := by
  subst hB; exact blankSize_all s w hs

theorem bl_le (s : ByteArray) : bl s.data.toList ≤ s.size := by have := tw_len isB s.data.toList; simp only [Array.length_toList] at this; exact this

set_option maxRecDepth 100000 in
theorem Looks_no (s : ByteArray) (w : World) (hs : s.size ≤ 140737488351232) (h : noNum (s.data.toList.drop (bl s.data.toList))) :
    Calls Tryz.prog 44 #[.string s] w fun e w' => e = .returned (.bool false) ∧ Below w.heap.size w w' := by
  have hle := bl_le s
  have HB := Lib.hid (fun w => blankSize_var s w hs _ rfl)
  have HN := Lib.hid (fun w => rn_no (s.extract (bl s.data.toList) s.size) _ w (by simp; omega) (extract_drop s (bl s.data.toList)) h)
  have hz : (s.extract (bl s.data.toList) s.size).size = s.size - bl s.data.toList := by simp
  clear h
  generalize bl s.data.toList = B at *
  go_enter Tryz.func44, Tryz.ntmps44
  go_wp2_with (first | (go_at_call 45; go_must (refine (HB.out _).mono ?_; rintro e w1 ⟨rfl, rfl⟩)) | (go_at_call 46; go_must (refine (HN.out _).mono ?_; rintro e w1 ⟨rfl, hb1⟩; have hz1 := hb1.size)))
  go_ret
  exact ⟨rfl, hb1.alloc hz1 _⟩

set_option maxRecDepth 100000 in
theorem Looks_yes (s : ByteArray) (w : World) (hs : s.size ≤ 140737488351232) (t : List UInt8) (ht : t = s.data.toList.drop (bl s.data.toList)) (h : ¬ noNum t) (b : Bool) (hq : ((bl (t.drop (sizeB t)) : Int) == ((t.drop (sizeB t)).length : Int)) = b) :
    Calls Tryz.prog 44 #[.string s] w fun e w' => e = .returned (.bool b) ∧ Below w.heap.size w w' := by
  have hle := bl_le s
  have HB := Lib.hid (fun w => blankSize_var s w hs _ rfl)
  have hd : (s.extract (bl s.data.toList) s.size).data.toList = t := by rw [ht]; exact extract_drop s (bl s.data.toList)
  have HN := Lib.hid (fun w => rn_yes (s.extract (bl s.data.toList) s.size) t w (by simp; omega) hd h)
  have hz : (s.extract (bl s.data.toList) s.size).size = s.size - bl s.data.toList := by simp
  have htl : t.length = s.size - bl s.data.toList := by rw [ht]; simp
  have hZ := sizeB_bd t
  have hp := sizeB_pos t h
  clear h ht
  generalize bl s.data.toList = B at *
  have hr : ((s.extract B s.size).extract (sizeB t) (s.size - B)).data.toList = t.drop (sizeB t) := by rw [← hz, extract_drop, hd]
  have hrz : ((s.extract B s.size).extract (sizeB t) (s.size - B)).size = s.size - B - sizeB t := by simp
  have HC := Lib.hid (fun w => blankSize_var ((s.extract B s.size).extract (sizeB t) (s.size - B)) w (by rw [hrz]; omega) (bl (t.drop (sizeB t))) (by rw [hr]))
  have hlen : (t.drop (sizeB t)).length = s.size - B - sizeB t := by rw [List.length_drop, htl]
  rw [hlen] at hq
  have hkb : bl (t.drop (sizeB t)) ≤ s.size - B - sizeB t := by rw [← hlen]; exact tw_len isB _
  have hZ2 : sizeB t ≤ s.size - B := by omega
  generalize bl (t.drop (sizeB t)) = K at *
  generalize sizeB t = Z at *
  clear hr hlen hd
  go_enter Tryz.func44, Tryz.ntmps44
  go_wp2_with (first | (go_at_call 45; (with_reducible refine (HB.out _).mono ?_); rintro e w1 ⟨rfl, rfl⟩) | (go_at_call 46; go_loud (refine (HN.out _).mono ?_; rintro e w1 ⟨rfl, hb1⟩; have hz1 := hb1.size)) | (go_at_call 45; (with_reducible refine (HC.out _).mono ?_); rintro e w1 ⟨rfl, rfl⟩))
  go_ret
  exact ⟨by rw [← hq]; rfl, hb1.alloc hz1 _⟩

/-- What dec.Looks answers. -/
def looksOf (l : List UInt8) : Bool := let t := l.drop (bl l); !(wholeL t).isEmpty && (bl (t.drop (sizeB t)) : Int) == ((t.drop (sizeB t)).length : Int) || (wholeL t).isEmpty && !(partL t).isEmpty && (bl (t.drop (sizeB t)) : Int) == ((t.drop (sizeB t)).length : Int)
theorem Looks_all (s : ByteArray) (w : World) (hs : s.size ≤ 140737488351232) :
    Calls Tryz.prog 44 #[.string s] w fun e w' => e = .returned (.bool (looksOf s.data.toList)) ∧ Below w.heap.size w w' := by
  by_cases h : noNum (s.data.toList.drop (bl s.data.toList))
  · have e : looksOf s.data.toList = false := by unfold looksOf; dsimp only; rw [h.1, h.2]; rfl
    rw [e]; exact Looks_no s w hs h
  · refine Looks_yes s w hs _ rfl h _ ?_
    unfold looksOf
    dsimp only
    generalize s.data.toList.drop (bl s.data.toList) = t at *
    cases hw : (wholeL t).isEmpty
    · simp
    · have hp : (partL t).isEmpty = false := by
        cases hp : (partL t).isEmpty
        · rfl
        · exact absurd ⟨List.isEmpty_iff.1 hw, List.isEmpty_iff.1 hp⟩ h
      rw [hp]; simp
end Go.Proofs.YtcjeeoadgoghfaaGreatDoor.scan

namespace Go.Proofs.YtcjeeoadgoghfaaGreatDoor.deca
set_option linter.unusedVariables false set_option linter.unusedSimpArgs false
open Go.ChangeShapes Go.WideShapes Go.ChangeAt Go.RowKit Go.Proofs.YtcjeeoadgoghfaaGreatDoor.base Go.Proofs.YtcjeeoadgoghfaaGreatDoor.Deci Go.Proofs.YtcjeeoadgoghfaaGreatDoor.Usc Go.Proofs.YtcjeeoadgoghfaaGreatDoor.scan

theorem take_dig : ∀ (l : List UInt8) (b : UInt8), b ∈ l.take (dg l) → isDB b
  | [], b, h => by simp [dg] at h
  | c :: t, b, h => by
    unfold dg at h
    rw [List.takeWhile_cons] at h
    split at h
    · rename_i hc
      rw [List.length_cons, List.take_succ_cons] at h
      rcases List.mem_cons.1 h with rfl | h
      · unfold isD at hc
        rw [Bool.and_eq_true, decide_eq_true_eq, decide_eq_true_eq, UInt8.le_iff_toNat_le, UInt8.le_iff_toNat_le] at hc
        exact hc
      · exact take_dig t b h
    · simp at h
theorem parts_dig (l : List UInt8) : ∀ b ∈ wholeL l ++ partL l, isDB b := by
  intro b hb
  rcases List.mem_append.1 hb with h | h
  · exact take_dig _ b h
  · unfold partL at h
    split at h
    · exact take_dig _ b h
    · cases h
theorem parts_len (l : List UInt8) : (wholeL l ++ partL l).length ≤ l.length := by
  rw [List.length_append]
  cases hp : hasPt l
  · have h1 := wholeL_bd l
    have h2 : partL l = [] := by unfold partL; rw [hp]; rfl
    rw [h2]; simp; omega
  · have := partL_bd l hp
    omega
theorem pow_len (l : List UInt8) : (powL l).length ≤ l.length := by
  unfold powL
  have h := lp_bd (l.drop (sizeA l))
  by_cases h0 : lp (l.drop (sizeA l)) = []
  · rw [h0]; simp
  · have := h h0
    rw [List.length_drop] at this
    omega

/-- What Prefix answers. -/
def PfP (s : ByteArray) (e : Ending) : Prop :=
  (noNum (s.data.toList.drop (bl s.data.toList)) → e = .returned (.tuple #[.float .f64 0, .int .i64 0])) ∧
  (¬ noNum (s.data.toList.drop (bl s.data.toList)) → ∃ x : Nat, NVal (wholeL (s.data.toList.drop (bl s.data.toList))) (partL (s.data.toList.drop (bl s.data.toList))) (powL (s.data.toList.drop (bl s.data.toList))) x ∧
    e = .returned (.tuple #[.float .f64 (sgW (negL (s.data.toList.drop (bl s.data.toList))) + x), .int .i64 ((bl s.data.toList + sizeB (s.data.toList.drop (bl s.data.toList)) : Nat) : Int)]))

set_option maxRecDepth 20000 in
set_option maxHeartbeats 1000000 in
theorem prefix_all (w : World) (B Pb T : Nat) (s : ByteArray) (hs : s.size ≤ 700) (hw : Dw w B Pb T) (hr : Rg w) (ht : Tens w) :
    Calls Tryz.prog 10 #[.string s] w fun e w' => PfP s e ∧ Frm No w w' := by
  have hle := bl_le s
  have HB := Lib.hid (fun w => blankSize_var s w (by omega) _ rfl)
  have HD := Lib.hid (show PfP s = PfP s from rfl)
  obtain ⟨l, hl⟩ : ∃ l, s.data.toList.drop (bl s.data.toList) = l := ⟨_, rfl⟩
  have hll : l.length ≤ 700 := by
    rw [← hl, List.length_drop]
    have : s.data.toList.length = s.size := by simp
    omega
  have hel := extract_drop s (bl s.data.toList)
  rw [hl] at hel
  obtain ⟨b, hb⟩ : ∃ b, bl s.data.toList = b := ⟨_, rfl⟩
  rw [hb] at HB hel hle
  have hPf : PfP s = fun e => (noNum l → e = .returned (.tuple #[.float .f64 0, .int .i64 0])) ∧ (¬ noNum l → ∃ x : Nat, NVal (wholeL l) (partL l) (powL l) x ∧ e = .returned (.tuple #[.float .f64 (sgW (negL l) + x), .int .i64 ((b + sizeB l : Nat) : Int)])) := by
    unfold PfP
    rw [hl, hb]
  rw [hPf]
  have hbs : (b : Int) ≤ (s.size : Int) := by omega
  have hs7 : (s.size : Int) ≤ 700 := by omega
  have HW := Lib.hid (And.intro hw (And.intro hr ht))
  by_cases hno : noNum l
  · have HN := Lib.hid (fun w => rn_no (s.extract b s.size) l w (by simp; omega) hel hno)
    have HNO := Lib.hid hno
    clear hno hl hb hPf HD hw hr ht
    go_enter Tryz.func10, Tryz.ntmps10
    go_wp2_with (first | (go_at_call 45; go_must (refine (HB.out _).mono ?_; rintro e w1 ⟨rfl, rfl⟩)) | (go_at_call 46; go_must (refine (HN.out _).mono ?_; rintro e w1 ⟨rfl, hb1⟩; have HF := Lib.hid (Frm.ofBelow hb1 (Nat.le_refl _)))))
    refine bodyPost_ret (v := .tuple #[.float .f64 0, .int .i64 0]) (by simp [results, Tryz.results10, go_sem]) rfl ⟨⟨fun _ => rfl, fun h => absurd HNO.out h⟩, HF.out.alloc _⟩
  · have HN := Lib.hid (fun w => rn_yes (s.extract b s.size) l w (by simp; omega) hel hno)
    obtain ⟨z, hz⟩ : ∃ z, sizeB l = z := ⟨_, rfl⟩
    have hz0 := sizeB_pos l hno
    have hzl := sizeB_bd l
    rw [hz] at HN hz0 hzl
    have hzi : (z : Int) ≤ 700 := by omega
    have z1 : ((z : Int) == 0) = false := by rw [beq_eq_false_iff_ne]; omega
    have HNO := Lib.hid hno
    have HZ := Lib.hid hz
    have HV := Lib.hid (fun w hw hr ht => value_all w B Pb T (negL l) ⟨(wholeL l).toArray⟩ ⟨(partL l).toArray⟩ ⟨(powL l).toArray⟩ (parts_dig l) (by have := parts_len l; exact Nat.le_trans this hll) (by show (powL l).toArray.size ≤ _; rw [List.size_toArray]; have := pow_len l; omega) hw hr ht)
    clear hno hl hb hPf HD hw hr ht hz hz0 hzl
    go_enter Tryz.func10, Tryz.ntmps10
    go_wp2_with (first | (go_at_call 45; go_must (refine (HB.out _).mono ?_; rintro e w1 ⟨rfl, rfl⟩)) | (go_at_call 46; go_must (refine (HN.out _).mono ?_; rintro e w1 ⟨rfl, hb1⟩; have HF := Lib.hid (Frm.ofBelow hb1 (Nat.le_refl _)); clear hb1)) | (go_at_call 47; go_must (refine (HV.out _ (HW.out.1.frm (HF.out.alloc _)) (HW.out.2.1.frm (HF.out.alloc _)) (HW.out.2.2.frm (HF.out.alloc _))).mono ?_; rintro e w2 ⟨⟨x, hx, rfl⟩, hf2⟩; have HX := Lib.hid hx; have HF2 := Lib.hid ((HF.out.alloc _).trans hf2); clear hx hf2)))
    refine bodyPost_ret (v := .tuple #[.float .f64 (sgW (negL l) + x), .int .i64 ((b : Int) + (z : Int))]) (by simp [results, Tryz.results10, go_sem]) rfl ⟨⟨fun h => absurd h HNO.out, fun _ => ⟨x, HX.out, by rw [HZ.out, Int.natCast_add]⟩⟩, HF2.out⟩
end Go.Proofs.YtcjeeoadgoghfaaGreatDoor.deca

namespace Go.Proofs.YtcjeeoadgoghfaaGreatDoor.scan
set_option linter.unusedVariables false set_option linter.unusedSimpArgs false
open Go.ChangeShapes Go.WideShapes Go.ChangeAt Go.RowKit

theorem tw_in (p : UInt8 → Bool) (l : List UInt8) : ∀ k, k < (l.takeWhile p).length → ∃ h : k < l.length, p l[k] = true := by
  induction l with
  | nil => intro k h; simp at h
  | cons c t ih =>
    intro k h
    rw [List.takeWhile_cons] at h
    by_cases hc : p c = true
    · rw [if_pos hc] at h
      cases k with
      | zero => exact ⟨by simp, hc⟩
      | succ k =>
        obtain ⟨h1, h2⟩ := ih k (by simpa using h)
        exact ⟨by simp; omega, by simpa using h2⟩
    · rw [if_neg hc] at h; simp at h
theorem tw_out (p : UInt8 → Bool) (l : List UInt8) : ∀ h : (l.takeWhile p).length < l.length, p (l[(l.takeWhile p).length]) = false := by
  induction l with
  | nil => intro h; simp at h
  | cons c t ih =>
    intro h
    by_cases hc : p c = true
    · have e : ((c :: t).takeWhile p) = c :: t.takeWhile p := by rw [List.takeWhile_cons, if_pos hc]
      simp only [e, List.length_cons, List.getElem_cons_succ]
      simp only [e, List.length_cons] at h
      exact ih (by omega)
    · have e : ((c :: t).takeWhile p) = [] := by rw [List.takeWhile_cons, if_neg hc]
      simp only [e, List.length_nil, List.getElem_cons_zero]
      simpa using hc
/-- How many such bytes stand from place x on. -/
def run (p : UInt8 → Bool) (s : ByteArray) (x : Nat) : Nat := ((s.data.toList.drop x).takeWhile p).length
theorem run_le (p : UInt8 → Bool) (s : ByteArray) (x : Nat) (hx : x ≤ s.size) : x + run p s x ≤ s.size := by
  have := tw_len p (s.data.toList.drop x)
  rw [List.length_drop] at this
  simp only [Array.length_toList] at this
  have e : s.data.size = s.size := rfl
  unfold run
  omega
theorem run_inw (p : UInt8 → Bool) (s : ByteArray) (x k : Nat) (h : k < run p s x) : ∃ h : x + k < s.size, p s[x + k] = true := by
  obtain ⟨h1, h2⟩ := tw_in p (s.data.toList.drop x) k h
  rw [List.length_drop] at h1
  simp only [Array.length_toList] at h1
  have e : s.data.size = s.size := rfl
  refine ⟨by omega, ?_⟩
  rw [List.getElem_drop] at h2
  exact h2
theorem run_out (p : UInt8 → Bool) (s : ByteArray) (x : Nat) (h : x + run p s x < s.size) : p (s[x + run p s x]) = false := by
  have e : s.data.size = s.size := rfl
  have h2 := tw_out p (s.data.toList.drop x) (by rw [List.length_drop]; simp only [Array.length_toList]; unfold run at h; omega)
  rw [List.getElem_drop] at h2
  exact h2
def pB (s : ByteArray) : Nat := run isB s 0
def pT (s : ByteArray) : List UInt8 := s.data.toList.drop (pB s)
def pX (s : ByteArray) : Nat := pB s + sg (pT s)
def pW (s : ByteArray) : Nat := run isD s (pX s)
def pP (s : ByteArray) : Nat := run isD s (pX s + pW s + 1)
def pD (s : ByteArray) : Bool := (s.data.toList.drop (pX s + pW s)).head? == some 46
theorem pB_eq (s : ByteArray) : pB s = bl s.data.toList := by unfold pB run bl; rw [List.drop_zero]
theorem pB_le (s : ByteArray) : pB s ≤ s.size := by have := run_le isB s 0 (Nat.zero_le _); unfold pB; omega
theorem pX_le (s : ByteArray) : pX s ≤ s.size := by
  have h1 := (sg_le (pT s)).1
  have h2 := pB_le s
  have e : s.data.size = s.size := rfl
  unfold pT at h1
  rw [List.length_drop] at h1
  simp only [Array.length_toList] at h1
  unfold pX pT
  omega
theorem pW_eq (s : ByteArray) : (wholeL (pT s)).length = pW s := by
  rw [wholeL_len]
  unfold pT
  rw [List.drop_drop]
  rfl
theorem pD_eq (s : ByteArray) : hasPt (pT s) = pD s := by
  unfold hasPt pD
  rw [pW_eq]
  unfold pT
  rw [List.drop_drop, ← Nat.add_assoc]
  rfl
theorem pP_eq (s : ByteArray) (h : pD s = true) : (partL (pT s)).length = pP s := by
  have h1 := dg_le ((pT s).drop (sg (pT s) + (wholeL (pT s)).length + 1))
  unfold partL
  rw [pD_eq, if_pos h, List.length_take, Nat.min_eq_left h1, pW_eq]
  show dg (List.drop _ (pT s)) = _
  unfold pP run dg pX
  unfold pT
  rw [List.drop_drop]
  congr 3
  omega
theorem pA_eq (s : ByteArray) : pB s + sizeA (pT s) = pX s + pW s + if pD s then 1 + pP s else 0 := by
  unfold sizeA
  rw [pW_eq, pD_eq]
  cases hd : pD s with
  | true => rw [if_pos rfl, if_pos rfl, pP_eq s hd]; unfold pX; omega
  | false => rw [if_neg (by decide), if_neg (by decide)]; unfold pX; omega
theorem noNum_iff (s : ByteArray) : noNum (pT s) ↔ pW s = 0 ∧ (pD s = false ∨ pP s = 0) := by
  unfold noNum
  have h1 : wholeL (pT s) = [] ↔ pW s = 0 := by rw [← pW_eq]; exact List.length_eq_zero_iff.symm
  rw [h1]
  cases hd : pD s with
  | true =>
    have h2 : partL (pT s) = [] ↔ pP s = 0 := by rw [← pP_eq s hd]; exact List.length_eq_zero_iff.symm
    rw [h2]
    simp
  | false =>
    have h2 : partL (pT s) = [] := by unfold partL; rw [pD_eq, hd]; rfl
    rw [h2]
    simp
/-- The byte at a place as the list has it. -/
theorem head_at (s : ByteArray) (x : Nat) : (∃ h : x < s.size, s.data.toList.drop x = s[x] :: s.data.toList.drop (x + 1)) ∨ (s.size ≤ x ∧ s.data.toList.drop x = []) := by
  by_cases h : x < s.size
  · left
    refine ⟨h, ?_⟩
    have h2 : x < s.data.toList.length := by simpa using h
    exact List.drop_eq_getElem_cons h2
  · right
    exact ⟨by omega, List.drop_eq_nil_of_le (by simpa using (show s.size ≤ x by omega))⟩
theorem sg_at (s : ByteArray) (x : Nat) : (∃ h : x < s.size, (s[x] = 43 ∨ s[x] = 45) ∧ sg (s.data.toList.drop x) = 1) ∨ ((∀ h : x < s.size, s[x] ≠ 43 ∧ s[x] ≠ 45) ∧ sg (s.data.toList.drop x) = 0) := by
  rcases head_at s x with ⟨h, e⟩ | ⟨h, e⟩
  · rw [e]
    by_cases hc : s[x] = 43 ∨ s[x] = 45
    · exact Or.inl ⟨h, hc, if_pos hc⟩
    · exact Or.inr ⟨fun _ => ⟨fun e => hc (Or.inl e), fun e => hc (Or.inr e)⟩, if_neg hc⟩
  · rw [e]
    exact Or.inr ⟨fun h2 => by omega, rfl⟩
theorem pD_at (s : ByteArray) : pD s = true ↔ ∃ h : pX s + pW s < s.size, s[pX s + pW s] = 46 := by
  unfold pD
  rcases head_at s (pX s + pW s) with ⟨h, e⟩ | ⟨h, e⟩
  · rw [e]
    simp only [List.head?_cons, beq_iff_eq, Option.some.injEq]
    exact ⟨fun hh => ⟨h, hh⟩, fun ⟨_, hh⟩ => hh⟩
  · rw [e]
    simp only [List.head?_nil]
    constructor
    · intro hh; cases hh
    · rintro ⟨h2, _⟩; omega
/-- The exponent's sign and digits, behind place q. -/
def xS (s : ByteArray) (q : Nat) : Nat := sg (s.data.toList.drop (q + 1))
def xG (s : ByteArray) (q : Nat) : Nat := run isD s (q + 1 + xS s q)
theorem lp_at (s : ByteArray) (q : Nat) : (∃ h : q < s.size, (s[q] = 101 ∨ s[q] = 69) ∧ 0 < xG s q ∧ lp (s.data.toList.drop q) ≠ [] ∧ (lp (s.data.toList.drop q)).length = xS s q + xG s q) ∨
    (lp (s.data.toList.drop q) = [] ∧ ∀ h : q < s.size, (s[q] = 101 ∨ s[q] = 69) → xG s q = 0) := by
  rcases head_at s q with ⟨h, e⟩ | ⟨h, e⟩
  · have hx : dg ((s.data.toList.drop (q + 1)).drop (sg (s.data.toList.drop (q + 1)))) = xG s q := by
      rw [List.drop_drop]; rfl
    by_cases hc : s[q] = 101 ∨ s[q] = 69
    · by_cases hg : xG s q = 0
      · right
        refine ⟨?_, fun _ _ => hg⟩
        rw [e]
        unfold lp
        simp only
        rw [if_pos hc, hx, if_pos hg]
      · left
        have hl : lp (s.data.toList.drop q) = (s.data.toList.drop (q + 1)).take (sg (s.data.toList.drop (q + 1)) + xG s q) := by
          rw [e]
          unfold lp
          simp only
          rw [if_pos hc, hx, if_neg hg]
        have hle := dg_le ((s.data.toList.drop (q + 1)).drop (sg (s.data.toList.drop (q + 1))))
        have hsl := (sg_le (s.data.toList.drop (q + 1))).1
        rw [hx, List.length_drop] at hle
        have hlen : (lp (s.data.toList.drop q)).length = xS s q + xG s q := by
          rw [hl, List.length_take, Nat.min_eq_left (by omega)]
          rfl
        exact ⟨h, hc, by omega, fun hn => by rw [hn] at hlen; simp at hlen; omega, hlen⟩
    · right
      refine ⟨?_, fun _ hcc => absurd hcc hc⟩
      rw [e]
      unfold lp
      simp only
      rw [if_neg hc]
  · right
    rw [e]
    exact ⟨rfl, fun h2 => by omega⟩
theorem size_at (s : ByteArray) (q : Nat) (hq : q = pB s + sizeA (pT s)) : pB s + sizeB (pT s) = q + if lp (s.data.toList.drop q) = [] then 0 else 1 + (lp (s.data.toList.drop q)).length := by
  have e : powL (pT s) = lp (s.data.toList.drop q) := by
    unfold powL
    rw [hq]
    unfold pT
    rw [List.drop_drop]
  unfold sizeB
  rw [e]
  omega
end Go.Proofs.YtcjeeoadgoghfaaGreatDoor.scan
