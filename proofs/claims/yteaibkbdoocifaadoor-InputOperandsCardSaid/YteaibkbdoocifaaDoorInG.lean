/- Contracts of input's isName, escapedSize, escaped, meant, Operand. -/
import Derived.Test.YteaibkbdoocifaaDoorInF
import Derived.Test.YteaibkbdoocifaaDoorInW
import Derived.Test.YteaibkbdoocifaaDoorInS
import Derived.Lib.MinMax
namespace Go.Proofs.YteaibkbdoocifaaDoor.lexs
set_option linter.unusedVariables false set_option linter.unusedSimpArgs false
open Go.ChangeShapes Go.WideShapes Go.ChangeAt Go.RowKit Go.Proofs.YteaibkbdoocifaaDoor.base Go.Proofs.YteaibkbdoocifaaDoor.wrd Go.Proofs.YteaibkbdoocifaaDoor.inps

theorem iDigit_all (c : UInt8) (w : World) :
    Calls Tryd.prog 28 #[.int .u8 (c.toNat : Int)] w fun e w' => e = .returned (.bool (isD c)) ∧ w = w' := by
  have HD := Lib.hid (isD_int c)
  generalize (c.toNat : Int) = n at *
  go_enter Tryd.func28, Tryd.ntmps28
  go_wp2
  all_goals
    go_ret
    exact ⟨ret_bool (by rw [HD.out]; simp; omega), rfl⟩
theorem iLetter_all (c : UInt8) (w : World) :
    Calls Tryd.prog 27 #[.int .u8 (c.toNat : Int)] w fun e w' => e = .returned (.bool (isL c)) ∧ w = w' := by
  have HD := Lib.hid (isL_int c)
  generalize (c.toNat : Int) = n at *
  go_enter Tryd.func27, Tryd.ntmps27
  go_wp2
  all_goals
    go_ret
    exact ⟨ret_bool (by rw [HD.out, Bool.eq_iff_iff]; simp; omega), rfl⟩

theorem get_at (s : ByteArray) {i : Nat} {c : UInt8} (h : s.data.toList[i]? = some c) : ∃ h : i < s.size, s[i] = c := by
  obtain ⟨h1, h2⟩ := List.getElem?_eq_some_iff.1 h
  exact ⟨by rw [← len_list]; exact h1, h2⟩

set_option maxHeartbeats 2000000 in
theorem isName_all (s : ByteArray) (w : World) (hs : s.size ≤ 1000000) :
    Calls Tryd.prog 18 #[.string s] w fun e w' => e = .returned (.bool (nmk s.data.toList)) ∧ w = w' := by
  have HL := Lib.hid (fun c W => iLetter_all c W)
  have HD := Lib.hid (fun c W => iDigit_all c W)
  go_enter Tryd.func18, Tryd.ntmps18
  go_wp2
  go_loopw [6] (fun iv wr => ∃ k : Nat, k ≤ s.size ∧ iv = .int .i64 k ∧ (∀ (i : Nat) (hi : i < s.size), i < k → isL s[i] = true ∨ (0 < i ∧ isD s[i] = true)) ∧ w = wr) (fun iv _ => s.size - (intOf iv).toNat)
  case atStart => exact ⟨0, Nat.zero_le _, rfl, fun i _ h => by omega, rfl⟩
  case round =>
    obtain ⟨k, hk, rfl, hall, hw⟩ := hrel
    subst hw
    have HA := Lib.hid hall
    clear hall
    have hk0 : (0 : Int) ≤ (k : Int) := by omega
    by_cases hlt : k < s.size
    · have hk1 : (k : Int) < (s.size : Int) := by omega
      have HN := Lib.hid (show (isL s[k] = true ∨ (0 < k ∧ isD s[k] = true)) → ∀ (i : Nat) (hi : i < s.size), i < k + 1 → isL s[i] = true ∨ (0 < i ∧ isD s[i] = true) by
        intro h i hi hik
        by_cases e : i = k
        · subst e; exact h
        · exact HA.out i hi (by omega))
      have HX := Lib.hid (show isL s[k] = false → (k = 0 ∨ isD s[k] = false) → nmk s.data.toList = false from fun h1 h2 => nmk_no (get_list s k hlt) h1 h2)
      cases hL : isL s[k] with
      | true =>
        as_aux_lemma =>
        have HL' := Lib.hid (fun W => by have := HL.out s[k] W; rw [hL] at this; exact this)
        have HN' := Lib.hid (HN.out (Or.inl hL))
        clear hL HL
        go_wp2_with (go_at_call 27; go_must (refine (HL'.out _).mono ?_; rintro e w1 ⟨rfl, rfl⟩))
        go_roundw
        case rel => exact ⟨k + 1, by omega, by go_num, HN'.out, trivial⟩
        case measure => simp [intOf]; omega
      | false =>
        have HL' := Lib.hid (fun W => by have := HL.out s[k] W; rw [hL] at this; exact this)
        by_cases h0 : k = 0
        · as_aux_lemma =>
          subst h0
          have HR := Lib.hid (HX.out hL (Or.inl rfl))
          clear hL HL
          go_wp2_with (go_at_call 27; go_must (refine (HL'.out _).mono ?_; rintro e w1 ⟨rfl, rfl⟩))
          go_ret
          exact ⟨ret_bool HR.out.symm, rfl⟩
        · have h0' : ((k : Int) == 0) = false := by rw [beq_eq_false_iff_ne]; omega
          cases hD : isD s[k] with
          | true =>
            as_aux_lemma =>
            have HD' := Lib.hid (fun W => by have := HD.out s[k] W; rw [hD] at this; exact this)
            have HN' := Lib.hid (HN.out (Or.inr ⟨by omega, hD⟩))
            clear hL HL hD HD
            go_wp2_with (first | (go_at_call 27; go_must (refine (HL'.out _).mono ?_; rintro e w1 ⟨rfl, rfl⟩)) | (go_at_call 28; go_must (refine (HD'.out _).mono ?_; rintro e w1 ⟨rfl, rfl⟩)))
            go_roundw
            case rel => exact ⟨k + 1, by omega, by go_num, HN'.out, trivial⟩
            case measure => simp [intOf]; omega
          | false =>
            as_aux_lemma =>
            have HD' := Lib.hid (fun W => by have := HD.out s[k] W; rw [hD] at this; exact this)
            have HR := Lib.hid (HX.out hL (Or.inr hD))
            clear hL HL hD HD
            go_wp2_with (first | (go_at_call 27; go_must (refine (HL'.out _).mono ?_; rintro e w1 ⟨rfl, rfl⟩)) | (go_at_call 28; go_must (refine (HD'.out _).mono ?_; rintro e w1 ⟨rfl, rfl⟩)))
            go_ret
            exact ⟨ret_bool HR.out.symm, rfl⟩
    · have hk1 : (s.size : Int) ≤ (k : Int) := by omega
      have HR := Lib.hid (show (!(s.toList == [])) = nmk s.data.toList by
        rw [Lib.toList_data]
        by_cases e : s.data.toList = []
        · rw [e]; rfl
        · rw [nmk_yes e (fun i c hc => by
            obtain ⟨h1, h2⟩ := get_at s hc
            have := HA.out i h1 (by omega)
            rw [h2] at this
            exact this)]
          rw [show (s.data.toList == []) = false by rw [beq_eq_false_iff_ne]; exact e]
          rfl)
      obtain ⟨B, hB⟩ : ∃ B, (s.toList == []) = B := ⟨_, rfl⟩
      rw [hB] at HR
      go_wp2
      go_ret
      exact ⟨ret_bool HR.out, rfl⟩

set_option maxHeartbeats 2000000 in
set_option maxRecDepth 20000 in
theorem escSize_all (s : ByteArray) (w : World) (hs : s.size ≤ 1000000) :
    Calls Tryd.prog 31 #[.string s] w fun e w' => e = .returned (.int .i64 ((esm s.data.toList).2 : Int)) ∧ w = w' := by
  by_cases h0 : s.size = 0
  · obtain rfl : s = ⟨#[]⟩ := by
      apply ByteArray.ext
      exact Array.eq_empty_of_size_eq_zero h0
    rw [show (esm (⟨#[]⟩ : ByteArray).data.toList).2 = 0 from rfl]
    go_enter Tryd.func31, Tryd.ntmps31
    go_wp2
    go_ret
    exact ⟨rfl, rfl⟩
  have hne : (s.toList == []) = false := by
    rw [beq_eq_false_iff_ne]
    intro e
    rw [Lib.toList_data] at e
    have := congrArg List.length e
    rw [len_list] at this
    exact h0 this
  have hp : 0 < s.size := by omega
  have hp' : (0 : Int) < (s.size : Int) := by omega
  have HCS := Lib.hid (show s.data.toList = s[0] :: sx s 1 from sx_cons s 0 hp)
  by_cases h10 : ((s[0].toNat : Int) == 10) = true
  · have HR := Lib.hid (show (esm s.data.toList).2 = 0 by
      rw [HCS.out, of_beq 10 rfl h10]; rfl)
    go_enter Tryd.func31, Tryd.ntmps31
    go_wp2
    go_ret
    exact ⟨ret_int (by rw [HR.out]; rfl), rfl⟩
  have h10 : ((s[0].toNat : Int) == 10) = false := by simpa using h10
  have HES := Lib.hid (show esm s.data.toList = esc s.data.toList by
    unfold esm
    rw [if_neg]
    rw [HCS.out]
    intro e
    exact of_bne 10 rfl h10 (Option.some.inj e))
  have HFIN := Lib.hid (show ∀ k : Nat, k ≤ 3 → k ≤ s.size → (∀ i (hi : i < s.size), i < k → isO s[i] = true) → (k < 3 → ∀ hi : k < s.size, isO s[k] = false) → (esm s.data.toList).2 = max k 1 by
    intro k h3 hk h he
    have hoc := oc_at s k h3 hk h he
    rw [HES.out]
    unfold esc
    have hl : (oc s.data.toList).length = k := by rw [hoc, List.length_take, len_list]; omega
    rw [hl]
    by_cases e : k ≠ 0
    · rw [if_pos e]; simp; omega
    · rw [if_neg e, HCS.out]
      simp; omega)
  obtain ⟨M, hM⟩ : ∃ M : Nat, min 3 s.size = M := ⟨_, rfl⟩
  have hmin : min (3 : Int) (s.size : Int) = (M : Int) := by omega
  have hM3 : M ≤ 3 := by omega
  have hMs : M ≤ s.size := by omega
  have HMX := Lib.hid (show ∀ k : Nat, k < M ∨ (k ≤ M → k = M ∧ (k < 3 → k = s.size)) from fun k => by omega)
  clear hM
  go_enter Tryd.func31, Tryd.ntmps31
  go_wp2
  go_loopw [3] (fun kv wr => ∃ k : Nat, k ≤ M ∧ kv = .int .i64 k ∧ (∀ i (hi : i < s.size), i < k → isO s[i] = true) ∧ w = wr) (fun kv _ => M - (intOf kv).toNat)
  case atStart => exact ⟨0, Nat.zero_le _, rfl, fun i _ h => by omega, rfl⟩
  case round =>
    obtain ⟨k, hk, rfl, hall, hw⟩ := hrel
    subst hw
    have HA := Lib.hid hall
    clear hall
    have hk0 : (0 : Int) ≤ (k : Int) := by omega
    have hmx : max (k : Int) 1 = ((max k 1 : Nat) : Int) := by omega
    by_cases hlt : k < M
    · have hk1 : (k : Int) < (M : Int) := by omega
      have hk2 : (k : Int) < (s.size : Int) := by omega
      have hoi := isO_int (s[k]'(by omega))
      cases ho : isO (s[k]'(by omega)) with
      | true =>
        rw [ho] at hoi
        have ho1 : 48 ≤ ((s[k]'(by omega)).toNat : Int) := (of_decide_eq_true hoi.symm).1
        have ho2 : ((s[k]'(by omega)).toNat : Int) ≤ 55 := (of_decide_eq_true hoi.symm).2
        have HN := Lib.hid (show ∀ i (hi : i < s.size), i < k + 1 → isO s[i] = true by
          intro i hi hik
          by_cases e : i = k
          · subst e; exact ho
          · exact HA.out i hi (by omega))
        clear hoi ho
        go_wp2
        go_roundw
        case rel => exact ⟨k + 1, by omega, by go_num, HN.out, trivial⟩
        case measure => simp [intOf]; omega
      | false =>
        rw [ho] at hoi
        have HR := Lib.hid (HFIN.out k (by omega) (by omega) HA.out (fun _ _ => ho))
        have hno : ¬ (48 ≤ ((s[k]'(by omega)).toNat : Int) ∧ ((s[k]'(by omega)).toNat : Int) ≤ 55) := of_decide_eq_false hoi.symm
        clear hoi ho
        by_cases h48 : 48 ≤ ((s[k]'(by omega)).toNat : Int)
        · have h55 : ¬ ((s[k]'(by omega)).toNat : Int) ≤ 55 := fun e => hno ⟨h48, e⟩
          clear hno
          go_wp2
          go_ret
          exact ⟨ret_int (by first | (rw [HR.out]; done) | (rw [HR.out]; omega)), rfl⟩
        · clear hno
          go_wp2
          go_ret
          exact ⟨ret_int (by first | (rw [HR.out]; done) | (rw [HR.out]; omega)), rfl⟩
    · have hk1 : (M : Int) ≤ (k : Int) := by omega
      obtain ⟨hkM, hke⟩ := (HMX.out k).resolve_left hlt hk
      have HR := Lib.hid (HFIN.out k (by omega) (by omega) HA.out (fun h3 hi => by have := hke h3; omega))
      clear hke
      go_wp2
      go_ret
      exact ⟨ret_int (by first | (rw [HR.out]; done) | (rw [HR.out]; omega)), rfl⟩

/-- From cell o of block g on stand the tokens ts. -/
def TG (w : World) (g o : Nat) (ts : List Tok) : Prop := ∀ i t, ts[i]? = some t → w.cell? ⟨g, o + i * 2, none⟩ = some (.string ⟨t.k.toArray⟩) ∧ w.cell? ⟨g, o + i * 2 + 1, none⟩ = some (.string ⟨t.t.toArray⟩)
theorem TG.move {w w' : World} {g o : Nat} {ts : List Tok} (h : TG w g o ts) (hf : Frm No w w') : TG w' g o ts := fun i t hi => ⟨cell_stays (h i t hi).1 hf, cell_stays (h i t hi).2 hf⟩
theorem tCs_get {ts : List Tok} {i : Nat} {t : Tok} (h : ts[i]? = some t) : (tCs ts)[i * 2]? = some (.string ⟨t.k.toArray⟩) ∧ (tCs ts)[i * 2 + 1]? = some (.string ⟨t.t.toArray⟩) := by
  induction ts generalizing i with
  | nil => cases h
  | cons x ts ih =>
    have e : tCs (x :: ts) = .string ⟨x.k.toArray⟩ :: .string ⟨x.t.toArray⟩ :: tCs ts := rfl
    rw [e]
    cases i with
    | zero => cases h; exact ⟨rfl, rfl⟩
    | succ i =>
      have := ih (i := i) (by simpa using h)
      rw [show (i + 1) * 2 = i * 2 + 1 + 1 by omega, List.getElem?_cons_succ, List.getElem?_cons_succ, show i * 2 + 1 + 1 + 1 = (i * 2 + 1) + 1 + 1 by omega, List.getElem?_cons_succ, List.getElem?_cons_succ]
      exact this
theorem OwnT.tg {w : World} {B : Nat} {v : Value} {ts : List Tok} (h : OwnT w B v ts) (hne : ts ≠ []) : ∃ g c, v = .slice (some ⟨g, 0, none⟩) ts.length c ∧ TG w g 0 ts ∧ B ≤ g ∧ ts.length ≤ c := by
  have h2 := h.2
  rcases h.2.2 with ⟨_, h1⟩ | ⟨g, cap, cur, hv, hg, hh, hc, _⟩
  · exact absurd (List.eq_nil_of_length_eq_zero h1) hne
  · refine ⟨g, cap, hv, ?_, hg, hc⟩
    rw [hv] at h2
    intro i t hi
    have hlt := (List.getElem?_eq_some_iff.1 hi).1
    have := tCs_get hi
    rw [Nat.zero_add, World.ownsRow.cellAt h2 _ (by omega), World.ownsRow.cellAt h2 _ (by omega)]
    exact this

set_option maxHeartbeats 2000000 in
set_option maxRecDepth 20000 in
/-- escaped: what goes with a backslash, with its own bytes alone. -/
theorem escaped_all (t : List UInt8) (p : ByteArray) (w : World) (hp : t.take (esm t).2 = p.data.toList) (hs : p.size ≤ 1000) :
    Calls Tryd.prog 32 #[.string p] w fun e w' => e = .returned (.string ⟨(esm t).1.toArray⟩) ∧ Frm No w w' := by
  by_cases h0 : t = [] ∨ t.head? = some 10
  · have he : esm t = ([92], 0) := by
      rcases h0 with rfl | h0
      · rfl
      · unfold esm; rw [if_pos h0]
    rw [he] at hp
    obtain rfl : p = ⟨#[]⟩ := by
      apply ByteArray.ext
      apply Array.toList_inj.1
      rw [← hp]; rfl
    rw [he]
    go_enter Tryd.func32, Tryd.ntmps32
    go_wp2
    go_ret
    exact ⟨rfl, Frm.refl _ _⟩
  · obtain ⟨hl, hne⟩ := piece_lex (fun e => h0 (Or.inl e)) (fun e => h0 (Or.inr e)) hp
    have hne' : (p.toList == []) = false := by
      rw [Lib.toList_data, beq_eq_false_iff_ne]
      exact hne
    obtain ⟨X, hX⟩ : ∃ X : ByteArray, X = (⟨#[34, 92]⟩ : ByteArray) ++ p ++ ⟨#[34]⟩ := ⟨_, rfl⟩
    have hXd : X.data.toList = 34 :: 92 :: (p.data.toList ++ [34]) := by
      rw [hX]
      simp [ByteArray.data_append]
    have hXs : X.size ≤ 1000000 := by
      rw [← len_list, hXd]
      simp
      omega
    have HLX := Lib.hid (fun W => lex_all X W hXs)
    rw [hXd, hl, hX] at HLX
    have hps : (p.data.toList.length : Int) ≤ 1000 := by rw [len_list]; omega
    clear hX hXd hXs hl hne h0 hp
    obtain ⟨v, hv⟩ : ∃ v : ByteArray, v = ⟨(esm t).1.toArray⟩ := ⟨_, rfl⟩
    go_enter Tryd.func32, Tryd.ntmps32
    go_wp2_with (go_at_call 52; go_must (refine (HLX.out _).mono ?_; rintro e w1 ⟨hf, u, rfl, hown⟩; obtain ⟨g, c, rfl, htg, _⟩ := hown.tg (by simp); have c1 : w1.cell? ⟨g, 1, none⟩ = some (.string ⟨(esm t).1.toArray⟩) := (htg 0 ⟨kStr, (esm t).1⟩ rfl).2; have HF := Lib.hid hf; clear hown htg hf))
    go_ret
    exact ⟨rfl, HF.out⟩

theorem mx_below {w w' : World} (h : Mx w) (hb : Below w.heap.size w w') : Mx w' := h.frm (Frm.ofBelow hb (Nat.le_refl _))
theorem esc_two (t : List UInt8) : (esm t).1.length ≤ 2 := by
  unfold esm
  split
  · simp
  · unfold esc
    split
    · simp
    · cases t with
      | nil => simp
      | cons d u =>
        simp only
        repeat' split
        all_goals simp
theorem esm_le (t : List UInt8) : (esm t).2 ≤ t.length := by
  unfold esm
  split
  · simp
  · cases t with
    | nil => rw [show esc [] = ([92], 0) from rfl]; simp
    | cons d u => exact (esc_sz d u).2.1
theorem mnt_plain {l : List UInt8} (h : ∀ x ∈ l, x ≠ 92) : mnt l = l := by
  have := mnt_app l [] h
  rw [List.append_nil, mnt_nil, List.append_nil] at this
  exact this
theorem mnt_cut {l a r : List UInt8} (h : l = a ++ 92 :: r) (ha : ∀ x ∈ a, x ≠ 92) : mnt l = a ++ (esm r).1 ++ mnt (r.drop (esm r).2) := by
  rw [h, mnt_app a _ ha, mnt_bs, List.append_assoc]
theorem ext_take (s : ByteArray) (k : Nat) : (s.extract 0 k).data.toList = s.data.toList.take k := by
  rw [extract_list]; simp

theorem writes_drew (w : World) (n B b : Nat) (l : List UInt8) (h : WR B b l w) (s : ByteArray) (news : List UInt8) (hs : s.data.toList = news) (hl : l.length + news.length ≤ 140737488355328) (hB : B ≤ w.heap.size) :
    Calls Tryd.prog 29 #[.pointer (some ⟨b, 0, none⟩), .string s] (w.drewN n) fun e w' => e = .returned (.tuple #[.int .i64 (s.size : Int), .nilIface]) ∧ WR B b (l ++ news) w' ∧ Kb B b w w' :=
  (writes_all (w.drewN n) B b l (h.frm ((Frm.refl No w).drewN n)) s news hs hl hB).mono fun e w' ⟨h1, h2, h3⟩ => ⟨h1, h2, (Kb.of ((Frm.refl No w).drewN n) hB).trans h3⟩

set_option maxHeartbeats 4000000 in
set_option maxRecDepth 20000 in
theorem meant_all (s : ByteArray) (w : World) (hs : s.size ≤ 1000) (hM : Mx w) :
    Calls Tryd.prog 19 #[.string s] w fun e w' => e = .returned (.string ⟨(mnt s.data.toList).toArray⟩) ∧ Frm No w w' := by
  have HM := Lib.hid hM
  have HWN := Lib.hid (WR.new w)
  clear hM
  go_enter Tryd.func19, Tryd.ntmps19
  go_wp2
  go_loopw [0] (fun rv wr => ∃ (R : ByteArray) (out : List UInt8), rv = .string R ∧ R.size ≤ s.size ∧ out.length ≤ 2 * (s.size - R.size) ∧ mnt s.data.toList = out ++ mnt R.data.toList ∧ WR w.heap.size w.heap.size out wr ∧ Below w.heap.size w wr) (fun rv _ => szOf rv)
  case atStart => exact ⟨s, [], rfl, Nat.le_refl _, by simp, by simp, HWN.out, (Below.refl _ w).alloc (Nat.le_refl _) _⟩
  case round =>
    obtain ⟨R, out, rfl, hR, hout, hm, hwr, hbel⟩ := hrel
    have HW := Lib.hid hwr
    have HB := Lib.hid hbel
    have HMT := Lib.hid hm
    have hwz := hbel.size
    obtain ⟨mx, hmx⟩ := mx_below HM.out hbel
    have HCT := Lib.hid (Tryd.strings_Cut R ⟨#[92]⟩ mx wr (by omega) hmx)
    rw [show (⟨#[92]⟩ : ByteArray).data.toList = [92] from rfl] at HCT
    clear hwr hbel hm hmx HM
    rcases cut_one R 92 with ⟨h1, h2, h3, h4⟩ | ⟨i, hi, h1, h2, h3, h4, h5⟩
    · rw [h1, h2, h3] at HCT
      have HE := Lib.hid (show mnt s.data.toList = out ++ R.data.toList by rw [HMT.out, mnt_plain h4])
      have HWS := Lib.hid (fun n => writes_drew wr n w.heap.size w.heap.size out HW.out R R.data.toList rfl (by rw [len_list]; omega) hwz)
      clear h1 h2 h3 h4
      go_wp2_with (first | (go_at_call 17; go_must (refine HCT.out.mono ?_; rintro e w1 ⟨rfl, n, rfl⟩)) | (go_at_call 29; go_must (refine (HWS.out _).mono ?_; rintro e w2 ⟨rfl, hw2, hk2⟩; have HW2 := Lib.hid hw2; have HK2 := Lib.hid hk2; have hz2 : w.heap.size ≤ w2.heap.size := Nat.le_trans hwz hk2.bel.size; clear hw2 hk2)) | (go_at_call 30; go_must (refine (string_all _ _ _ _ HW2.out hz2).mono ?_; rintro e w3 ⟨rfl, hk3⟩; have HK3 := Lib.hid hk3; clear hk3)))
      go_ret
      exact ⟨by rw [HE.out]; rfl, Frm.ofBelow ((HB.out.trans (HK2.out.bel)).trans HK3.out.bel) (Nat.le_refl _)⟩
    · rw [h1, h2, h3] at HCT
      obtain ⟨P, hP⟩ : ∃ P, R.extract 0 i = P := ⟨_, rfl⟩
      obtain ⟨T, hT⟩ : ∃ T, R.extract (i + 1) R.size = T := ⟨_, rfl⟩
      rw [hP, hT] at HCT
      have hPd : P.data.toList = R.data.toList.take i := by rw [← hP, ext_take]
      have hTd : T.data.toList = R.data.toList.drop (i + 1) := by rw [← hT, extract_drop]
      have hPz : P.size = i := by rw [← len_list, hPd, List.length_take, len_list]; omega
      have hTz : T.size = R.size - (i + 1) := by rw [← len_list, hTd, List.length_drop, len_list]
      rw [← hPd, ← hTd] at h4
      rw [← hPd] at h5
      have hmc := mnt_cut h4 h5
      obtain ⟨k, hk⟩ : ∃ k, (esm T.data.toList).2 = k := ⟨_, rfl⟩
      have hkl := esm_le T.data.toList
      rw [hk, len_list] at hkl
      have he2 := esc_two T.data.toList
      obtain ⟨E, hE⟩ : ∃ E, (esm T.data.toList).1 = E := ⟨_, rfl⟩
      have HSZ := Lib.hid (fun W => escSize_all T W (by omega))
      rw [hk] at HSZ
      have HES := Lib.hid (fun W => escaped_all T.data.toList (T.extract 0 k) W (by rw [hk, ext_take]) (by simp [ByteArray.size_extract]; omega))
      rw [hE] at HES he2
      rw [hE, hk] at hmc
      have HN := Lib.hid (show mnt s.data.toList = (out ++ P.data.toList ++ E) ++ mnt (T.extract k T.size).data.toList by rw [HMT.out, hmc, extract_drop]; simp)
      have hTkz : (T.extract k T.size).size = T.size - k := by simp [ByteArray.size_extract]
      have HTK := Lib.hid hTkz
      have HWS := Lib.hid (fun n => writes_drew wr n w.heap.size w.heap.size out HW.out P P.data.toList rfl (by rw [len_list]; omega) hwz)
      have hk0 : (0 : Int) ≤ (k : Int) := by omega
      have hk1 : (k : Int) ≤ (T.size : Int) := by omega
      have HPZ := Lib.hid hPz
      have HTZ := Lib.hid hTz
      clear h1 h2 h3 h4 h5 hP hT hPd hTd hmc hk hE HMT hTkz hPz hTz
      go_wp2_with (first | (go_at_call 17; go_must (refine HCT.out.mono ?_; rintro e w1 ⟨rfl, n, rfl⟩)) | (have hnot := HPZ; clear hnot; go_at_call 29; (with_reducible refine (HWS.out _).mono ?_); rintro e w2 ⟨rfl, hw2, hk2⟩; have HW2 := Lib.hid hw2; have HK2 := Lib.hid hk2; have hz2 : w.heap.size ≤ w2.heap.size := Nat.le_trans hwz hk2.bel.size; clear hw2 hk2) | (go_at_call 31; go_must (refine (HSZ.out _).mono ?_; rintro e w3 ⟨rfl, rfl⟩)) | (go_at_call 32; go_must (refine (HES.out _).mono ?_; rintro e w4 ⟨rfl, hf4⟩; have HF4 := Lib.hid hf4; clear hf4)) | (go_at_call 29; go_must (refine (writes_all _ w.heap.size w.heap.size (out ++ P.data.toList) (HW2.out.frm HF4.out) ⟨E.toArray⟩ E rfl (by have := HPZ.out; simp only [List.length_append, len_list]; omega) (by have := HF4.out.size; omega)).mono ?_; rintro e w5 ⟨rfl, hw5, hk5⟩; have HW5 := Lib.hid hw5; have HK5 := Lib.hid hk5; clear hw5 hk5)))
      go_roundw
      case rel => exact ⟨T.extract k T.size, out ++ P.data.toList ++ E, rfl, by have := HTK.out; have := HTZ.out; omega, by have := HTK.out; have := HTZ.out; have := HPZ.out; simp only [List.length_append, len_list]; omega, HN.out, HW5.out, ((HB.out.trans HK2.out.bel).trans (HF4.out.below (by have := HK2.out.bel.size; omega) (fun _ _ h => h))).trans HK5.out.bel⟩
      case measure => simp only [szOf]; have := HTK.out; have := HTZ.out; omega

theorem clone_f (s : ByteArray) (w : World) (hs : s.size ≤ 140737488355328) :
    Calls Tryd.prog 16 #[.string s] w fun e w' => e = .returned (.string s) ∧ Frm No w w' :=
  (clone_c s w hs).mono fun e w' ⟨h, hb⟩ => ⟨h, Frm.ofBelow hb (Nat.le_refl _)⟩

/-- What an operand assigns. -/
def opd (s : ByteArray) : Option (ByteArray × List UInt8) := match (Lib.cut s.data.toList [61]).2.2 && nmk (Lib.cut s.data.toList [61]).1 with
  | true => some (⟨(Lib.cut s.data.toList [61]).1.toArray⟩, mnt (Lib.cut s.data.toList [61]).2.1)
  | false => none
/-- As it is answered. -/
def opV (r : Option (ByteArray × List UInt8)) : Value := match r with
  | none => .tuple #[.string ⟨#[]⟩, .string ⟨#[]⟩, .bool false]
  | some p => .tuple #[.string p.1, .string ⟨p.2.toArray⟩, .bool true]


end Go.Proofs.YteaibkbdoocifaaDoor.lexs
