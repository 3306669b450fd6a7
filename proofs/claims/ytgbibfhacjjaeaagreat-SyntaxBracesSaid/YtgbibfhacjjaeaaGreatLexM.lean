/- Contracts of lex's quoted, octal. Contract of lex's escape. Contracts of lex's meantByStr, meantByEre. -/
import Derived.Test.YtgbibfhacjjaeaaGreatLexG

namespace Go.Proofs.YtgbibfhacjjaeaaGreat.lexs
set_option linter.unusedVariables false set_option linter.unusedSimpArgs false
open Go.ChangeShapes Go.WideShapes Go.ChangeAt Go.RowKit Go.Proofs.YtgbibfhacjjaeaaGreat.base

/-- A text behind a first byte: how many bytes a quoted text takes. -/
def qtV (s : ByteArray) (q : UInt8) (i : Nat) : Option Nat := (qt q (sx s i)).map (fun r => i + r.length)
theorem qt_take (q : UInt8) (l r : List UInt8) (h : qt q l = some r) : l.take r.length = r :=
  qt_ind (M := fun l r => l.take r.length = r) (fun _ => rfl) (fun c t r _ _ _ ih => by rw [List.length_cons, List.take_succ_cons, ih]) (fun d t r _ _ ih => by rw [List.length_cons, List.length_cons, List.take_succ_cons, List.take_succ_cons, ih]) l.length l r (Nat.le_refl _) h

theorem qtV_end {s : ByteArray} {q : UInt8} {i : Nat} (h : s.size ≤ i) : qtV s q i = none := by
  unfold qtV; rw [sx_nil s i h]; rfl
theorem qtV_hit {s : ByteArray} {q : UInt8} {i : Nat} (h : i < s.size) (hq : s[i] = q) : qtV s q i = some i := by
  unfold qtV; rw [sx_cons s i h, qt_cons, if_pos hq]; rfl
theorem qtV_one {s : ByteArray} {q : UInt8} {i : Nat} (h : i < s.size) (hq : s[i] ≠ q) (hb : s[i] ≠ 92) : qtV s q i = qtV s q (i + 1) := by
  unfold qtV; rw [sx_cons s i h, qt_cons, if_neg hq, if_neg hb]
  cases qt q (sx s (i + 1)) with
  | none => rfl
  | some r => simp; omega
theorem qtV_two {s : ByteArray} {q : UInt8} {i : Nat} (h : i < s.size) (hq : s[i] ≠ q) (hb : s[i] = 92) : qtV s q i = qtV s q (i + 2) := by
  unfold qtV; rw [sx_cons s i h, qt_cons, if_neg hq, if_pos hb]
  by_cases h2 : i + 1 < s.size
  · rw [sx_cons s (i + 1) h2]
    simp only
    cases qt q (sx s (i + 1 + 1)) with
    | none => rfl
    | some r => simp; omega
  · rw [sx_nil s (i + 1) (by omega), sx_nil s (i + 2) (by omega)]; rfl
theorem beq_no {a : UInt8} {n : Nat} (k : UInt8) (hk : k.toNat = n) (h : a ≠ k) : ((a.toNat : Int) == (n : Int)) = false := by
  rw [beq_eq_false_iff_ne]; intro e; exact h (UInt8.toNat_inj.1 (by omega))
theorem beq_yes {a : UInt8} {n : Nat} (k : UInt8) (hk : k.toNat = n) (h : a = k) : ((a.toNat : Int) == (n : Int)) = true := by
  subst h; simp [hk]

/-- What quoted answers. -/
def quoV (s : ByteArray) : Value := match qt (s.data.toList.headD 0) s.data.toList.tail with
  | none => .tuple #[.string ⟨#[]⟩, .bool false]
  | some r => .tuple #[.string ⟨r.toArray⟩, .bool true]
theorem quoV_no {s : ByteArray} (h0 : 0 < s.size) (h : qtV s s[0] 1 = none) : quoV s = .tuple #[.string ⟨#[]⟩, .bool false] := by
  have hc : s.data.toList = s[0] :: sx s 1 := by have := sx_cons s 0 h0; rw [← this]; rfl
  unfold quoV
  rw [hc, List.headD_cons, List.tail_cons]
  unfold qtV at h
  cases hq : qt s[0] (sx s 1) with
  | none => rfl
  | some r => rw [hq] at h; cases h
theorem quoV_yes {s : ByteArray} {k : Nat} (h0 : 0 < s.size) (h : qtV s s[0] 1 = some k) : quoV s = .tuple #[.string (s.extract 1 k), .bool true] := by
  have hc : s.data.toList = s[0] :: sx s 1 := by have := sx_cons s 0 h0; rw [← this]; rfl
  unfold quoV
  rw [hc, List.headD_cons, List.tail_cons]
  unfold qtV at h
  cases hq : qt s[0] (sx s 1) with
  | none => rw [hq] at h; cases h
  | some r =>
    rw [hq] at h
    simp only [Option.map_some, Option.some.injEq] at h
    subst h
    simp only
    rw [extract_list, hc]
    have := qt_take _ _ _ hq
    rw [show 1 + r.length = r.length + 1 by omega, List.take_succ_cons, this]
    rfl

set_option maxHeartbeats 1000000 in
theorem quoted_all (s : ByteArray) (w : World) (hs : s.size ≤ 1000000) (h0 : 0 < s.size) :
    Calls Tryz.prog 135 #[.string s] w fun e w' => e = .returned (quoV s) ∧ w' = w := by
  go_enter Tryz.func135, Tryz.ntmps135
  go_wp2
  go_loop [4] (fun iv => ∃ k : Nat, 1 ≤ k ∧ k ≤ s.size + 1 ∧ iv = .int .i64 k ∧ qtV s s[0] 1 = qtV s s[0] k) (fun iv => s.size + 2 - (intOf iv).toNat)
  case atStart => exact ⟨1, Nat.le_refl _, by omega, rfl, rfl⟩
  case round =>
    obtain ⟨k, hk1, hk, rfl, hq⟩ := hrel
    have HQ := Lib.hid hq
    clear hq
    by_cases hlt : k < s.size
    · by_cases e1 : s[k] = s[0]
      · have HR := Lib.hid (quoV_yes h0 (HQ.out.trans (qtV_hit hlt e1)))
        have b1 : ((s[k].toNat : Int) == (s[0].toNat : Int)) = true := beq_yes s[0] rfl e1
        clear e1 HQ
        go_wp2
        exact bodyPost_ret (v := .tuple #[.string (s.extract 1 k), .bool true]) (by simp [results, Tryz.results135, go_sem]) rfl ⟨by rw [HR.out], rfl⟩
      · have b1 : ((s[k].toNat : Int) == (s[0].toNat : Int)) = false := beq_no s[0] rfl e1
        by_cases e2 : s[k] = 92
        · have HX := Lib.hid (HQ.out.trans (qtV_two hlt e1 e2))
          have b2 : ((s[k].toNat : Int) == 92) = true := beq_yes 92 rfl e2
          clear e1 e2 HQ
          go_wp2
          go_round
          case rel => exact ⟨k + 2, by omega, by omega, by go_num, HX.out⟩
          case measure => simp [intOf]; omega
        · have HX := Lib.hid (HQ.out.trans (qtV_one hlt e1 e2))
          have b2 : ((s[k].toNat : Int) == 92) = false := beq_no 92 rfl e2
          clear e1 e2 HQ
          go_wp2
          go_round
          case rel => exact ⟨k + 1, by omega, by omega, by go_num, HX.out⟩
          case measure => simp [intOf]; omega
    · have HR := Lib.hid (quoV_no h0 (HQ.out.trans (qtV_end (by omega))))
      clear HQ
      go_wp2
      exact bodyPost_ret (v := .tuple #[.string ⟨#[]⟩, .bool false]) (by simp [results, Tryz.results135, go_sem]) rfl ⟨by rw [HR.out], rfl⟩

theorem oc_at (s : ByteArray) (k : Nat) (h3 : k ≤ 3) (hk : k ≤ s.size) (h : ∀ i (hi : i < s.size), i < k → isO s[i] = true) (he : k < 3 → ∀ hi : k < s.size, isO s[k] = false) : oc s.data.toList = s.data.toList.take k := by
  have hl : (s.data.toList.take 3).length = min 3 s.size := by simp
  have h1 : ((s.data.toList.take 3).takeWhile isO).length = k := by
    refine tw_at isO _ k (fun i hi hik => ?_) (by omega) (fun hi => ?_)
    · have := h i (by omega) hik
      simp only [List.getElem_take]
      exact this
    · have := he (by omega) (by omega)
      simp only [List.getElem_take]
      exact this
  have h2 := List.prefix_iff_eq_take.1 (List.takeWhile_prefix (l := s.data.toList.take 3) isO)
  unfold oc
  rw [h2, h1, List.take_take, Nat.min_eq_left h3]
theorem ocV_snoc (s : ByteArray) (k : Nat) (h : k < s.size) : ocV (s.data.toList.take (k + 1)) = ocV (s.data.toList.take k) * 8 + (s[k] - 48) := by
  rw [take_snoc s k h]
  unfold ocV
  rw [List.foldl_append]
  rfl
theorem oct_num (n c : UInt8) : ((n.toNat : Int) * 8 % 256 + ((c.toNat : Int) - 48) % 256) % 256 = ((n * 8 + (c - 48)).toNat : Int) := by
  have h2 : ((c.toNat : Int) - 48) % 256 = ((c - 48).toNat : Int) := by
    have h : ∀ n : Fin 256, ((n.val : Int) - 48) % 256 = ((UInt8.ofNat n.val - 48).toNat : Int) := by decide +kernel
    have := h ⟨c.toNat, c.toNat_lt⟩
    simpa using this
  have h1 : (n.toNat : Int) * 8 % 256 = ((n * 8).toNat : Int) := by
    have h : ∀ n : Fin 256, (n.val : Int) * 8 % 256 = ((UInt8.ofNat n.val * 8).toNat : Int) := by decide +kernel
    have := h ⟨n.toNat, n.toNat_lt⟩
    simp only [UInt8.ofNat_toNat] at this
    exact this
  rw [h1, h2, UInt8.toNat_add]
  omega

set_option maxHeartbeats 1000000 in
theorem octal_all (s : ByteArray) (w : World) (hs : s.size ≤ 1000000) :
    Calls Tryz.prog 230 #[.string s] w fun e w' => e = .returned (.tuple #[.int .u8 ((ocV (oc s.data.toList)).toNat : Int), .int .i64 ((oc s.data.toList).length : Int)]) ∧ w' = w := by
  obtain ⟨m, hm⟩ : ∃ m : Nat, min (3 : Int) (s.size : Int) = (m : Int) := ⟨min 3 s.size, by omega⟩
  have hm3 : m ≤ 3 := by omega
  have hms : m ≤ s.size := by omega
  have hmm : m < 3 → m = s.size := by omega
  have HMM := Lib.hid hmm
  clear hmm
  go_enter Tryz.func230, Tryz.ntmps230
  go_wp2
  go_loop [4, 5] (fun nv iv => ∃ k : Nat, k ≤ m ∧ iv = .int .i64 k ∧ nv = .int .u8 ((ocV (s.data.toList.take k)).toNat : Int) ∧ ∀ i (hi : i < s.size), i < k → isO s[i] = true) (fun nv iv => m - (intOf iv).toNat)
  case atStart => exact ⟨0, Nat.zero_le _, rfl, rfl, fun i _ h => by omega⟩
  case round =>
    obtain ⟨k, hk, rfl, rfl, hall⟩ := hrel
    have HALL := Lib.hid hall
    clear hall
    have hfin : ∀ v : Value, (k < 3 → ∀ hi : k < s.size, isO s[k] = false) → (Value.tuple #[.int .u8 ((ocV (s.data.toList.take k)).toNat : Int), .int .i64 (k : Int)] = .tuple #[.int .u8 ((ocV (oc s.data.toList)).toNat : Int), .int .i64 ((oc s.data.toList).length : Int)]) := by
      intro _ h
      have := oc_at s k (by omega) (by omega) HALL.out h
      rw [this, List.length_take, len_list, Nat.min_eq_left (by omega)]
    have HFIN := Lib.hid hfin
    clear hfin
    by_cases hlt : k < m
    · have hks : k < s.size := by omega
      have HB := Lib.hid (isO_int s[k])
      by_cases h1 : 48 ≤ (s[k].toNat : Int)
      · by_cases h2 : (s[k].toNat : Int) ≤ 55
        · have HX := Lib.hid (show ∀ i (hi : i < s.size), i < k + 1 → isO s[i] = true by
            intro i hi hik
            by_cases e : i = k
            · subst e; rw [HB.out]; exact decide_eq_true ⟨h1, h2⟩
            · exact HALL.out i hi (by omega))
          have HN := Lib.hid (oct_num (ocV (s.data.toList.take k)) s[k])
          have HO := Lib.hid (ocV_snoc s k hks)
          go_wp2
          go_round
          case rel => exact ⟨k + 1, by omega, by go_num, by rw [HO.out, ← HN.out]; congr 1; omega, HX.out⟩
          case measure => simp [intOf]; omega
        · have h3 : 55 < (s[k].toNat : Int) := by omega
          have HE := Lib.hid (HFIN.out undef (fun _ _ => by rw [HB.out]; exact decide_eq_false (by omega)))
          clear h2
          go_wp2
          exact bodyPost_ret (v := .tuple #[.int .u8 ((ocV (s.data.toList.take k)).toNat : Int), .int .i64 (k : Int)]) (by simp [results, Tryz.results230, go_sem]) rfl ⟨by rw [HE.out], rfl⟩
      · have h3 : (s[k].toNat : Int) < 48 := by omega
        have HE := Lib.hid (HFIN.out undef (fun _ _ => by rw [HB.out]; exact decide_eq_false (by omega)))
        clear h1
        go_wp2
        exact bodyPost_ret (v := .tuple #[.int .u8 ((ocV (s.data.toList.take k)).toNat : Int), .int .i64 (k : Int)]) (by simp [results, Tryz.results230, go_sem]) rfl ⟨by rw [HE.out], rfl⟩
    · have HE := Lib.hid (HFIN.out undef (fun h3 hi => by have := HMM.out; omega))
      go_wp2
      exact bodyPost_ret (v := .tuple #[.int .u8 ((ocV (s.data.toList.take k)).toNat : Int), .int .i64 (k : Int)]) (by simp [results, Tryz.results230, go_sem]) rfl ⟨by rw [HE.out], rfl⟩
end Go.Proofs.YtgbibfhacjjaeaaGreat.lexs

namespace Go.Proofs.YtgbibfhacjjaeaaGreat.lexs
set_option linter.unusedVariables false set_option linter.unusedSimpArgs false
open Go.ChangeShapes Go.WideShapes Go.ChangeAt Go.RowKit Go.Proofs.YtgbibfhacjjaeaaGreat.base

/-- What escape answers. -/
def escV (t : List UInt8) : Value := .tuple #[.string ⟨(esc t).1.toArray⟩, .int .i64 ((1 + (esc t).2 : Nat) : Int)]
theorem escV_oct {t : List UInt8} (h : (oc t).length ≠ 0) : escV t = .tuple #[.string ⟨#[ocV (oc t)]⟩, .int .i64 ((1 + (oc t).length : Nat) : Int)] := by
  unfold escV esc; rw [if_pos h]
theorem escV_chr {d : UInt8} {t l : List UInt8} (h : ¬ (oc (d :: t)).length ≠ 0) (hl : (if d = 34 ∨ d = 92 ∨ d = 47 then [d] else if d = 97 then [7] else if d = 98 then [8] else if d = 102 then [12] else if d = 110 then [10] else if d = 114 then [13] else if d = 116 then [9] else if d = 118 then [11] else if d = 10 then [] else [92, d]) = l) : escV (d :: t) = .tuple #[.string ⟨l.toArray⟩, .int .i64 2] := by
  unfold escV esc; rw [if_neg h, ← hl]; rfl
theorem of_beq {a : UInt8} {n : Nat} (k : UInt8) (hk : k.toNat = n) (h : ((a.toNat : Int) == (n : Int)) = true) : a = k := by
  apply UInt8.toNat_inj.1; have := eq_of_beq h; omega
theorem of_bne {a : UInt8} {n : Nat} (k : UInt8) (hk : k.toNat = n) (h : ((a.toNat : Int) == (n : Int)) = false) : a ≠ k := by
  intro e; subst e; rw [hk] at h; simp at h

set_option maxHeartbeats 2000000 in
theorem escape_all (s : ByteArray) (w : World) (hs : s.size ≤ 1000000) (h1 : 1 < s.size) (hb : s.data.toList.head? = some 92) :
    Calls Tryz.prog 190 #[.string s] w fun e w' => e = .returned (escV s.data.toList.tail) ∧ Frm No w w' := by
  have hc : s.data.toList = s[0] :: s[1] :: sx s 2 := by
    have e1 := sx_cons s 0 (by omega)
    have e2 := sx_cons s 1 h1
    rw [show sx s 0 = s.data.toList from rfl] at e1
    rw [e1, e2]
  have hs0 : s[0] = 92 := by rw [hc] at hb; simpa using hb
  have ht : s.data.toList.tail = s[1] :: sx s 2 := by rw [hc]; rfl
  have hd1 : (s.extract 1 s.size).data.toList = s[1] :: sx s 2 := by rw [extract_drop, List.drop_one, ht]
  have HO := Lib.hid (fun w => octal_all (s.extract 1 s.size) w (by simp [ByteArray.size_extract]; omega))
  rw [hd1] at HO
  rw [ht]
  have HX := Lib.hid (show s.extract 1 2 = ⟨#[s[1]]⟩ by rw [extract_list, hc]; rfl)
  have HY := Lib.hid (show s.extract 0 2 = ⟨#[92, s[1]]⟩ by rw [extract_list, hc, hs0]; rfl)
  have hq : (2 : Int) ≤ s.size := by omega
  clear hc hb hs0 ht hd1
  by_cases h : (oc (s[1] :: sx s 2)).length ≠ 0
  · have HE := Lib.hid (escV_oct h)
    have hp : (0 : Int) < ((oc (s[1] :: sx s 2)).length : Int) := by omega
    have hp2 : ((oc (s[1] :: sx s 2)).length : Int) ≤ 3 := by
      have := tw_len isO ((s[1] :: sx s 2).take 3)
      rw [List.length_take] at this
      unfold oc
      omega
    generalize (oc (s[1] :: sx s 2)).length = G at *
    generalize ocV (oc (s[1] :: sx s 2)) = V at *
    have hcv := fun w => str_lit (P := Tryz.prog) w #[.int .u8 (V.toNat : Int)] [V] rfl 1 rfl 101 9 5 Tryz.underlying101 Tryz.underlying5 Tryz.underlying9
    go_enter Tryz.func190, Tryz.ntmps190
    go_wp2_with (go_at_call 230; go_must (refine (HO.out _).mono ?_; rintro e w' ⟨rfl, rfl⟩))
    exact bodyPost_ret (v := .tuple #[.string ⟨#[V]⟩, .int .i64 (1 + (G : Int))]) (by simp [results, Tryz.results190, go_sem]) rfl ⟨by rw [HE.out]; rfl, (Frm.refl _ _).alloc _⟩
  · have hz : (oc (s[1] :: sx s 2)) = [] := List.eq_nil_of_length_eq_zero (by omega)
    rw [hz] at HO
    have HN := Lib.hid h
    clear h hz
    rcases bool_or ((s[1].toNat : Int) == 34) with h | q0
    · have HE := Lib.hid (escV_chr (l := [34]) HN.out (by rw [of_beq 34 rfl h]; decide))
      have HZ := Lib.hid (show s.extract 1 2 = ⟨#[34]⟩ by rw [HX.out, of_beq 34 rfl h])
      go_enter Tryz.func190, Tryz.ntmps190
      go_wp2_with (go_at_call 230; go_must (refine (HO.out _).mono ?_; rintro e w' ⟨rfl, rfl⟩))
      exact bodyPost_ret (v := .tuple #[.string (s.extract 1 2), .int .i64 2]) (by simp [results, Tryz.results190, go_sem]) rfl ⟨by rw [HE.out, HZ.out], Frm.refl _ _⟩
    rcases bool_or ((s[1].toNat : Int) == 92) with h | q1
    · have HE := Lib.hid (escV_chr (l := [92]) HN.out (by rw [of_beq 92 rfl h]; decide))
      have HZ := Lib.hid (show s.extract 1 2 = ⟨#[92]⟩ by rw [HX.out, of_beq 92 rfl h])
      go_enter Tryz.func190, Tryz.ntmps190
      go_wp2_with (go_at_call 230; go_must (refine (HO.out _).mono ?_; rintro e w' ⟨rfl, rfl⟩))
      exact bodyPost_ret (v := .tuple #[.string (s.extract 1 2), .int .i64 2]) (by simp [results, Tryz.results190, go_sem]) rfl ⟨by rw [HE.out, HZ.out], Frm.refl _ _⟩
    rcases bool_or ((s[1].toNat : Int) == 47) with h | q2
    · have HE := Lib.hid (escV_chr (l := [47]) HN.out (by rw [of_beq 47 rfl h]; decide))
      have HZ := Lib.hid (show s.extract 1 2 = ⟨#[47]⟩ by rw [HX.out, of_beq 47 rfl h])
      go_enter Tryz.func190, Tryz.ntmps190
      go_wp2_with (go_at_call 230; go_must (refine (HO.out _).mono ?_; rintro e w' ⟨rfl, rfl⟩))
      exact bodyPost_ret (v := .tuple #[.string (s.extract 1 2), .int .i64 2]) (by simp [results, Tryz.results190, go_sem]) rfl ⟨by rw [HE.out, HZ.out], Frm.refl _ _⟩
    rcases bool_or ((s[1].toNat : Int) == 97) with h | q3
    · have HE := Lib.hid (escV_chr (l := [7]) HN.out (by rw [of_beq 97 rfl h]; decide))
      go_enter Tryz.func190, Tryz.ntmps190
      go_wp2_with (go_at_call 230; go_must (refine (HO.out _).mono ?_; rintro e w' ⟨rfl, rfl⟩))
      exact bodyPost_ret (v := .tuple #[.string ⟨#[7]⟩, .int .i64 2]) (by simp [results, Tryz.results190, go_sem]) rfl ⟨by rw [HE.out], Frm.refl _ _⟩
    rcases bool_or ((s[1].toNat : Int) == 98) with h | q4
    · have HE := Lib.hid (escV_chr (l := [8]) HN.out (by rw [of_beq 98 rfl h]; decide))
      go_enter Tryz.func190, Tryz.ntmps190
      go_wp2_with (go_at_call 230; go_must (refine (HO.out _).mono ?_; rintro e w' ⟨rfl, rfl⟩))
      exact bodyPost_ret (v := .tuple #[.string ⟨#[8]⟩, .int .i64 2]) (by simp [results, Tryz.results190, go_sem]) rfl ⟨by rw [HE.out], Frm.refl _ _⟩
    rcases bool_or ((s[1].toNat : Int) == 102) with h | q5
    · have HE := Lib.hid (escV_chr (l := [12]) HN.out (by rw [of_beq 102 rfl h]; decide))
      go_enter Tryz.func190, Tryz.ntmps190
      go_wp2_with (go_at_call 230; go_must (refine (HO.out _).mono ?_; rintro e w' ⟨rfl, rfl⟩))
      exact bodyPost_ret (v := .tuple #[.string ⟨#[12]⟩, .int .i64 2]) (by simp [results, Tryz.results190, go_sem]) rfl ⟨by rw [HE.out], Frm.refl _ _⟩
    rcases bool_or ((s[1].toNat : Int) == 110) with h | q6
    · have HE := Lib.hid (escV_chr (l := [10]) HN.out (by rw [of_beq 110 rfl h]; decide))
      go_enter Tryz.func190, Tryz.ntmps190
      go_wp2_with (go_at_call 230; go_must (refine (HO.out _).mono ?_; rintro e w' ⟨rfl, rfl⟩))
      exact bodyPost_ret (v := .tuple #[.string ⟨#[10]⟩, .int .i64 2]) (by simp [results, Tryz.results190, go_sem]) rfl ⟨by rw [HE.out], Frm.refl _ _⟩
    rcases bool_or ((s[1].toNat : Int) == 114) with h | q7
    · have HE := Lib.hid (escV_chr (l := [13]) HN.out (by rw [of_beq 114 rfl h]; decide))
      go_enter Tryz.func190, Tryz.ntmps190
      go_wp2_with (go_at_call 230; go_must (refine (HO.out _).mono ?_; rintro e w' ⟨rfl, rfl⟩))
      exact bodyPost_ret (v := .tuple #[.string ⟨#[13]⟩, .int .i64 2]) (by simp [results, Tryz.results190, go_sem]) rfl ⟨by rw [HE.out], Frm.refl _ _⟩
    rcases bool_or ((s[1].toNat : Int) == 116) with h | q8
    · have HE := Lib.hid (escV_chr (l := [9]) HN.out (by rw [of_beq 116 rfl h]; decide))
      go_enter Tryz.func190, Tryz.ntmps190
      go_wp2_with (go_at_call 230; go_must (refine (HO.out _).mono ?_; rintro e w' ⟨rfl, rfl⟩))
      exact bodyPost_ret (v := .tuple #[.string ⟨#[9]⟩, .int .i64 2]) (by simp [results, Tryz.results190, go_sem]) rfl ⟨by rw [HE.out], Frm.refl _ _⟩
    rcases bool_or ((s[1].toNat : Int) == 118) with h | q9
    · have HE := Lib.hid (escV_chr (l := [11]) HN.out (by rw [of_beq 118 rfl h]; decide))
      go_enter Tryz.func190, Tryz.ntmps190
      go_wp2_with (go_at_call 230; go_must (refine (HO.out _).mono ?_; rintro e w' ⟨rfl, rfl⟩))
      exact bodyPost_ret (v := .tuple #[.string ⟨#[11]⟩, .int .i64 2]) (by simp [results, Tryz.results190, go_sem]) rfl ⟨by rw [HE.out], Frm.refl _ _⟩
    rcases bool_or ((s[1].toNat : Int) == 10) with h | q10
    · have HE := Lib.hid (escV_chr (l := []) HN.out (by rw [of_beq 10 rfl h]; decide))
      go_enter Tryz.func190, Tryz.ntmps190
      go_wp2_with (go_at_call 230; go_must (refine (HO.out _).mono ?_; rintro e w' ⟨rfl, rfl⟩))
      exact bodyPost_ret (v := .tuple #[.string ⟨#[]⟩, .int .i64 2]) (by simp [results, Tryz.results190, go_sem]) rfl ⟨by rw [HE.out], Frm.refl _ _⟩
    have HE := Lib.hid (escV_chr (l := [92, s[1]]) HN.out (by
      rw [if_neg (by rintro (e | e | e); exact of_bne 34 rfl q0 e; exact of_bne 92 rfl q1 e; exact of_bne 47 rfl q2 e), if_neg (of_bne 97 rfl q3), if_neg (of_bne 98 rfl q4), if_neg (of_bne 102 rfl q5), if_neg (of_bne 110 rfl q6), if_neg (of_bne 114 rfl q7), if_neg (of_bne 116 rfl q8), if_neg (of_bne 118 rfl q9), if_neg (of_bne 10 rfl q10)]))
    go_enter Tryz.func190, Tryz.ntmps190
    go_wp2_with (go_at_call 230; go_must (refine (HO.out _).mono ?_; rintro e w' ⟨rfl, rfl⟩))
    exact bodyPost_ret (v := .tuple #[.string (s.extract 0 2), .int .i64 2]) (by simp [results, Tryz.results190, go_sem]) rfl ⟨by rw [HE.out, HY.out], Frm.refl _ _⟩
end Go.Proofs.YtgbibfhacjjaeaaGreat.lexs

namespace Go.Proofs.YtgbibfhacjjaeaaGreat.lexs
set_option linter.unusedVariables false set_option linter.unusedSimpArgs false
open Go.ChangeShapes Go.WideShapes Go.ChangeAt Go.RowKit Go.Proofs.YtgbibfhacjjaeaaGreat.base

theorem pair_drop : ∀ (k : Nat) (l : List UInt8), Pair l → (∀ x ∈ l.take k, x ≠ 92) → Pair (l.drop k)
  | 0, l, h, _ => by simpa using h
  | k + 1, [], h, _ => by simpa using h
  | k + 1, c :: t, h, hx => by
    have hc : c ≠ 92 := hx c (by simp)
    cases h with
    | one _ _ _ h' => exact pair_drop k t h' (fun x hx' => hx x (by simp [hx']))
    | two d t' h' => exact absurd rfl hc
theorem pair_tl {c : UInt8} {t : List UInt8} (h : Pair (c :: t)) (hc : c ≠ 92) : Pair t := by
  cases h with
  | one _ _ _ h => exact h
  | two d t h => exact absurd rfl hc
theorem oc_o {l : List UInt8} : ∀ x ∈ oc l, x ≠ 92 := by
  intro x hx
  have := List.all_eq_true.1 (List.all_takeWhile (p := isO) (l := l.take 3)) x hx
  intro e
  subst e
  revert this
  decide
theorem oc_take (l : List UInt8) : l.take (oc l).length = oc l ∧ (oc l).length ≤ l.length := by
  have h2 := List.prefix_iff_eq_take.1 (List.takeWhile_prefix (l := l.take 3) isO)
  have h3 := tw_len isO (l.take 3)
  rw [List.length_take] at h3
  have h4 : (oc l).length = ((l.take 3).takeWhile isO).length := rfl
  constructor
  · conv => rhs; unfold oc; rw [h2]
    rw [List.take_take, Nat.min_eq_left (by omega)]
    rfl
  · omega
theorem esc_sz (d : UInt8) (t : List UInt8) : 1 ≤ (esc (d :: t)).2 ∧ (esc (d :: t)).2 ≤ (d :: t).length ∧ (esc (d :: t)).1.length ≤ 1 + (esc (d :: t)).2 := by
  unfold esc
  by_cases h : (oc (d :: t)).length ≠ 0
  · rw [if_pos h]
    have := (oc_take (d :: t)).2
    refine ⟨by simp only; omega, this, by simp⟩
  · rw [if_neg h]
    refine ⟨by simp, by simp, ?_⟩
    simp only
    repeat' split
    all_goals simp
theorem esc_pair (d : UInt8) (t : List UInt8) (h : Pair t) : Pair ((d :: t).drop (esc (d :: t)).2) := by
  by_cases h0 : (oc (d :: t)).length ≠ 0
  · have e : (esc (d :: t)).2 = (oc (d :: t)).length := by unfold esc; rw [if_pos h0]
    rw [e]
    obtain ⟨k, hk⟩ : ∃ k, (oc (d :: t)).length = k + 1 := ⟨(oc (d :: t)).length - 1, by omega⟩
    rw [hk, List.drop_succ_cons]
    refine pair_drop k t h (fun x hx => ?_)
    have := (oc_take (d :: t)).1
    rw [hk, List.take_succ_cons] at this
    exact oc_o x (by rw [← this]; simp [hx])
  · have e : (esc (d :: t)).2 = 1 := by unfold esc; rw [if_neg h0]
    rw [e]
    exact h

theorem mStr_nil : mStr [] = some [] := by rw [mStr.eq_def]
theorem mStr_ten (t : List UInt8) : mStr (10 :: t) = none := by rw [mStr.eq_def]; simp
theorem mStr_one {c : UInt8} {t : List UInt8} (h1 : c ≠ 10) (h2 : c ≠ 92) : mStr (c :: t) = (mStr t).map (fun r => c :: r) := by rw [mStr.eq_def]; simp only; rw [if_neg h1, if_neg h2]
theorem mStr_esc (t : List UInt8) : mStr (92 :: t) = (mStr (t.drop (esc t).2)).map (fun r => (esc t).1 ++ r) := by rw [mStr.eq_def]; simp

/-- What meantByStr answers. -/
def mV (r : Option (List UInt8)) : Value := match r with
  | none => .tuple #[.string ⟨#[]⟩, .bool false]
  | some l => .tuple #[.string ⟨l.toArray⟩, .bool true]
/-- The rest's answer behind what is there. -/
def app (out : List UInt8) (r : Option (List UInt8)) : Option (List UInt8) := r.map (fun x => out ++ x)

theorem info_u8 : (Tryz.prog.info? 5).map (fun i => (i.zero, i.size, i.bytes)) = some (some (.int .u8 0), 1, 1) := by kernel_rfl

set_option maxHeartbeats 2000000 in
set_option maxRecDepth 20000 in
theorem meantByStr_all (s : ByteArray) (w : World) (hs : s.size ≤ 1000000) (hp : Pair s.data.toList) :
    Calls Tryz.prog 136 #[.string s] w fun e w' => e = .returned (mV (mStr s.data.toList)) ∧ Frm No w w' := by
  have HI := Lib.hid info_u8
  have HP := Lib.hid hp
  clear hp
  go_enter Tryz.func136, Tryz.ntmps136
  go_wp2
  go_loopw [4, 5] (fun v iv wr => ∃ (k : Nat) (out : List UInt8), k ≤ s.size ∧ iv = .int .i64 k ∧ Pair (sx s k) ∧ out.length ≤ k ∧ mStr s.data.toList = app out (mStr (sx s k)) ∧ OwnB wr w.heap.size 5 v out ∧ Below w.heap.size w wr) (fun _ iv _ => s.size - (intOf iv).toNat)
  case atStart => exact ⟨0, [], Nat.zero_le _, rfl, HP.out, Nat.le_refl _, by rw [show sx s 0 = s.data.toList from rfl]; cases mStr s.data.toList <;> rfl, OwnB.nil _ _ _, Below.refl _ _⟩
  case round =>
    obtain ⟨k, out, hk, rfl, hpk, hlen, hm, hown, hbel⟩ := hrel
    have hsz := hbel.size
    have HM := Lib.hid hm
    have HPK := Lib.hid hpk
    have HBEL := Lib.hid hbel
    clear hm hpk hbel
    by_cases hlt : k < s.size
    · have HC := Lib.hid (sx_cons s k hlt)
      by_cases e1 : s[k] = 10
      · have HR := Lib.hid (show mStr s.data.toList = none by rw [HM.out, HC.out, e1, mStr_ten]; rfl)
        have b1 : ((s[k].toNat : Int) == 10) = true := beq_yes 10 rfl e1
        clear e1
        go_wp2
        exact bodyPost_ret (v := .tuple #[.string ⟨#[]⟩, .bool false]) (by simp [results, Tryz.results136, go_sem]) rfl ⟨by rw [HR.out]; rfl, Frm.ofBelow HBEL.out (Nat.le_refl _)⟩
      · have b1 : ((s[k].toNat : Int) == 10) = false := beq_no 10 rfl e1
        by_cases e2 : s[k] = 92
        · have b2 : ((s[k].toNat : Int) == 92) = true := beq_yes 92 rfl e2
          obtain ⟨d, t, hd, hpt⟩ : ∃ d t, sx s (k + 1) = d :: t ∧ Pair t := by
            have := HPK.out
            rw [HC.out, e2] at this
            generalize sx s (k + 1) = u at this
            cases this with
            | one _ _ h _ => exact absurd rfl h
            | two d t h => exact ⟨d, t, rfl, h⟩
          have hk1 : k + 1 < s.size := sx_lt hd
          have hx : (s.extract k s.size).data.toList = 92 :: d :: t := by rw [extract_drop]; show sx s k = _; rw [HC.out, e2, hd]
          have HE := Lib.hid (fun w => escape_all (s.extract k s.size) w (by simp [ByteArray.size_extract]; omega) (by simp [ByteArray.size_extract]; omega) (by rw [hx]; rfl))
          rw [hx, List.tail_cons] at HE
          unfold escV at HE
          obtain ⟨g1, g2, g3⟩ := esc_sz d t
          have g4 := esc_pair d t hpt
          have HG := Lib.hid (show mStr s.data.toList = app (out ++ (esc (d :: t)).1) (mStr ((d :: t).drop (esc (d :: t)).2)) by
            rw [HM.out, HC.out, e2, hd, mStr_esc]
            unfold app
            cases mStr ((d :: t).drop (esc (d :: t)).2) with
            | none => rfl
            | some r => simp)
          have hdl : (d :: t).length = s.size - (k + 1) := by rw [← hd, sx_len]
          generalize hG : (esc (d :: t)).2 = G at *
          generalize hO : (esc (d :: t)).1 = O at *
          have HS := Lib.hid (show sx s (k + (1 + G)) = (d :: t).drop G by rw [← hd]; unfold sx; rw [List.drop_drop]; congr 1; omega)
          have H4 := Lib.hid g4
          have HOW := Lib.hid hown
          have hol : out.length + O.length ≤ k + 1 + G := by omega
          clear e1 e2 hx hd hpt hG hO g4 hown
          go_wp2_with (first | (go_at_call 190; go_must (refine (HE.out _).mono ?_; rintro e w2 ⟨rfl, hf⟩; have hb2 := hf.below (Nat.le_refl _) (fun _ _ h => h); have HF2 := Lib.hid hf; have HOW2 := Lib.hid (HOW.out.below hb2); have hsz2 := hf.size; clear hb2 hf)) | (at_builtin; refine wpList_appS _ rfl _ _ 101 9 rfl w.heap.size 5 Tryz.underlying101 Tryz.underlying9 HI.out _ _ rfl HOW2.out _ O rfl rfl (by omega) (by omega) ?_; intro v' w1 hown' hb1))
          go_roundw
          case rel => exact ⟨k + (1 + G), out ++ O, by omega, by go_num, by rw [HS.out]; exact H4.out, by rw [List.length_append]; omega, by rw [HG.out, HS.out], hown', (HBEL.out.trans (HF2.out.below hsz (fun _ _ h => h))).trans hb1⟩
          case measure => simp [intOf]; omega
        · have b2 : ((s[k].toNat : Int) == 92) = false := beq_no 92 rfl e2
          have HX := Lib.hid (show mStr s.data.toList = app (out ++ [s[k]]) (mStr (sx s (k + 1))) by
            rw [HM.out, HC.out, mStr_one e1 e2]
            unfold app
            cases mStr (sx s (k + 1)) with
            | none => rfl
            | some r => simp)
          have HPN := Lib.hid (show Pair (sx s (k + 1)) by
            have := HPK.out
            rw [HC.out] at this
            exact pair_tl this e2)
          clear e1 e2
          go_wp2_with (at_builtin; refine wpList_app1 _ rfl _ _ 101 rfl w.heap.size 5 Tryz.underlying101 HI.out _ _ rfl hown _ rfl s[k] rfl (by omega) (by omega) ?_; intro v' w1 hown' hb1)
          go_roundw
          case rel => exact ⟨k + 1, out ++ [s[k]], by omega, by go_num, HPN.out, by rw [List.length_append]; simp; omega, HX.out, hown', HBEL.out.trans hb1⟩
          case measure => simp [intOf]; omega
    · obtain rfl : k = s.size := by omega
      have hcv := hown.str (P := Tryz.prog) 101 9 Tryz.underlying101 Tryz.underlying5 Tryz.underlying9
      have HR := Lib.hid (show mStr s.data.toList = some out by rw [HM.out, sx_nil s _ (Nat.le_refl _), mStr_nil]; simp [app])
      go_wp2
      exact bodyPost_ret (v := .tuple #[.string ⟨out.toArray⟩, .bool true]) (by simp [results, Tryz.results136, go_sem]) rfl ⟨by rw [HR.out]; rfl, Frm.ofBelow HBEL.out (Nat.le_refl _)⟩

theorem mEre_one {c : UInt8} {t : List UInt8} (h : c ≠ 92) : mEre (c :: t) = c :: mEre t := by
  cases t <;> rw [mEre.eq_def] <;> simp [h]
theorem mEre_two (d : UInt8) (t : List UInt8) : mEre (92 :: d :: t) = if d = 47 then d :: mEre t else 92 :: d :: mEre t := by rw [mEre.eq_def]; simp

set_option maxHeartbeats 2000000 in
set_option maxRecDepth 20000 in
theorem meantByEre_all (s : ByteArray) (w : World) (hs : s.size ≤ 1000000) (hp : Pair s.data.toList) :
    Calls Tryz.prog 138 #[.string s] w fun e w' => e = .returned (.string ⟨(mEre s.data.toList).toArray⟩) ∧ Frm No w w' := by
  have HI := Lib.hid info_u8
  have HP := Lib.hid hp
  clear hp
  go_enter Tryz.func138, Tryz.ntmps138
  go_wp2
  go_loopw [3, 4] (fun v iv wr => ∃ (k : Nat) (out : List UInt8), k ≤ s.size ∧ iv = .int .i64 k ∧ Pair (sx s k) ∧ out.length ≤ k ∧ mEre s.data.toList = out ++ mEre (sx s k) ∧ OwnB wr w.heap.size 5 v out ∧ Below w.heap.size w wr) (fun _ iv _ => s.size - (intOf iv).toNat)
  case atStart => exact ⟨0, [], Nat.zero_le _, rfl, HP.out, Nat.le_refl _, rfl, OwnB.nil _ _ _, Below.refl _ _⟩
  case round =>
    obtain ⟨k, out, hk, rfl, hpk, hlen, hm, hown, hbel⟩ := hrel
    have hsz := hbel.size
    have HM := Lib.hid hm
    have HPK := Lib.hid hpk
    have HBEL := Lib.hid hbel
    have HOW := Lib.hid hown
    clear hm hpk hbel hown
    by_cases hlt : k < s.size
    · have HC := Lib.hid (sx_cons s k hlt)
      by_cases e2 : s[k] = 92
      · have b2 : ((s[k].toNat : Int) == 92) = true := beq_yes 92 rfl e2
        obtain ⟨d, t, hd, hpt⟩ : ∃ d t, sx s (k + 1) = d :: t ∧ Pair t := by
          have := HPK.out
          rw [HC.out, e2] at this
          generalize sx s (k + 1) = u at this
          cases this with
          | one _ _ h _ => exact absurd rfl h
          | two d t h => exact ⟨d, t, rfl, h⟩
        have hk1 : k + 1 < s.size := sx_lt hd
        have hsd : s[k + 1] = d := sx_hd hd
        have HT := Lib.hid (show Pair (sx s (k + 2)) by rw [sx_tl hd]; exact hpt)
        by_cases e3 : s[k + 1] = 47
        · have HX := Lib.hid (show mEre s.data.toList = (out ++ [s[k + 1]]) ++ mEre (sx s (k + 2)) by
            rw [HM.out, HC.out, e2, hd, mEre_two, if_pos (hsd.symm.trans e3), ← hsd, sx_tl hd]; simp)
          have b3 : ((s[k + 1].toNat : Int) == 47) = true := beq_yes 47 rfl e3
          clear e2 e3 hd hpt hsd
          go_wp2_with (at_builtin; refine wpList_app1 _ rfl _ _ 101 rfl w.heap.size 5 Tryz.underlying101 HI.out _ _ rfl HOW.out _ rfl s[k + 1] rfl (by omega) (by omega) ?_; intro v' w1 hown' hb1)
          go_roundw
          case rel => exact ⟨k + 2, out ++ [s[k + 1]], by omega, by go_num, HT.out, by rw [List.length_append]; simp; omega, HX.out, hown', HBEL.out.trans hb1⟩
          case measure => simp [intOf]; omega
        · have HX := Lib.hid (show mEre s.data.toList = ((out ++ [92]) ++ [s[k + 1]]) ++ mEre (sx s (k + 2)) by
            rw [HM.out, HC.out, e2, hd, mEre_two, if_neg (fun e => e3 (hsd.trans e)), ← hsd, sx_tl hd]; simp)
          have b3 : ((s[k + 1].toNat : Int) == 47) = false := beq_no 47 rfl e3
          clear e2 e3 hd hpt hsd
          go_wp2_with (first | (at_builtin; refine wpList_app1 _ rfl _ _ 101 rfl w.heap.size 5 Tryz.underlying101 HI.out _ _ rfl HOW.out _ rfl 92 rfl (by omega) (by omega) ?_; intro v' w1 hown' hb1; have HOW1 := Lib.hid hown'; have HB1 := Lib.hid hb1; have hsz1 := hb1.size; clear hown' hb1) | (at_builtin; refine wpList_app1 _ rfl _ _ 101 rfl w.heap.size 5 Tryz.underlying101 HI.out _ _ rfl HOW1.out _ rfl s[k + 1] rfl (by simp; omega) (by omega) ?_; intro v'' w2 hown'' hb2))
          go_roundw
          case rel => exact ⟨k + 2, (out ++ [92]) ++ [s[k + 1]], by omega, by go_num, HT.out, by simp; omega, HX.out, hown'', (HBEL.out.trans HB1.out).trans hb2⟩
          case measure => simp [intOf]; omega
      · have b2 : ((s[k].toNat : Int) == 92) = false := beq_no 92 rfl e2
        have HX := Lib.hid (show mEre s.data.toList = (out ++ [s[k]]) ++ mEre (sx s (k + 1)) by
          rw [HM.out, HC.out, mEre_one e2]; simp)
        have HPN := Lib.hid (show Pair (sx s (k + 1)) by
          have := HPK.out
          rw [HC.out] at this
          exact pair_tl this e2)
        clear e2
        go_wp2_with (at_builtin; refine wpList_app1 _ rfl _ _ 101 rfl w.heap.size 5 Tryz.underlying101 HI.out _ _ rfl HOW.out _ rfl s[k] rfl (by omega) (by omega) ?_; intro v' w1 hown' hb1)
        go_roundw
        case rel => exact ⟨k + 1, out ++ [s[k]], by omega, by go_num, HPN.out, by rw [List.length_append]; simp; omega, HX.out, hown', HBEL.out.trans hb1⟩
        case measure => simp [intOf]; omega
    · obtain rfl : k = s.size := by omega
      have hcv := HOW.out.str (P := Tryz.prog) 101 9 Tryz.underlying101 Tryz.underlying5 Tryz.underlying9
      have HR := Lib.hid (show mEre s.data.toList = out by rw [HM.out, sx_nil s _ (Nat.le_refl _)]; simp [mEre])
      go_wp2
      go_ret
      exact ⟨by rw [HR.out]; rfl, Frm.ofBelow HBEL.out (Nat.le_refl _)⟩
end Go.Proofs.YtgbibfhacjjaeaaGreat.lexs
