/- Contracts of lex's quoted, octal. -/
import Derived.Test.YteaibkbdoocifaaDoorLexG
namespace Go.Proofs.YteaibkbdoocifaaDoor.lexs
set_option linter.unusedVariables false set_option linter.unusedSimpArgs false
open Go.ChangeShapes Go.WideShapes Go.ChangeAt Go.RowKit Go.Proofs.YteaibkbdoocifaaDoor.base

/-- A text behind a first byte: how many bytes a quoted text takes. -/
def qtV (s : ByteArray) (q : UInt8) (i : Nat) : Option Nat := (qt q (sx s i)).map (fun r => i + r.length)
theorem qt_take (q : UInt8) (l r : List UInt8) (h : qt q l = some r) : l.take r.length = r :=
  qt_ind (M := fun l r => l.take r.length = r) (fun _ => rfl) (fun c t r _ _ _ ih => by rw [List.length_cons, List.take_succ_cons, ih]) (fun d t r _ _ ih => by rw [List.length_cons, List.length_cons, List.take_succ_cons, List.take_succ_cons, ih]) l.length l r (Nat.le_refl _) h

theorem qtV_end {s : ByteArray} {q : UInt8} {i : Nat} (h : s.size ≤ i) : qtV s q i = none := by
  unfold qtV; rw [sx_nil s i h]; rfl
theorem qtV_hit {s : ByteArray} {q : UInt8} {i : Nat} (h : i < s.size) (hq : s[i] = q) : qtV s q i = some i := by
  unfold qtV; rw [sx_cons s i h, qt_cons, if_pos hq]; rfl
theorem qtV_one {s : ByteArray} {q : UInt8} {i : Nat} (h : i < s.size) (hq : s[i] ≠ q) (hb : s[i] ≠ 92) : qtV s q i = qtV s q (i + 1) := by
  unfold qtV; rw [sx_cons s i h, qt_cons, if_neg hq, if_neg hb]
  cases qt q (sx s (i + 1)) with
  | none => rfl
  | some r => simp; omega
theorem qtV_two {s : ByteArray} {q : UInt8} {i : Nat} (h : i < s.size) (hq : s[i] ≠ q) (hb : s[i] = 92) : qtV s q i = qtV s q (i + 2) := by
  unfold qtV; rw [sx_cons s i h, qt_cons, if_neg hq, if_pos hb]
  by_cases h2 : i + 1 < s.size
  · rw [sx_cons s (i + 1) h2]
    simp only
    cases qt q (sx s (i + 1 + 1)) with
    | none => rfl
    | some r => simp; omega
  · rw [sx_nil s (i + 1) (by omega), sx_nil s (i + 2) (by omega)]; rfl
theorem beq_no {a : UInt8} {n : Nat} (k : UInt8) (hk : k.toNat = n) (h : a ≠ k) : ((a.toNat : Int) == (n : Int)) = false := by
  rw [beq_eq_false_iff_ne]; intro e; exact h (UInt8.toNat_inj.1 (by omega))
theorem beq_yes {a : UInt8} {n : Nat} (k : UInt8) (hk : k.toNat = n) (h : a = k) : ((a.toNat : Int) == (n : Int)) = true := by
  subst h; simp [hk]

/-- What quoted answers. -/
def quoV (s : ByteArray) : Value := match qt (s.data.toList.headD 0) s.data.toList.tail with
  | none => .tuple #[.string ⟨#[]⟩, .bool false]
  | some r => .tuple #[.string ⟨r.toArray⟩, .bool true]
theorem quoV_no {s : ByteArray} (h0 : 0 < s.size) (h : qtV s s[0] 1 = none) : quoV s = .tuple #[.string ⟨#[]⟩, .bool false] := by
  have hc : s.data.toList = s[0] :: sx s 1 := by have := sx_cons s 0 h0; rw [← this]; rfl
  unfold quoV
  rw [hc, List.headD_cons, List.tail_cons]
  unfold qtV at h
  cases hq : qt s[0] (sx s 1) with
  | none => rfl
  | some r => rw [hq] at h; cases h
theorem quoV_yes {s : ByteArray} {k : Nat} (h0 : 0 < s.size) (h : qtV s s[0] 1 = some k) : quoV s = .tuple #[.string (s.extract 1 k), .bool true] := by
  have hc : s.data.toList = s[0] :: sx s 1 := by have := sx_cons s 0 h0; rw [← this]; rfl
  unfold quoV
  rw [hc, List.headD_cons, List.tail_cons]
  unfold qtV at h
  cases hq : qt s[0] (sx s 1) with
  | none => rw [hq] at h; cases h
  | some r =>
    rw [hq] at h
    simp only [Option.map_some, Option.some.injEq] at h
    subst h
    simp only
    rw [extract_list, hc]
    have := qt_take _ _ _ hq
    rw [show 1 + r.length = r.length + 1 by omega, List.take_succ_cons, this]
    rfl

set_option maxHeartbeats 1000000 in
theorem quoted_all (s : ByteArray) (w : World) (hs : s.size ≤ 1000000) (h0 : 0 < s.size) :
    Calls Tryd.prog 83 #[.string s] w fun e w' => e = .returned (quoV s) ∧ w' = w := by
  go_enter Tryd.func83, Tryd.ntmps83
  go_wp2
  go_loop [4] (fun iv => ∃ k : Nat, 1 ≤ k ∧ k ≤ s.size + 1 ∧ iv = .int .i64 k ∧ qtV s s[0] 1 = qtV s s[0] k) (fun iv => s.size + 2 - (intOf iv).toNat)
  case atStart => exact ⟨1, Nat.le_refl _, by omega, rfl, rfl⟩
  case round =>
    obtain ⟨k, hk1, hk, rfl, hq⟩ := hrel
    have HQ := Lib.hid hq
    clear hq
    by_cases hlt : k < s.size
    · by_cases e1 : s[k] = s[0]
      · have HR := Lib.hid (quoV_yes h0 (HQ.out.trans (qtV_hit hlt e1)))
        have b1 : ((s[k].toNat : Int) == (s[0].toNat : Int)) = true := beq_yes s[0] rfl e1
        clear e1 HQ
        go_wp2
        exact bodyPost_ret (v := .tuple #[.string (s.extract 1 k), .bool true]) (by simp [results, Tryd.results83, go_sem]) rfl ⟨by rw [HR.out], rfl⟩
      · have b1 : ((s[k].toNat : Int) == (s[0].toNat : Int)) = false := beq_no s[0] rfl e1
        by_cases e2 : s[k] = 92
        · have HX := Lib.hid (HQ.out.trans (qtV_two hlt e1 e2))
          have b2 : ((s[k].toNat : Int) == 92) = true := beq_yes 92 rfl e2
          clear e1 e2 HQ
          go_wp2
          go_round
          case rel => exact ⟨k + 2, by omega, by omega, by go_num, HX.out⟩
          case measure => simp [intOf]; omega
        · have HX := Lib.hid (HQ.out.trans (qtV_one hlt e1 e2))
          have b2 : ((s[k].toNat : Int) == 92) = false := beq_no 92 rfl e2
          clear e1 e2 HQ
          go_wp2
          go_round
          case rel => exact ⟨k + 1, by omega, by omega, by go_num, HX.out⟩
          case measure => simp [intOf]; omega
    · have HR := Lib.hid (quoV_no h0 (HQ.out.trans (qtV_end (by omega))))
      clear HQ
      go_wp2
      exact bodyPost_ret (v := .tuple #[.string ⟨#[]⟩, .bool false]) (by simp [results, Tryd.results83, go_sem]) rfl ⟨by rw [HR.out], rfl⟩

theorem oc_at (s : ByteArray) (k : Nat) (h3 : k ≤ 3) (hk : k ≤ s.size) (h : ∀ i (hi : i < s.size), i < k → isO s[i] = true) (he : k < 3 → ∀ hi : k < s.size, isO s[k] = false) : oc s.data.toList = s.data.toList.take k := by
  have hl : (s.data.toList.take 3).length = min 3 s.size := by simp
  have h1 : ((s.data.toList.take 3).takeWhile isO).length = k := by
    refine tw_at isO _ k (fun i hi hik => ?_) (by omega) (fun hi => ?_)
    · have := h i (by omega) hik
      simp only [List.getElem_take]
      exact this
    · have := he (by omega) (by omega)
      simp only [List.getElem_take]
      exact this
  have h2 := List.prefix_iff_eq_take.1 (List.takeWhile_prefix (l := s.data.toList.take 3) isO)
  unfold oc
  rw [h2, h1, List.take_take, Nat.min_eq_left h3]
theorem ocV_snoc (s : ByteArray) (k : Nat) (h : k < s.size) : ocV (s.data.toList.take (k + 1)) = ocV (s.data.toList.take k) * 8 + (s[k] - 48) := by
  rw [take_snoc s k h]
  unfold ocV
  rw [List.foldl_append]
  rfl
theorem oct_num (n c : UInt8) : ((n.toNat : Int) * 8 % 256 + ((c.toNat : Int) - 48) % 256) % 256 = ((n * 8 + (c - 48)).toNat : Int) := by
  have h2 : ((c.toNat : Int) - 48) % 256 = ((c - 48).toNat : Int) := by
    have h : ∀ n : Fin 256, ((n.val : Int) - 48) % 256 = ((UInt8.ofNat n.val - 48).toNat : Int) := by decide +kernel
    have := h ⟨c.toNat, c.toNat_lt⟩
    simpa using this
  have h1 : (n.toNat : Int) * 8 % 256 = ((n * 8).toNat : Int) := by
    have h : ∀ n : Fin 256, (n.val : Int) * 8 % 256 = ((UInt8.ofNat n.val * 8).toNat : Int) := by decide +kernel
    have := h ⟨n.toNat, n.toNat_lt⟩
    simp only [UInt8.ofNat_toNat] at this
    exact this
  rw [h1, h2, UInt8.toNat_add]
  omega

set_option maxHeartbeats 1000000 in
theorem octal_all (s : ByteArray) (w : World) (hs : s.size ≤ 1000000) :
    Calls Tryd.prog 92 #[.string s] w fun e w' => e = .returned (.tuple #[.int .u8 ((ocV (oc s.data.toList)).toNat : Int), .int .i64 ((oc s.data.toList).length : Int)]) ∧ w' = w := by
  obtain ⟨m, hm⟩ : ∃ m : Nat, min (3 : Int) (s.size : Int) = (m : Int) := ⟨min 3 s.size, by omega⟩
  have hm3 : m ≤ 3 := by omega
  have hms : m ≤ s.size := by omega
  have hmm : m < 3 → m = s.size := by omega
  have HMM := Lib.hid hmm
  clear hmm
  go_enter Tryd.func92, Tryd.ntmps92
  go_wp2
  go_loop [4, 5] (fun nv iv => ∃ k : Nat, k ≤ m ∧ iv = .int .i64 k ∧ nv = .int .u8 ((ocV (s.data.toList.take k)).toNat : Int) ∧ ∀ i (hi : i < s.size), i < k → isO s[i] = true) (fun nv iv => m - (intOf iv).toNat)
  case atStart => exact ⟨0, Nat.zero_le _, rfl, rfl, fun i _ h => by omega⟩
  case round =>
    obtain ⟨k, hk, rfl, rfl, hall⟩ := hrel
    have HALL := Lib.hid hall
    clear hall
    have hfin : ∀ v : Value, (k < 3 → ∀ hi : k < s.size, isO s[k] = false) → (Value.tuple #[.int .u8 ((ocV (s.data.toList.take k)).toNat : Int), .int .i64 (k : Int)] = .tuple #[.int .u8 ((ocV (oc s.data.toList)).toNat : Int), .int .i64 ((oc s.data.toList).length : Int)]) := by
      intro _ h
      have := oc_at s k (by omega) (by omega) HALL.out h
      rw [this, List.length_take, len_list, Nat.min_eq_left (by omega)]
    have HFIN := Lib.hid hfin
    clear hfin
    by_cases hlt : k < m
    · have hks : k < s.size := by omega
      have HB := Lib.hid (isO_int s[k])
      by_cases h1 : 48 ≤ (s[k].toNat : Int)
      · by_cases h2 : (s[k].toNat : Int) ≤ 55
        · have HX := Lib.hid (show ∀ i (hi : i < s.size), i < k + 1 → isO s[i] = true by
            intro i hi hik
            by_cases e : i = k
            · subst e; rw [HB.out]; exact decide_eq_true ⟨h1, h2⟩
            · exact HALL.out i hi (by omega))
          have HN := Lib.hid (oct_num (ocV (s.data.toList.take k)) s[k])
          have HO := Lib.hid (ocV_snoc s k hks)
          go_wp2
          go_round
          case rel => exact ⟨k + 1, by omega, by go_num, by rw [HO.out, ← HN.out]; congr 1; omega, HX.out⟩
          case measure => simp [intOf]; omega
        · have h3 : 55 < (s[k].toNat : Int) := by omega
          have HE := Lib.hid (HFIN.out undef (fun _ _ => by rw [HB.out]; exact decide_eq_false (by omega)))
          clear h2
          go_wp2
          exact bodyPost_ret (v := .tuple #[.int .u8 ((ocV (s.data.toList.take k)).toNat : Int), .int .i64 (k : Int)]) (by simp [results, Tryd.results92, go_sem]) rfl ⟨by rw [HE.out], rfl⟩
      · have h3 : (s[k].toNat : Int) < 48 := by omega
        have HE := Lib.hid (HFIN.out undef (fun _ _ => by rw [HB.out]; exact decide_eq_false (by omega)))
        clear h1
        go_wp2
        exact bodyPost_ret (v := .tuple #[.int .u8 ((ocV (s.data.toList.take k)).toNat : Int), .int .i64 (k : Int)]) (by simp [results, Tryd.results92, go_sem]) rfl ⟨by rw [HE.out], rfl⟩
    · have HE := Lib.hid (HFIN.out undef (fun h3 hi => by have := HMM.out; omega))
      go_wp2
      exact bodyPost_ret (v := .tuple #[.int .u8 ((ocV (s.data.toList.take k)).toNat : Int), .int .i64 (k : Int)]) (by simp [results, Tryd.results92, go_sem]) rfl ⟨by rw [HE.out], rfl⟩
end Go.Proofs.YteaibkbdoocifaaDoor.lexs
