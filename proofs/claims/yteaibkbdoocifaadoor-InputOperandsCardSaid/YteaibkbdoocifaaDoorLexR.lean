/- Contract of lex's escape. -/
import Derived.Test.YteaibkbdoocifaaDoorLexQ
namespace Go.Proofs.YteaibkbdoocifaaDoor.lexs
set_option linter.unusedVariables false set_option linter.unusedSimpArgs false
open Go.ChangeShapes Go.WideShapes Go.ChangeAt Go.RowKit Go.Proofs.YteaibkbdoocifaaDoor.base

/-- What escape answers. -/
def escV (t : List UInt8) : Value := .tuple #[.string ⟨(esc t).1.toArray⟩, .int .i64 ((1 + (esc t).2 : Nat) : Int)]
theorem escV_oct {t : List UInt8} (h : (oc t).length ≠ 0) : escV t = .tuple #[.string ⟨#[ocV (oc t)]⟩, .int .i64 ((1 + (oc t).length : Nat) : Int)] := by
  unfold escV esc; rw [if_pos h]
theorem escV_chr {d : UInt8} {t l : List UInt8} (h : ¬ (oc (d :: t)).length ≠ 0) (hl : (if d = 34 ∨ d = 92 ∨ d = 47 then [d] else if d = 97 then [7] else if d = 98 then [8] else if d = 102 then [12] else if d = 110 then [10] else if d = 114 then [13] else if d = 116 then [9] else if d = 118 then [11] else if d = 10 then [] else [92, d]) = l) : escV (d :: t) = .tuple #[.string ⟨l.toArray⟩, .int .i64 2] := by
  unfold escV esc; rw [if_neg h, ← hl]; rfl
theorem of_beq {a : UInt8} {n : Nat} (k : UInt8) (hk : k.toNat = n) (h : ((a.toNat : Int) == (n : Int)) = true) : a = k := by
  apply UInt8.toNat_inj.1; have := eq_of_beq h; omega
theorem of_bne {a : UInt8} {n : Nat} (k : UInt8) (hk : k.toNat = n) (h : ((a.toNat : Int) == (n : Int)) = false) : a ≠ k := by
  intro e; subst e; rw [hk] at h; simp at h

set_option maxHeartbeats 2000000 in
theorem escape_all (s : ByteArray) (w : World) (hs : s.size ≤ 1000000) (h1 : 1 < s.size) (hb : s.data.toList.head? = some 92) :
    Calls Tryd.prog 91 #[.string s] w fun e w' => e = .returned (escV s.data.toList.tail) ∧ Frm No w w' := by
  have hc : s.data.toList = s[0] :: s[1] :: sx s 2 := by
    have e1 := sx_cons s 0 (by omega)
    have e2 := sx_cons s 1 h1
    rw [show sx s 0 = s.data.toList from rfl] at e1
    rw [e1, e2]
  have hs0 : s[0] = 92 := by rw [hc] at hb; simpa using hb
  have ht : s.data.toList.tail = s[1] :: sx s 2 := by rw [hc]; rfl
  have hd1 : (s.extract 1 s.size).data.toList = s[1] :: sx s 2 := by rw [extract_drop, List.drop_one, ht]
  have HO := Lib.hid (fun w => octal_all (s.extract 1 s.size) w (by simp [ByteArray.size_extract]; omega))
  rw [hd1] at HO
  rw [ht]
  have HX := Lib.hid (show s.extract 1 2 = ⟨#[s[1]]⟩ by rw [extract_list, hc]; rfl)
  have HY := Lib.hid (show s.extract 0 2 = ⟨#[92, s[1]]⟩ by rw [extract_list, hc, hs0]; rfl)
  have hq : (2 : Int) ≤ s.size := by omega
  clear hc hb hs0 ht hd1
  by_cases h : (oc (s[1] :: sx s 2)).length ≠ 0
  · have HE := Lib.hid (escV_oct h)
    have hp : (0 : Int) < ((oc (s[1] :: sx s 2)).length : Int) := by omega
    have hp2 : ((oc (s[1] :: sx s 2)).length : Int) ≤ 3 := by
      have := tw_len isO ((s[1] :: sx s 2).take 3)
      rw [List.length_take] at this
      unfold oc
      omega
    generalize (oc (s[1] :: sx s 2)).length = G at *
    generalize ocV (oc (s[1] :: sx s 2)) = V at *
    have hcv := fun w => str_lit (P := Tryd.prog) w #[.int .u8 (V.toNat : Int)] [V] rfl 1 rfl 30 9 5 Tryd.underlying30 Tryd.underlying5 Tryd.underlying9
    go_enter Tryd.func91, Tryd.ntmps91
    go_wp2_with (go_at_call 92; go_must (refine (HO.out _).mono ?_; rintro e w' ⟨rfl, rfl⟩))
    exact bodyPost_ret (v := .tuple #[.string ⟨#[V]⟩, .int .i64 (1 + (G : Int))]) (by simp [results, Tryd.results91, go_sem]) rfl ⟨by rw [HE.out]; rfl, (Frm.refl _ _).alloc _⟩
  · have hz : (oc (s[1] :: sx s 2)) = [] := List.eq_nil_of_length_eq_zero (by omega)
    rw [hz] at HO
    have HN := Lib.hid h
    clear h hz
    rcases bool_or ((s[1].toNat : Int) == 34) with h | q0
    · have HE := Lib.hid (escV_chr (l := [34]) HN.out (by rw [of_beq 34 rfl h]; decide))
      have HZ := Lib.hid (show s.extract 1 2 = ⟨#[34]⟩ by rw [HX.out, of_beq 34 rfl h])
      go_enter Tryd.func91, Tryd.ntmps91
      go_wp2_with (go_at_call 92; go_must (refine (HO.out _).mono ?_; rintro e w' ⟨rfl, rfl⟩))
      exact bodyPost_ret (v := .tuple #[.string (s.extract 1 2), .int .i64 2]) (by simp [results, Tryd.results91, go_sem]) rfl ⟨by rw [HE.out, HZ.out], Frm.refl _ _⟩
    rcases bool_or ((s[1].toNat : Int) == 92) with h | q1
    · have HE := Lib.hid (escV_chr (l := [92]) HN.out (by rw [of_beq 92 rfl h]; decide))
      have HZ := Lib.hid (show s.extract 1 2 = ⟨#[92]⟩ by rw [HX.out, of_beq 92 rfl h])
      go_enter Tryd.func91, Tryd.ntmps91
      go_wp2_with (go_at_call 92; go_must (refine (HO.out _).mono ?_; rintro e w' ⟨rfl, rfl⟩))
      exact bodyPost_ret (v := .tuple #[.string (s.extract 1 2), .int .i64 2]) (by simp [results, Tryd.results91, go_sem]) rfl ⟨by rw [HE.out, HZ.out], Frm.refl _ _⟩
    rcases bool_or ((s[1].toNat : Int) == 47) with h | q2
    · have HE := Lib.hid (escV_chr (l := [47]) HN.out (by rw [of_beq 47 rfl h]; decide))
      have HZ := Lib.hid (show s.extract 1 2 = ⟨#[47]⟩ by rw [HX.out, of_beq 47 rfl h])
      go_enter Tryd.func91, Tryd.ntmps91
      go_wp2_with (go_at_call 92; go_must (refine (HO.out _).mono ?_; rintro e w' ⟨rfl, rfl⟩))
      exact bodyPost_ret (v := .tuple #[.string (s.extract 1 2), .int .i64 2]) (by simp [results, Tryd.results91, go_sem]) rfl ⟨by rw [HE.out, HZ.out], Frm.refl _ _⟩
    rcases bool_or ((s[1].toNat : Int) == 97) with h | q3
    · have HE := Lib.hid (escV_chr (l := [7]) HN.out (by rw [of_beq 97 rfl h]; decide))
      go_enter Tryd.func91, Tryd.ntmps91
      go_wp2_with (go_at_call 92; go_must (refine (HO.out _).mono ?_; rintro e w' ⟨rfl, rfl⟩))
      exact bodyPost_ret (v := .tuple #[.string ⟨#[7]⟩, .int .i64 2]) (by simp [results, Tryd.results91, go_sem]) rfl ⟨by rw [HE.out], Frm.refl _ _⟩
    rcases bool_or ((s[1].toNat : Int) == 98) with h | q4
    · have HE := Lib.hid (escV_chr (l := [8]) HN.out (by rw [of_beq 98 rfl h]; decide))
      go_enter Tryd.func91, Tryd.ntmps91
      go_wp2_with (go_at_call 92; go_must (refine (HO.out _).mono ?_; rintro e w' ⟨rfl, rfl⟩))
      exact bodyPost_ret (v := .tuple #[.string ⟨#[8]⟩, .int .i64 2]) (by simp [results, Tryd.results91, go_sem]) rfl ⟨by rw [HE.out], Frm.refl _ _⟩
    rcases bool_or ((s[1].toNat : Int) == 102) with h | q5
    · have HE := Lib.hid (escV_chr (l := [12]) HN.out (by rw [of_beq 102 rfl h]; decide))
      go_enter Tryd.func91, Tryd.ntmps91
      go_wp2_with (go_at_call 92; go_must (refine (HO.out _).mono ?_; rintro e w' ⟨rfl, rfl⟩))
      exact bodyPost_ret (v := .tuple #[.string ⟨#[12]⟩, .int .i64 2]) (by simp [results, Tryd.results91, go_sem]) rfl ⟨by rw [HE.out], Frm.refl _ _⟩
    rcases bool_or ((s[1].toNat : Int) == 110) with h | q6
    · have HE := Lib.hid (escV_chr (l := [10]) HN.out (by rw [of_beq 110 rfl h]; decide))
      go_enter Tryd.func91, Tryd.ntmps91
      go_wp2_with (go_at_call 92; go_must (refine (HO.out _).mono ?_; rintro e w' ⟨rfl, rfl⟩))
      exact bodyPost_ret (v := .tuple #[.string ⟨#[10]⟩, .int .i64 2]) (by simp [results, Tryd.results91, go_sem]) rfl ⟨by rw [HE.out], Frm.refl _ _⟩
    rcases bool_or ((s[1].toNat : Int) == 114) with h | q7
    · have HE := Lib.hid (escV_chr (l := [13]) HN.out (by rw [of_beq 114 rfl h]; decide))
      go_enter Tryd.func91, Tryd.ntmps91
      go_wp2_with (go_at_call 92; go_must (refine (HO.out _).mono ?_; rintro e w' ⟨rfl, rfl⟩))
      exact bodyPost_ret (v := .tuple #[.string ⟨#[13]⟩, .int .i64 2]) (by simp [results, Tryd.results91, go_sem]) rfl ⟨by rw [HE.out], Frm.refl _ _⟩
    rcases bool_or ((s[1].toNat : Int) == 116) with h | q8
    · have HE := Lib.hid (escV_chr (l := [9]) HN.out (by rw [of_beq 116 rfl h]; decide))
      go_enter Tryd.func91, Tryd.ntmps91
      go_wp2_with (go_at_call 92; go_must (refine (HO.out _).mono ?_; rintro e w' ⟨rfl, rfl⟩))
      exact bodyPost_ret (v := .tuple #[.string ⟨#[9]⟩, .int .i64 2]) (by simp [results, Tryd.results91, go_sem]) rfl ⟨by rw [HE.out], Frm.refl _ _⟩
    rcases bool_or ((s[1].toNat : Int) == 118) with h | q9
    · have HE := Lib.hid (escV_chr (l := [11]) HN.out (by rw [of_beq 118 rfl h]; decide))
      go_enter Tryd.func91, Tryd.ntmps91
      go_wp2_with (go_at_call 92; go_must (refine (HO.out _).mono ?_; rintro e w' ⟨rfl, rfl⟩))
      exact bodyPost_ret (v := .tuple #[.string ⟨#[11]⟩, .int .i64 2]) (by simp [results, Tryd.results91, go_sem]) rfl ⟨by rw [HE.out], Frm.refl _ _⟩
    rcases bool_or ((s[1].toNat : Int) == 10) with h | q10
    · have HE := Lib.hid (escV_chr (l := []) HN.out (by rw [of_beq 10 rfl h]; decide))
      go_enter Tryd.func91, Tryd.ntmps91
      go_wp2_with (go_at_call 92; go_must (refine (HO.out _).mono ?_; rintro e w' ⟨rfl, rfl⟩))
      exact bodyPost_ret (v := .tuple #[.string ⟨#[]⟩, .int .i64 2]) (by simp [results, Tryd.results91, go_sem]) rfl ⟨by rw [HE.out], Frm.refl _ _⟩
    have HE := Lib.hid (escV_chr (l := [92, s[1]]) HN.out (by
      rw [if_neg (by rintro (e | e | e); exact of_bne 34 rfl q0 e; exact of_bne 92 rfl q1 e; exact of_bne 47 rfl q2 e), if_neg (of_bne 97 rfl q3), if_neg (of_bne 98 rfl q4), if_neg (of_bne 102 rfl q5), if_neg (of_bne 110 rfl q6), if_neg (of_bne 114 rfl q7), if_neg (of_bne 116 rfl q8), if_neg (of_bne 118 rfl q9), if_neg (of_bne 10 rfl q10)]))
    go_enter Tryd.func91, Tryd.ntmps91
    go_wp2_with (go_at_call 92; go_must (refine (HO.out _).mono ?_; rintro e w' ⟨rfl, rfl⟩))
    exact bodyPost_ret (v := .tuple #[.string (s.extract 0 2), .int .i64 2]) (by simp [results, Tryd.results91, go_sem]) rfl ⟨by rw [HE.out, HY.out], Frm.refl _ _⟩
end Go.Proofs.YteaibkbdoocifaaDoor.lexs
