/- The law LexJoins. -/
import Derived.Test.YtfgdhafpiikpjabLexZ
namespace Go.Proofs.Ytfgdhafpiikpjab.lexs
set_option linter.unusedVariables false set_option linter.unusedSimpArgs false
open Go.ChangeShapes Go.WideShapes Go.ChangeAt Go.RowKit Go.Proofs.Ytfgdhafpiikpjab.base

/-- Two programs with a byte 10 between. -/
theorem joins_lex {s t : List UInt8} (hs : s.length ≤ 2000) (ht : t.length ≤ 2000) (ho : okl s) : lexL (s ++ 10 :: t) = (match lexL s with
    | none => none
    | some A => match lexL t with
      | none => none
      | some B => some (A ++ tNl :: B)) := by
  rw [lexL_id (by simp; omega), lexL_id (l := s) (by omega), lexL_id (l := t) (by omega), ug_ten t _ s (Nat.le_refl _) ho, lexF_ten t _ _ _ (Nat.le_refl _) (okl_ug ho)]
  cases lexF (ug s) false with
  | none => rfl
  | some A => cases lexF (ug t) false <;> rfl
theorem okl_of {s : ByteArray} {m : Nat} (hm : m < s.size) (hz : (s.size : Int) - 1 = (m : Int)) (hb : ((s[m].toNat : Int) == 92) = false) : okl s.data.toList := by
  unfold okl
  rw [List.getLast?_eq_getElem?, len_list, show s.size - 1 = m by omega, get_list s m hm]
  intro e
  exact of_bne 92 rfl hb (Option.some.inj e)
theorem okl_nil {s : ByteArray} (h : (s.size : Int) = 0) : okl s.data.toList := by
  have : s.data.toList = [] := List.eq_nil_of_length_eq_zero (by rw [len_list]; omega)
  rw [this]
  unfold okl
  simp

theorem get_mid {A B : List Tok} {x : Tok} {n : Nat} (h : A.length = n) : (A ++ x :: B)[n]? = some x := by subst h; simp
theorem TG.at0 {w : World} {g n : Nat} {ts : List Tok} {t : Tok} (h : TG w g 0 ts) (ht : ts[n]? = some t) : w.cell? ⟨g, n * 2, none⟩ = some (.string ⟨t.k.toArray⟩) := by
  have := (h n t ht).1
  rw [Nat.zero_add] at this
  exact this
theorem TG.pre {w : World} {g o : Nat} {A B : List Tok} (h : TG w g o (A ++ B)) : TG w g o A := by
  intro i t hi
  exact h i t (by rw [List.getElem?_append_left (List.getElem?_eq_some_iff.1 hi).1]; exact hi)
theorem TG.suf {w : World} {g o : Nat} {A B : List Tok} (h : TG w g o (A ++ B)) : TG w g (o + A.length * 2) B := by
  intro i t hi
  have := h (A.length + i) t (by rw [List.getElem?_append_right (by omega), Nat.add_sub_cancel_left]; exact hi)
  rw [show o + (A.length + i) * 2 = o + A.length * 2 + i * 2 by rw [Nat.add_mul]; omega] at this
  exact this

theorem same_pre {w4 : World} {g la cx ca : Nat} {va : Option Addr} {A B : List Tok} (hla : A.length = la) (hl : la ≤ 20000) (h4 : TG w4 g 0 (A ++ B)) (h2 : TS w4 (.slice va la ca) A) :
    ∀ w', Frm No w4 w' → Calls Try.prog 10 #[.slice (some ⟨g, 0, none⟩) la cx, .slice va la ca] w' fun e w'' => e = .returned (.bool true) ∧ Frm No w' w'' := by
  intro w' hf
  refine (same_all A A _ _ w' ⟨some ⟨g, 0, none⟩, cx, by rw [hla], Or.inr ⟨g, 0, rfl, h4.pre.move hf⟩⟩ (h2.move hf) (by omega) (by omega)).mono ?_
  rintro e w'' ⟨rfl, h⟩
  exact ⟨by simp, h⟩

theorem same_suf {w4 : World} {g la lb n cx cb : Nat} {vb : Option Addr} {A B : List Tok} (hla : A.length = la) (hlb : B.length = lb) (hn : n = la + (lb + 1)) (hl : lb ≤ 20000) (h4 : TG w4 g 0 (A ++ tNl :: B)) (h2 : TS w4 (.slice vb lb cb) B) :
    ∀ w', Frm No w4 w' → Calls Try.prog 10 #[.slice (some ⟨g, (la + 1) * 2, none⟩) (n - (la + 1)) (cx - (la + 1)), .slice vb lb cb] w' fun e w'' => e = .returned (.bool true) ∧ Frm No w' w'' := by
  intro w' hf
  have e : A ++ tNl :: B = (A ++ [tNl]) ++ B := by simp
  rw [e] at h4
  have h5 := h4.suf
  rw [show 0 + (A ++ [tNl]).length * 2 = (la + 1) * 2 by rw [List.length_append, hla]; simp] at h5
  refine (same_all B B _ _ w' ⟨some ⟨g, (la + 1) * 2, none⟩, cx - (la + 1), by rw [hlb, show n - (la + 1) = lb by omega], Or.inr ⟨g, (la + 1) * 2, rfl, h5.move hf⟩⟩ (h2.move hf) (by omega) (by omega)).mono ?_
  rintro e w'' ⟨rfl, h⟩
  exact ⟨by simp, h⟩
theorem same_suf0 {w4 : World} {g la lb n cb : Nat} {vb : Option Addr} {B : List Tok} (hlb : B.length = lb) (hn : n = la + (lb + 1)) (h2 : TS w4 (.slice vb lb cb) B) (hc : n ≤ la + 1) :
    ∀ w', Frm No w4 w' → Calls Try.prog 10 #[.slice (some ⟨g, 0, none⟩) (n - (la + 1)) 0, .slice vb lb cb] w' fun e w'' => e = .returned (.bool true) ∧ Frm No w' w'' := by
  intro w' hf
  have hB : B = [] := List.eq_nil_of_length_eq_zero (by omega)
  subst hB
  refine (same_all [] [] _ _ w' ⟨some ⟨g, 0, none⟩, 0, by rw [show n - (la + 1) = 0 by omega]; rfl, Or.inl rfl⟩ (h2.move hf) (by simp) (by simp)).mono ?_
  rintro e w'' ⟨rfl, h⟩
  exact ⟨by simp, h⟩

set_option maxHeartbeats 1000000 in
theorem joins_all (s t : ByteArray) (w : World) : Calls Try.prog 5 #[.string s, .string t] w fun e w' => e = .returned (.bool true) ∧ Frm No w w' := by
  by_cases h1 : 2000 < s.size
  · have h1' : (2000 : Int) < (s.size : Int) := by omega
    go_enter Try.func5, Try.ntmps5
    go_wp2_with (go_at_call 7; go_must (refine (awake_all _).mono ?_; rintro e w1 ⟨rfl, hf1⟩; have HF1 := Lib.hid hf1; clear hf1))
    go_ret
    exact ⟨rfl, HF1.out⟩
  have h1' : ¬ (2000 : Int) < (s.size : Int) := by omega
  by_cases h2 : 2000 < t.size
  · have h2' : (2000 : Int) < (t.size : Int) := by omega
    go_enter Try.func5, Try.ntmps5
    go_wp2_with (go_at_call 7; go_must (refine (awake_all _).mono ?_; rintro e w1 ⟨rfl, hf1⟩; have HF1 := Lib.hid hf1; clear hf1))
    go_ret
    exact ⟨rfl, HF1.out⟩
  have h2' : ¬ (2000 : Int) < (t.size : Int) := by omega
  have hcs : (∃ m : Nat, ∃ hm : m < s.size, (s.size : Int) - 1 = (m : Int) ∧ (0 : Int) < s.size ∧ ((s[m].toNat : Int) == 92) = true) ∨ ((s.size : Int) = 0) ∨ (∃ m : Nat, ∃ hm : m < s.size, (s.size : Int) - 1 = (m : Int) ∧ (0 : Int) < s.size ∧ ((s[m].toNat : Int) == 92) = false) := by
    by_cases h0 : s.size = 0
    · exact Or.inr (Or.inl (by omega))
    · rcases bool_or ((s[s.size - 1].toNat : Int) == 92) with h | h
      · exact Or.inl ⟨s.size - 1, by omega, by omega, by omega, h⟩
      · exact Or.inr (Or.inr ⟨s.size - 1, by omega, by omega, by omega, h⟩)
  have hsl : s.size ≤ 2000 := by omega
  have htl : t.size ≤ 2000 := by omega
  have HA := Lib.hid (fun w => lex_all s w (by omega))
  have HB := Lib.hid (fun w => lex_all t w (by omega))
  have HX := Lib.hid (fun (w : World) => lex_all ((s ++ ⟨#[10]⟩) ++ t) w (by have e1 : (⟨#[10]⟩ : ByteArray).size = 1 := rfl; rw [ByteArray.size_append, ByteArray.size_append]; omega))
  have HXD := Lib.hid (show ((s ++ ⟨#[10]⟩) ++ t : ByteArray).data.toList = s.data.toList ++ 10 :: t.data.toList by simp)
  rcases hcs with ⟨m, hm, hz, hp, hb⟩ | hcs
  · go_enter Try.func5, Try.ntmps5
    go_wp2_with (go_at_call 7; go_must (refine (awake_all _).mono ?_; rintro e w1 ⟨rfl, hf1⟩; have HF1 := Lib.hid hf1; clear hf1))
    go_ret
    exact ⟨rfl, HF1.out⟩
  have hok : okl s.data.toList := by
    rcases hcs with h0' | ⟨m, hm, hz, hp, hb⟩
    · exact okl_nil h0'
    · exact okl_of hm hz hb
  have hj := joins_lex (by rw [len_list]; exact hsl) (by rw [len_list]; exact htl) hok (t := t.data.toList)
  rw [← HXD.out] at hj
  clear hok HXD
  cases hA : lexL s.data.toList with
  | none =>
    rw [hA] at hj HA
    rw [hj] at HX
    clear hj hA
    rcases hcs with h0' | ⟨m, hm, hz, hp, hb⟩
    all_goals
      go_enter Try.func5, Try.ntmps5
      go_wp2_with (first | (go_at_call 7; go_must (refine (awake_all _).mono ?_; rintro e w1 ⟨rfl, hf1⟩; have HF1 := Lib.hid hf1; clear hf1)) | (go_at_call 8; (with_reducible refine (HA.out _).mono ?_); rintro e w2 ⟨hf2, he2⟩; obtain rfl : e = .returned (.tuple #[.slice none 0 0, .bool false]) := he2; have HF2 := Lib.hid hf2; clear hf2) | (go_at_call 8; (with_reducible refine (HB.out _).mono ?_); intro e w3 h3; obtain ⟨v3, b3, rfl, hf3⟩ := LP_or h3; have HF3 := Lib.hid hf3; clear hf3 h3) | (go_at_call 8; go_must (refine (HX.out _).mono ?_; rintro e w4 ⟨hf4, he4⟩; obtain rfl : e = .returned (.tuple #[.slice none 0 0, .bool false]) := he4; have HF4 := Lib.hid hf4; clear hf4)))
      go_ret
      exact ⟨rfl, HF1.out.trans (HF2.out.trans (HF3.out.trans HF4.out))⟩
  | some A =>
    rw [hA] at hj HA
    have HAL := Lib.hid (lexL_len hA)
    cases hB : lexL t.data.toList with
    | none =>
      rw [hB] at hj HB
      simp only at hj
      clear hj hA hB
      rcases hcs with h0' | ⟨m, hm, hz, hp, hb⟩
      all_goals
        go_enter Try.func5, Try.ntmps5
        go_wp2_with (first | (go_at_call 7; go_must (refine (awake_all _).mono ?_; rintro e w1 ⟨rfl, hf1⟩; have HF1 := Lib.hid hf1; clear hf1)) | (go_at_call 8; (with_reducible refine (HA.out _).mono ?_); rintro e w2 ⟨hf2, v2, rfl, ho2⟩; have HF2 := Lib.hid hf2; clear hf2 ho2) | (go_at_call 8; (with_reducible refine (HB.out _).mono ?_); rintro e w3 ⟨hf3, he3⟩; obtain rfl : e = .returned (.tuple #[.slice none 0 0, .bool false]) := he3; have HF3 := Lib.hid hf3; clear hf3) | (go_at_call 8; go_must (refine (HX.out _).mono ?_; intro e w4 h4; obtain ⟨v4, b4, rfl, hf4⟩ := LP_or h4; have HF4 := Lib.hid hf4; clear hf4 h4)))
        go_ret
        exact ⟨rfl, HF1.out.trans (HF2.out.trans (HF3.out.trans HF4.out))⟩
    | some B =>
      rw [hB] at hj HB
      simp only at hj
      rw [hj] at HX
      have HBL := Lib.hid (lexL_len hB)
      clear hj hA hB
      obtain ⟨la, hla⟩ : ∃ la, A.length = la := ⟨_, rfl⟩
      obtain ⟨lb, hlb⟩ : ∃ lb, B.length = lb := ⟨_, rfl⟩
      obtain ⟨n, hn⟩ : ∃ n, (A ++ tNl :: B).length = n := ⟨_, rfl⟩
      have hn2 : n = la + (lb + 1) := by rw [← hn, List.length_append, List.length_cons, hla, hlb]
      have hq : (la : Int) + 1 + (lb : Int) = (n : Int) := by omega
      have hl1 : la ≤ 20000 := by have := HAL.out; omega
      have hl2 : lb ≤ 20000 := by have := HBL.out; omega
      have hx1 : (la : Int) < (n : Int) := by omega
      have hx2 : (la : Int) + 1 ≤ (n : Int) := by omega
      have HLA := Lib.hid hla
      have HLB := Lib.hid hlb
      have HN := Lib.hid hn
      have HN2 := Lib.hid hn2
      clear hla hlb hn hn2
      have HA' := Lib.hid (show ∀ w, Calls Try.prog 8 #[.string s] w fun e w' => ∃ a c, e = .returned (.tuple #[.slice a la c, .bool true]) ∧ TS w' (.slice a la c) A ∧ Frm No w w' by
        intro w
        refine (HA.out w).mono ?_
        rintro e w' ⟨hf, v, rfl, ho⟩
        obtain ⟨a, c, rfl⟩ := ho.1
        have := ho.ts
        rw [HLA.out] at this ⊢
        exact ⟨a, c, rfl, this, hf⟩)
      have HB' := Lib.hid (show ∀ w, Calls Try.prog 8 #[.string t] w fun e w' => ∃ a c, e = .returned (.tuple #[.slice a lb c, .bool true]) ∧ TS w' (.slice a lb c) B ∧ Frm No w w' by
        intro w
        refine (HB.out w).mono ?_
        rintro e w' ⟨hf, v, rfl, ho⟩
        obtain ⟨a, c, rfl⟩ := ho.1
        have := ho.ts
        rw [HLB.out] at this ⊢
        exact ⟨a, c, rfl, this, hf⟩)
      have HX' := Lib.hid (show ∀ w, Calls Try.prog 8 #[.string ((s ++ ⟨#[10]⟩) ++ t)] w fun e w' => ∃ g c, e = .returned (.tuple #[.slice (some ⟨g, 0, none⟩) n c, .bool true]) ∧ TG w' g 0 (A ++ tNl :: B) ∧ n ≤ c ∧ Frm No w w' by
        intro w
        refine (HX.out w).mono ?_
        rintro e w' ⟨hf, v, rfl, ho⟩
        obtain ⟨g, c, rfl, ht, _, hc⟩ := ho.tg (by simp)
        rw [HN.out] at hc ⊢
        exact ⟨g, c, rfl, ht, hc, hf⟩)
      clear HA HB HX
      rcases hcs with h0' | ⟨m, hm, hz, hp, hb⟩
      all_goals
        go_enter Try.func5, Try.ntmps5
        go_wp2_with (first | (go_at_call 7; go_must (refine (awake_all _).mono ?_; rintro e w1 ⟨rfl, hf1⟩; have HF1 := Lib.hid hf1; clear hf1)) | (go_at_call 8; (with_reducible refine (HA'.out _).mono ?_); rintro e w2 ⟨va, ca, rfl, ht2, hf2⟩; have HF2 := Lib.hid hf2; have HT2 := Lib.hid ht2; clear hf2 ht2) | (go_at_call 8; (with_reducible refine (HB'.out _).mono ?_); rintro e w3 ⟨vb, cb, rfl, ht3, hf3⟩; have HF3 := Lib.hid hf3; have HT3 := Lib.hid ht3; clear hf3 ht3) | (go_at_call 8; go_must (refine (HX'.out _).mono ?_; rintro e w4 ⟨g, cx, rfl, ht4, hc4, hf4⟩; have HF4 := Lib.hid hf4; have HT4 := Lib.hid ht4; have c1 : w4.cell? ⟨g, la * 2, none⟩ = some (.string ⟨#[110, 108]⟩) := ht4.at0 (get_mid (x := tNl) HLA.out); have HS1 := Lib.hid (show ∀ w', Frm No w4 w' → Calls Try.prog 10 #[.slice (some ⟨g, 0, none⟩) la cx, .slice va la ca] w' fun e w'' => e = .returned (.bool true) ∧ Frm No w' w'' from same_pre HLA.out (by omega) ht4 (HT2.out.move (HF3.out.trans hf4))); have HS2 := Lib.hid (same_suf (cx := cx) HLA.out HLB.out HN2.out (by omega) ht4 (HT3.out.move hf4)); have HS3 := Lib.hid (same_suf0 (g := g) HLB.out HN2.out (HT3.out.move hf4)); clear hf4 ht4)) | (go_at_call 10; (with_reducible refine (HS1.out _ (Frm.refl _ _)).mono ?_); rintro e w5 ⟨rfl, hf5⟩; have HF5 := Lib.hid hf5; clear hf5) | (go_at_call 10; (with_reducible refine (HS2.out _ HF5.out).mono ?_); rintro e w6 ⟨rfl, hf6⟩; have HF6 := Lib.hid hf6; clear hf6) | (go_at_call 10; (with_reducible refine (HS3.out (by omega) _ HF5.out).mono ?_); rintro e w6 ⟨rfl, hf6⟩; have HF6 := Lib.hid hf6; clear hf6))
        all_goals
          go_ret
          exact ⟨rfl, HF1.out.trans (HF2.out.trans (HF3.out.trans (HF4.out.trans (HF5.out.trans HF6.out))))⟩
end Go.Proofs.Ytfgdhafpiikpjab.lexs
